/- Two vectors as arrays; sums, scalar products. -/
import Derived.Test.YtkfdbhhchnbjdaaVeE
namespace Go.Proofs.Ytkfdbhhchnbjdaa.Ve
open Go.RowKit Ba
set_option linter.unusedVariables false
attribute [local go_sem ↓] Go.wp_at_zero Go.wp_at_succ


theorem coordinates_lit (x y z : Int) (w : World) : Calls Try.prog 40 #[.agg #[.int .i64 x, .int .i64 y, .int .i64 z]] w fun e w' => e = .returned (.agg #[.int .i64 x, .int .i64 y, .int .i64 z]) ∧ w' = (w.alloc (.cells #[.int .i64 x, .int .i64 y, .int .i64 z] 23)).alloc (.cells #[.int .i64 x, .int .i64 y, .int .i64 z] 62) := by
  go_enter Try.func40, Try.ntmps40
  go_wp2
  go_returns
  exact ⟨rfl, rfl⟩
set_option maxHeartbeats 1600000 in
theorem dot_any (ax ay az bx bY bz : Int) (h1 : -4000000000000 ≤ ax * bx ∧ ax * bx ≤ 4000000000000) (h2 : -4000000000000 ≤ ay * bY ∧ ay * bY ≤ 4000000000000) (h3 : -4000000000000 ≤ az * bz ∧ az * bz ≤ 4000000000000) (w : World) : Calls Try.prog 43 #[.agg #[.int .i64 ax, .int .i64 ay, .int .i64 az], .agg #[.int .i64 bx, .int .i64 bY, .int .i64 bz]] w fun e w' => e = .returned (.int .i64 (ax * bx + ay * bY + az * bz)) ∧ Below w.heap.size w w' := by

  go_enter Try.func43, Try.ntmps43
  go_upto_region 1 with fail
  go_cut [5, 6] (fun p q wx => ∃ g h : Nat, p = .pointer (some ⟨g, 0, none⟩) ∧ q = .pointer (some ⟨h, 0, none⟩) ∧ g ≠ h ∧ w.heap.size + 1 < g ∧ w.heap.size + 1 < h ∧ Blk wx g 62 #[.int .i64 ax, .int .i64 ay, .int .i64 az] ∧ Blk wx h 62 #[.int .i64 bx, .int .i64 bY, .int .i64 bz] ∧ Below w.heap.size w wx)
  case first =>
    go_region_held3 (fun w' => w'.cell? ⟨w.heap.size, 0, none⟩ = some (.int .i64 ax) ∧ w'.cell? ⟨w.heap.size, 1, none⟩ = some (.int .i64 ay) ∧ w'.cell? ⟨w.heap.size, 2, none⟩ = some (.int .i64 az) ∧ w'.cell? ⟨w.heap.size + 1, 0, none⟩ = some (.int .i64 bx) ∧ w'.cell? ⟨w.heap.size + 1, 1, none⟩ = some (.int .i64 bY) ∧ w'.cell? ⟨w.heap.size + 1, 2, none⟩ = some (.int .i64 bz)) ((first | (go_keep; done) | (simp only [World.cell?_drew]; (repeat' apply And.intro) <;> (simp (disch := (simp only [World.size_alloc]; first | done | omega)) only [World.cell?_alloc_past, World.cell?_alloc_at]; first | done | rfl)))) ((go_at_call 40; refine (coordinates_lit _ _ _ _).mono ?_; rintro e w2 ⟨rfl, rfl⟩))
    all_goals
      go_wp2_with fail
      go_meet
      refine ⟨_, _, rfl, rfl, by omega, by omega, by omega, ?_, ?_, ?_⟩
      · repeat (first | (refine Blk_at ?_; simp only [World.size_alloc]; done) | refine Blk.drew ?_ | refine Blk.alloc ?_ _)
      · repeat (first | (refine Blk_at ?_; simp only [World.size_alloc]; done) | refine Blk.drew ?_ | refine Blk.alloc ?_ _)
      · repeat (first | exact Below.refl _ _ | refine Below.drew ?_ | refine below_alloc ?_ _)
  case rest =>
    obtain ⟨g, h, rfl, rfl, hgh, hg, hh, hB1, hB2, hbw⟩ := hcut
    have a0 := hB1.cell 0
    have a1 := hB1.cell 1
    have a2 := hB1.cell 2
    have b0 := hB2.cell 0
    have b1 := hB2.cell 1
    have b2 := hB2.cell 2
    simp at a0 a1 a2 b0 b1 b2
    obtain ⟨_, _⟩ := h1
    obtain ⟨_, _⟩ := h2
    obtain ⟨_, _⟩ := h3
    have m1 : IntKind.i64.wrap (ax * bx) = ax * bx := IntWalk.i64_in _ (by omega)
    have m2 : IntKind.i64.wrap (ay * bY) = ay * bY := IntWalk.i64_in _ (by omega)
    have m3 : IntKind.i64.wrap (az * bz) = az * bz := IntWalk.i64_in _ (by omega)
    have n1 : IntKind.i64.wrap (0 + ax * bx) = ax * bx := by rw [Int.zero_add]; exact m1
    have n2 : IntKind.i64.wrap (ax * bx + ay * bY) = ax * bx + ay * bY := IntWalk.i64_in _ (by omega)
    have n3 : IntKind.i64.wrap (ax * bx + ay * bY + az * bz) = ax * bx + ay * bY + az * bz := IntWalk.i64_in _ (by omega)
    go_wp2
    refine wp_loop_rounds 4 ?_
    rw [rounds_succ]
    go_wp2
    go_quiet (fail)
    go_wp2
    rw [rounds_succ]
    go_wp2
    go_quiet (fail)
    go_wp2
    rw [rounds_succ]
    go_wp2
    go_quiet (fail)
    go_wp2
    rw [rounds_succ]
    go_wp2
    go_returns
    exact ⟨rfl, by repeat (first | exact hbw | refine below_drewN ?_ _ | refine Below.drew ?_)⟩

end Go.Proofs.Ytkfdbhhchnbjdaa.Ve
