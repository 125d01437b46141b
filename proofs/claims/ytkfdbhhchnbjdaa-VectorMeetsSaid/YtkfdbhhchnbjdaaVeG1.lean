/- A vector plus another one times a factor. -/
import Derived.Test.YtkfdbhhchnbjdaaVeF
namespace Go.Proofs.Ytkfdbhhchnbjdaa.Ve
open Go.RowKit Ba
set_option linter.unusedVariables false
attribute [local go_sem ↓] Go.wp_at_zero Go.wp_at_succ

/-- what stands at place j behind k rounds -/
def plusAt (j k : Nat) (a b f : Int) : Int := if j < k then a + f * b else a
theorem vec_lit (x y z : Int) (w : World) : Calls Try.prog 45 #[.agg #[.int .i64 x, .int .i64 y, .int .i64 z]] w fun e w' => e = .returned (.agg #[.int .i64 x, .int .i64 y, .int .i64 z]) ∧ w' = (w.alloc (.cells #[.int .i64 x, .int .i64 y, .int .i64 z] 62)).alloc (.cells #[.int .i64 x, .int .i64 y, .int .i64 z] 23) := by
  go_enter Try.func45, Try.ntmps45
  go_wp2
  go_returns
  exact ⟨rfl, rfl⟩
set_option maxHeartbeats 12800000 in
theorem plus_any (ax ay az bx bY bz f : Int) (h1 : -2000000 ≤ ax ∧ ax ≤ 2000000 ∧ -2000000 ≤ f * bx ∧ f * bx ≤ 2000000) (h2 : -2000000 ≤ ay ∧ ay ≤ 2000000 ∧ -2000000 ≤ f * bY ∧ f * bY ≤ 2000000) (h3 : -2000000 ≤ az ∧ az ≤ 2000000 ∧ -2000000 ≤ f * bz ∧ f * bz ≤ 2000000) (w : World) : Calls Try.prog 38 #[.agg #[.int .i64 ax, .int .i64 ay, .int .i64 az], .agg #[.int .i64 bx, .int .i64 bY, .int .i64 bz], .int .i64 f] w fun e w' => e = .returned (.agg #[.int .i64 (ax + f * bx), .int .i64 (ay + f * bY), .int .i64 (az + f * bz)]) ∧ Below w.heap.size w w' := by

  go_enter Try.func38, Try.ntmps38
  go_upto_region 1 with fail
  go_cut [7, 8] (fun p q wx => ∃ g h : Nat, p = .pointer (some ⟨g, 0, none⟩) ∧ q = .pointer (some ⟨h, 0, none⟩) ∧ g ≠ h ∧ w.heap.size + 1 + 1 < g ∧ w.heap.size + 1 + 1 < h ∧ Blk wx g 62 #[.int .i64 ax, .int .i64 ay, .int .i64 az] ∧ Blk wx h 62 #[.int .i64 bx, .int .i64 bY, .int .i64 bz]  ∧ Blk wx (w.heap.size + 1 + 1) 23 #[.int .i64 0, .int .i64 0, .int .i64 0] ∧ Below w.heap.size w wx)
  case first =>
    go_region_held3 (fun w' => w'.cell? ⟨w.heap.size, 0, none⟩ = some (.int .i64 ax) ∧ w'.cell? ⟨w.heap.size, 1, none⟩ = some (.int .i64 ay) ∧ w'.cell? ⟨w.heap.size, 2, none⟩ = some (.int .i64 az) ∧ w'.cell? ⟨w.heap.size + 1, 0, none⟩ = some (.int .i64 bx) ∧ w'.cell? ⟨w.heap.size + 1, 1, none⟩ = some (.int .i64 bY) ∧ w'.cell? ⟨w.heap.size + 1, 2, none⟩ = some (.int .i64 bz)) ((first | (go_keep; done) | (simp only [World.cell?_drew]; (repeat' apply And.intro) <;> (simp (disch := (simp only [World.size_alloc]; first | done | omega)) only [World.cell?_alloc_past, World.cell?_alloc_at]; first | done | rfl)))) ((go_at_call 40; refine (coordinates_lit _ _ _ _).mono ?_; rintro e w2 ⟨rfl, rfl⟩))
    all_goals
      go_wp2_with fail
      go_meet
      refine ⟨_, _, rfl, rfl, by omega, by omega, by omega, ?_, ?_, ?_, ?_⟩
      · repeat (first | (refine Blk_at ?_; simp only [World.size_alloc]; done) | refine Blk.drew ?_ | refine Blk.alloc ?_ _)
      · repeat (first | (refine Blk_at ?_; simp only [World.size_alloc]; done) | refine Blk.drew ?_ | refine Blk.alloc ?_ _)
      · repeat (first | (refine Blk_at ?_; simp only [World.size_alloc]; done) | refine Blk.drew ?_ | refine Blk.alloc ?_ _)
      · repeat (first | exact Below.refl _ _ | refine Below.drew ?_ | refine below_alloc ?_ _)
  case rest =>
    obtain ⟨g, h, rfl, rfl, hgh, hg, hh, hB1, hB2, hB3, hbw⟩ := hcut
    have hgh' : h ≠ g := fun e => hgh e.symm
    obtain ⟨_, _, _, _⟩ := h1
    obtain ⟨_, _, _, _⟩ := h2
    obtain ⟨_, _, _, _⟩ := h3
    have m1 : IntKind.i64.wrap (f * bx) = f * bx := IntWalk.i64_in _ (by omega)
    have m2 : IntKind.i64.wrap (f * bY) = f * bY := IntWalk.i64_in _ (by omega)
    have m3 : IntKind.i64.wrap (f * bz) = f * bz := IntWalk.i64_in _ (by omega)
    have n1 : IntKind.i64.wrap (ax + f * bx) = ax + f * bx := IntWalk.i64_in _ (by omega)
    have n2 : IntKind.i64.wrap (ay + f * bY) = ay + f * bY := IntWalk.i64_in _ (by omega)
    have n3 : IntKind.i64.wrap (az + f * bz) = az + f * bz := IntWalk.i64_in _ (by omega)
    go_wp2
    go_loopw [14] (fun i wr => ∃ k : Nat, k ≤ 3 ∧ i = .int .i64 k ∧ Blk wr g 62 #[.int .i64 (plusAt 0 k ax bx f), .int .i64 (plusAt 1 k ay bY f), .int .i64 (plusAt 2 k az bz f)] ∧ Blk wr h 62 #[.int .i64 bx, .int .i64 bY, .int .i64 bz] ∧ Blk wr (w.heap.size + 1 + 1) 23 #[.int .i64 0, .int .i64 0, .int .i64 0] ∧ Below w.heap.size w wr) (fun i _ => 3 - (intOf i).toNat)
    case atStart => exact ⟨0, by omega, rfl, hB1, hB2, hB3, hbw⟩
    case round =>
      clear hB1 hB2 hB3 hbw
      obtain ⟨k, hk, rfl, hB1, hB2, hB3, hbw2⟩ := hrel
      obtain rfl | rfl | rfl | rfl : k = 0 ∨ k = 1 ∨ k = 2 ∨ k = 3 := by omega
      · have HB1 := Lib.hid hB1
        have HB2 := Lib.hid hB2
        have HB3 := Lib.hid hB3
        have a0 := hB1.cell 0
        have b0 := hB2.cell 0
        have fa0 := hB1.frozen 0
        simp [plusAt] at a0 b0
        clear hB1 hB2 hB3
        go_wp2
        go_region
        go_wp2
        go_roundw
        case rel =>
          refine ⟨1, by omega, rfl, ?_, ?_, ?_, ?_⟩
          · exact Blk.drew (by have := HB1.out.set_ 0 (.int .i64 (ax + f * bx)); simpa [plusAt] using this)
          · exact Blk.drew (HB2.out.far hgh' _)
          · exact Blk.drew (HB3.out.far (by simp; omega) _)
          · exact Below.drew (below_set hbw2 (by simp; omega) _)
        case measure => simp [intOf]
      · have HB1 := Lib.hid hB1
        have HB2 := Lib.hid hB2
        have HB3 := Lib.hid hB3
        have a0 := hB1.cell 1
        have b0 := hB2.cell 1
        have fa0 := hB1.frozen 1
        simp [plusAt] at a0 b0
        clear hB1 hB2 hB3
        go_wp2
        go_region
        go_wp2
        go_roundw
        case rel =>
          refine ⟨2, by omega, rfl, ?_, ?_, ?_, ?_⟩
          · exact Blk.drew (by have := HB1.out.set_ 1 (.int .i64 (ay + f * bY)); simpa [plusAt] using this)
          · exact Blk.drew (HB2.out.far hgh' _)
          · exact Blk.drew (HB3.out.far (by simp; omega) _)
          · exact Below.drew (below_set hbw2 (by simp; omega) _)
        case measure => simp [intOf]
      · have HB1 := Lib.hid hB1
        have HB2 := Lib.hid hB2
        have HB3 := Lib.hid hB3
        have a0 := hB1.cell 2
        have b0 := hB2.cell 2
        have fa0 := hB1.frozen 2
        simp [plusAt] at a0 b0
        clear hB1 hB2 hB3
        go_wp2
        go_region
        go_wp2
        go_roundw
        case rel =>
          refine ⟨3, by omega, rfl, ?_, ?_, ?_, ?_⟩
          · exact Blk.drew (by have := HB1.out.set_ 2 (.int .i64 (az + f * bz)); simpa [plusAt] using this)
          · exact Blk.drew (HB2.out.far hgh' _)
          · exact Blk.drew (HB3.out.far (by simp; omega) _)
          · exact Below.drew (below_set hbw2 (by simp; omega) _)
        case measure => simp [intOf]
      · have HB3 := Lib.hid hB3
        have a0 := hB1.cell 0
        have a1 := hB1.cell 1
        have a2 := hB1.cell 2
        simp [plusAt] at a0 a1 a2
        clear hB1 hB2 hB3
        go_wp2_with fail
        refine (vec_any _ _ _ _).mono ?_
        rintro e w2 ⟨rfl, hb2⟩
        have hB4 := HB3.out.below hb2 HB3.out.lt
        have c0 : w2.cell? ⟨w.heap.size + 1 + 1, 0, none⟩ = some (.int .i64 0) := hB4.cell 0
        have c1 : w2.cell? ⟨w.heap.size + 1 + 1, 1, none⟩ = some (.int .i64 0) := hB4.cell 1
        have c2 : w2.cell? ⟨w.heap.size + 1 + 1, 2, none⟩ = some (.int .i64 0) := hB4.cell 2
        have f0 := hB4.frozen 0
        have f1 := hB4.frozen 1
        have f2 := hB4.frozen 2
        have hlt := hB4.lt
        have hbw3 := below_trans hbw2 hb2
        clear hB4 hb2
        go_wp2
        refine bodyPost_ret (v := .agg #[.int .i64 (ax + f * bx), .int .i64 (ay + f * bY), .int .i64 (az + f * bz)]) ?_ rfl ⟨rfl, ?_⟩
        · simp [results, Try.results38, go_sem, *]
        · repeat (first | exact hbw3 | refine below_set ?_ (by simp <;> omega) _ | refine below_alloc ?_ _)

end Go.Proofs.Ytkfdbhhchnbjdaa.Ve
