/- The vector product. -/
import Derived.Test.YtkfdbhhchnbjdaaVeF
import Derived.Test.YtkfdbhhchnbjdaaBase2
namespace Go.Proofs.Ytkfdbhhchnbjdaa.Ve
open Go.RowKit Ba
set_option linter.unusedVariables false
attribute [local go_sem ↓] Go.wp_at_zero Go.wp_at_succ

theorem chk2c_ok {x y z a b c : Int} (h : in3 x y z = true) (h2 : in3 a b c = true) : chkE [(x, y, z), (a, b, c)] = 0 := by simp [chkE, in3p, h, h2]
theorem chk2c_no {x y z a b c : Int} (h : ¬ (in3 x y z = true ∧ in3 a b c = true)) : chkE [(x, y, z), (a, b, c)] = 6 := by
  rcases h1 : in3 x y z <;> rcases h2 : in3 a b c <;> simp [chkE, in3p, h1, h2]
  exact h ⟨h1, h2⟩
/-- what stands in the array behind k rounds -/
def crossAt (j k : Nat) (v : Int) : Int := if j < k then v else 0
theorem cross_no (ax ay az bx bY bz : Int) (h : ¬ (in3 ax ay az = true ∧ in3 bx bY bz = true)) (w : World) : Calls Try.prog 23 #[.agg #[.int .i64 ax, .int .i64 ay, .int .i64 az], .agg #[.int .i64 bx, .int .i64 bY, .int .i64 bz]] w fun e w' => e = .returned (.tuple #[.agg #[.int .i64 0, .int .i64 0, .int .i64 0], .int .i64 6]) ∧ Below w.heap.size w w' := by
  have c1 := Lib.hid fun A W (hL : Lies W A (flat3 [(ax, ay, az), (bx, bY, bz)])) => checkAll_any A 2 2 [(ax, ay, az), (bx, bY, bz)] rfl (by omega) W hL
  rw [chk2c_no h] at c1
  clear h
  go_enter Try.func23, Try.ntmps23
  go_wp2_with fail
  refine (c1.out _ _ (lies_row (by simp) rfl)).mono ?_
  rintro e w1 ⟨rfl, hb1⟩
  have HH1 := Lib.hid (((((((Blks.nil (w := w))).new (w.heap.size) 23 [.int .i64 ax, .int .i64 ay, .int .i64 az] rfl).new (w.heap.size + 1) 23 [.int .i64 bx, .int .i64 bY, .int .i64 bz] (by simp)).new (w.heap.size + 1 + 1) 36 [.int .i64 0, .int .i64 0, .int .i64 0] (by simp)).new (w.heap.size + 1 + 1 + 1) 23 [.int .i64 ax, .int .i64 ay, .int .i64 az, .int .i64 bx, .int .i64 bY, .int .i64 bz] (by simp)).below hb1)
  have HB1 := Lib.hid (below_trans (below_alloc (below_alloc (below_alloc (below_alloc (Below.refl _ _) _) _) _) _) hb1)
  clear hb1
  have B1_0 : Blk w1 (w.heap.size) 23 #[.int .i64 ax, .int .i64 ay, .int .i64 az] := HH1.out (w.heap.size, 23, [.int .i64 ax, .int .i64 ay, .int .i64 az]) (by simp)
  have k1_0_0 : w1.cell? ⟨w.heap.size, 0, none⟩ = some (.int .i64 ax) := B1_0.cell 0
  have f1_0_0 : w1.frozen? ⟨w.heap.size, 0, none⟩ = false := B1_0.frozen 0
  have k1_0_1 : w1.cell? ⟨w.heap.size, 1, none⟩ = some (.int .i64 ay) := B1_0.cell 1
  have f1_0_1 : w1.frozen? ⟨w.heap.size, 1, none⟩ = false := B1_0.frozen 1
  have k1_0_2 : w1.cell? ⟨w.heap.size, 2, none⟩ = some (.int .i64 az) := B1_0.cell 2
  have f1_0_2 : w1.frozen? ⟨w.heap.size, 2, none⟩ = false := B1_0.frozen 2
  have z1_0 : w.heap.size < w1.heap.size := B1_0.lt
  clear B1_0
  have B1_1 : Blk w1 (w.heap.size + 1) 23 #[.int .i64 bx, .int .i64 bY, .int .i64 bz] := HH1.out (w.heap.size + 1, 23, [.int .i64 bx, .int .i64 bY, .int .i64 bz]) (by simp)
  have k1_1_0 : w1.cell? ⟨w.heap.size + 1, 0, none⟩ = some (.int .i64 bx) := B1_1.cell 0
  have f1_1_0 : w1.frozen? ⟨w.heap.size + 1, 0, none⟩ = false := B1_1.frozen 0
  have k1_1_1 : w1.cell? ⟨w.heap.size + 1, 1, none⟩ = some (.int .i64 bY) := B1_1.cell 1
  have f1_1_1 : w1.frozen? ⟨w.heap.size + 1, 1, none⟩ = false := B1_1.frozen 1
  have k1_1_2 : w1.cell? ⟨w.heap.size + 1, 2, none⟩ = some (.int .i64 bz) := B1_1.cell 2
  have f1_1_2 : w1.frozen? ⟨w.heap.size + 1, 2, none⟩ = false := B1_1.frozen 2
  have z1_1 : w.heap.size + 1 < w1.heap.size := B1_1.lt
  clear B1_1
  have B1_2 : Blk w1 (w.heap.size + 1 + 1) 36 #[.int .i64 0, .int .i64 0, .int .i64 0] := HH1.out (w.heap.size + 1 + 1, 36, [.int .i64 0, .int .i64 0, .int .i64 0]) (by simp)
  have k1_2_0 : w1.cell? ⟨w.heap.size + 1 + 1, 0, none⟩ = some (.int .i64 0) := B1_2.cell 0
  have f1_2_0 : w1.frozen? ⟨w.heap.size + 1 + 1, 0, none⟩ = false := B1_2.frozen 0
  have k1_2_1 : w1.cell? ⟨w.heap.size + 1 + 1, 1, none⟩ = some (.int .i64 0) := B1_2.cell 1
  have f1_2_1 : w1.frozen? ⟨w.heap.size + 1 + 1, 1, none⟩ = false := B1_2.frozen 1
  have k1_2_2 : w1.cell? ⟨w.heap.size + 1 + 1, 2, none⟩ = some (.int .i64 0) := B1_2.cell 2
  have f1_2_2 : w1.frozen? ⟨w.heap.size + 1 + 1, 2, none⟩ = false := B1_2.frozen 2
  have z1_2 : w.heap.size + 1 + 1 < w1.heap.size := B1_2.lt
  clear B1_2
  have B1_3 : Blk w1 (w.heap.size + 1 + 1 + 1) 23 #[.int .i64 ax, .int .i64 ay, .int .i64 az, .int .i64 bx, .int .i64 bY, .int .i64 bz] := HH1.out (w.heap.size + 1 + 1 + 1, 23, [.int .i64 ax, .int .i64 ay, .int .i64 az, .int .i64 bx, .int .i64 bY, .int .i64 bz]) (by simp)
  have k1_3_0 : w1.cell? ⟨w.heap.size + 1 + 1 + 1, 0, none⟩ = some (.int .i64 ax) := B1_3.cell 0
  have f1_3_0 : w1.frozen? ⟨w.heap.size + 1 + 1 + 1, 0, none⟩ = false := B1_3.frozen 0
  have k1_3_1 : w1.cell? ⟨w.heap.size + 1 + 1 + 1, 1, none⟩ = some (.int .i64 ay) := B1_3.cell 1
  have f1_3_1 : w1.frozen? ⟨w.heap.size + 1 + 1 + 1, 1, none⟩ = false := B1_3.frozen 1
  have k1_3_2 : w1.cell? ⟨w.heap.size + 1 + 1 + 1, 2, none⟩ = some (.int .i64 az) := B1_3.cell 2
  have f1_3_2 : w1.frozen? ⟨w.heap.size + 1 + 1 + 1, 2, none⟩ = false := B1_3.frozen 2
  have k1_3_3 : w1.cell? ⟨w.heap.size + 1 + 1 + 1, 3, none⟩ = some (.int .i64 bx) := B1_3.cell 3
  have f1_3_3 : w1.frozen? ⟨w.heap.size + 1 + 1 + 1, 3, none⟩ = false := B1_3.frozen 3
  have k1_3_4 : w1.cell? ⟨w.heap.size + 1 + 1 + 1, 4, none⟩ = some (.int .i64 bY) := B1_3.cell 4
  have f1_3_4 : w1.frozen? ⟨w.heap.size + 1 + 1 + 1, 4, none⟩ = false := B1_3.frozen 4
  have k1_3_5 : w1.cell? ⟨w.heap.size + 1 + 1 + 1, 5, none⟩ = some (.int .i64 bz) := B1_3.cell 5
  have f1_3_5 : w1.frozen? ⟨w.heap.size + 1 + 1 + 1, 5, none⟩ = false := B1_3.frozen 5
  have z1_3 : w.heap.size + 1 + 1 + 1 < w1.heap.size := B1_3.lt
  clear B1_3
  go_wp2
  refine bodyPost_ret (v := .tuple #[.agg #[.int .i64 0, .int .i64 0, .int .i64 0], .int .i64 6]) ?_ rfl ⟨rfl, ?_⟩
  · simp [results, Try.results23, go_sem, *]
  · repeat (first | exact HB1.out | refine below_set ?_ (by have := HB1.out.size; simp <;> omega) _ | refine below_alloc ?_ _)
set_option maxHeartbeats 12800000 in
theorem cross_ok (ax ay az bx bY bz : Int) (h1 : in3 ax ay az = true) (h2 : in3 bx bY bz = true) (w : World) : Calls Try.prog 23 #[.agg #[.int .i64 ax, .int .i64 ay, .int .i64 az], .agg #[.int .i64 bx, .int .i64 bY, .int .i64 bz]] w fun e w' => e = .returned (.tuple #[.agg #[.int .i64 (ay * bz - az * bY), .int .i64 (az * bx - ax * bz), .int .i64 (ax * bY - ay * bx)], .int .i64 0]) ∧ Below w.heap.size w w' := by
  obtain ⟨⟨_, _⟩, ⟨_, _⟩, ⟨_, _⟩⟩ := in3_iff.1 h1
  obtain ⟨⟨_, _⟩, ⟨_, _⟩, ⟨_, _⟩⟩ := in3_iff.1 h2
  have c1 := Lib.hid fun A W (hL : Lies W A (flat3 [(ax, ay, az), (bx, bY, bz)])) => checkAll_any A 2 2 [(ax, ay, az), (bx, bY, bz)] rfl (by omega) W hL
  rw [chk2c_ok h1 h2] at c1
  clear h1 h2
  go_enter Try.func23, Try.ntmps23
  go_wp2_with fail
  refine (c1.out _ _ (lies_row (by simp) rfl)).mono ?_
  rintro e w1 ⟨rfl, hb1⟩
  have HH1 := Lib.hid (((((((Blks.nil (w := w))).new (w.heap.size) 23 [.int .i64 ax, .int .i64 ay, .int .i64 az] rfl).new (w.heap.size + 1) 23 [.int .i64 bx, .int .i64 bY, .int .i64 bz] (by simp)).new (w.heap.size + 1 + 1) 36 [.int .i64 0, .int .i64 0, .int .i64 0] (by simp)).new (w.heap.size + 1 + 1 + 1) 23 [.int .i64 ax, .int .i64 ay, .int .i64 az, .int .i64 bx, .int .i64 bY, .int .i64 bz] (by simp)).below hb1)
  have HB1 := Lib.hid (below_trans (below_alloc (below_alloc (below_alloc (below_alloc (Below.refl _ _) _) _) _) _) hb1)
  clear hb1
  have B1_0 : Blk w1 (w.heap.size) 23 #[.int .i64 ax, .int .i64 ay, .int .i64 az] := HH1.out (w.heap.size, 23, [.int .i64 ax, .int .i64 ay, .int .i64 az]) (by simp)
  have k1_0_0 : w1.cell? ⟨w.heap.size, 0, none⟩ = some (.int .i64 ax) := B1_0.cell 0
  have f1_0_0 : w1.frozen? ⟨w.heap.size, 0, none⟩ = false := B1_0.frozen 0
  have k1_0_1 : w1.cell? ⟨w.heap.size, 1, none⟩ = some (.int .i64 ay) := B1_0.cell 1
  have f1_0_1 : w1.frozen? ⟨w.heap.size, 1, none⟩ = false := B1_0.frozen 1
  have k1_0_2 : w1.cell? ⟨w.heap.size, 2, none⟩ = some (.int .i64 az) := B1_0.cell 2
  have f1_0_2 : w1.frozen? ⟨w.heap.size, 2, none⟩ = false := B1_0.frozen 2
  have z1_0 : w.heap.size < w1.heap.size := B1_0.lt
  clear B1_0
  have B1_1 : Blk w1 (w.heap.size + 1) 23 #[.int .i64 bx, .int .i64 bY, .int .i64 bz] := HH1.out (w.heap.size + 1, 23, [.int .i64 bx, .int .i64 bY, .int .i64 bz]) (by simp)
  have k1_1_0 : w1.cell? ⟨w.heap.size + 1, 0, none⟩ = some (.int .i64 bx) := B1_1.cell 0
  have f1_1_0 : w1.frozen? ⟨w.heap.size + 1, 0, none⟩ = false := B1_1.frozen 0
  have k1_1_1 : w1.cell? ⟨w.heap.size + 1, 1, none⟩ = some (.int .i64 bY) := B1_1.cell 1
  have f1_1_1 : w1.frozen? ⟨w.heap.size + 1, 1, none⟩ = false := B1_1.frozen 1
  have k1_1_2 : w1.cell? ⟨w.heap.size + 1, 2, none⟩ = some (.int .i64 bz) := B1_1.cell 2
  have f1_1_2 : w1.frozen? ⟨w.heap.size + 1, 2, none⟩ = false := B1_1.frozen 2
  have z1_1 : w.heap.size + 1 < w1.heap.size := B1_1.lt
  clear B1_1
  have B1_2 : Blk w1 (w.heap.size + 1 + 1) 36 #[.int .i64 0, .int .i64 0, .int .i64 0] := HH1.out (w.heap.size + 1 + 1, 36, [.int .i64 0, .int .i64 0, .int .i64 0]) (by simp)
  have k1_2_0 : w1.cell? ⟨w.heap.size + 1 + 1, 0, none⟩ = some (.int .i64 0) := B1_2.cell 0
  have f1_2_0 : w1.frozen? ⟨w.heap.size + 1 + 1, 0, none⟩ = false := B1_2.frozen 0
  have k1_2_1 : w1.cell? ⟨w.heap.size + 1 + 1, 1, none⟩ = some (.int .i64 0) := B1_2.cell 1
  have f1_2_1 : w1.frozen? ⟨w.heap.size + 1 + 1, 1, none⟩ = false := B1_2.frozen 1
  have k1_2_2 : w1.cell? ⟨w.heap.size + 1 + 1, 2, none⟩ = some (.int .i64 0) := B1_2.cell 2
  have f1_2_2 : w1.frozen? ⟨w.heap.size + 1 + 1, 2, none⟩ = false := B1_2.frozen 2
  have z1_2 : w.heap.size + 1 + 1 < w1.heap.size := B1_2.lt
  clear B1_2
  have B1_3 : Blk w1 (w.heap.size + 1 + 1 + 1) 23 #[.int .i64 ax, .int .i64 ay, .int .i64 az, .int .i64 bx, .int .i64 bY, .int .i64 bz] := HH1.out (w.heap.size + 1 + 1 + 1, 23, [.int .i64 ax, .int .i64 ay, .int .i64 az, .int .i64 bx, .int .i64 bY, .int .i64 bz]) (by simp)
  have k1_3_0 : w1.cell? ⟨w.heap.size + 1 + 1 + 1, 0, none⟩ = some (.int .i64 ax) := B1_3.cell 0
  have f1_3_0 : w1.frozen? ⟨w.heap.size + 1 + 1 + 1, 0, none⟩ = false := B1_3.frozen 0
  have k1_3_1 : w1.cell? ⟨w.heap.size + 1 + 1 + 1, 1, none⟩ = some (.int .i64 ay) := B1_3.cell 1
  have f1_3_1 : w1.frozen? ⟨w.heap.size + 1 + 1 + 1, 1, none⟩ = false := B1_3.frozen 1
  have k1_3_2 : w1.cell? ⟨w.heap.size + 1 + 1 + 1, 2, none⟩ = some (.int .i64 az) := B1_3.cell 2
  have f1_3_2 : w1.frozen? ⟨w.heap.size + 1 + 1 + 1, 2, none⟩ = false := B1_3.frozen 2
  have k1_3_3 : w1.cell? ⟨w.heap.size + 1 + 1 + 1, 3, none⟩ = some (.int .i64 bx) := B1_3.cell 3
  have f1_3_3 : w1.frozen? ⟨w.heap.size + 1 + 1 + 1, 3, none⟩ = false := B1_3.frozen 3
  have k1_3_4 : w1.cell? ⟨w.heap.size + 1 + 1 + 1, 4, none⟩ = some (.int .i64 bY) := B1_3.cell 4
  have f1_3_4 : w1.frozen? ⟨w.heap.size + 1 + 1 + 1, 4, none⟩ = false := B1_3.frozen 4
  have k1_3_5 : w1.cell? ⟨w.heap.size + 1 + 1 + 1, 5, none⟩ = some (.int .i64 bz) := B1_3.cell 5
  have f1_3_5 : w1.frozen? ⟨w.heap.size + 1 + 1 + 1, 5, none⟩ = false := B1_3.frozen 5
  have z1_3 : w.heap.size + 1 + 1 + 1 < w1.heap.size := B1_3.lt
  clear B1_3
  go_upto_region 4 with fail
  go_cut [7, 8] (fun p q wx => ∃ g h : Nat, p = .pointer (some ⟨g, 0, none⟩) ∧ q = .pointer (some ⟨h, 0, none⟩) ∧ g ≠ h ∧ w1.heap.size ≤ g ∧ w1.heap.size ≤ h ∧ Blk wx g 62 #[.int .i64 ax, .int .i64 ay, .int .i64 az] ∧ Blk wx h 62 #[.int .i64 bx, .int .i64 bY, .int .i64 bz] ∧ Blk wx (w.heap.size + 1 + 1) 36 #[.int .i64 0, .int .i64 0, .int .i64 0] ∧ Below w.heap.size w wx)
  case first =>
    have BR : Blk w1 (w.heap.size + 1 + 1) 36 #[.int .i64 0, .int .i64 0, .int .i64 0] := HH1.out (w.heap.size + 1 + 1, 36, [.int .i64 0, .int .i64 0, .int .i64 0]) (by simp)
    go_region_held3 (fun w' => w'.cell? ⟨w.heap.size, 0, none⟩ = some (.int .i64 ax) ∧ w'.cell? ⟨w.heap.size, 1, none⟩ = some (.int .i64 ay) ∧ w'.cell? ⟨w.heap.size, 2, none⟩ = some (.int .i64 az) ∧ w'.cell? ⟨w.heap.size + 1, 0, none⟩ = some (.int .i64 bx) ∧ w'.cell? ⟨w.heap.size + 1, 1, none⟩ = some (.int .i64 bY) ∧ w'.cell? ⟨w.heap.size + 1, 2, none⟩ = some (.int .i64 bz)) ((first | (go_keep; done) | (simp only [World.cell?_drew]; (repeat' apply And.intro) <;> (simp (disch := ((try simp only [World.size_alloc]); first | done | omega)) only [World.cell?_alloc_past, World.cell?_alloc_at]; first | done | assumption | rfl)))) ((go_at_call 40; refine (coordinates_lit _ _ _ _).mono ?_; rintro e w2 ⟨rfl, rfl⟩))
    all_goals
      go_wp2_with fail
      go_meet
      refine ⟨_, _, rfl, rfl, by omega, by omega, by omega, ?_, ?_, ?_, ?_⟩
      · repeat (first | exact BR | (refine Blk_at ?_; simp only [World.size_alloc]; done) | refine Blk.drew ?_ | refine Blk.alloc ?_ _)
      · repeat (first | exact BR | (refine Blk_at ?_; simp only [World.size_alloc]; done) | refine Blk.drew ?_ | refine Blk.alloc ?_ _)
      · repeat (first | exact BR | (refine Blk_at ?_; simp only [World.size_alloc]; done) | refine Blk.drew ?_ | refine Blk.alloc ?_ _)
      · repeat (first | exact HB1.out | refine Below.drew ?_ | refine below_alloc ?_ _)
  case rest =>
    obtain ⟨g, h, rfl, rfl, hgh, hg, hh, hB1, hB2, hB3, hbw⟩ := hcut
    clear k1_0_0 f1_0_0 k1_0_1 f1_0_1 k1_0_2 f1_0_2 k1_1_0 f1_1_0 k1_1_1 f1_1_1 k1_1_2 f1_1_2 k1_2_0 f1_2_0 k1_2_1 f1_2_1 k1_2_2 f1_2_2 k1_3_0 f1_3_0 k1_3_1 f1_3_1 k1_3_2 f1_3_2 k1_3_3 f1_3_3 k1_3_4 f1_3_4 k1_3_5 f1_3_5 HH1
    obtain ⟨_, _⟩ := mul6 (a := ay) (b := bz) ⟨by assumption, by assumption⟩ ⟨by assumption, by assumption⟩
    obtain ⟨_, _⟩ := mul6 (a := az) (b := bY) ⟨by assumption, by assumption⟩ ⟨by assumption, by assumption⟩
    have m0a : IntKind.i64.wrap (ay * bz) = ay * bz := IntWalk.i64_in _ (by omega)
    have m0b : IntKind.i64.wrap (az * bY) = az * bY := IntWalk.i64_in _ (by omega)
    have m0c : IntKind.i64.wrap (ay * bz - az * bY) = ay * bz - az * bY := IntWalk.i64_in _ (by omega)
    obtain ⟨_, _⟩ := mul6 (a := az) (b := bx) ⟨by assumption, by assumption⟩ ⟨by assumption, by assumption⟩
    obtain ⟨_, _⟩ := mul6 (a := ax) (b := bz) ⟨by assumption, by assumption⟩ ⟨by assumption, by assumption⟩
    have m1a : IntKind.i64.wrap (az * bx) = az * bx := IntWalk.i64_in _ (by omega)
    have m1b : IntKind.i64.wrap (ax * bz) = ax * bz := IntWalk.i64_in _ (by omega)
    have m1c : IntKind.i64.wrap (az * bx - ax * bz) = az * bx - ax * bz := IntWalk.i64_in _ (by omega)
    obtain ⟨_, _⟩ := mul6 (a := ax) (b := bY) ⟨by assumption, by assumption⟩ ⟨by assumption, by assumption⟩
    obtain ⟨_, _⟩ := mul6 (a := ay) (b := bx) ⟨by assumption, by assumption⟩ ⟨by assumption, by assumption⟩
    have m2a : IntKind.i64.wrap (ax * bY) = ax * bY := IntWalk.i64_in _ (by omega)
    have m2b : IntKind.i64.wrap (ay * bx) = ay * bx := IntWalk.i64_in _ (by omega)
    have m2c : IntKind.i64.wrap (ax * bY - ay * bx) = ax * bY - ay * bx := IntWalk.i64_in _ (by omega)
    have hzg := hB1.lt
    have hzh := hB2.lt
    have hzr := hB3.lt
    have hlw := HB1.out.size
    go_wp2
    go_loopw [25] (fun i wr => ∃ k : Nat, k ≤ 3 ∧ i = .int .i64 k ∧ Blk wr g 62 #[.int .i64 ax, .int .i64 ay, .int .i64 az] ∧ Blk wr h 62 #[.int .i64 bx, .int .i64 bY, .int .i64 bz] ∧ Blk wr (w.heap.size + 1 + 1) 36 #[.int .i64 0, .int .i64 0, .int .i64 0] ∧ Blk wr wc.heap.size 36 #[.int .i64 (crossAt 0 k (ay * bz - az * bY)), .int .i64 (crossAt 1 k (az * bx - ax * bz)), .int .i64 (crossAt 2 k (ax * bY - ay * bx))] ∧ Below w.heap.size w wr) (fun i _ => 3 - (intOf i).toNat)
    case atStart => exact ⟨0, by omega, rfl, hB1.alloc _, hB2.alloc _, hB3.alloc _, Blk.new _ _ _, below_alloc hbw _⟩
    case round =>
      clear hB1 hB2 hB3 hbw
      obtain ⟨k, hk, rfl, hB1, hB2, hB3, hB4, hbw2⟩ := hrel
      have hzq := hB4.lt
      obtain rfl | rfl | rfl | rfl : k = 0 ∨ k = 1 ∨ k = 2 ∨ k = 3 := by omega
      · have HB1 := Lib.hid hB1
        have HB2 := Lib.hid hB2
        have HB3 := Lib.hid hB3
        have hz : wc.heap.size < wr.heap.size := hzq
        have a0 : wr.cell? ⟨g, 0, none⟩ = some (.int .i64 ax) := hB1.cell 0
        have a1 : wr.cell? ⟨g, 1, none⟩ = some (.int .i64 ay) := hB1.cell 1
        have a2 : wr.cell? ⟨g, 2, none⟩ = some (.int .i64 az) := hB1.cell 2
        have b0 : wr.cell? ⟨h, 0, none⟩ = some (.int .i64 bx) := hB2.cell 0
        have b1 : wr.cell? ⟨h, 1, none⟩ = some (.int .i64 bY) := hB2.cell 1
        have b2 : wr.cell? ⟨h, 2, none⟩ = some (.int .i64 bz) := hB2.cell 2
        have q0 : wr.cell? ⟨wc.heap.size, 0, none⟩ = some (.int .i64 0) := hB4.cell 0
        have fq := hB4.frozen 0
        have HB4 := Lib.hid hB4
        clear hB1 hB2 hB3 hB4
        go_wp2
        go_region
        go_wp2
        go_roundw
        case rel =>
          refine ⟨1, by omega, rfl, ?_, ?_, ?_, ?_, ?_⟩
          · exact Blk.drew (HB1.out.far (by simp; omega) _)
          · exact Blk.drew (HB2.out.far (by simp; omega) _)
          · exact Blk.drew (HB3.out.far (by simp; omega) _)
          · exact Blk.drew (by have := HB4.out.set_ 0 (.int .i64 (ay * bz - az * bY)); simpa [crossAt] using this)
          · exact Below.drew (below_set hbw2 (by simp; omega) _)
        case measure => simp [intOf]
      · have HB1 := Lib.hid hB1
        have HB2 := Lib.hid hB2
        have HB3 := Lib.hid hB3
        have hz : wc.heap.size < wr.heap.size := hzq
        have a0 : wr.cell? ⟨g, 0, none⟩ = some (.int .i64 ax) := hB1.cell 0
        have a1 : wr.cell? ⟨g, 1, none⟩ = some (.int .i64 ay) := hB1.cell 1
        have a2 : wr.cell? ⟨g, 2, none⟩ = some (.int .i64 az) := hB1.cell 2
        have b0 : wr.cell? ⟨h, 0, none⟩ = some (.int .i64 bx) := hB2.cell 0
        have b1 : wr.cell? ⟨h, 1, none⟩ = some (.int .i64 bY) := hB2.cell 1
        have b2 : wr.cell? ⟨h, 2, none⟩ = some (.int .i64 bz) := hB2.cell 2
        have q0 : wr.cell? ⟨wc.heap.size, 1, none⟩ = some (.int .i64 0) := hB4.cell 1
        have fq := hB4.frozen 1
        have HB4 := Lib.hid hB4
        clear hB1 hB2 hB3 hB4
        go_wp2
        go_region
        go_wp2
        go_roundw
        case rel =>
          refine ⟨2, by omega, rfl, ?_, ?_, ?_, ?_, ?_⟩
          · exact Blk.drew (HB1.out.far (by simp; omega) _)
          · exact Blk.drew (HB2.out.far (by simp; omega) _)
          · exact Blk.drew (HB3.out.far (by simp; omega) _)
          · exact Blk.drew (by have := HB4.out.set_ 1 (.int .i64 (az * bx - ax * bz)); simpa [crossAt] using this)
          · exact Below.drew (below_set hbw2 (by simp; omega) _)
        case measure => simp [intOf]
      · have HB1 := Lib.hid hB1
        have HB2 := Lib.hid hB2
        have HB3 := Lib.hid hB3
        have hz : wc.heap.size < wr.heap.size := hzq
        have a0 : wr.cell? ⟨g, 0, none⟩ = some (.int .i64 ax) := hB1.cell 0
        have a1 : wr.cell? ⟨g, 1, none⟩ = some (.int .i64 ay) := hB1.cell 1
        have a2 : wr.cell? ⟨g, 2, none⟩ = some (.int .i64 az) := hB1.cell 2
        have b0 : wr.cell? ⟨h, 0, none⟩ = some (.int .i64 bx) := hB2.cell 0
        have b1 : wr.cell? ⟨h, 1, none⟩ = some (.int .i64 bY) := hB2.cell 1
        have b2 : wr.cell? ⟨h, 2, none⟩ = some (.int .i64 bz) := hB2.cell 2
        have q0 : wr.cell? ⟨wc.heap.size, 2, none⟩ = some (.int .i64 0) := hB4.cell 2
        have fq := hB4.frozen 2
        have HB4 := Lib.hid hB4
        clear hB1 hB2 hB3 hB4
        go_wp2
        go_region
        go_wp2
        go_roundw
        case rel =>
          refine ⟨3, by omega, rfl, ?_, ?_, ?_, ?_, ?_⟩
          · exact Blk.drew (HB1.out.far (by simp; omega) _)
          · exact Blk.drew (HB2.out.far (by simp; omega) _)
          · exact Blk.drew (HB3.out.far (by simp; omega) _)
          · exact Blk.drew (by have := HB4.out.set_ 2 (.int .i64 (ax * bY - ay * bx)); simpa [crossAt] using this)
          · exact Below.drew (below_set hbw2 (by simp; omega) _)
        case measure => simp [intOf]
      · have o0 : wr.cell? ⟨wc.heap.size, 0, none⟩ = some (.int .i64 (ay * bz - az * bY)) := hB4.cell 0
        have o1 : wr.cell? ⟨wc.heap.size, 1, none⟩ = some (.int .i64 (az * bx - ax * bz)) := hB4.cell 1
        have o2 : wr.cell? ⟨wc.heap.size, 2, none⟩ = some (.int .i64 (ax * bY - ay * bx)) := hB4.cell 2
        have r0 : wr.cell? ⟨w.heap.size + 1 + 1, 0, none⟩ = some (.int .i64 0) := hB3.cell 0
        have r1 : wr.cell? ⟨w.heap.size + 1 + 1, 1, none⟩ = some (.int .i64 0) := hB3.cell 1
        have r2 : wr.cell? ⟨w.heap.size + 1 + 1, 2, none⟩ = some (.int .i64 0) := hB3.cell 2
        have f0 := hB3.frozen 0
        have f1 := hB3.frozen 1
        have f2 := hB3.frozen 2
        clear hB1 hB2 hB3 hB4
        go_wp2
        refine bodyPost_ret (v := .tuple #[.agg #[.int .i64 (ay * bz - az * bY), .int .i64 (az * bx - ax * bz), .int .i64 (ax * bY - ay * bx)], .int .i64 0]) ?_ rfl ⟨rfl, ?_⟩
        · simp [results, Try.results23, go_sem, *]
        · repeat (first | exact hbw2 | refine below_set ?_ (by simp <;> omega) _ | refine below_alloc ?_ _)
end Go.Proofs.Ytkfdbhhchnbjdaa.Ve
