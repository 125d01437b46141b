/- The walks of VectorOrder and VectorAdds. -/
import Derived.Test.YtkfdbhhchnbjdaaVeL1
namespace Go.Proofs.Ytkfdbhhchnbjdaa.Ve
open Go.RowKit Ba
set_option linter.unusedVariables false
attribute [local go_sem ↓] Go.wp_at_zero Go.wp_at_succ

theorem cmpI_anti (x y : Int) : cmpI x y = -cmpI y x := by unfold cmpI; split <;> split <;> (try split) <;> omega
theorem cmpI_zero {x y : Int} : cmpI x y = 0 ↔ x = y := by unfold cmpI; split <;> (try split) <;> constructor <;> intro <;> omega
theorem cmp3_cases (ax ay az bx bY bz : Int) : (cmp3 ax ay az bx bY bz = -1 ∧ (ax < bx ∨ (ax = bx ∧ (ay < bY ∨ (ay = bY ∧ az < bz))))) ∨ (cmp3 ax ay az bx bY bz = 0 ∧ ax = bx ∧ ay = bY ∧ az = bz) ∨ (cmp3 ax ay az bx bY bz = 1 ∧ (bx < ax ∨ (ax = bx ∧ (bY < ay ∨ (ay = bY ∧ bz < az))))) := by
  unfold cmp3 cmpI; repeat' split
  all_goals omega
theorem cmp3_anti (ax ay az bx bY bz : Int) : cmp3 ax ay az bx bY bz = -cmp3 bx bY bz ax ay az := by
  have h1 := cmp3_cases ax ay az bx bY bz
  have h2 := cmp3_cases bx bY bz ax ay az
  omega
theorem cmp3_zero {ax ay az bx bY bz : Int} : cmp3 ax ay az bx bY bz = 0 ↔ (ax = bx ∧ ay = bY ∧ az = bz) := by
  have h1 := cmp3_cases ax ay az bx bY bz
  omega
theorem cmp3_bd (ax ay az bx bY bz : Int) : -1 ≤ cmp3 ax ay az bx bY bz ∧ cmp3 ax ay az bx bY bz ≤ 1 := by
  have h1 := cmp3_cases ax ay az bx bY bz
  omega
theorem cmp3_trans (ax ay az bx bY bz cx cy cz : Int) : 0 < cmp3 ax ay az bx bY bz ∨ 0 < cmp3 bx bY bz cx cy cz ∨ (cmp3 ax ay az cx cy cz ≤ 0 ∧ (cmp3 ax ay az cx cy cz < 0 ∨ (cmp3 ax ay az bx bY bz = 0 ∧ cmp3 bx bY bz cx cy cz = 0))) := by
  have h1 := cmp3_cases ax ay az bx bY bz
  have h2 := cmp3_cases bx bY bz cx cy cz
  have h3 := cmp3_cases ax ay az cx cy cz
  generalize cmp3 ax ay az bx bY bz = m at *
  generalize cmp3 bx bY bz cx cy cz = n at *
  generalize cmp3 ax ay az cx cy cz = r at *
  rcases h1 with ⟨rfl, h1⟩ | ⟨rfl, h1⟩ | ⟨rfl, h1⟩ <;> rcases h2 with ⟨rfl, h2⟩ | ⟨rfl, h2⟩ | ⟨rfl, h2⟩ <;> rcases h3 with ⟨rfl, h3⟩ | ⟨rfl, h3⟩ | ⟨rfl, h3⟩ <;> omega
set_option maxHeartbeats 1600000 in
theorem orderLaw_any (ax ay az bx bY bz cx cy cz : Int) (w : World) : Calls Try.prog 9 #[.agg #[.int .i64 ax, .int .i64 ay, .int .i64 az], .agg #[.int .i64 bx, .int .i64 bY, .int .i64 bz], .agg #[.int .i64 cx, .int .i64 cy, .int .i64 cz]] w fun e w' => e = .returned (.bool true) ∧ Below w.heap.size w w' := by
  have c0 := Lib.hid fun W => awake_any W
  have c1 := Lib.hid fun W => compare_any ax ay az bx bY bz W
  have c2 := Lib.hid fun W => compare_any bx bY bz cx cy cz W
  have c3 := Lib.hid fun W => compare_any ax ay az cx cy cz W
  have c4 := Lib.hid fun W => compare_any bx bY bz ax ay az W
  have ht := Lib.hid (cmp3_trans ax ay az bx bY bz cx cy cz)
  have e1 := fun W => vec_eql ax ay az bx bY bz W
  have g1 := fun x y xs ys W => vec_guard .eql x y xs ys W
  have hq : (((ax == bx) && ((ay == bY) && (az == bz)))) = (cmp3 ax ay az bx bY bz == 0) := by
    rw [Bool.eq_iff_iff]
    simp [cmp3_zero]
  rw [hq] at e1
  have ha := cmp3_anti bx bY bz ax ay az
  rw [ha] at c4
  obtain ⟨b1, b2⟩ := cmp3_bd ax ay az bx bY bz
  obtain ⟨b3, b4⟩ := cmp3_bd bx bY bz cx cy cz
  obtain ⟨b5, b6⟩ := cmp3_bd ax ay az cx cy cz
  clear ha hq
  generalize cmp3 ax ay az bx bY bz = m at *
  generalize cmp3 bx bY bz cx cy cz = n at *
  generalize cmp3 ax ay az cx cy cz = r at *
  go_enter Try.func9, Try.ntmps9
  go_wp2_with fail
  refine (c0.out _).mono ?_
  rintro e w1 ⟨rfl, hb1⟩
  have HH1 := Lib.hid ((((((Blks.nil (w := w))).new (w.heap.size) 23 [.int .i64 ax, .int .i64 ay, .int .i64 az] rfl).new (w.heap.size + 1) 23 [.int .i64 bx, .int .i64 bY, .int .i64 bz] (by simp)).new (w.heap.size + 1 + 1) 23 [.int .i64 cx, .int .i64 cy, .int .i64 cz] (by simp)).below hb1)
  have HB1 := Lib.hid (below_trans (below_alloc (below_alloc (below_alloc (Below.refl _ _) _) _) _) hb1)
  clear hb1
  have B1_0 : Blk w1 (w.heap.size) 23 #[.int .i64 ax, .int .i64 ay, .int .i64 az] := HH1.out (w.heap.size, 23, [.int .i64 ax, .int .i64 ay, .int .i64 az]) (by simp)
  have k1_0_0 : w1.cell? ⟨w.heap.size, 0, none⟩ = some (.int .i64 ax) := B1_0.cell 0
  have k1_0_1 : w1.cell? ⟨w.heap.size, 1, none⟩ = some (.int .i64 ay) := B1_0.cell 1
  have k1_0_2 : w1.cell? ⟨w.heap.size, 2, none⟩ = some (.int .i64 az) := B1_0.cell 2
  have z1_0 : w.heap.size < w1.heap.size := B1_0.lt
  clear B1_0
  have B1_1 : Blk w1 (w.heap.size + 1) 23 #[.int .i64 bx, .int .i64 bY, .int .i64 bz] := HH1.out (w.heap.size + 1, 23, [.int .i64 bx, .int .i64 bY, .int .i64 bz]) (by simp)
  have k1_1_0 : w1.cell? ⟨w.heap.size + 1, 0, none⟩ = some (.int .i64 bx) := B1_1.cell 0
  have k1_1_1 : w1.cell? ⟨w.heap.size + 1, 1, none⟩ = some (.int .i64 bY) := B1_1.cell 1
  have k1_1_2 : w1.cell? ⟨w.heap.size + 1, 2, none⟩ = some (.int .i64 bz) := B1_1.cell 2
  have z1_1 : w.heap.size + 1 < w1.heap.size := B1_1.lt
  clear B1_1
  have B1_2 : Blk w1 (w.heap.size + 1 + 1) 23 #[.int .i64 cx, .int .i64 cy, .int .i64 cz] := HH1.out (w.heap.size + 1 + 1, 23, [.int .i64 cx, .int .i64 cy, .int .i64 cz]) (by simp)
  have k1_2_0 : w1.cell? ⟨w.heap.size + 1 + 1, 0, none⟩ = some (.int .i64 cx) := B1_2.cell 0
  have k1_2_1 : w1.cell? ⟨w.heap.size + 1 + 1, 1, none⟩ = some (.int .i64 cy) := B1_2.cell 1
  have k1_2_2 : w1.cell? ⟨w.heap.size + 1 + 1, 2, none⟩ = some (.int .i64 cz) := B1_2.cell 2
  have z1_2 : w.heap.size + 1 + 1 < w1.heap.size := B1_2.lt
  clear B1_2
  go_upto_region 3 with fail
  have HHp := HH1.out
  have HBp := HB1.out
  go_region_held3 (fun w' => w'.cell? ⟨w.heap.size, 0, none⟩ = some (.int .i64 ax) ∧ w'.cell? ⟨w.heap.size, 1, none⟩ = some (.int .i64 ay) ∧ w'.cell? ⟨w.heap.size, 2, none⟩ = some (.int .i64 az) ∧ w'.cell? ⟨w.heap.size + 1, 0, none⟩ = some (.int .i64 bx) ∧ w'.cell? ⟨w.heap.size + 1, 1, none⟩ = some (.int .i64 bY) ∧ w'.cell? ⟨w.heap.size + 1, 2, none⟩ = some (.int .i64 bz) ∧ w'.cell? ⟨w.heap.size + 1 + 1, 0, none⟩ = some (.int .i64 cx) ∧ w'.cell? ⟨w.heap.size + 1 + 1, 1, none⟩ = some (.int .i64 cy) ∧ w'.cell? ⟨w.heap.size + 1 + 1, 2, none⟩ = some (.int .i64 cz) ∧ w.heap.size < w'.heap.size ∧ w.heap.size + 1 < w'.heap.size ∧ w.heap.size + 1 + 1 < w'.heap.size ∧ Blks w' [(w.heap.size + 1 + 1, 23, [.int .i64 cx, .int .i64 cy, .int .i64 cz]), (w.heap.size + 1, 23, [.int .i64 bx, .int .i64 bY, .int .i64 bz]), (w.heap.size, 23, [.int .i64 ax, .int .i64 ay, .int .i64 az])] ∧ Below w.heap.size w w')
      ((go_split_ands; (repeat' apply And.intro) <;> (first | with_reducible assumption | (with_reducible refine Blks.drew ?_; with_reducible assumption) | (with_reducible refine Below.drew ?_; with_reducible assumption) | (simp only [World.cell?_drew, World.size_drew]; with_reducible assumption) | (with_reducible refine Blks.below ?_ hbm; with_reducible assumption) | (with_reducible refine below_trans ?_ hbm; with_reducible assumption) | (rw [hbm.cell (by first | assumption | (simp only [World.size_drew]; assumption))]; first | with_reducible assumption | (simp only [World.cell?_drew]; with_reducible assumption)) | (refine Nat.lt_of_lt_of_le ?_ hbm.size; first | with_reducible assumption | (simp only [World.size_drew]; with_reducible assumption)))))
      ((first
        | (go_at_call 17; with_reducible refine (c1.out _).mono ?_; rintro e w2 ⟨rfl, hbm⟩)
        | (go_at_call 17; with_reducible refine (c2.out _).mono ?_; rintro e w2 ⟨rfl, hbm⟩)
        | (go_at_call 17; with_reducible refine (c3.out _).mono ?_; rintro e w2 ⟨rfl, hbm⟩)))
  go_split_ands
  have HH2 : Blks w2 [(w.heap.size + 1 + 1, 23, [.int .i64 cx, .int .i64 cy, .int .i64 cz]), (w.heap.size + 1, 23, [.int .i64 bx, .int .i64 bY, .int .i64 bz]), (w.heap.size, 23, [.int .i64 ax, .int .i64 ay, .int .i64 az])] := by assumption
  have HB2 : Below w.heap.size w w2 := by assumption
  have HH2 := Lib.hid HH2
  have HB2 := Lib.hid HB2
  clear k1_0_0 k1_0_1 k1_0_2 z1_0 k1_1_0 k1_1_1 k1_1_2 z1_1 k1_2_0 k1_2_1 k1_2_2 z1_2
  clear HHp HBp HH1 HB1
  have B2_0 : Blk w2 (w.heap.size) 23 #[.int .i64 ax, .int .i64 ay, .int .i64 az] := HH2.out (w.heap.size, 23, [.int .i64 ax, .int .i64 ay, .int .i64 az]) (by simp)
  have k2_0_0 : w2.cell? ⟨w.heap.size, 0, none⟩ = some (.int .i64 ax) := B2_0.cell 0
  have k2_0_1 : w2.cell? ⟨w.heap.size, 1, none⟩ = some (.int .i64 ay) := B2_0.cell 1
  have k2_0_2 : w2.cell? ⟨w.heap.size, 2, none⟩ = some (.int .i64 az) := B2_0.cell 2
  have z2_0 : w.heap.size < w2.heap.size := B2_0.lt
  clear B2_0
  have B2_1 : Blk w2 (w.heap.size + 1) 23 #[.int .i64 bx, .int .i64 bY, .int .i64 bz] := HH2.out (w.heap.size + 1, 23, [.int .i64 bx, .int .i64 bY, .int .i64 bz]) (by simp)
  have k2_1_0 : w2.cell? ⟨w.heap.size + 1, 0, none⟩ = some (.int .i64 bx) := B2_1.cell 0
  have k2_1_1 : w2.cell? ⟨w.heap.size + 1, 1, none⟩ = some (.int .i64 bY) := B2_1.cell 1
  have k2_1_2 : w2.cell? ⟨w.heap.size + 1, 2, none⟩ = some (.int .i64 bz) := B2_1.cell 2
  have z2_1 : w.heap.size + 1 < w2.heap.size := B2_1.lt
  clear B2_1
  have B2_2 : Blk w2 (w.heap.size + 1 + 1) 23 #[.int .i64 cx, .int .i64 cy, .int .i64 cz] := HH2.out (w.heap.size + 1 + 1, 23, [.int .i64 cx, .int .i64 cy, .int .i64 cz]) (by simp)
  have k2_2_0 : w2.cell? ⟨w.heap.size + 1 + 1, 0, none⟩ = some (.int .i64 cx) := B2_2.cell 0
  have k2_2_1 : w2.cell? ⟨w.heap.size + 1 + 1, 1, none⟩ = some (.int .i64 cy) := B2_2.cell 1
  have k2_2_2 : w2.cell? ⟨w.heap.size + 1 + 1, 2, none⟩ = some (.int .i64 cz) := B2_2.cell 2
  have z2_2 : w.heap.size + 1 + 1 < w2.heap.size := B2_2.lt
  clear B2_2
  go_wp2_with fail
  refine (c4.out _).mono ?_
  rintro e w3 ⟨rfl, hb3⟩
  have HH3 := Lib.hid ((HH2.out).below hb3)
  have HB3 := Lib.hid (below_trans (HB2.out) hb3)
  clear k2_0_0 k2_0_1 k2_0_2 z2_0 k2_1_0 k2_1_1 k2_1_2 z2_1 k2_2_0 k2_2_1 k2_2_2 z2_2
  clear hb3
  clear HH2 HB2
  have B3_0 : Blk w3 (w.heap.size) 23 #[.int .i64 ax, .int .i64 ay, .int .i64 az] := HH3.out (w.heap.size, 23, [.int .i64 ax, .int .i64 ay, .int .i64 az]) (by simp)
  have k3_0_0 : w3.cell? ⟨w.heap.size, 0, none⟩ = some (.int .i64 ax) := B3_0.cell 0
  have k3_0_1 : w3.cell? ⟨w.heap.size, 1, none⟩ = some (.int .i64 ay) := B3_0.cell 1
  have k3_0_2 : w3.cell? ⟨w.heap.size, 2, none⟩ = some (.int .i64 az) := B3_0.cell 2
  have z3_0 : w.heap.size < w3.heap.size := B3_0.lt
  clear B3_0
  have B3_1 : Blk w3 (w.heap.size + 1) 23 #[.int .i64 bx, .int .i64 bY, .int .i64 bz] := HH3.out (w.heap.size + 1, 23, [.int .i64 bx, .int .i64 bY, .int .i64 bz]) (by simp)
  have k3_1_0 : w3.cell? ⟨w.heap.size + 1, 0, none⟩ = some (.int .i64 bx) := B3_1.cell 0
  have k3_1_1 : w3.cell? ⟨w.heap.size + 1, 1, none⟩ = some (.int .i64 bY) := B3_1.cell 1
  have k3_1_2 : w3.cell? ⟨w.heap.size + 1, 2, none⟩ = some (.int .i64 bz) := B3_1.cell 2
  have z3_1 : w.heap.size + 1 < w3.heap.size := B3_1.lt
  clear B3_1
  have B3_2 : Blk w3 (w.heap.size + 1 + 1) 23 #[.int .i64 cx, .int .i64 cy, .int .i64 cz] := HH3.out (w.heap.size + 1 + 1, 23, [.int .i64 cx, .int .i64 cy, .int .i64 cz]) (by simp)
  have k3_2_0 : w3.cell? ⟨w.heap.size + 1 + 1, 0, none⟩ = some (.int .i64 cx) := B3_2.cell 0
  have k3_2_1 : w3.cell? ⟨w.heap.size + 1 + 1, 1, none⟩ = some (.int .i64 cy) := B3_2.cell 1
  have k3_2_2 : w3.cell? ⟨w.heap.size + 1 + 1, 2, none⟩ = some (.int .i64 cz) := B3_2.cell 2
  have z3_2 : w.heap.size + 1 + 1 < w3.heap.size := B3_2.lt
  clear B3_2
  have n1 : (m != - -m) = false := by simp
  have n2 : ((m == 0) != (m == 0)) = false := by simp
  rcases ht.out with h | h | ⟨h, h' | ⟨h', h''⟩⟩
  all_goals
    go_wp2
    all_goals
      go_returns
      first
        | exact ⟨rfl, by repeat (first | with_reducible exact HB3.out | with_reducible refine Below.drew ?_ | with_reducible refine below_drewN ?_ _ | with_reducible refine below_set ?_ (by simp <;> omega) _ | with_reducible refine below_alloc ?_ _)⟩
        | (exfalso; omega)
end Go.Proofs.Ytkfdbhhchnbjdaa.Ve
