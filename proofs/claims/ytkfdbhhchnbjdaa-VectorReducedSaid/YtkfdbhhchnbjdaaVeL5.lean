/- The walk of VectorReduced. -/
import Derived.Test.YtkfdbhhchnbjdaaVeL2
namespace Go.Proofs.Ytkfdbhhchnbjdaa.Ve
open Go.RowKit Ba
set_option linter.unusedVariables false

theorem gcd3_nat (x y z : Int) : gcd3 x y z = ((Nat.gcd (Nat.gcd x.natAbs y.natAbs) z.natAbs : Nat) : Int) := by
  unfold gcd3 gcdI Int.gcd; simp
theorem gcd3_neg (x y z : Int) : gcd3 (-x) (-y) (-z) = gcd3 x y z := by rw [gcd3_nat, gcd3_nat]; simp
theorem gcd3_dvd (x y z : Int) : gcd3 x y z ∣ x ∧ gcd3 x y z ∣ y ∧ gcd3 x y z ∣ z := by
  rw [gcd3_nat]
  refine ⟨?_, ?_, ?_⟩
  · exact Int.ofNat_dvd_left.2 (Nat.dvd_trans (Nat.gcd_dvd_left _ _) (Nat.gcd_dvd_left _ _))
  · exact Int.ofNat_dvd_left.2 (Nat.dvd_trans (Nat.gcd_dvd_left _ _) (Nat.gcd_dvd_right _ _))
  · exact Int.ofNat_dvd_left.2 (Nat.gcd_dvd_right _ _)
theorem gcd3_red (x y z : Int) (h : 1 ≤ gcd3 x y z) : gcd3 (x.tdiv (gcd3 x y z)) (y.tdiv (gcd3 x y z)) (z.tdiv (gcd3 x y z)) = 1 := by
  have e := gcd3_nat x y z
  rw [gcd3_nat (x.tdiv _)]
  simp only [Int.natAbs_tdiv]
  generalize hg : (gcd3 x y z).natAbs = g
  have hgn : g = Nat.gcd (Nat.gcd x.natAbs y.natAbs) z.natAbs := by rw [← hg, e]; simp
  have hpos : 0 < g := by omega
  have d1 : g ∣ x.natAbs := by rw [hgn]; exact Nat.dvd_trans (Nat.gcd_dvd_left _ _) (Nat.gcd_dvd_left _ _)
  have d2 : g ∣ y.natAbs := by rw [hgn]; exact Nat.dvd_trans (Nat.gcd_dvd_left _ _) (Nat.gcd_dvd_right _ _)
  have d3 : g ∣ z.natAbs := by rw [hgn]; exact Nat.gcd_dvd_right _ _
  have d4 : g ∣ Nat.gcd x.natAbs y.natAbs := Nat.dvd_gcd d1 d2
  show ((Nat.gcd (Nat.gcd (x.natAbs / g) (y.natAbs / g)) (z.natAbs / g) : Nat) : Int) = 1
  rw [Nat.gcd_div d1 d2, Nat.gcd_div d4 d3, ← hgn, Nat.div_self hpos]
  rfl

theorem reduced_no (x y z : Int) (h : in3 x y z = false) (w : World) : Calls Try.prog 10 #[.agg #[.int .i64 x, .int .i64 y, .int .i64 z]] w fun e w' => e = .returned (.bool true) ∧ Below w.heap.size w w' := by
  have c0 := Lib.hid fun W => awake_any W
  have gd := fun x y xs ys W => vec_guard .eql x y xs ys W
  have e1 := fun W => vec_same_eql 0 0 0 W
  have c1 := Lib.hid fun W => primitive_no x y z h W
  clear h
  go_enter Try.func10, Try.ntmps10
  go_wp2_with fail
  refine (c0.out _).mono ?_
  rintro e w1 ⟨rfl, hb1⟩
  have HH1 := Lib.hid ((((Blks.nil (w := w))).new (w.heap.size) 23 [.int .i64 x, .int .i64 y, .int .i64 z] rfl).below hb1)
  have HB1 := Lib.hid (below_trans (below_alloc (Below.refl _ _) _) hb1)
  clear hb1
  have B1_0 : Blk w1 (w.heap.size) 23 #[.int .i64 x, .int .i64 y, .int .i64 z] := HH1.out (w.heap.size, 23, [.int .i64 x, .int .i64 y, .int .i64 z]) (by simp)
  have k1_0_0 : w1.cell? ⟨w.heap.size, 0, none⟩ = some (.int .i64 x) := B1_0.cell 0
  have k1_0_1 : w1.cell? ⟨w.heap.size, 1, none⟩ = some (.int .i64 y) := B1_0.cell 1
  have k1_0_2 : w1.cell? ⟨w.heap.size, 2, none⟩ = some (.int .i64 z) := B1_0.cell 2
  have z1_0 : w.heap.size < w1.heap.size := B1_0.lt
  clear B1_0
  go_wp2_with fail
  refine (c1.out _).mono ?_
  rintro e w2 ⟨rfl, hb2⟩
  have HH2 := Lib.hid ((HH1.out).below hb2)
  have HB2 := Lib.hid (below_trans (HB1.out) hb2)
  clear k1_0_0 k1_0_1 k1_0_2 z1_0
  clear hb2
  clear HH1 HB1
  have B2_0 : Blk w2 (w.heap.size) 23 #[.int .i64 x, .int .i64 y, .int .i64 z] := HH2.out (w.heap.size, 23, [.int .i64 x, .int .i64 y, .int .i64 z]) (by simp)
  have k2_0_0 : w2.cell? ⟨w.heap.size, 0, none⟩ = some (.int .i64 x) := B2_0.cell 0
  have k2_0_1 : w2.cell? ⟨w.heap.size, 1, none⟩ = some (.int .i64 y) := B2_0.cell 1
  have k2_0_2 : w2.cell? ⟨w.heap.size, 2, none⟩ = some (.int .i64 z) := B2_0.cell 2
  have z2_0 : w.heap.size < w2.heap.size := B2_0.lt
  clear B2_0
  go_wp2
  go_returns
  exact ⟨rfl, by repeat (first | with_reducible exact HB2.out | with_reducible refine Below.drew ?_ | with_reducible refine below_drewN ?_ _ | with_reducible refine below_set ?_ (by have := HB2.out.size; simp <;> omega) _ | with_reducible refine below_alloc ?_ _)⟩
theorem reduced_zero (h : in3 0 0 0 = true) (w : World) : Calls Try.prog 10 #[.agg #[.int .i64 0, .int .i64 0, .int .i64 0]] w fun e w' => e = .returned (.bool true) ∧ Below w.heap.size w w' := by
  have c0 := Lib.hid fun W => awake_any W
  have gd := fun x y xs ys W => vec_guard .eql x y xs ys W
  have e1 := fun W => vec_same_eql 0 0 0 W
  have c1 := Lib.hid fun W => primitive_zero 0 0 0 h (by decide) W
  clear h
  go_enter Try.func10, Try.ntmps10
  go_wp2_with fail
  refine (c0.out _).mono ?_
  rintro e w1 ⟨rfl, hb1⟩
  have HH1 := Lib.hid ((((Blks.nil (w := w))).new (w.heap.size) 23 [.int .i64 0, .int .i64 0, .int .i64 0] rfl).below hb1)
  have HB1 := Lib.hid (below_trans (below_alloc (Below.refl _ _) _) hb1)
  clear hb1
  have B1_0 : Blk w1 (w.heap.size) 23 #[.int .i64 0, .int .i64 0, .int .i64 0] := HH1.out (w.heap.size, 23, [.int .i64 0, .int .i64 0, .int .i64 0]) (by simp)
  have k1_0_0 : w1.cell? ⟨w.heap.size, 0, none⟩ = some (.int .i64 0) := B1_0.cell 0
  have k1_0_1 : w1.cell? ⟨w.heap.size, 1, none⟩ = some (.int .i64 0) := B1_0.cell 1
  have k1_0_2 : w1.cell? ⟨w.heap.size, 2, none⟩ = some (.int .i64 0) := B1_0.cell 2
  have z1_0 : w.heap.size < w1.heap.size := B1_0.lt
  clear B1_0
  go_wp2_with fail
  refine (c1.out _).mono ?_
  rintro e w2 ⟨rfl, hb2⟩
  have HH2 := Lib.hid ((HH1.out).below hb2)
  have HB2 := Lib.hid (below_trans (HB1.out) hb2)
  clear k1_0_0 k1_0_1 k1_0_2 z1_0
  clear hb2
  clear HH1 HB1
  have B2_0 : Blk w2 (w.heap.size) 23 #[.int .i64 0, .int .i64 0, .int .i64 0] := HH2.out (w.heap.size, 23, [.int .i64 0, .int .i64 0, .int .i64 0]) (by simp)
  have k2_0_0 : w2.cell? ⟨w.heap.size, 0, none⟩ = some (.int .i64 0) := B2_0.cell 0
  have k2_0_1 : w2.cell? ⟨w.heap.size, 1, none⟩ = some (.int .i64 0) := B2_0.cell 1
  have k2_0_2 : w2.cell? ⟨w.heap.size, 2, none⟩ = some (.int .i64 0) := B2_0.cell 2
  have z2_0 : w.heap.size < w2.heap.size := B2_0.lt
  clear B2_0
  go_wp2
  go_returns
  exact ⟨rfl, by repeat (first | with_reducible exact HB2.out | with_reducible refine Below.drew ?_ | with_reducible refine below_drewN ?_ _ | with_reducible refine below_set ?_ (by have := HB2.out.size; simp <;> omega) _ | with_reducible refine below_alloc ?_ _)⟩
set_option maxHeartbeats 1600000 in
theorem reduced_ok (x y z : Int) (h : in3 x y z = true) (hz : ¬ (x = 0 ∧ y = 0 ∧ z = 0)) (w : World) : Calls Try.prog 10 #[.agg #[.int .i64 x, .int .i64 y, .int .i64 z]] w fun e w' => e = .returned (.bool true) ∧ Below w.heap.size w w' := by
  obtain ⟨⟨_, _⟩, ⟨_, _⟩, ⟨_, _⟩⟩ := in3_iff.1 h
  have hg := gcd3_pos hz
  have c0 := Lib.hid fun W => awake_any W
  have gd := fun x y xs ys W => vec_guard .eql x y xs ys W
  have c1 := Lib.hid fun W => primitive_ok x y z h hg W
  obtain ⟨d1, d2, d3⟩ := gcd3_dvd x y z
  obtain ⟨_, _⟩ := tdiv_bd (x := x) hg
  obtain ⟨_, _⟩ := tdiv_bd (x := y) hg
  obtain ⟨_, _⟩ := tdiv_bd (x := z) hg
  have hp : in3 (x.tdiv (gcd3 x y z)) (y.tdiv (gcd3 x y z)) (z.tdiv (gcd3 x y z)) = true := in3_iff.2 ⟨⟨by omega, by omega⟩, ⟨by omega, by omega⟩, ⟨by omega, by omega⟩⟩
  have hn : in3 (-x) (-y) (-z) = true := in3_iff.2 ⟨⟨by omega, by omega⟩, ⟨by omega, by omega⟩, ⟨by omega, by omega⟩⟩
  have r1 := gcd3_red x y z hg
  have r2 := gcd3_neg x y z
  have c2 := Lib.hid fun W => primitive_ok _ _ _ hp (by rw [r1]; decide) W
  have c3 := Lib.hid fun W => primitive_ok (-x) (-y) (-z) hn (by rw [r2]; exact hg) W
  rw [r1] at c2
  rw [r2] at c3
  simp only [Int.tdiv_one] at c2
  simp only [Int.neg_tdiv] at c3
  have m1 := Int.mul_tdiv_cancel' d1
  have m2 := Int.mul_tdiv_cancel' d2
  have m3 := Int.mul_tdiv_cancel' d3
  have n1 : IntKind.i64.wrap x = x := IntWalk.i64_in _ (by omega)
  clear r1 r2 hp hn d1 d2 d3 h hz
  generalize gcd3 x y z = G at *
  generalize x.tdiv G = X at *
  generalize y.tdiv G = Y at *
  generalize z.tdiv G = Z at *
  have e1 := fun W => vec_same_eql X Y Z W
  have e2 := fun W => vec_same_eql (-X) (-Y) (-Z) W
  have tG : (G == G) = true := by simp
  have tx : (x == x) = true := by simp
  have ty : (y == y) = true := by simp
  have tz : (z == z) = true := by simp
  go_enter Try.func10, Try.ntmps10
  go_wp2_with fail
  refine (c0.out _).mono ?_
  rintro e w1 ⟨rfl, hb1⟩
  have HH1 := Lib.hid ((((Blks.nil (w := w))).new (w.heap.size) 23 [.int .i64 x, .int .i64 y, .int .i64 z] rfl).below hb1)
  have HB1 := Lib.hid (below_trans (below_alloc (Below.refl _ _) _) hb1)
  clear hb1
  have B1_0 : Blk w1 (w.heap.size) 23 #[.int .i64 x, .int .i64 y, .int .i64 z] := HH1.out (w.heap.size, 23, [.int .i64 x, .int .i64 y, .int .i64 z]) (by simp)
  have k1_0_0 : w1.cell? ⟨w.heap.size, 0, none⟩ = some (.int .i64 x) := B1_0.cell 0
  have k1_0_1 : w1.cell? ⟨w.heap.size, 1, none⟩ = some (.int .i64 y) := B1_0.cell 1
  have k1_0_2 : w1.cell? ⟨w.heap.size, 2, none⟩ = some (.int .i64 z) := B1_0.cell 2
  have z1_0 : w.heap.size < w1.heap.size := B1_0.lt
  clear B1_0
  go_wp2_with fail
  refine (c1.out _).mono ?_
  rintro e w2 ⟨rfl, hb2⟩
  have HH2 := Lib.hid ((HH1.out).below hb2)
  have HB2 := Lib.hid (below_trans (HB1.out) hb2)
  clear k1_0_0 k1_0_1 k1_0_2 z1_0
  clear hb2
  clear HH1 HB1
  have B2_0 : Blk w2 (w.heap.size) 23 #[.int .i64 x, .int .i64 y, .int .i64 z] := HH2.out (w.heap.size, 23, [.int .i64 x, .int .i64 y, .int .i64 z]) (by simp)
  have k2_0_0 : w2.cell? ⟨w.heap.size, 0, none⟩ = some (.int .i64 x) := B2_0.cell 0
  have k2_0_1 : w2.cell? ⟨w.heap.size, 1, none⟩ = some (.int .i64 y) := B2_0.cell 1
  have k2_0_2 : w2.cell? ⟨w.heap.size, 2, none⟩ = some (.int .i64 z) := B2_0.cell 2
  have z2_0 : w.heap.size < w2.heap.size := B2_0.lt
  clear B2_0
  go_wp2_with fail
  refine (c2.out _).mono ?_
  rintro e w3 ⟨rfl, hb3⟩
  have HH3 := Lib.hid (((HH2.out).new (w2.heap.size) 23 [.int .i64 X, .int .i64 Y, .int .i64 Z] rfl).below hb3)
  have HB3 := Lib.hid (below_trans (below_alloc (HB2.out) _) hb3)
  clear k2_0_0 k2_0_1 k2_0_2 z2_0
  clear hb3
  clear HH2 HB2
  have B3_0 : Blk w3 (w.heap.size) 23 #[.int .i64 x, .int .i64 y, .int .i64 z] := HH3.out (w.heap.size, 23, [.int .i64 x, .int .i64 y, .int .i64 z]) (by simp)
  have k3_0_0 : w3.cell? ⟨w.heap.size, 0, none⟩ = some (.int .i64 x) := B3_0.cell 0
  have k3_0_1 : w3.cell? ⟨w.heap.size, 1, none⟩ = some (.int .i64 y) := B3_0.cell 1
  have k3_0_2 : w3.cell? ⟨w.heap.size, 2, none⟩ = some (.int .i64 z) := B3_0.cell 2
  have z3_0 : w.heap.size < w3.heap.size := B3_0.lt
  clear B3_0
  have B3_1 : Blk w3 (w2.heap.size) 23 #[.int .i64 X, .int .i64 Y, .int .i64 Z] := HH3.out (w2.heap.size, 23, [.int .i64 X, .int .i64 Y, .int .i64 Z]) (by simp)
  have k3_1_0 : w3.cell? ⟨w2.heap.size, 0, none⟩ = some (.int .i64 X) := B3_1.cell 0
  have k3_1_1 : w3.cell? ⟨w2.heap.size, 1, none⟩ = some (.int .i64 Y) := B3_1.cell 1
  have k3_1_2 : w3.cell? ⟨w2.heap.size, 2, none⟩ = some (.int .i64 Z) := B3_1.cell 2
  have z3_1 : w2.heap.size < w3.heap.size := B3_1.lt
  clear B3_1
  go_wp2_with fail
  refine (c3.out _).mono ?_
  rintro e w4 ⟨rfl, hb4⟩
  have HH4 := Lib.hid (((HH3.out).new (w3.heap.size) 23 [.int .i64 X, .int .i64 Y, .int .i64 Z] rfl).below hb4)
  have HB4 := Lib.hid (below_trans (below_alloc (HB3.out) _) hb4)
  clear k3_0_0 k3_0_1 k3_0_2 z3_0 k3_1_0 k3_1_1 k3_1_2 z3_1
  clear hb4
  clear HH3 HB3
  have B4_0 : Blk w4 (w.heap.size) 23 #[.int .i64 x, .int .i64 y, .int .i64 z] := HH4.out (w.heap.size, 23, [.int .i64 x, .int .i64 y, .int .i64 z]) (by simp)
  have k4_0_0 : w4.cell? ⟨w.heap.size, 0, none⟩ = some (.int .i64 x) := B4_0.cell 0
  have k4_0_1 : w4.cell? ⟨w.heap.size, 1, none⟩ = some (.int .i64 y) := B4_0.cell 1
  have k4_0_2 : w4.cell? ⟨w.heap.size, 2, none⟩ = some (.int .i64 z) := B4_0.cell 2
  have z4_0 : w.heap.size < w4.heap.size := B4_0.lt
  clear B4_0
  have B4_1 : Blk w4 (w2.heap.size) 23 #[.int .i64 X, .int .i64 Y, .int .i64 Z] := HH4.out (w2.heap.size, 23, [.int .i64 X, .int .i64 Y, .int .i64 Z]) (by simp)
  have k4_1_0 : w4.cell? ⟨w2.heap.size, 0, none⟩ = some (.int .i64 X) := B4_1.cell 0
  have k4_1_1 : w4.cell? ⟨w2.heap.size, 1, none⟩ = some (.int .i64 Y) := B4_1.cell 1
  have k4_1_2 : w4.cell? ⟨w2.heap.size, 2, none⟩ = some (.int .i64 Z) := B4_1.cell 2
  have z4_1 : w2.heap.size < w4.heap.size := B4_1.lt
  clear B4_1
  have B4_2 : Blk w4 (w3.heap.size) 23 #[.int .i64 X, .int .i64 Y, .int .i64 Z] := HH4.out (w3.heap.size, 23, [.int .i64 X, .int .i64 Y, .int .i64 Z]) (by simp)
  have k4_2_0 : w4.cell? ⟨w3.heap.size, 0, none⟩ = some (.int .i64 X) := B4_2.cell 0
  have k4_2_1 : w4.cell? ⟨w3.heap.size, 1, none⟩ = some (.int .i64 Y) := B4_2.cell 1
  have k4_2_2 : w4.cell? ⟨w3.heap.size, 2, none⟩ = some (.int .i64 Z) := B4_2.cell 2
  have z4_2 : w3.heap.size < w4.heap.size := B4_2.lt
  clear B4_2
  go_wp2
  go_returns
  exact ⟨rfl, by repeat (first | with_reducible exact HB4.out | with_reducible refine Below.drew ?_ | with_reducible refine below_drewN ?_ _ | with_reducible refine below_set ?_ (by have := HB4.out.size; simp <;> omega) _ | with_reducible refine below_alloc ?_ _)⟩
theorem reducedLaw_any (x y z : Int) (w : World) : Calls Try.prog 10 #[.agg #[.int .i64 x, .int .i64 y, .int .i64 z]] w fun e w' => e = .returned (.bool true) ∧ Below w.heap.size w w' := by

  rcases h : in3 x y z with _ | _
  · exact reduced_no x y z h w
  · by_cases hz : x = 0 ∧ y = 0 ∧ z = 0
    · obtain ⟨rfl, rfl, rfl⟩ := hz
      exact reduced_zero h w
    · exact reduced_ok x y z h hz w

end Go.Proofs.Ytkfdbhhchnbjdaa.Ve
