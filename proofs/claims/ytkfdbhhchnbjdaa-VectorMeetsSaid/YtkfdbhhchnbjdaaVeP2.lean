/- The program's Primitive. -/
import Derived.Test.YtkfdbhhchnbjdaaVeP
import Derived.Test.YtkfdbhhchnbjdaaVeK
namespace Go.Proofs.Ytkfdbhhchnbjdaa.Ve
open Go.RowKit Ba
set_option linter.unusedVariables false

def gcd3 (x y z : Int) : Int := gcdI (gcdI x y) z
theorem gcdI_nonneg (a b : Int) : 0 ≤ gcdI a b := by unfold gcdI; omega
theorem gcdI_bd {a b : Int} (M : Nat) (h1 : a.natAbs ≤ M) (h2 : b.natAbs ≤ M) : gcdI a b ≤ M := by
  unfold gcdI Int.gcd
  by_cases h : a.natAbs = 0
  · rw [h, Nat.gcd_zero_left]; omega
  · have := Nat.gcd_le_left b.natAbs (by omega : 0 < a.natAbs); omega
theorem gcdI_zero {a b : Int} (h : gcdI a b = 0) : a = 0 ∧ b = 0 := by
  unfold gcdI at h
  have h' : Int.gcd a b = 0 := by omega
  exact Int.gcd_eq_zero_iff.1 h'
theorem gcdI_first (x y : Int) : gcdI (gcdI 0 x) y = gcdI x y := by unfold gcdI Int.gcd; simp
theorem gcdI_abs (x y : Int) : gcdI (x.natAbs : Int) (y.natAbs : Int) = gcdI x y := by unfold gcdI Int.gcd; simp
theorem gcdI_absr (x y : Int) : gcdI x (y.natAbs : Int) = gcdI x y := by unfold gcdI Int.gcd; simp
theorem tdiv_bd {x g : Int} (hg : 1 ≤ g) : -(x.natAbs : Int) ≤ x.tdiv g ∧ x.tdiv g ≤ x.natAbs := by
  have h := Int.natAbs_tdiv_le_natAbs x g
  omega
theorem primitive_no (x y z : Int) (h : in3 x y z = false) (w : World) : Calls Try.prog 27 #[.agg #[.int .i64 x, .int .i64 y, .int .i64 z]] w fun e w' => e = .returned (.tuple #[.agg #[.int .i64 0, .int .i64 0, .int .i64 0], .int .i64 0, .int .i64 6]) ∧ Below w.heap.size w w' := by
  have c1 := Lib.hid fun W => check_any x y z W
  rw [chk1_no h] at c1
  clear h
  go_enter Try.func27, Try.ntmps27
  go_wp2_with fail
  refine (c1.out _).mono ?_
  rintro e w1 ⟨rfl, hb1⟩
  have HH1 := Lib.hid (((((Blks.nil (w := w))).new (w.heap.size) 23 [.int .i64 x, .int .i64 y, .int .i64 z] rfl).new (w.heap.size + 1) 23 [.int .i64 0, .int .i64 0, .int .i64 0] (by simp)).below hb1)
  have HB1 := Lib.hid (below_trans (below_alloc (below_alloc (Below.refl _ _) _) _) hb1)
  clear hb1
  have B1_0 : Blk w1 (w.heap.size) 23 #[.int .i64 x, .int .i64 y, .int .i64 z] := HH1.out (w.heap.size, 23, [.int .i64 x, .int .i64 y, .int .i64 z]) (by simp)
  have k1_0_0 : w1.cell? ⟨w.heap.size, 0, none⟩ = some (.int .i64 x) := B1_0.cell 0
  have f1_0_0 : w1.frozen? ⟨w.heap.size, 0, none⟩ = false := B1_0.frozen 0
  have k1_0_1 : w1.cell? ⟨w.heap.size, 1, none⟩ = some (.int .i64 y) := B1_0.cell 1
  have f1_0_1 : w1.frozen? ⟨w.heap.size, 1, none⟩ = false := B1_0.frozen 1
  have k1_0_2 : w1.cell? ⟨w.heap.size, 2, none⟩ = some (.int .i64 z) := B1_0.cell 2
  have f1_0_2 : w1.frozen? ⟨w.heap.size, 2, none⟩ = false := B1_0.frozen 2
  have z1_0 : w.heap.size < w1.heap.size := B1_0.lt
  clear B1_0
  have B1_1 : Blk w1 (w.heap.size + 1) 23 #[.int .i64 0, .int .i64 0, .int .i64 0] := HH1.out (w.heap.size + 1, 23, [.int .i64 0, .int .i64 0, .int .i64 0]) (by simp)
  have k1_1_0 : w1.cell? ⟨w.heap.size + 1, 0, none⟩ = some (.int .i64 0) := B1_1.cell 0
  have f1_1_0 : w1.frozen? ⟨w.heap.size + 1, 0, none⟩ = false := B1_1.frozen 0
  have k1_1_1 : w1.cell? ⟨w.heap.size + 1, 1, none⟩ = some (.int .i64 0) := B1_1.cell 1
  have f1_1_1 : w1.frozen? ⟨w.heap.size + 1, 1, none⟩ = false := B1_1.frozen 1
  have k1_1_2 : w1.cell? ⟨w.heap.size + 1, 2, none⟩ = some (.int .i64 0) := B1_1.cell 2
  have f1_1_2 : w1.frozen? ⟨w.heap.size + 1, 2, none⟩ = false := B1_1.frozen 2
  have z1_1 : w.heap.size + 1 < w1.heap.size := B1_1.lt
  clear B1_1
  go_wp2
  refine bodyPost_ret (v := .tuple #[.agg #[.int .i64 0, .int .i64 0, .int .i64 0], .int .i64 0, .int .i64 6]) ?_ rfl ⟨rfl, ?_⟩
  · simp [results, Try.results27, go_sem, *]
  · repeat (first | exact HB1.out | refine below_set ?_ (by have := HB1.out.size; simp <;> omega) _ | refine below_alloc ?_ _)
set_option maxHeartbeats 1600000 in
theorem primitive_zero (x y z : Int) (h : in3 x y z = true) (hg : gcd3 x y z = 0) (w : World) : Calls Try.prog 27 #[.agg #[.int .i64 x, .int .i64 y, .int .i64 z]] w fun e w' => e = .returned (.tuple #[.agg #[.int .i64 0, .int .i64 0, .int .i64 0], .int .i64 0, .int .i64 1]) ∧ Below w.heap.size w w' := by
  obtain ⟨⟨_, _⟩, ⟨_, _⟩, ⟨_, _⟩⟩ := in3_iff.1 h
  have c1 := Lib.hid fun W => check_any x y z W
  rw [chk1_ok h] at c1
  clear h
  have d1 := gcdI_nonneg 0 x
  have e1 := gcdI_bd (a := 0) (b := x) 1000000 (by omega) (by omega)
  have d2 := gcdI_nonneg (gcdI 0 x) y
  have e2 := gcdI_bd (a := gcdI 0 x) (b := y) 1000000 (by omega) (by omega)
  have d3 := gcdI_nonneg (gcdI (gcdI 0 x) y) z
  have e3 := gcdI_bd (a := gcdI (gcdI 0 x) y) (b := z) 1000000 (by omega) (by omega)
  have q1 := Lib.hid fun W => divisor_any 0 x ⟨by omega, by omega⟩ ⟨by omega, by omega⟩ W
  have q2 := Lib.hid fun W => divisor_any (gcdI 0 x) y ⟨by omega, by omega⟩ ⟨by omega, by omega⟩ W
  have q3 := Lib.hid fun W => divisor_any (gcdI (gcdI 0 x) y) z ⟨by omega, by omega⟩ ⟨by omega, by omega⟩ W
  have HG : Hid (gcdI (gcdI (gcdI 0 x) y) z = gcd3 x y z) := Lib.hid (by rw [gcdI_first]; rfl)
  rw [HG.out] at q3 d3 e3
  clear HG
  generalize gcdI (gcdI 0 x) y = G2 at *
  generalize gcdI 0 x = G1 at *
  rw [hg] at q3 d3 e3
  clear hg
  have i0 : ∀ W, (Instr.index 62 (.agg #[.int .i64 x, .int .i64 y, .int .i64 z]) (.int .i64 0)).run Try.prog W = .ok (.int .i64 x) W := fun _ => by kernel_rfl
  have i1 : ∀ W, (Instr.index 62 (.agg #[.int .i64 x, .int .i64 y, .int .i64 z]) (.int .i64 1)).run Try.prog W = .ok (.int .i64 y) W := fun _ => by kernel_rfl
  have i2 : ∀ W, (Instr.index 62 (.agg #[.int .i64 x, .int .i64 y, .int .i64 z]) (.int .i64 2)).run Try.prog W = .ok (.int .i64 z) W := fun _ => by kernel_rfl
  go_enter Try.func27, Try.ntmps27
  go_wp2_with fail
  refine (c1.out _).mono ?_
  rintro e w1 ⟨rfl, hb1⟩
  have HH1 := Lib.hid (((((Blks.nil (w := w))).new (w.heap.size) 23 [.int .i64 x, .int .i64 y, .int .i64 z] rfl).new (w.heap.size + 1) 23 [.int .i64 0, .int .i64 0, .int .i64 0] (by simp)).below hb1)
  have HB1 := Lib.hid (below_trans (below_alloc (below_alloc (Below.refl _ _) _) _) hb1)
  clear hb1
  have B1_0 : Blk w1 (w.heap.size) 23 #[.int .i64 x, .int .i64 y, .int .i64 z] := HH1.out (w.heap.size, 23, [.int .i64 x, .int .i64 y, .int .i64 z]) (by simp)
  have k1_0_0 : w1.cell? ⟨w.heap.size, 0, none⟩ = some (.int .i64 x) := B1_0.cell 0
  have k1_0_1 : w1.cell? ⟨w.heap.size, 1, none⟩ = some (.int .i64 y) := B1_0.cell 1
  have k1_0_2 : w1.cell? ⟨w.heap.size, 2, none⟩ = some (.int .i64 z) := B1_0.cell 2
  have z1_0 : w.heap.size < w1.heap.size := B1_0.lt
  clear B1_0
  have B1_1 : Blk w1 (w.heap.size + 1) 23 #[.int .i64 0, .int .i64 0, .int .i64 0] := HH1.out (w.heap.size + 1, 23, [.int .i64 0, .int .i64 0, .int .i64 0]) (by simp)
  have k1_1_0 : w1.cell? ⟨w.heap.size + 1, 0, none⟩ = some (.int .i64 0) := B1_1.cell 0
  have k1_1_1 : w1.cell? ⟨w.heap.size + 1, 1, none⟩ = some (.int .i64 0) := B1_1.cell 1
  have k1_1_2 : w1.cell? ⟨w.heap.size + 1, 2, none⟩ = some (.int .i64 0) := B1_1.cell 2
  have z1_1 : w.heap.size + 1 < w1.heap.size := B1_1.lt
  clear B1_1
  go_wp2_with fail
  refine (coordinates_any x y z _).mono ?_
  rintro e w2 ⟨rfl, hb2⟩
  have HH2 := Lib.hid ((HH1.out).below hb2)
  have HB2 := Lib.hid (below_trans (HB1.out) hb2)
  clear k1_0_0 k1_0_1 k1_0_2 z1_0 k1_1_0 k1_1_1 k1_1_2 z1_1
  clear hb2
  clear HH1 HB1
  have B2_0 : Blk w2 (w.heap.size) 23 #[.int .i64 x, .int .i64 y, .int .i64 z] := HH2.out (w.heap.size, 23, [.int .i64 x, .int .i64 y, .int .i64 z]) (by simp)
  have k2_0_0 : w2.cell? ⟨w.heap.size, 0, none⟩ = some (.int .i64 x) := B2_0.cell 0
  have k2_0_1 : w2.cell? ⟨w.heap.size, 1, none⟩ = some (.int .i64 y) := B2_0.cell 1
  have k2_0_2 : w2.cell? ⟨w.heap.size, 2, none⟩ = some (.int .i64 z) := B2_0.cell 2
  have z2_0 : w.heap.size < w2.heap.size := B2_0.lt
  clear B2_0
  have B2_1 : Blk w2 (w.heap.size + 1) 23 #[.int .i64 0, .int .i64 0, .int .i64 0] := HH2.out (w.heap.size + 1, 23, [.int .i64 0, .int .i64 0, .int .i64 0]) (by simp)
  have k2_1_0 : w2.cell? ⟨w.heap.size + 1, 0, none⟩ = some (.int .i64 0) := B2_1.cell 0
  have k2_1_1 : w2.cell? ⟨w.heap.size + 1, 1, none⟩ = some (.int .i64 0) := B2_1.cell 1
  have k2_1_2 : w2.cell? ⟨w.heap.size + 1, 2, none⟩ = some (.int .i64 0) := B2_1.cell 2
  have z2_1 : w.heap.size + 1 < w2.heap.size := B2_1.lt
  clear B2_1
  have kz : w.heap.size + 1 < w2.heap.size := z2_1
  go_wp2_with fail
  refine wp_loop_rounds 4 ?_
  rw [rounds_succ]
  go_wp2_with fail
  refine (q1.out _).mono ?_
  rintro e w3 ⟨rfl, hb3⟩
  have HH3 := Lib.hid (((HH2.out).new (w2.heap.size) 62 [.int .i64 x, .int .i64 y, .int .i64 z] rfl).below hb3)
  have HB3 := Lib.hid (below_trans (below_alloc (HB2.out) _) hb3)
  clear k2_0_0 k2_0_1 k2_0_2 z2_0 k2_1_0 k2_1_1 k2_1_2 z2_1
  clear hb3
  clear HH2 HB2
  have B3_0 : Blk w3 (w.heap.size) 23 #[.int .i64 x, .int .i64 y, .int .i64 z] := HH3.out (w.heap.size, 23, [.int .i64 x, .int .i64 y, .int .i64 z]) (by simp)
  have k3_0_0 : w3.cell? ⟨w.heap.size, 0, none⟩ = some (.int .i64 x) := B3_0.cell 0
  have k3_0_1 : w3.cell? ⟨w.heap.size, 1, none⟩ = some (.int .i64 y) := B3_0.cell 1
  have k3_0_2 : w3.cell? ⟨w.heap.size, 2, none⟩ = some (.int .i64 z) := B3_0.cell 2
  have z3_0 : w.heap.size < w3.heap.size := B3_0.lt
  clear B3_0
  have B3_1 : Blk w3 (w.heap.size + 1) 23 #[.int .i64 0, .int .i64 0, .int .i64 0] := HH3.out (w.heap.size + 1, 23, [.int .i64 0, .int .i64 0, .int .i64 0]) (by simp)
  have k3_1_0 : w3.cell? ⟨w.heap.size + 1, 0, none⟩ = some (.int .i64 0) := B3_1.cell 0
  have k3_1_1 : w3.cell? ⟨w.heap.size + 1, 1, none⟩ = some (.int .i64 0) := B3_1.cell 1
  have k3_1_2 : w3.cell? ⟨w.heap.size + 1, 2, none⟩ = some (.int .i64 0) := B3_1.cell 2
  have z3_1 : w.heap.size + 1 < w3.heap.size := B3_1.lt
  clear B3_1
  have B3_2 : Blk w3 (w2.heap.size) 62 #[.int .i64 x, .int .i64 y, .int .i64 z] := HH3.out (w2.heap.size, 62, [.int .i64 x, .int .i64 y, .int .i64 z]) (by simp)
  have k3_2_0 : w3.cell? ⟨w2.heap.size, 0, none⟩ = some (.int .i64 x) := B3_2.cell 0
  have k3_2_1 : w3.cell? ⟨w2.heap.size, 1, none⟩ = some (.int .i64 y) := B3_2.cell 1
  have k3_2_2 : w3.cell? ⟨w2.heap.size, 2, none⟩ = some (.int .i64 z) := B3_2.cell 2
  have z3_2 : w2.heap.size < w3.heap.size := B3_2.lt
  clear B3_2
  go_wp2_with fail
  rw [rounds_succ]
  go_wp2_with fail
  refine (q2.out _).mono ?_
  rintro e w4 ⟨rfl, hb4⟩
  have HH4 := Lib.hid ((HH3.out).below hb4)
  have HB4 := Lib.hid (below_trans (HB3.out) hb4)
  clear k3_0_0 k3_0_1 k3_0_2 z3_0 k3_1_0 k3_1_1 k3_1_2 z3_1 k3_2_0 k3_2_1 k3_2_2 z3_2
  clear hb4
  clear HH3 HB3
  have B4_0 : Blk w4 (w.heap.size) 23 #[.int .i64 x, .int .i64 y, .int .i64 z] := HH4.out (w.heap.size, 23, [.int .i64 x, .int .i64 y, .int .i64 z]) (by simp)
  have k4_0_0 : w4.cell? ⟨w.heap.size, 0, none⟩ = some (.int .i64 x) := B4_0.cell 0
  have k4_0_1 : w4.cell? ⟨w.heap.size, 1, none⟩ = some (.int .i64 y) := B4_0.cell 1
  have k4_0_2 : w4.cell? ⟨w.heap.size, 2, none⟩ = some (.int .i64 z) := B4_0.cell 2
  have z4_0 : w.heap.size < w4.heap.size := B4_0.lt
  clear B4_0
  have B4_1 : Blk w4 (w.heap.size + 1) 23 #[.int .i64 0, .int .i64 0, .int .i64 0] := HH4.out (w.heap.size + 1, 23, [.int .i64 0, .int .i64 0, .int .i64 0]) (by simp)
  have k4_1_0 : w4.cell? ⟨w.heap.size + 1, 0, none⟩ = some (.int .i64 0) := B4_1.cell 0
  have k4_1_1 : w4.cell? ⟨w.heap.size + 1, 1, none⟩ = some (.int .i64 0) := B4_1.cell 1
  have k4_1_2 : w4.cell? ⟨w.heap.size + 1, 2, none⟩ = some (.int .i64 0) := B4_1.cell 2
  have z4_1 : w.heap.size + 1 < w4.heap.size := B4_1.lt
  clear B4_1
  have B4_2 : Blk w4 (w2.heap.size) 62 #[.int .i64 x, .int .i64 y, .int .i64 z] := HH4.out (w2.heap.size, 62, [.int .i64 x, .int .i64 y, .int .i64 z]) (by simp)
  have k4_2_0 : w4.cell? ⟨w2.heap.size, 0, none⟩ = some (.int .i64 x) := B4_2.cell 0
  have k4_2_1 : w4.cell? ⟨w2.heap.size, 1, none⟩ = some (.int .i64 y) := B4_2.cell 1
  have k4_2_2 : w4.cell? ⟨w2.heap.size, 2, none⟩ = some (.int .i64 z) := B4_2.cell 2
  have z4_2 : w2.heap.size < w4.heap.size := B4_2.lt
  clear B4_2
  go_wp2_with fail
  rw [rounds_succ]
  go_wp2_with fail
  refine (q3.out _).mono ?_
  rintro e w5 ⟨rfl, hb5⟩
  have HH5 := Lib.hid ((HH4.out).below hb5)
  have HB5 := Lib.hid (below_trans (HB4.out) hb5)
  clear k4_0_0 k4_0_1 k4_0_2 z4_0 k4_1_0 k4_1_1 k4_1_2 z4_1 k4_2_0 k4_2_1 k4_2_2 z4_2
  clear hb5
  clear HH4 HB4
  have B5_0 : Blk w5 (w.heap.size) 23 #[.int .i64 x, .int .i64 y, .int .i64 z] := HH5.out (w.heap.size, 23, [.int .i64 x, .int .i64 y, .int .i64 z]) (by simp)
  have k5_0_0 : w5.cell? ⟨w.heap.size, 0, none⟩ = some (.int .i64 x) := B5_0.cell 0
  have f5_0_0 : w5.frozen? ⟨w.heap.size, 0, none⟩ = false := B5_0.frozen 0
  have k5_0_1 : w5.cell? ⟨w.heap.size, 1, none⟩ = some (.int .i64 y) := B5_0.cell 1
  have f5_0_1 : w5.frozen? ⟨w.heap.size, 1, none⟩ = false := B5_0.frozen 1
  have k5_0_2 : w5.cell? ⟨w.heap.size, 2, none⟩ = some (.int .i64 z) := B5_0.cell 2
  have f5_0_2 : w5.frozen? ⟨w.heap.size, 2, none⟩ = false := B5_0.frozen 2
  have z5_0 : w.heap.size < w5.heap.size := B5_0.lt
  clear B5_0
  have B5_1 : Blk w5 (w.heap.size + 1) 23 #[.int .i64 0, .int .i64 0, .int .i64 0] := HH5.out (w.heap.size + 1, 23, [.int .i64 0, .int .i64 0, .int .i64 0]) (by simp)
  have k5_1_0 : w5.cell? ⟨w.heap.size + 1, 0, none⟩ = some (.int .i64 0) := B5_1.cell 0
  have f5_1_0 : w5.frozen? ⟨w.heap.size + 1, 0, none⟩ = false := B5_1.frozen 0
  have k5_1_1 : w5.cell? ⟨w.heap.size + 1, 1, none⟩ = some (.int .i64 0) := B5_1.cell 1
  have f5_1_1 : w5.frozen? ⟨w.heap.size + 1, 1, none⟩ = false := B5_1.frozen 1
  have k5_1_2 : w5.cell? ⟨w.heap.size + 1, 2, none⟩ = some (.int .i64 0) := B5_1.cell 2
  have f5_1_2 : w5.frozen? ⟨w.heap.size + 1, 2, none⟩ = false := B5_1.frozen 2
  have z5_1 : w.heap.size + 1 < w5.heap.size := B5_1.lt
  clear B5_1
  have B5_2 : Blk w5 (w2.heap.size) 62 #[.int .i64 x, .int .i64 y, .int .i64 z] := HH5.out (w2.heap.size, 62, [.int .i64 x, .int .i64 y, .int .i64 z]) (by simp)
  have k5_2_0 : w5.cell? ⟨w2.heap.size, 0, none⟩ = some (.int .i64 x) := B5_2.cell 0
  have f5_2_0 : w5.frozen? ⟨w2.heap.size, 0, none⟩ = false := B5_2.frozen 0
  have k5_2_1 : w5.cell? ⟨w2.heap.size, 1, none⟩ = some (.int .i64 y) := B5_2.cell 1
  have f5_2_1 : w5.frozen? ⟨w2.heap.size, 1, none⟩ = false := B5_2.frozen 1
  have k5_2_2 : w5.cell? ⟨w2.heap.size, 2, none⟩ = some (.int .i64 z) := B5_2.cell 2
  have f5_2_2 : w5.frozen? ⟨w2.heap.size, 2, none⟩ = false := B5_2.frozen 2
  have z5_2 : w2.heap.size < w5.heap.size := B5_2.lt
  clear B5_2
  go_wp2
  rw [rounds_succ]
  go_wp2
  (try simp only [Exit.inBlock, Exit.then])
  refine bodyPost_ret (v := .tuple #[.agg #[.int .i64 0, .int .i64 0, .int .i64 0], .int .i64 0, .int .i64 1]) ?_ rfl ⟨rfl, ?_⟩
  · simp [results, Try.results27, go_sem, *]
  · repeat (first | exact HB5.out | refine below_set ?_ (by have := HB5.out.size; simp <;> omega) _ | refine below_alloc ?_ _)
set_option maxHeartbeats 1600000 in
theorem primitive_ok (x y z : Int) (h : in3 x y z = true) (hg : 1 ≤ gcd3 x y z) (w : World) : Calls Try.prog 27 #[.agg #[.int .i64 x, .int .i64 y, .int .i64 z]] w fun e w' => e = .returned (.tuple #[.agg #[.int .i64 (x.tdiv (gcd3 x y z)), .int .i64 (y.tdiv (gcd3 x y z)), .int .i64 (z.tdiv (gcd3 x y z))], .int .i64 (gcd3 x y z), .int .i64 0]) ∧ Below w.heap.size w w' := by
  obtain ⟨⟨_, _⟩, ⟨_, _⟩, ⟨_, _⟩⟩ := in3_iff.1 h
  have c1 := Lib.hid fun W => check_any x y z W
  rw [chk1_ok h] at c1
  clear h
  have d1 := gcdI_nonneg 0 x
  have e1 := gcdI_bd (a := 0) (b := x) 1000000 (by omega) (by omega)
  have d2 := gcdI_nonneg (gcdI 0 x) y
  have e2 := gcdI_bd (a := gcdI 0 x) (b := y) 1000000 (by omega) (by omega)
  have d3 := gcdI_nonneg (gcdI (gcdI 0 x) y) z
  have e3 := gcdI_bd (a := gcdI (gcdI 0 x) y) (b := z) 1000000 (by omega) (by omega)
  have q1 := Lib.hid fun W => divisor_any 0 x ⟨by omega, by omega⟩ ⟨by omega, by omega⟩ W
  have q2 := Lib.hid fun W => divisor_any (gcdI 0 x) y ⟨by omega, by omega⟩ ⟨by omega, by omega⟩ W
  have q3 := Lib.hid fun W => divisor_any (gcdI (gcdI 0 x) y) z ⟨by omega, by omega⟩ ⟨by omega, by omega⟩ W
  have HG : Hid (gcdI (gcdI (gcdI 0 x) y) z = gcd3 x y z) := Lib.hid (by rw [gcdI_first]; rfl)
  rw [HG.out] at q3 d3 e3
  clear HG
  generalize gcdI (gcdI 0 x) y = G2 at *
  generalize gcdI 0 x = G1 at *
  obtain ⟨_, _⟩ := tdiv_bd (x := x) hg
  obtain ⟨_, _⟩ := tdiv_bd (x := y) hg
  obtain ⟨_, _⟩ := tdiv_bd (x := z) hg
  have t1 : IntKind.i64.wrap (x.tdiv (gcd3 x y z)) = x.tdiv (gcd3 x y z) := IntWalk.i64_in _ (by omega)
  have t2 : IntKind.i64.wrap (y.tdiv (gcd3 x y z)) = y.tdiv (gcd3 x y z) := IntWalk.i64_in _ (by omega)
  have t3 : IntKind.i64.wrap (z.tdiv (gcd3 x y z)) = z.tdiv (gcd3 x y z) := IntWalk.i64_in _ (by omega)
  have tg : (gcd3 x y z == 0) = false := by simp; omega
  generalize gcd3 x y z = G at *
  have i0 : ∀ W, (Instr.index 62 (.agg #[.int .i64 x, .int .i64 y, .int .i64 z]) (.int .i64 0)).run Try.prog W = .ok (.int .i64 x) W := fun _ => by kernel_rfl
  have i1 : ∀ W, (Instr.index 62 (.agg #[.int .i64 x, .int .i64 y, .int .i64 z]) (.int .i64 1)).run Try.prog W = .ok (.int .i64 y) W := fun _ => by kernel_rfl
  have i2 : ∀ W, (Instr.index 62 (.agg #[.int .i64 x, .int .i64 y, .int .i64 z]) (.int .i64 2)).run Try.prog W = .ok (.int .i64 z) W := fun _ => by kernel_rfl
  go_enter Try.func27, Try.ntmps27
  go_wp2_with fail
  refine (c1.out _).mono ?_
  rintro e w1 ⟨rfl, hb1⟩
  have HH1 := Lib.hid (((((Blks.nil (w := w))).new (w.heap.size) 23 [.int .i64 x, .int .i64 y, .int .i64 z] rfl).new (w.heap.size + 1) 23 [.int .i64 0, .int .i64 0, .int .i64 0] (by simp)).below hb1)
  have HB1 := Lib.hid (below_trans (below_alloc (below_alloc (Below.refl _ _) _) _) hb1)
  clear hb1
  have B1_0 : Blk w1 (w.heap.size) 23 #[.int .i64 x, .int .i64 y, .int .i64 z] := HH1.out (w.heap.size, 23, [.int .i64 x, .int .i64 y, .int .i64 z]) (by simp)
  have k1_0_0 : w1.cell? ⟨w.heap.size, 0, none⟩ = some (.int .i64 x) := B1_0.cell 0
  have k1_0_1 : w1.cell? ⟨w.heap.size, 1, none⟩ = some (.int .i64 y) := B1_0.cell 1
  have k1_0_2 : w1.cell? ⟨w.heap.size, 2, none⟩ = some (.int .i64 z) := B1_0.cell 2
  have z1_0 : w.heap.size < w1.heap.size := B1_0.lt
  clear B1_0
  have B1_1 : Blk w1 (w.heap.size + 1) 23 #[.int .i64 0, .int .i64 0, .int .i64 0] := HH1.out (w.heap.size + 1, 23, [.int .i64 0, .int .i64 0, .int .i64 0]) (by simp)
  have k1_1_0 : w1.cell? ⟨w.heap.size + 1, 0, none⟩ = some (.int .i64 0) := B1_1.cell 0
  have k1_1_1 : w1.cell? ⟨w.heap.size + 1, 1, none⟩ = some (.int .i64 0) := B1_1.cell 1
  have k1_1_2 : w1.cell? ⟨w.heap.size + 1, 2, none⟩ = some (.int .i64 0) := B1_1.cell 2
  have z1_1 : w.heap.size + 1 < w1.heap.size := B1_1.lt
  clear B1_1
  go_wp2_with fail
  refine (coordinates_any x y z _).mono ?_
  rintro e w2 ⟨rfl, hb2⟩
  have HH2 := Lib.hid ((HH1.out).below hb2)
  have HB2 := Lib.hid (below_trans (HB1.out) hb2)
  clear k1_0_0 k1_0_1 k1_0_2 z1_0 k1_1_0 k1_1_1 k1_1_2 z1_1
  clear hb2
  clear HH1 HB1
  have B2_0 : Blk w2 (w.heap.size) 23 #[.int .i64 x, .int .i64 y, .int .i64 z] := HH2.out (w.heap.size, 23, [.int .i64 x, .int .i64 y, .int .i64 z]) (by simp)
  have k2_0_0 : w2.cell? ⟨w.heap.size, 0, none⟩ = some (.int .i64 x) := B2_0.cell 0
  have k2_0_1 : w2.cell? ⟨w.heap.size, 1, none⟩ = some (.int .i64 y) := B2_0.cell 1
  have k2_0_2 : w2.cell? ⟨w.heap.size, 2, none⟩ = some (.int .i64 z) := B2_0.cell 2
  have z2_0 : w.heap.size < w2.heap.size := B2_0.lt
  clear B2_0
  have B2_1 : Blk w2 (w.heap.size + 1) 23 #[.int .i64 0, .int .i64 0, .int .i64 0] := HH2.out (w.heap.size + 1, 23, [.int .i64 0, .int .i64 0, .int .i64 0]) (by simp)
  have k2_1_0 : w2.cell? ⟨w.heap.size + 1, 0, none⟩ = some (.int .i64 0) := B2_1.cell 0
  have k2_1_1 : w2.cell? ⟨w.heap.size + 1, 1, none⟩ = some (.int .i64 0) := B2_1.cell 1
  have k2_1_2 : w2.cell? ⟨w.heap.size + 1, 2, none⟩ = some (.int .i64 0) := B2_1.cell 2
  have z2_1 : w.heap.size + 1 < w2.heap.size := B2_1.lt
  clear B2_1
  have kz : w.heap.size + 1 < w2.heap.size := z2_1
  go_wp2_with fail
  refine wp_loop_rounds 4 ?_
  rw [rounds_succ]
  go_wp2_with fail
  refine (q1.out _).mono ?_
  rintro e w3 ⟨rfl, hb3⟩
  have HH3 := Lib.hid (((HH2.out).new (w2.heap.size) 62 [.int .i64 x, .int .i64 y, .int .i64 z] rfl).below hb3)
  have HB3 := Lib.hid (below_trans (below_alloc (HB2.out) _) hb3)
  clear k2_0_0 k2_0_1 k2_0_2 z2_0 k2_1_0 k2_1_1 k2_1_2 z2_1
  clear hb3
  clear HH2 HB2
  have B3_0 : Blk w3 (w.heap.size) 23 #[.int .i64 x, .int .i64 y, .int .i64 z] := HH3.out (w.heap.size, 23, [.int .i64 x, .int .i64 y, .int .i64 z]) (by simp)
  have k3_0_0 : w3.cell? ⟨w.heap.size, 0, none⟩ = some (.int .i64 x) := B3_0.cell 0
  have k3_0_1 : w3.cell? ⟨w.heap.size, 1, none⟩ = some (.int .i64 y) := B3_0.cell 1
  have k3_0_2 : w3.cell? ⟨w.heap.size, 2, none⟩ = some (.int .i64 z) := B3_0.cell 2
  have z3_0 : w.heap.size < w3.heap.size := B3_0.lt
  clear B3_0
  have B3_1 : Blk w3 (w.heap.size + 1) 23 #[.int .i64 0, .int .i64 0, .int .i64 0] := HH3.out (w.heap.size + 1, 23, [.int .i64 0, .int .i64 0, .int .i64 0]) (by simp)
  have k3_1_0 : w3.cell? ⟨w.heap.size + 1, 0, none⟩ = some (.int .i64 0) := B3_1.cell 0
  have k3_1_1 : w3.cell? ⟨w.heap.size + 1, 1, none⟩ = some (.int .i64 0) := B3_1.cell 1
  have k3_1_2 : w3.cell? ⟨w.heap.size + 1, 2, none⟩ = some (.int .i64 0) := B3_1.cell 2
  have z3_1 : w.heap.size + 1 < w3.heap.size := B3_1.lt
  clear B3_1
  have B3_2 : Blk w3 (w2.heap.size) 62 #[.int .i64 x, .int .i64 y, .int .i64 z] := HH3.out (w2.heap.size, 62, [.int .i64 x, .int .i64 y, .int .i64 z]) (by simp)
  have k3_2_0 : w3.cell? ⟨w2.heap.size, 0, none⟩ = some (.int .i64 x) := B3_2.cell 0
  have k3_2_1 : w3.cell? ⟨w2.heap.size, 1, none⟩ = some (.int .i64 y) := B3_2.cell 1
  have k3_2_2 : w3.cell? ⟨w2.heap.size, 2, none⟩ = some (.int .i64 z) := B3_2.cell 2
  have z3_2 : w2.heap.size < w3.heap.size := B3_2.lt
  clear B3_2
  go_wp2_with fail
  rw [rounds_succ]
  go_wp2_with fail
  refine (q2.out _).mono ?_
  rintro e w4 ⟨rfl, hb4⟩
  have HH4 := Lib.hid ((HH3.out).below hb4)
  have HB4 := Lib.hid (below_trans (HB3.out) hb4)
  clear k3_0_0 k3_0_1 k3_0_2 z3_0 k3_1_0 k3_1_1 k3_1_2 z3_1 k3_2_0 k3_2_1 k3_2_2 z3_2
  clear hb4
  clear HH3 HB3
  have B4_0 : Blk w4 (w.heap.size) 23 #[.int .i64 x, .int .i64 y, .int .i64 z] := HH4.out (w.heap.size, 23, [.int .i64 x, .int .i64 y, .int .i64 z]) (by simp)
  have k4_0_0 : w4.cell? ⟨w.heap.size, 0, none⟩ = some (.int .i64 x) := B4_0.cell 0
  have k4_0_1 : w4.cell? ⟨w.heap.size, 1, none⟩ = some (.int .i64 y) := B4_0.cell 1
  have k4_0_2 : w4.cell? ⟨w.heap.size, 2, none⟩ = some (.int .i64 z) := B4_0.cell 2
  have z4_0 : w.heap.size < w4.heap.size := B4_0.lt
  clear B4_0
  have B4_1 : Blk w4 (w.heap.size + 1) 23 #[.int .i64 0, .int .i64 0, .int .i64 0] := HH4.out (w.heap.size + 1, 23, [.int .i64 0, .int .i64 0, .int .i64 0]) (by simp)
  have k4_1_0 : w4.cell? ⟨w.heap.size + 1, 0, none⟩ = some (.int .i64 0) := B4_1.cell 0
  have k4_1_1 : w4.cell? ⟨w.heap.size + 1, 1, none⟩ = some (.int .i64 0) := B4_1.cell 1
  have k4_1_2 : w4.cell? ⟨w.heap.size + 1, 2, none⟩ = some (.int .i64 0) := B4_1.cell 2
  have z4_1 : w.heap.size + 1 < w4.heap.size := B4_1.lt
  clear B4_1
  have B4_2 : Blk w4 (w2.heap.size) 62 #[.int .i64 x, .int .i64 y, .int .i64 z] := HH4.out (w2.heap.size, 62, [.int .i64 x, .int .i64 y, .int .i64 z]) (by simp)
  have k4_2_0 : w4.cell? ⟨w2.heap.size, 0, none⟩ = some (.int .i64 x) := B4_2.cell 0
  have k4_2_1 : w4.cell? ⟨w2.heap.size, 1, none⟩ = some (.int .i64 y) := B4_2.cell 1
  have k4_2_2 : w4.cell? ⟨w2.heap.size, 2, none⟩ = some (.int .i64 z) := B4_2.cell 2
  have z4_2 : w2.heap.size < w4.heap.size := B4_2.lt
  clear B4_2
  go_wp2_with fail
  rw [rounds_succ]
  go_wp2_with fail
  refine (q3.out _).mono ?_
  rintro e w5 ⟨rfl, hb5⟩
  have HH5 := Lib.hid ((HH4.out).below hb5)
  have HB5 := Lib.hid (below_trans (HB4.out) hb5)
  clear k4_0_0 k4_0_1 k4_0_2 z4_0 k4_1_0 k4_1_1 k4_1_2 z4_1 k4_2_0 k4_2_1 k4_2_2 z4_2
  clear hb5
  clear HH4 HB4
  have B5_0 : Blk w5 (w.heap.size) 23 #[.int .i64 x, .int .i64 y, .int .i64 z] := HH5.out (w.heap.size, 23, [.int .i64 x, .int .i64 y, .int .i64 z]) (by simp)
  have k5_0_0 : w5.cell? ⟨w.heap.size, 0, none⟩ = some (.int .i64 x) := B5_0.cell 0
  have f5_0_0 : w5.frozen? ⟨w.heap.size, 0, none⟩ = false := B5_0.frozen 0
  have k5_0_1 : w5.cell? ⟨w.heap.size, 1, none⟩ = some (.int .i64 y) := B5_0.cell 1
  have f5_0_1 : w5.frozen? ⟨w.heap.size, 1, none⟩ = false := B5_0.frozen 1
  have k5_0_2 : w5.cell? ⟨w.heap.size, 2, none⟩ = some (.int .i64 z) := B5_0.cell 2
  have f5_0_2 : w5.frozen? ⟨w.heap.size, 2, none⟩ = false := B5_0.frozen 2
  have z5_0 : w.heap.size < w5.heap.size := B5_0.lt
  clear B5_0
  have B5_1 : Blk w5 (w.heap.size + 1) 23 #[.int .i64 0, .int .i64 0, .int .i64 0] := HH5.out (w.heap.size + 1, 23, [.int .i64 0, .int .i64 0, .int .i64 0]) (by simp)
  have k5_1_0 : w5.cell? ⟨w.heap.size + 1, 0, none⟩ = some (.int .i64 0) := B5_1.cell 0
  have f5_1_0 : w5.frozen? ⟨w.heap.size + 1, 0, none⟩ = false := B5_1.frozen 0
  have k5_1_1 : w5.cell? ⟨w.heap.size + 1, 1, none⟩ = some (.int .i64 0) := B5_1.cell 1
  have f5_1_1 : w5.frozen? ⟨w.heap.size + 1, 1, none⟩ = false := B5_1.frozen 1
  have k5_1_2 : w5.cell? ⟨w.heap.size + 1, 2, none⟩ = some (.int .i64 0) := B5_1.cell 2
  have f5_1_2 : w5.frozen? ⟨w.heap.size + 1, 2, none⟩ = false := B5_1.frozen 2
  have z5_1 : w.heap.size + 1 < w5.heap.size := B5_1.lt
  clear B5_1
  have B5_2 : Blk w5 (w2.heap.size) 62 #[.int .i64 x, .int .i64 y, .int .i64 z] := HH5.out (w2.heap.size, 62, [.int .i64 x, .int .i64 y, .int .i64 z]) (by simp)
  have k5_2_0 : w5.cell? ⟨w2.heap.size, 0, none⟩ = some (.int .i64 x) := B5_2.cell 0
  have f5_2_0 : w5.frozen? ⟨w2.heap.size, 0, none⟩ = false := B5_2.frozen 0
  have k5_2_1 : w5.cell? ⟨w2.heap.size, 1, none⟩ = some (.int .i64 y) := B5_2.cell 1
  have f5_2_1 : w5.frozen? ⟨w2.heap.size, 1, none⟩ = false := B5_2.frozen 1
  have k5_2_2 : w5.cell? ⟨w2.heap.size, 2, none⟩ = some (.int .i64 z) := B5_2.cell 2
  have f5_2_2 : w5.frozen? ⟨w2.heap.size, 2, none⟩ = false := B5_2.frozen 2
  have z5_2 : w2.heap.size < w5.heap.size := B5_2.lt
  clear B5_2
  go_wp2
  rw [rounds_succ]
  go_wp2
  refine wp_loop_rounds 4 ?_
  rw [rounds_succ]
  go_wp2
  rw [rounds_succ]
  go_wp2
  rw [rounds_succ]
  go_wp2
  rw [rounds_succ]
  go_wp2_with fail
  refine (vec_any _ _ _ _).mono ?_
  have BR : Blk w5 (w.heap.size + 1) 23 #[.int .i64 0, .int .i64 0, .int .i64 0] := HH5.out (w.heap.size + 1, 23, [.int .i64 0, .int .i64 0, .int .i64 0]) (by simp)
  have BR2 := Lib.hid (((BR.far (p := ⟨w2.heap.size, 0, none⟩) (by simp; omega) (.int .i64 (x.tdiv G))).far (p := ⟨w2.heap.size, 1, none⟩) (by simp; omega) (.int .i64 (y.tdiv G))).far (p := ⟨w2.heap.size, 2, none⟩) (by simp; omega) (.int .i64 (z.tdiv G)))
  have HB2' : Below w.heap.size w (((w5.setCell ⟨w2.heap.size, 0, none⟩ (.int .i64 (x.tdiv G))).setCell ⟨w2.heap.size, 1, none⟩ (.int .i64 (y.tdiv G))).setCell ⟨w2.heap.size, 2, none⟩ (.int .i64 (z.tdiv G))) := below_set (below_set (below_set HB5.out (by simp; omega) _) (by simp; omega) _) (by simp; omega) _
  rintro e w6 ⟨rfl, hb6⟩
  have BR3 := Blk.below BR2.out hb6 BR2.out.lt
  have HB6 := Lib.hid (below_trans HB2' hb6)
  clear BR BR2 HB2' hb6 HH5 HB5 k5_0_0 f5_0_0 k5_0_1 f5_0_1 k5_0_2 f5_0_2 z5_0 k5_1_0 f5_1_0 k5_1_1 f5_1_1 k5_1_2 f5_1_2 z5_1 k5_2_0 f5_2_0 k5_2_1 f5_2_1 k5_2_2 f5_2_2 z5_2
  have r0 : w6.cell? ⟨w.heap.size + 1, 0, none⟩ = some (.int .i64 0) := BR3.cell 0
  have r1 : w6.cell? ⟨w.heap.size + 1, 1, none⟩ = some (.int .i64 0) := BR3.cell 1
  have r2 : w6.cell? ⟨w.heap.size + 1, 2, none⟩ = some (.int .i64 0) := BR3.cell 2
  have f0 := BR3.frozen 0
  have f1 := BR3.frozen 1
  have f2 := BR3.frozen 2
  have hz := BR3.lt
  clear BR3
  go_wp2
  refine bodyPost_ret (v := .tuple #[.agg #[.int .i64 (x.tdiv G), .int .i64 (y.tdiv G), .int .i64 (z.tdiv G)], .int .i64 G, .int .i64 0]) ?_ rfl ⟨rfl, ?_⟩
  · simp [results, Try.results27, go_sem, *]
  · repeat (first | exact HB6.out | refine below_set ?_ (by simp <;> omega) _ | refine below_alloc ?_ _)
end Go.Proofs.Ytkfdbhhchnbjdaa.Ve
