/- plane: normal forms. -/
import Derived.Test.YtnaiiemgmahcjaaPl3
import Derived.Test.YtnaiiemgmahcjaaPlG
namespace Go.Proofs.Ytnaiiemgmahcjaa.Ev
open Go.RowKit
set_option linter.unusedVariables false
set_option linter.unusedSimpArgs false
set_option maxRecDepth 4000

theorem gcdI_nonneg (a b : Int) : 0 ≤ gcdI a b := by unfold gcdI; omega
theorem gcdI_bd {a b : Int} (M : Nat) (h1 : a.natAbs ≤ M) (h2 : b.natAbs ≤ M) : gcdI a b ≤ M := by
  unfold gcdI Int.gcd
  by_cases h : a.natAbs = 0
  · rw [h, Nat.gcd_zero_left]; omega
  · have := Nat.gcd_le_left b.natAbs (by omega : 0 < a.natAbs); omega
theorem gcdI_zero {a b : Int} (h : gcdI a b = 0) : a = 0 ∧ b = 0 := by
  unfold gcdI at h
  have h' : Int.gcd a b = 0 := by omega
  exact Int.gcd_eq_zero_iff.1 h'
theorem bd_gcd {a b : Int} (h1 : bd (-1000) 1000 a) (h2 : bd (-1000) 1000 b) : bd 0 1000 (gcdI a b) :=
  ⟨gcdI_nonneg _ _, gcdI_bd 1000 (by simp only [bd] at h1; omega) (by simp only [bd] at h2; omega)⟩
def gk (A B C : Int) : Int := gcdI (gcdI (gcdI 0 A) B) C
theorem gk_bd {A B C : Int} (h1 : bd (-1000) 1000 A) (h2 : bd (-1000) 1000 B) (h3 : bd (-1000) 1000 C) (h0 : A ≠ 0 ∨ B ≠ 0 ∨ C ≠ 0) : bd 1 1000 (gk A B C) := by
  have b1 := bd_gcd (a := 0) (b := A) ⟨by omega, by omega⟩ h1
  have b2 := bd_gcd (bd_weak (l := -1000) (h := 1000) b1 rfl) h2
  have b3 := bd_gcd (bd_weak (l := -1000) (h := 1000) b2 rfl) h3
  refine ⟨?_, b3.2⟩
  rcases Int.lt_trichotomy (gk A B C) 0 with h | h | h
  · exact absurd b3.1 (by unfold gk at h; omega)
  · exfalso
    obtain ⟨e1, e2⟩ := gcdI_zero h
    obtain ⟨e3, e4⟩ := gcdI_zero e1
    obtain ⟨_, e5⟩ := gcdI_zero e3
    omega
  · omega
theorem fdiv_bd {n d m : Int} (h : bd (-m) m n) (hd : 0 < d) : bd (-m) m (n / d) := by
  obtain ⟨h1, h2⟩ := h
  constructor
  · rw [Int.le_ediv_iff_mul_le hd]
    have h3 : m * 1 ≤ m * d := Int.mul_le_mul_of_nonneg_left (by omega) (by omega)
    rw [Int.neg_mul]; omega
  · have := Int.ediv_le_ediv hd h2
    exact Int.le_trans this (Int.ediv_le_self d (show 0 ≤ m by omega))
theorem floor_neg {n d : Int} (hd : 0 < d) (h : Int.tmod n d < 0) : Int.tdiv n d - 1 = n / d := by
  have e := Int.mul_tdiv_add_tmod n d
  have b : -d < Int.tmod n d := by
    have h1 : (Int.tmod n d).natAbs < d.natAbs := by rw [Int.natAbs_tmod]; exact Nat.mod_lt _ (by omega)
    omega
  have : n = (Int.tmod n d + d) + d * (Int.tdiv n d - 1) := by rw [Int.mul_sub]; omega
  rw [this, Int.add_mul_ediv_left _ _ (by omega), Int.ediv_eq_zero_of_lt (by omega) (by omega)]
  rw [← this]; omega
theorem floor_pos {n d : Int} (hd : 0 < d) (h : ¬ Int.tmod n d < 0) : Int.tdiv n d = n / d := by
  have e := Int.mul_tdiv_add_tmod n d
  have b : Int.tmod n d < d := by
    have h1 : (Int.tmod n d).natAbs < d.natAbs := by rw [Int.natAbs_tmod]; exact Nat.mod_lt _ (by omega)
    omega
  have : n = Int.tmod n d + d * Int.tdiv n d := by omega
  rw [this, Int.add_mul_ediv_left _ _ (by omega), Int.ediv_eq_zero_of_lt (by omega) (by omega)]
  rw [← this]; omega
theorem floor_any (n d : Int) (w : World) (hn : bd (-10000000000) 10000000000 n) (hd : bd 1 1000 d) : Calls Try.prog 47 #[.int .i64 n, .int .i64 d] w fun e w' => e = .returned (.int .i64 (n / d)) ∧ Below w.heap.size w w' := by
  rcases h0 : (decide ((Int.tmod n d) ≤ (-1))) with _ | _
  · have bq0 : bd (-10000000000) 10000000000 (Int.tdiv n d) := bd_quo hn 10000000000 rfl
    have bq1 : bd (-10000000000) 10000000000 (Int.tmod n d) := bd_rem hn 10000000000 rfl
    have hr : (.int .i64 (n / d) : Value) = .int .i64 (Int.tdiv n d) := by (rw [floor_pos (by omega) (by have g := of_decide_eq_false h0; omega)])
    rw [hr]
    exact run_it (P := Try.prog) (ρ := env [n, d, (Int.tdiv n d), (Int.tmod n d)]) (all_cons (quoOK (ty := 2) (n := (sn 0)) (m := (sn 1)) (r := (sn 2)) (a := n) (b := d) (by kernel_rfl) (by kernel_rfl) (by kernel_rfl) (show d ≠ 0 by omega) (wr_bd bq0 rfl)) (all_cons (remOK (ty := 2) (n := (sn 0)) (m := (sn 1)) (r := (sn 3)) (a := n) (b := d) (by kernel_rfl) (by kernel_rfl) (by kernel_rfl) (show d ≠ 0 by omega)) (all_cons (cmpOK (op := .lss) (ty := 2) (k := .i64) (n := (sn 3)) (m := 0) (t := false) (a := (Int.tmod n d)) (b := 0) (by kernel_rfl) (by kernel_rfl) (congrArg some ((lt_c h0 rfl)))) all_nil))) all_nil all_nil all_nil all_nil 1000 50 47 [sy 0, sy 1] (sy 2) (args' := #[.int .i64 n, .int .i64 d]) (v' := .int .i64 (Int.tdiv n d)) (by kernel_rfl) (by kernel_rfl) (by kernel_rfl) w
  · have bq0 : bd (-10000000000) 10000000000 (Int.tdiv n d) := bd_quo hn 10000000000 rfl
    have bq1 : bd (-10000000000) 10000000000 (Int.tmod n d) := bd_rem hn 10000000000 rfl
    have bq2 : bd (-10000000001) 9999999999 (((Int.tdiv n d) - 1)) := bd_sub bq0 (bd_lit (l := 1) (h := 1) rfl) rfl
    have hr : (.int .i64 (n / d) : Value) = .int .i64 (((Int.tdiv n d) - 1)) := by (rw [floor_neg (by omega) (by have g := of_decide_eq_true h0; omega)])
    rw [hr]
    exact run_it (P := Try.prog) (ρ := env [n, d, (Int.tdiv n d), (Int.tmod n d), ((Int.tdiv n d) - 1)]) (all_cons (quoOK (ty := 2) (n := (sn 0)) (m := (sn 1)) (r := (sn 2)) (a := n) (b := d) (by kernel_rfl) (by kernel_rfl) (by kernel_rfl) (show d ≠ 0 by omega) (wr_bd bq0 rfl)) (all_cons (remOK (ty := 2) (n := (sn 0)) (m := (sn 1)) (r := (sn 3)) (a := n) (b := d) (by kernel_rfl) (by kernel_rfl) (by kernel_rfl) (show d ≠ 0 by omega)) (all_cons (cmpOK (op := .lss) (ty := 2) (k := .i64) (n := (sn 3)) (m := 0) (t := true) (a := (Int.tmod n d)) (b := 0) (by kernel_rfl) (by kernel_rfl) (congrArg some ((lt_c h0 rfl)))) (all_cons (arOK (op := .sub) (ty := 2) (k := .i64) (n := (sn 2)) (m := 1) (r := (sn 4)) (a := (Int.tdiv n d)) (b := 1) (c := (((Int.tdiv n d) - 1))) (d := (Int.tdiv n d) - 1) (by kernel_rfl) (by kernel_rfl) (by kernel_rfl) rfl (wr_bd bq2 rfl)) all_nil)))) all_nil all_nil all_nil all_nil 1000 50 47 [sy 0, sy 1] (sy 4) (args' := #[.int .i64 n, .int .i64 d]) (v' := .int .i64 (((Int.tdiv n d) - 1))) (by kernel_rfl) (by kernel_rfl) (by kernel_rfl) w
theorem quotient_any (n d : Int) (w : World) (hn : bd (-10000000000) 10000000000 n) (hd : bd 1 1000 d) : Calls Try.prog 43 #[.int .i64 n, .int .i64 d] w fun e w' => e = .returned (.int .i64 (n / d)) ∧ Below w.heap.size w w' := by
  rcases h0 : (decide ((Int.tmod n d) ≤ (-1))) with _ | _
  · have bq0 : bd (-10000000000) 10000000000 (Int.tdiv n d) := bd_quo hn 10000000000 rfl
    have bq1 : bd (-10000000000) 10000000000 (Int.tmod n d) := bd_rem hn 10000000000 rfl
    have hr : (.int .i64 (n / d) : Value) = .int .i64 (Int.tdiv n d) := by (rw [floor_pos (by omega) (by have g := of_decide_eq_false h0; omega)])
    rw [hr]
    exact run_it (P := Try.prog) (ρ := env [n, d, (Int.tdiv n d), (Int.tmod n d)]) (all_cons (quoOK (ty := 2) (n := (sn 0)) (m := (sn 1)) (r := (sn 2)) (a := n) (b := d) (by kernel_rfl) (by kernel_rfl) (by kernel_rfl) (show d ≠ 0 by omega) (wr_bd bq0 rfl)) (all_cons (remOK (ty := 2) (n := (sn 0)) (m := (sn 1)) (r := (sn 3)) (a := n) (b := d) (by kernel_rfl) (by kernel_rfl) (by kernel_rfl) (show d ≠ 0 by omega)) (all_cons (cmpOK (op := .lss) (ty := 2) (k := .i64) (n := (sn 3)) (m := 0) (t := false) (a := (Int.tmod n d)) (b := 0) (by kernel_rfl) (by kernel_rfl) (congrArg some ((lt_c h0 rfl)))) all_nil))) all_nil all_nil all_nil all_nil 1000 50 43 [sy 0, sy 1] (sy 2) (args' := #[.int .i64 n, .int .i64 d]) (v' := .int .i64 (Int.tdiv n d)) (by kernel_rfl) (by kernel_rfl) (by kernel_rfl) w
  · have bq0 : bd (-10000000000) 10000000000 (Int.tdiv n d) := bd_quo hn 10000000000 rfl
    have bq1 : bd (-10000000000) 10000000000 (Int.tmod n d) := bd_rem hn 10000000000 rfl
    have bq2 : bd (-10000000001) 9999999999 (((Int.tdiv n d) - 1)) := bd_sub bq0 (bd_lit (l := 1) (h := 1) rfl) rfl
    have hr : (.int .i64 (n / d) : Value) = .int .i64 (((Int.tdiv n d) - 1)) := by (rw [floor_neg (by omega) (by have g := of_decide_eq_true h0; omega)])
    rw [hr]
    exact run_it (P := Try.prog) (ρ := env [n, d, (Int.tdiv n d), (Int.tmod n d), ((Int.tdiv n d) - 1)]) (all_cons (quoOK (ty := 2) (n := (sn 0)) (m := (sn 1)) (r := (sn 2)) (a := n) (b := d) (by kernel_rfl) (by kernel_rfl) (by kernel_rfl) (show d ≠ 0 by omega) (wr_bd bq0 rfl)) (all_cons (remOK (ty := 2) (n := (sn 0)) (m := (sn 1)) (r := (sn 3)) (a := n) (b := d) (by kernel_rfl) (by kernel_rfl) (by kernel_rfl) (show d ≠ 0 by omega)) (all_cons (cmpOK (op := .lss) (ty := 2) (k := .i64) (n := (sn 3)) (m := 0) (t := true) (a := (Int.tmod n d)) (b := 0) (by kernel_rfl) (by kernel_rfl) (congrArg some ((lt_c h0 rfl)))) (all_cons (arOK (op := .sub) (ty := 2) (k := .i64) (n := (sn 2)) (m := 1) (r := (sn 4)) (a := (Int.tdiv n d)) (b := 1) (c := (((Int.tdiv n d) - 1))) (d := (Int.tdiv n d) - 1) (by kernel_rfl) (by kernel_rfl) (by kernel_rfl) rfl (wr_bd bq2 rfl)) all_nil)))) all_nil all_nil all_nil all_nil 1000 50 43 [sy 0, sy 1] (sy 4) (args' := #[.int .i64 n, .int .i64 d]) (v' := .int .i64 (((Int.tdiv n d) - 1))) (by kernel_rfl) (by kernel_rfl) (by kernel_rfl) w
theorem primitive_any (A B C : Int) (w : World) (hA : bd (-1000) 1000 A) (hB : bd (-1000) 1000 B) (hC : bd (-1000) 1000 C) (h0 : A ≠ 0 ∨ B ≠ 0 ∨ C ≠ 0) : Calls Try.prog 42 #[.agg #[.int .i64 A, .int .i64 B, .int .i64 C]] w fun e w' => e = .returned (.tuple #[.agg #[.int .i64 ((Int.tdiv A (gk A B C))), .int .i64 ((Int.tdiv B (gk A B C))), .int .i64 ((Int.tdiv C (gk A B C)))], .int .i64 (gk A B C), .int .i64 0]) ∧ Below w.heap.size w w' := by
  have bq0 : bd 0 1000 (gcdI 0 A) := bd_gcd ⟨by omega, by omega⟩ hA
  have bq1 : bd 0 1000 ((gcdI (gcdI 0 A) B)) := bd_gcd (bd_weak bq0 rfl) hB
  have bq2 : bd 1 1000 (gk A B C) := gk_bd hA hB hC h0
  have bq3 : bd (-1000) 1000 ((Int.tdiv A (gk A B C))) := bd_quo hA 1000 rfl
  have bq4 : bd (-1000) 1000 ((Int.tdiv B (gk A B C))) := bd_quo hB 1000 rfl
  have bq5 : bd (-1000) 1000 ((Int.tdiv C (gk A B C))) := bd_quo hC 1000 rfl
  exact run_it (P := Try.prog) (ρ := env [A, B, C, (gk A B C), (Int.tdiv A (gk A B C)), (Int.tdiv B (gk A B C)), (Int.tdiv C (gk A B C)), (gcdI 0 A), (gcdI (gcdI 0 A) B)]) (all_cons (cmpOK (op := .lss) (ty := 3) (k := .i64) (n := (sn 0)) (m := (-1000000)) (t := false) (a := A) (b := (-1000000)) (by kernel_rfl) (by kernel_rfl) (congrArg some ((lt_c (show decide (A ≤ (-1000001)) = false by have q0 := hA; simp only [decide_eq_false_iff_not]; omega) rfl)))) (all_cons (cmpOK (op := .gtr) (ty := 3) (k := .i64) (n := (sn 0)) (m := 1000000) (t := false) (a := A) (b := 1000000) (by kernel_rfl) (by kernel_rfl) (congrArg some ((gt_of_le (show decide (A ≤ 1000000) = true by have q0 := hA; simp only [decide_eq_true_eq]; omega))))) (all_cons (cmpOK (op := .lss) (ty := 3) (k := .i64) (n := (sn 1)) (m := (-1000000)) (t := false) (a := B) (b := (-1000000)) (by kernel_rfl) (by kernel_rfl) (congrArg some ((lt_c (show decide (B ≤ (-1000001)) = false by have q0 := hB; simp only [decide_eq_false_iff_not]; omega) rfl)))) (all_cons (cmpOK (op := .gtr) (ty := 3) (k := .i64) (n := (sn 1)) (m := 1000000) (t := false) (a := B) (b := 1000000) (by kernel_rfl) (by kernel_rfl) (congrArg some ((gt_of_le (show decide (B ≤ 1000000) = true by have q0 := hB; simp only [decide_eq_true_eq]; omega))))) (all_cons (cmpOK (op := .lss) (ty := 3) (k := .i64) (n := (sn 2)) (m := (-1000000)) (t := false) (a := C) (b := (-1000000)) (by kernel_rfl) (by kernel_rfl) (congrArg some ((lt_c (show decide (C ≤ (-1000001)) = false by have q0 := hC; simp only [decide_eq_false_iff_not]; omega) rfl)))) (all_cons (cmpOK (op := .gtr) (ty := 3) (k := .i64) (n := (sn 2)) (m := 1000000) (t := false) (a := C) (b := 1000000) (by kernel_rfl) (by kernel_rfl) (congrArg some ((gt_of_le (show decide (C ≤ 1000000) = true by have q0 := hC; simp only [decide_eq_true_eq]; omega))))) (all_cons (cmpOK (op := .eql) (ty := 3) (k := .i64) (n := (sn 3)) (m := 0) (t := false) (a := (gk A B C)) (b := 0) (by kernel_rfl) (by kernel_rfl) (congrArg some ((show ((gk A B C) == 0) = false by have q0 := bq2; simp only [beq_eq_false_iff_ne, ne_eq]; omega)))) (all_cons (quoOK (ty := 3) (n := (sn 0)) (m := (sn 3)) (r := (sn 4)) (a := A) (b := (gk A B C)) (by kernel_rfl) (by kernel_rfl) (by kernel_rfl) (show gk A B C ≠ 0 by omega) (wr_bd bq3 rfl)) (all_cons (quoOK (ty := 3) (n := (sn 1)) (m := (sn 3)) (r := (sn 5)) (a := B) (b := (gk A B C)) (by kernel_rfl) (by kernel_rfl) (by kernel_rfl) (show gk A B C ≠ 0 by omega) (wr_bd bq4 rfl)) (all_cons (quoOK (ty := 3) (n := (sn 2)) (m := (sn 3)) (r := (sn 6)) (a := C) (b := (gk A B C)) (by kernel_rfl) (by kernel_rfl) (by kernel_rfl) (show gk A B C ≠ 0 by omega) (wr_bd bq5 rfl)) all_nil)))))))))) all_nil all_nil all_nil (all_cons (callOK (f := 59) (args := [.int .i64 0, sy 0]) (v := sy 7) (args' := #[.int .i64 0, .int .i64 A]) (v' := .int .i64 (gcdI 0 A)) (by kernel_rfl) (by kernel_rfl) (by kernel_rfl) (fun w => divisor_any 0 A ⟨by omega, by omega⟩ ⟨by omega, by omega⟩ w)) (all_cons (callOK (f := 59) (args := [sy 7, sy 1]) (v := sy 8) (args' := #[.int .i64 (gcdI 0 A), .int .i64 B]) (v' := .int .i64 ((gcdI (gcdI 0 A) B))) (by kernel_rfl) (by kernel_rfl) (by kernel_rfl) (fun w => divisor_any (gcdI 0 A) B ⟨by omega, by omega⟩ ⟨by omega, by omega⟩ w)) (all_cons (callOK (f := 59) (args := [sy 8, sy 2]) (v := sy 3) (args' := #[.int .i64 ((gcdI (gcdI 0 A) B)), .int .i64 C]) (v' := .int .i64 (gk A B C)) (by kernel_rfl) (by kernel_rfl) (by kernel_rfl) (fun w => divisor_any ((gcdI (gcdI 0 A) B)) C ⟨by omega, by omega⟩ ⟨by omega, by omega⟩ w)) all_nil))) 1000 50 42 [.agg #[sy 0, sy 1, sy 2]] (.tuple #[.agg #[sy 4, sy 5, sy 6], sy 3, .int .i64 0]) (args' := #[.agg #[.int .i64 A, .int .i64 B, .int .i64 C]]) (v' := .tuple #[.agg #[.int .i64 ((Int.tdiv A (gk A B C))), .int .i64 ((Int.tdiv B (gk A B C))), .int .i64 ((Int.tdiv C (gk A B C)))], .int .i64 (gk A B C), .int .i64 0]) (by kernel_rfl) (by kernel_rfl) (by kernel_rfl) w
def nd (D A B C : Int) : Int := D / gk A B C
theorem normal_ok (A B C D : Int) (w : World) (hk : (chkH A B C D == 0) = true) : Calls Try.prog 23 #[.agg #[.int .i64 A, .int .i64 B, .int .i64 C, .int .i64 D]] w fun e w' => e = .returned (.tuple #[.agg #[.int .i64 ((Int.tdiv A (gk A B C))), .int .i64 ((Int.tdiv B (gk A B C))), .int .i64 ((Int.tdiv C (gk A B C))), .int .i64 (nd D A B C)], .int .i64 0]) ∧ Below w.heap.size w w' := by
  obtain ⟨hA, hB, hC, hD, h0⟩ := chkH_ok hk
  have hkb := gk_bd hA hB hC h0
  exact run_it (P := Try.prog) (ρ := env [A, B, C, D, (chkH A B C D), (gk A B C), (Int.tdiv A (gk A B C)), (Int.tdiv B (gk A B C)), (Int.tdiv C (gk A B C)), (nd D A B C)]) (all_cons (cmpOK (op := .neq) (ty := 27) (k := .i64) (n := (sn 4)) (m := 0) (t := false) (a := (chkH A B C D)) (b := 0) (by kernel_rfl) (by kernel_rfl) (congrArg some ((ne_of (show ((chkH A B C D) == 0) = true from hk))))) all_nil) all_nil (all_cons (convOK (s := 3) (d := 2) (ds := .int .i64) (k := .i64) (l := .i64) (n := (sn 5)) (r := (sn 5)) (a := (gk A B C)) (c := (gk A B C)) (by kernel_rfl) (by kernel_rfl) (by kernel_rfl) (by kernel_rfl) (wr_bd hkb rfl)) all_nil) all_nil (all_cons (callOK (f := 14) (args := [.agg #[sy 0, sy 1, sy 2, sy 3]]) (v := sy 4) (args' := #[.agg #[.int .i64 A, .int .i64 B, .int .i64 C, .int .i64 D]]) (v' := .int .i64 (chkH A B C D)) (by kernel_rfl) (by kernel_rfl) (by kernel_rfl) (fun w => checkH A B C D w)) (all_cons (callOK (f := 42) (args := [.agg #[sy 0, sy 1, sy 2]]) (v := .tuple #[.agg #[sy 6, sy 7, sy 8], sy 5, .int .i64 0]) (args' := #[.agg #[.int .i64 A, .int .i64 B, .int .i64 C]]) (v' := .tuple #[.agg #[.int .i64 ((Int.tdiv A (gk A B C))), .int .i64 ((Int.tdiv B (gk A B C))), .int .i64 ((Int.tdiv C (gk A B C)))], .int .i64 (gk A B C), .int .i64 0]) (by kernel_rfl) (by kernel_rfl) (by kernel_rfl) (fun w => primitive_any A B C w hA hB hC h0)) (all_cons (callOK (f := 43) (args := [sy 3, sy 5]) (v := sy 9) (args' := #[.int .i64 D, .int .i64 (gk A B C)]) (v' := .int .i64 (nd D A B C)) (by kernel_rfl) (by kernel_rfl) (by kernel_rfl) (fun w => quotient_any D (gk A B C) w (bd_weak hD rfl) hkb)) all_nil))) 1000 50 23 [.agg #[sy 0, sy 1, sy 2, sy 3]] (.tuple #[.agg #[sy 6, sy 7, sy 8, sy 9], .int .i64 0]) (args' := #[.agg #[.int .i64 A, .int .i64 B, .int .i64 C, .int .i64 D]]) (v' := .tuple #[.agg #[.int .i64 ((Int.tdiv A (gk A B C))), .int .i64 ((Int.tdiv B (gk A B C))), .int .i64 ((Int.tdiv C (gk A B C))), .int .i64 (nd D A B C)], .int .i64 0]) (by kernel_rfl) (by kernel_rfl) (by kernel_rfl) w
theorem normal_no (A B C D : Int) (w : World) (hk : (chkH A B C D == 0) = false) : Calls Try.prog 23 #[.agg #[.int .i64 A, .int .i64 B, .int .i64 C, .int .i64 D]] w fun e w' => e = .returned (.tuple #[.agg #[.int .i64 0, .int .i64 0, .int .i64 0, .int .i64 0], .int .i64 (chkH A B C D)]) ∧ Below w.heap.size w w' := by
  exact run_it (P := Try.prog) (ρ := env [A, B, C, D, (chkH A B C D)]) (all_cons (cmpOK (op := .neq) (ty := 27) (k := .i64) (n := (sn 4)) (m := 0) (t := true) (a := (chkH A B C D)) (b := 0) (by kernel_rfl) (by kernel_rfl) (congrArg some ((ne_of (show ((chkH A B C D) == 0) = false from hk))))) all_nil) all_nil all_nil all_nil (all_cons (callOK (f := 14) (args := [.agg #[sy 0, sy 1, sy 2, sy 3]]) (v := sy 4) (args' := #[.agg #[.int .i64 A, .int .i64 B, .int .i64 C, .int .i64 D]]) (v' := .int .i64 (chkH A B C D)) (by kernel_rfl) (by kernel_rfl) (by kernel_rfl) (fun w => checkH A B C D w)) all_nil) 1000 50 23 [.agg #[sy 0, sy 1, sy 2, sy 3]] (.tuple #[.agg #[.int .i64 0, .int .i64 0, .int .i64 0, .int .i64 0], sy 4]) (args' := #[.agg #[.int .i64 A, .int .i64 B, .int .i64 C, .int .i64 D]]) (v' := .tuple #[.agg #[.int .i64 0, .int .i64 0, .int .i64 0, .int .i64 0], .int .i64 (chkH A B C D)]) (by kernel_rfl) (by kernel_rfl) (by kernel_rfl) w
theorem gcdI_first (x y : Int) : gcdI (gcdI 0 x) y = gcdI x y := by unfold gcdI Int.gcd; simp
theorem gcdI_abs (x y : Int) : gcdI (x.natAbs : Int) (y.natAbs : Int) = gcdI x y := by unfold gcdI Int.gcd; simp
theorem gcdI_absr (x y : Int) : gcdI x (y.natAbs : Int) = gcdI x y := by unfold gcdI Int.gcd; simp
def ab (x : Int) : Int := (x.natAbs : Int)
theorem gk_ab (A B C : Int) : gcdI (gcdI (ab A) (ab B)) (ab C) = gk A B C := by unfold ab gk; rw [gcdI_abs, gcdI_absr, gcdI_first]
theorem ab_bd {x : Int} (h : bd (-1000) 1000 x) : bd 0 1000 (ab x) := by simp only [bd] at *; unfold ab; omega
theorem abs_any (n : Int) (w : World) (hn : bd (-1000) 1000 n) : Calls Try.prog 46 #[.int .i64 n] w fun e w' => e = .returned (.int .i64 (ab n)) ∧ Below w.heap.size w w' := by
  rcases h0 : (decide (n ≤ (-1))) with _ | _
  · have hr : (.int .i64 (ab n) : Value) = .int .i64 n := by (clear w; simp only [decide_eq_true_eq, decide_eq_false_iff_not] at *; unfold ab; congr 1; omega)
    rw [hr]
    exact run_it (P := Try.prog) (ρ := env [n]) (all_cons (cmpOK (op := .lss) (ty := 3) (k := .i64) (n := (sn 0)) (m := 0) (t := false) (a := n) (b := 0) (by kernel_rfl) (by kernel_rfl) (congrArg some ((lt_c h0 rfl)))) all_nil) all_nil all_nil all_nil all_nil 1000 50 46 [sy 0] (sy 0) (args' := #[.int .i64 n]) (v' := .int .i64 n) (by kernel_rfl) (by kernel_rfl) (by kernel_rfl) w
  · have bq0 : bd (-1000) 1000 (-n) := bd_neg hn rfl
    have hr : (.int .i64 (ab n) : Value) = .int .i64 (-n) := by (clear w; simp only [decide_eq_true_eq, decide_eq_false_iff_not] at *; unfold ab; congr 1; omega)
    rw [hr]
    exact run_it (P := Try.prog) (ρ := env [n, (-n)]) (all_cons (cmpOK (op := .lss) (ty := 3) (k := .i64) (n := (sn 0)) (m := 0) (t := true) (a := n) (b := 0) (by kernel_rfl) (by kernel_rfl) (congrArg some ((lt_c h0 rfl)))) all_nil) (all_cons (negOK (k := .i64) (n := (sn 0)) (r := (sn 1)) (a := n) (c := (-n)) (by kernel_rfl) (by kernel_rfl) (wr_neg bq0 rfl)) all_nil) all_nil all_nil all_nil 1000 50 46 [sy 0] (sy 1) (args' := #[.int .i64 n]) (v' := .int .i64 (-n)) (by kernel_rfl) (by kernel_rfl) (by kernel_rfl) w
theorem rnormal_any (A B C D : Int) (w : World) (hk : (chkH A B C D == 0) = true) : Calls Try.prog 26 #[.agg #[.int .i64 A, .int .i64 B, .int .i64 C, .int .i64 D]] w fun e w' => e = .returned (.agg #[.int .i64 ((Int.tdiv A (gk A B C))), .int .i64 ((Int.tdiv B (gk A B C))), .int .i64 ((Int.tdiv C (gk A B C))), .int .i64 (nd D A B C)]) ∧ Below w.heap.size w w' := by
  obtain ⟨hA, hB, hC, hD, h0⟩ := chkH_ok hk
  have hkb := gk_bd hA hB hC h0
  have bq0 : bd 0 1000 (ab A) := ab_bd hA
  have bq1 : bd 0 1000 (ab B) := ab_bd hB
  have bq2 : bd 0 1000 (ab C) := ab_bd hC
  have bq3 : bd 0 1000 ((gcdI (ab A) (ab B))) := bd_gcd (bd_weak bq0 rfl) (bd_weak bq1 rfl)
  have bq4 : bd (-1000) 1000 ((Int.tdiv A (gk A B C))) := bd_quo hA 1000 rfl
  have bq5 : bd (-1000) 1000 ((Int.tdiv B (gk A B C))) := bd_quo hB 1000 rfl
  have bq6 : bd (-1000) 1000 ((Int.tdiv C (gk A B C))) := bd_quo hC 1000 rfl
  exact run_it (P := Try.prog) (ρ := env [A, B, C, D, (gk A B C), (Int.tdiv A (gk A B C)), (Int.tdiv B (gk A B C)), (Int.tdiv C (gk A B C)), (ab A), (ab B), (ab C), (gcdI (ab A) (ab B)), (nd D A B C)]) (all_cons (quoOK (ty := 3) (n := (sn 0)) (m := (sn 4)) (r := (sn 5)) (a := A) (b := (gk A B C)) (by kernel_rfl) (by kernel_rfl) (by kernel_rfl) (show gk A B C ≠ 0 by omega) (wr_bd bq4 rfl)) (all_cons (quoOK (ty := 3) (n := (sn 1)) (m := (sn 4)) (r := (sn 6)) (a := B) (b := (gk A B C)) (by kernel_rfl) (by kernel_rfl) (by kernel_rfl) (show gk A B C ≠ 0 by omega) (wr_bd bq5 rfl)) (all_cons (quoOK (ty := 3) (n := (sn 2)) (m := (sn 4)) (r := (sn 7)) (a := C) (b := (gk A B C)) (by kernel_rfl) (by kernel_rfl) (by kernel_rfl) (show gk A B C ≠ 0 by omega) (wr_bd bq6 rfl)) all_nil))) all_nil (all_cons (convOK (s := 3) (d := 2) (ds := .int .i64) (k := .i64) (l := .i64) (n := (sn 4)) (r := (sn 4)) (a := (gk A B C)) (c := (gk A B C)) (by kernel_rfl) (by kernel_rfl) (by kernel_rfl) (by kernel_rfl) (wr_bd hkb rfl)) all_nil) all_nil (all_cons (callOK (f := 46) (args := [sy 0]) (v := sy 8) (args' := #[.int .i64 A]) (v' := .int .i64 (ab A)) (by kernel_rfl) (by kernel_rfl) (by kernel_rfl) (fun w => abs_any A w hA)) (all_cons (callOK (f := 46) (args := [sy 1]) (v := sy 9) (args' := #[.int .i64 B]) (v' := .int .i64 (ab B)) (by kernel_rfl) (by kernel_rfl) (by kernel_rfl) (fun w => abs_any B w hB)) (all_cons (callOK (f := 46) (args := [sy 2]) (v := sy 10) (args' := #[.int .i64 C]) (v' := .int .i64 (ab C)) (by kernel_rfl) (by kernel_rfl) (by kernel_rfl) (fun w => abs_any C w hC)) (all_cons (callOK (f := 45) (args := [sy 8, sy 9]) (v := sy 11) (args' := #[.int .i64 (ab A), .int .i64 (ab B)]) (v' := .int .i64 ((gcdI (ab A) (ab B)))) (by kernel_rfl) (by kernel_rfl) (by kernel_rfl) (fun w => rdivisor_any (ab A) (ab B) ⟨by omega, by omega⟩ ⟨by omega, by omega⟩ w)) (all_cons (callOK (f := 45) (args := [sy 11, sy 10]) (v := sy 4) (args' := #[.int .i64 ((gcdI (ab A) (ab B))), .int .i64 (ab C)]) (v' := .int .i64 (gk A B C)) (by kernel_rfl) (by kernel_rfl) (by kernel_rfl) (fun w => by have c := rdivisor_any (gcdI (ab A) (ab B)) (ab C) ⟨by omega, by omega⟩ ⟨by omega, by omega⟩ w; rw [gk_ab] at c; exact c)) (all_cons (callOK (f := 47) (args := [sy 3, sy 4]) (v := sy 12) (args' := #[.int .i64 D, .int .i64 (gk A B C)]) (v' := .int .i64 (nd D A B C)) (by kernel_rfl) (by kernel_rfl) (by kernel_rfl) (fun w => floor_any D (gk A B C) w (bd_weak hD rfl) hkb)) all_nil)))))) 1000 50 26 [.agg #[sy 0, sy 1, sy 2, sy 3]] (.agg #[sy 5, sy 6, sy 7, sy 12]) (args' := #[.agg #[.int .i64 A, .int .i64 B, .int .i64 C, .int .i64 D]]) (v' := .agg #[.int .i64 ((Int.tdiv A (gk A B C))), .int .i64 ((Int.tdiv B (gk A B C))), .int .i64 ((Int.tdiv C (gk A B C))), .int .i64 (nd D A B C)]) (by kernel_rfl) (by kernel_rfl) (by kernel_rfl) w
end Go.Proofs.Ytnaiiemgmahcjaa.Ev
