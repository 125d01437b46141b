/- The part that simplest_row needs. -/
import Derived.Test.YtdmdpkmdilipaaaDoorSp1
namespace Go.Proofs.YtdmdpkmdilipaaaDoor.Ev
open Go.RowKit
set_option linter.unusedVariables false
set_option linter.unusedSimpArgs false
set_option maxRecDepth 8000
variable {ρ ρ1 ρ2 : Env} {P : Program}
/-- the simplest fraction from n1 / d1 to n2 / d2, by their continued fractions -/
def sg : Nat → Int → Int → Int → Int → Int × Int
  | 0, _, _, _, _ => (0, 1)
  | k + 1, n1, d1, n2, d2 =>
    if n1 % d1 = 0 then (n1 / d1, 1)
    else if n1 / d1 < n2 / d2 then (n1 / d1 + 1, 1)
    else (n1 / d1 * (sg k d2 (n2 % d2) d1 (n1 % d1)).1 + (sg k d2 (n2 % d2) d1 (n1 % d1)).2, (sg k d2 (n2 % d2) d1 (n1 % d1)).1)
/-- what the recursion needs and hands on -/
structure SgH (k : Nat) (n1 d1 n2 d2 : Int) : Prop where
  p1 : 0 < n1
  q1 : 0 < d1
  q2 : 0 < d2
  le : n1 * d2 ≤ n2 * d1
  fu : d1 + d2 ≤ (k : Int)
theorem sg_rec {k : Nat} {n1 d1 n2 d2 : Int} (h : SgH (k + 1) n1 d1 n2 d2) (hr : n1 % d1 ≠ 0) (hf : ¬ n1 / d1 < n2 / d2) : SgH k d2 (n2 % d2) d1 (n1 % d1) ∧ n2 / d2 = n1 / d1 ∧ n1 = d1 * (n1 / d1) + n1 % d1 ∧ n2 = d2 * (n1 / d1) + n2 % d2 ∧ n1 % d1 < d1 ∧ n2 % d2 < d2 ∧ 0 ≤ n1 / d1 := by
  obtain ⟨p1, q1, q2, le, fu⟩ := h
  have e1 := Int.mul_ediv_add_emod n1 d1
  have e2 := Int.mul_ediv_add_emod n2 d2
  have l1 := Int.emod_lt_of_pos n1 q1
  have l2 := Int.emod_lt_of_pos n2 q2
  have g1 := Int.emod_nonneg n1 (show d1 ≠ 0 by omega)
  have g2 := Int.emod_nonneg n2 (show d2 ≠ 0 by omega)
  have hm := div_mono q1 q2 le
  have hq : n2 / d2 = n1 / d1 := by omega
  have hn : 0 ≤ n1 / d1 := Int.ediv_nonneg (by omega) (by omega)
  rw [hq] at e2
  generalize n1 / d1 = f at *
  generalize n1 % d1 = r1 at *
  generalize n2 % d2 = r2 at *
  have hx : r1 * d2 ≤ r2 * d1 := by
    rw [← e1, ← e2] at le
    have a1 : (d1 * f + r1) * d2 = f * (d1 * d2) + r1 * d2 := by grind
    have a2 : (d2 * f + r2) * d1 = f * (d1 * d2) + r2 * d1 := by grind
    omega
  have r1p : 0 < r1 := by omega
  have r2p : 0 < r2 := by
    rcases Int.lt_or_le 0 r2 with z | z
    · exact z
    · have z0 : r2 = 0 := by omega
      have := Int.mul_pos r1p q2
      rw [z0, Int.zero_mul] at hx; omega
  exact ⟨⟨q2, r2p, r1p, by rw [Int.mul_comm d2, Int.mul_comm d1]; exact hx, by omega⟩, hq, e1.symm, e2.symm, l1, l2, hn⟩
/-- the result lies in the range, and both of its terms are the least that a fraction of the range has -/
theorem sg_props : ∀ (k : Nat) (n1 d1 n2 d2 : Int), SgH k n1 d1 n2 d2 →
    0 < (sg k n1 d1 n2 d2).1 ∧ 0 < (sg k n1 d1 n2 d2).2 ∧ n1 * (sg k n1 d1 n2 d2).2 ≤ (sg k n1 d1 n2 d2).1 * d1 ∧ (sg k n1 d1 n2 d2).1 * d2 ≤ n2 * (sg k n1 d1 n2 d2).2 ∧
    ∀ p q, 0 < p → 0 < q → n1 * q ≤ p * d1 → p * d2 ≤ n2 * q → (sg k n1 d1 n2 d2).1 ≤ p ∧ (sg k n1 d1 n2 d2).2 ≤ q
  | 0, n1, d1, n2, d2, h => by obtain ⟨p1, q1, q2, le, fu⟩ := h; exfalso; omega
  | k + 1, n1, d1, n2, d2, h => by
    have hh := h
    obtain ⟨p1, q1, q2, le, fu⟩ := h
    have e1 := Int.mul_ediv_add_emod n1 d1
    have g1 := Int.emod_nonneg n1 (show d1 ≠ 0 by omega)
    have l1 := Int.emod_lt_of_pos n1 q1
    have hn : 0 ≤ n1 / d1 := Int.ediv_nonneg (by omega) (by omega)
    unfold sg
    by_cases hr : n1 % d1 = 0
    · rw [if_pos hr]
      show 0 < n1 / d1 ∧ (0 : Int) < 1 ∧ n1 * 1 ≤ n1 / d1 * d1 ∧ n1 / d1 * d2 ≤ n2 * 1 ∧ ∀ p q, 0 < p → 0 < q → n1 * q ≤ p * d1 → p * d2 ≤ n2 * q → n1 / d1 ≤ p ∧ (1 : Int) ≤ q
      generalize n1 / d1 = f at *
      rw [hr] at e1
      have ef : n1 = d1 * f := by omega
      have fp : 0 < f := by
        rcases Int.lt_or_le 0 f with z | z
        · exact z
        · have : f = 0 := by omega
          rw [this, Int.mul_zero] at ef; omega
      refine ⟨fp, by decide, by rw [ef, Int.mul_one, Int.mul_comm]; exact Int.le_refl _, ?_, ?_⟩
      · refine Int.le_of_mul_le_mul_right (a := d1) ?_ q1
        have : f * d2 * d1 = n1 * d2 := by rw [ef]; grind
        rw [Int.mul_one]; omega
      · intro p q hp hq h1 h2
        refine ⟨?_, by omega⟩
        have a1 : f * q ≤ p := by
          refine Int.le_of_mul_le_mul_right (a := d1) ?_ q1
          have : f * q * d1 = n1 * q := by rw [ef]; grind
          omega
        have := Int.mul_le_mul_of_nonneg_left (show (1 : Int) ≤ q by omega) hn
        omega
    · rw [if_neg hr]
      by_cases hf : n1 / d1 < n2 / d2
      · rw [if_pos hf]
        show 0 < n1 / d1 + 1 ∧ (0 : Int) < 1 ∧ n1 * 1 ≤ (n1 / d1 + 1) * d1 ∧ (n1 / d1 + 1) * d2 ≤ n2 * 1 ∧ ∀ p q, 0 < p → 0 < q → n1 * q ≤ p * d1 → p * d2 ≤ n2 * q → n1 / d1 + 1 ≤ p ∧ (1 : Int) ≤ q
        have l2 := Int.ediv_mul_le n2 (show d2 ≠ 0 by omega)
        have l3 := Int.mul_le_mul_of_nonneg_right (show n1 / d1 + 1 ≤ n2 / d2 by omega) (Int.le_of_lt q2)
        generalize n1 / d1 = f at *
        have a0 : (f + 1) * d1 = d1 * f + d1 := by grind
        refine ⟨by omega, by decide, by omega, by omega, ?_⟩
        intro p q hp hq h1 h2
        refine ⟨?_, by omega⟩
        have a1 : f * q < p := by
          refine Int.lt_of_mul_lt_mul_right (a := d1) ?_ (Int.le_of_lt q1)
          have b1 : f * q * d1 = d1 * f * q := by grind
          have b2 : n1 * q = d1 * f * q + n1 % d1 * q := by rw [← Int.add_mul, e1]
          have b3 := Int.mul_pos (show 0 < n1 % d1 by omega) hq
          omega
        have := Int.mul_le_mul_of_nonneg_left (show (1 : Int) ≤ q by omega) hn
        omega
      · rw [if_neg hf]
        obtain ⟨hS, hq, x1, x2, y1, y2, hn'⟩ := sg_rec hh hr hf
        obtain ⟨s1, s2, s3, s4, s5⟩ := sg_props k d2 (n2 % d2) d1 (n1 % d1) hS
        dsimp only
        generalize (sg k d2 (n2 % d2) d1 (n1 % d1)).1 = u at *
        generalize (sg k d2 (n2 % d2) d1 (n1 % d1)).2 = v at *
        have r1p := hS.q2
        have r2p := hS.q1
        generalize n1 / d1 = f at *
        generalize n1 % d1 = r1 at *
        generalize n2 % d2 = r2 at *
        have fu0 : 0 ≤ f * u := Int.mul_nonneg hn (Int.le_of_lt s1)
        refine ⟨by omega, s1, ?_, ?_, ?_⟩
        · have a1 : n1 * u = f * u * d1 + r1 * u := by rw [x1]; grind
          have a2 : (f * u + v) * d1 = f * u * d1 + v * d1 := by rw [Int.add_mul]
          have a3 : u * r1 = r1 * u := Int.mul_comm _ _
          have a4 : d1 * v = v * d1 := Int.mul_comm _ _
          omega
        · have a1 : n2 * u = f * u * d2 + r2 * u := by rw [x2]; grind
          have a2 : (f * u + v) * d2 = f * u * d2 + v * d2 := by rw [Int.add_mul]
          have a3 : u * r2 = r2 * u := Int.mul_comm _ _
          have a4 : d2 * v = v * d2 := Int.mul_comm _ _
          omega
        · intro p q hp hq0 h1 h2
          have b1 : n1 * q = f * q * d1 + r1 * q := by rw [x1]; grind
          have b2 : n2 * q = f * q * d2 + r2 * q := by rw [x2]; grind
          have c1 : r1 * q ≤ (p - f * q) * d1 := by rw [Int.sub_mul]; omega
          have c2 : (p - f * q) * d2 ≤ r2 * q := by rw [Int.sub_mul]; omega
          have pp : 0 < p - f * q := by
            rcases Int.lt_or_le 0 (p - f * q) with z | z
            · exact z
            · have := Int.mul_pos r1p hq0
              have := Int.mul_nonneg (show 0 ≤ -(p - f * q) by omega) (Int.le_of_lt q1)
              rw [Int.neg_mul] at this; omega
          obtain ⟨t1, t2⟩ := s5 q (p - f * q) hq0 pp (by rw [Int.mul_comm d2, Int.mul_comm q]; exact c2) (by rw [Int.mul_comm q, Int.mul_comm d1]; exact c1)
          have := Int.mul_le_mul_of_nonneg_left t1 hn
          exact ⟨by omega, t1⟩
theorem btw_one (n1 d1 n2 d2 : Int) (w : World) (vn1 : bd (-999999999999999999) 999999999999999999 n1) (vd1 : bd 1 999999999999999999 d1) (vn2 : bd (-999999999999999999) 999999999999999999 n2) (vd2 : bd 1 999999999999999999 d2) (h1 : d1 = 1) : Calls Tryd.prog 59 #[.agg #[.int .i64 n1, .int .i64 d1], .agg #[.int .i64 n2, .int .i64 d2]] w fun e w' => e = .returned (.agg #[.int .i64 n1, .int .i64 d1]) ∧ Below w.heap.size w w' := by
  exact run_know (P := Tryd.prog) (ρ := env [n1, d1, n2, d2, (n1 / d1)] [] w) (o := { bin := [(.eql, 2, .int .i64 (sn 1), .int .i64 1, .bool true)], calls := [(31, [.agg #[sy 0, sy 1]], sy 4)] }) ⟨(all_cons (cmpOK (op := .eql) (ty := 2) (k := .i64) (n := (sn 1)) (m := 1) (t := true) (a := d1) (b := 1) (by kernel_rfl) (by kernel_rfl) (congrArg some ((show (d1 == 1) = true from (by simp; exact h1))))) all_nil), all_nil, all_nil, all_nil, (all_cons (callOK (f := 31) (args := [.agg #[sy 0, sy 1]]) (v := sy 4) (args' := #[.agg #[.int .i64 n1, .int .i64 d1]]) (v' := .int .i64 (n1 / d1)) (by kernel_rfl) (by kernel_rfl) (by kernel_rfl) (fun w => rfloor_any n1 d1 w vn1 vd1)) all_nil), all_nil, all_nil, all_nil, all_nil, all_nil, all_nil, all_nil, all_nil, all_nil, all_nil, all_nil, all_nil⟩ 1000 50 59 [.agg #[sy 0, sy 1], .agg #[sy 2, sy 3]] (.agg #[sy 0, sy 1]) (args' := #[.agg #[.int .i64 n1, .int .i64 d1], .agg #[.int .i64 n2, .int .i64 d2]]) (v' := .agg #[.int .i64 n1, .int .i64 d1]) (by kernel_rfl) (by kernel_rfl) (by kernel_rfl) w (Below.refl _ _)
theorem btw_less (n1 d1 n2 d2 : Int) (w : World) (vn1 : bd (-999999999999999999) 999999999999999999 n1) (vd1 : bd 1 999999999999999999 d1) (vn2 : bd (-999999999999999999) 999999999999999999 n2) (vd2 : bd 1 999999999999999999 d2) (h1 : d1 ≠ 1) (hf : n1 / d1 < n2 / d2) : Calls Tryd.prog 59 #[.agg #[.int .i64 n1, .int .i64 d1], .agg #[.int .i64 n2, .int .i64 d2]] w fun e w' => e = .returned (.agg #[.int .i64 (((n1 / d1) + 1)), .int .i64 1]) ∧ Below w.heap.size w w' := by
  have bq0 : bd (-999999999999999999) 1000000000000000000 (((n1 / d1) + 1)) := (by have g := (floor_bd vn1 (show 0 < d1 by simp only [bd] at vd1; omega)); simp only [bd] at g ⊢; omega)
  exact run_know (P := Tryd.prog) (ρ := env [n1, d1, n2, d2, (n1 / d1), (n2 / d2), ((n1 / d1) + 1)] [] w) (o := { bin := [(.eql, 2, .int .i64 (sn 1), .int .i64 1, .bool false), (.gtr, 2, .int .i64 (sn 5), .int .i64 (sn 4), .bool true), (.add, 2, .int .i64 (sn 4), .int .i64 1, .int .i64 (sn 6))], calls := [(31, [.agg #[sy 0, sy 1]], sy 4), (31, [.agg #[sy 2, sy 3]], sy 5)] }) ⟨(all_cons (cmpOK (op := .eql) (ty := 2) (k := .i64) (n := (sn 1)) (m := 1) (t := false) (a := d1) (b := 1) (by kernel_rfl) (by kernel_rfl) (congrArg some ((show (d1 == 1) = false from (by simp; exact h1))))) (all_cons (cmpOK (op := .gtr) (ty := 2) (k := .i64) (n := (sn 5)) (m := (sn 4)) (t := true) (a := (n2 / d2)) (b := (n1 / d1)) (by kernel_rfl) (by kernel_rfl) (congrArg some ((gt_of_le (show decide ((n2 / d2) ≤ (n1 / d1)) = false from (by first | exact decide_eq_true (by omega) | exact decide_eq_false (by omega))))))) (all_cons (arOK (op := .add) (ty := 2) (k := .i64) (n := (sn 4)) (m := 1) (r := (sn 6)) (a := (n1 / d1)) (b := 1) (c := (((n1 / d1) + 1))) (d := (n1 / d1) + 1) (by kernel_rfl) (by kernel_rfl) (by kernel_rfl) rfl (wr_bd bq0 rfl)) all_nil))), all_nil, all_nil, all_nil, (all_cons (callOK (f := 31) (args := [.agg #[sy 0, sy 1]]) (v := sy 4) (args' := #[.agg #[.int .i64 n1, .int .i64 d1]]) (v' := .int .i64 (n1 / d1)) (by kernel_rfl) (by kernel_rfl) (by kernel_rfl) (fun w => rfloor_any n1 d1 w vn1 vd1)) (all_cons (callOK (f := 31) (args := [.agg #[sy 2, sy 3]]) (v := sy 5) (args' := #[.agg #[.int .i64 n2, .int .i64 d2]]) (v' := .int .i64 (n2 / d2)) (by kernel_rfl) (by kernel_rfl) (by kernel_rfl) (fun w => rfloor_any n2 d2 w vn2 vd2)) all_nil)), all_nil, all_nil, all_nil, all_nil, all_nil, all_nil, all_nil, all_nil, all_nil, all_nil, all_nil, all_nil⟩ 1000 50 59 [.agg #[sy 0, sy 1], .agg #[sy 2, sy 3]] (.agg #[sy 6, .int .i64 1]) (args' := #[.agg #[.int .i64 n1, .int .i64 d1], .agg #[.int .i64 n2, .int .i64 d2]]) (v' := .agg #[.int .i64 (((n1 / d1) + 1)), .int .i64 1]) (by kernel_rfl) (by kernel_rfl) (by kernel_rfl) w (Below.refl _ _)
theorem btw_rec (n1 d1 n2 d2 u v : Int) (w : World) (vn1 : bd (-999999999999999999) 999999999999999999 n1) (vd1 : bd 1 999999999999999999 d1) (vn2 : bd (-999999999999999999) 999999999999999999 n2) (vd2 : bd 1 999999999999999999 d2) (h1 : d1 ≠ 1) (hf : ¬ n1 / d1 < n2 / d2) (hu : bd 0 999999999999999999 u) (hv : bd 0 999999999999999999 v) (m1 : bd (-999999999999999999) 999999999999999999 ((n1 / d1) * d1)) (m2 : bd (-999999999999999999) 999999999999999999 ((n1 / d1) * d2)) (m3 : bd (-999999999999999999) 999999999999999999 ((n1 / d1) * u)) (m4 : bd (-999999999999999999) 999999999999999999 ((n1 / d1) * u + v)) (r1 : bd (-999999999999999999) 999999999999999999 (n1 % d1)) (r2 : bd (-999999999999999999) 999999999999999999 (n2 % d2)) (s1 : n1 - (n1 / d1) * d1 = n1 % d1) (s2 : n2 - (n1 / d1) * d2 = n2 % d2) (ih : ∀ w : World, Calls Tryd.prog 59 #[.agg #[.int .i64 d2, .int .i64 (n2 % d2)], .agg #[.int .i64 d1, .int .i64 (n1 % d1)]] w fun e w' => e = .returned (.agg #[.int .i64 u, .int .i64 v]) ∧ Below w.heap.size w w') : Calls Tryd.prog 59 #[.agg #[.int .i64 n1, .int .i64 d1], .agg #[.int .i64 n2, .int .i64 d2]] w fun e w' => e = .returned (.agg #[.int .i64 (((n1 / d1) * u + v)), .int .i64 u]) ∧ Below w.heap.size w w' := by
  have bq0 : bd (-999999999999999999) 999999999999999999 (((n1 / d1) * d1)) := m1
  have bq1 : bd (-999999999999999999) 999999999999999999 (n1 % d1) := r1
  have bq2 : bd (-999999999999999999) 999999999999999999 (((n1 / d1) * d2)) := m2
  have bq3 : bd (-999999999999999999) 999999999999999999 (n2 % d2) := r2
  have bq4 : bd (-999999999999999999) 999999999999999999 (((n1 / d1) * u)) := m3
  have bq5 : bd (-999999999999999999) 999999999999999999 (((n1 / d1) * u + v)) := m4
  exact run_know (P := Tryd.prog) (ρ := env [n1, d1, n2, d2, (n1 / d1), (n2 / d2), ((n1 / d1) * d1), (n1 % d1), ((n1 / d1) * d2), (n2 % d2), u, v, ((n1 / d1) * u), ((n1 / d1) * u + v)] [] w) (o := { bin := [(.eql, 2, .int .i64 (sn 1), .int .i64 1, .bool false), (.gtr, 2, .int .i64 (sn 5), .int .i64 (sn 4), .bool false), (.mul, 2, .int .i64 (sn 4), .int .i64 (sn 1), .int .i64 (sn 6)), (.sub, 2, .int .i64 (sn 0), .int .i64 (sn 6), .int .i64 (sn 7)), (.mul, 2, .int .i64 (sn 4), .int .i64 (sn 3), .int .i64 (sn 8)), (.sub, 2, .int .i64 (sn 2), .int .i64 (sn 8), .int .i64 (sn 9)), (.mul, 2, .int .i64 (sn 4), .int .i64 (sn 10), .int .i64 (sn 12)), (.add, 2, .int .i64 (sn 12), .int .i64 (sn 11), .int .i64 (sn 13))], calls := [(31, [.agg #[sy 0, sy 1]], sy 4), (31, [.agg #[sy 2, sy 3]], sy 5), (59, [.agg #[sy 3, sy 9], .agg #[sy 1, sy 7]], .agg #[sy 10, sy 11])] }) ⟨(all_cons (cmpOK (op := .eql) (ty := 2) (k := .i64) (n := (sn 1)) (m := 1) (t := false) (a := d1) (b := 1) (by kernel_rfl) (by kernel_rfl) (congrArg some ((show (d1 == 1) = false from (by simp; exact h1))))) (all_cons (cmpOK (op := .gtr) (ty := 2) (k := .i64) (n := (sn 5)) (m := (sn 4)) (t := false) (a := (n2 / d2)) (b := (n1 / d1)) (by kernel_rfl) (by kernel_rfl) (congrArg some ((gt_of_le (show decide ((n2 / d2) ≤ (n1 / d1)) = true from (by first | exact decide_eq_true (by omega) | exact decide_eq_false (by omega))))))) (all_cons (arOK (op := .mul) (ty := 2) (k := .i64) (n := (sn 4)) (m := (sn 1)) (r := (sn 6)) (a := (n1 / d1)) (b := d1) (c := (((n1 / d1) * d1))) (d := (n1 / d1) * d1) (by kernel_rfl) (by kernel_rfl) (by kernel_rfl) rfl (wr_bd bq0 rfl)) (all_cons (arOK (op := .sub) (ty := 2) (k := .i64) (n := (sn 0)) (m := (sn 6)) (r := (sn 7)) (a := n1) (b := (((n1 / d1) * d1))) (c := (n1 % d1)) (d := n1 - (((n1 / d1) * d1))) (by kernel_rfl) (by kernel_rfl) (by kernel_rfl) rfl (by rw [show n1 - (n1 / d1) * d1 = n1 % d1 from s1]; exact (wr_bd bq1 rfl))) (all_cons (arOK (op := .mul) (ty := 2) (k := .i64) (n := (sn 4)) (m := (sn 3)) (r := (sn 8)) (a := (n1 / d1)) (b := d2) (c := (((n1 / d1) * d2))) (d := (n1 / d1) * d2) (by kernel_rfl) (by kernel_rfl) (by kernel_rfl) rfl (wr_bd bq2 rfl)) (all_cons (arOK (op := .sub) (ty := 2) (k := .i64) (n := (sn 2)) (m := (sn 8)) (r := (sn 9)) (a := n2) (b := (((n1 / d1) * d2))) (c := (n2 % d2)) (d := n2 - (((n1 / d1) * d2))) (by kernel_rfl) (by kernel_rfl) (by kernel_rfl) rfl (by rw [show n2 - (n1 / d1) * d2 = n2 % d2 from s2]; exact (wr_bd bq3 rfl))) (all_cons (arOK (op := .mul) (ty := 2) (k := .i64) (n := (sn 4)) (m := (sn 10)) (r := (sn 12)) (a := (n1 / d1)) (b := u) (c := (((n1 / d1) * u))) (d := (n1 / d1) * u) (by kernel_rfl) (by kernel_rfl) (by kernel_rfl) rfl (wr_bd bq4 rfl)) (all_cons (arOK (op := .add) (ty := 2) (k := .i64) (n := (sn 12)) (m := (sn 11)) (r := (sn 13)) (a := (((n1 / d1) * u))) (b := v) (c := (((n1 / d1) * u + v))) (d := (((n1 / d1) * u)) + v) (by kernel_rfl) (by kernel_rfl) (by kernel_rfl) rfl (wr_bd bq5 rfl)) all_nil)))))))), all_nil, all_nil, all_nil, (all_cons (callOK (f := 31) (args := [.agg #[sy 0, sy 1]]) (v := sy 4) (args' := #[.agg #[.int .i64 n1, .int .i64 d1]]) (v' := .int .i64 (n1 / d1)) (by kernel_rfl) (by kernel_rfl) (by kernel_rfl) (fun w => rfloor_any n1 d1 w vn1 vd1)) (all_cons (callOK (f := 31) (args := [.agg #[sy 2, sy 3]]) (v := sy 5) (args' := #[.agg #[.int .i64 n2, .int .i64 d2]]) (v' := .int .i64 (n2 / d2)) (by kernel_rfl) (by kernel_rfl) (by kernel_rfl) (fun w => rfloor_any n2 d2 w vn2 vd2)) (all_cons (callOK (f := 59) (args := [.agg #[sy 3, sy 9], .agg #[sy 1, sy 7]]) (v := .agg #[sy 10, sy 11]) (args' := #[.agg #[.int .i64 d2, .int .i64 (n2 % d2)], .agg #[.int .i64 d1, .int .i64 (n1 % d1)]]) (v' := .agg #[.int .i64 u, .int .i64 v]) (by kernel_rfl) (by kernel_rfl) (by kernel_rfl) (ih)) all_nil))), all_nil, all_nil, all_nil, all_nil, all_nil, all_nil, all_nil, all_nil, all_nil, all_nil, all_nil, all_nil⟩ 1000 50 59 [.agg #[sy 0, sy 1], .agg #[sy 2, sy 3]] (.agg #[sy 13, sy 10]) (args' := #[.agg #[.int .i64 n1, .int .i64 d1], .agg #[.int .i64 n2, .int .i64 d2]]) (v' := .agg #[.int .i64 (((n1 / d1) * u + v)), .int .i64 u]) (by kernel_rfl) (by kernel_rfl) (by kernel_rfl) w (Below.refl _ _)
/-- the bounds of a step of the recursion -/
theorem sg_bounds {k : Nat} {n1 d1 n2 d2 : Int} (vn1 : bd (-999999999999999999) 999999999999999999 n1) (vd1 : bd 1 999999999999999999 d1) (vn2 : bd (-999999999999999999) 999999999999999999 n2) (vd2 : bd 1 999999999999999999 d2) (h : SgH (k + 1) n1 d1 n2 d2) (hr : n1 % d1 ≠ 0) (hf : ¬ n1 / d1 < n2 / d2) :
    bd 0 999999999999999999 (sg k d2 (n2 % d2) d1 (n1 % d1)).1 ∧ bd 0 999999999999999999 (sg k d2 (n2 % d2) d1 (n1 % d1)).2 ∧ bd (-999999999999999999) 999999999999999999 ((n1 / d1) * d1) ∧ bd (-999999999999999999) 999999999999999999 ((n1 / d1) * d2) ∧ bd (-999999999999999999) 999999999999999999 ((n1 / d1) * (sg k d2 (n2 % d2) d1 (n1 % d1)).1) ∧ bd (-999999999999999999) 999999999999999999 ((n1 / d1) * (sg k d2 (n2 % d2) d1 (n1 % d1)).1 + (sg k d2 (n2 % d2) d1 (n1 % d1)).2) ∧ bd (-999999999999999999) 999999999999999999 (n1 % d1) ∧ bd (-999999999999999999) 999999999999999999 (n2 % d2) ∧ n1 - (n1 / d1) * d1 = n1 % d1 ∧ n2 - (n1 / d1) * d2 = n2 % d2 ∧ bd 1 999999999999999999 (n1 % d1) ∧ bd 1 999999999999999999 (n2 % d2) := by
  obtain ⟨hS, hq, x1, x2, y1, y2, hn⟩ := sg_rec h hr hf
  obtain ⟨s1, s2, s3, s4, s5⟩ := sg_props k _ _ _ _ hS
  have p1 := hS.q2
  have p2 := hS.q1
  obtain ⟨t1, t2⟩ := s5 d1 (n1 % d1) h.q1 p1 (by rw [Int.mul_comm d2, Int.mul_comm d1]; have := hS.le; rw [Int.mul_comm d2, Int.mul_comm d1] at this; exact this) (Int.le_refl _)
  have m3 := Int.mul_le_mul_of_nonneg_left t1 hn
  have m0 := Int.mul_nonneg hn (Int.le_of_lt s1)
  have m5 := Int.mul_nonneg hn (Int.le_of_lt h.q1)
  have m6 := Int.mul_nonneg hn (Int.le_of_lt h.q2)
  have c1 : n1 / d1 * d1 = d1 * (n1 / d1) := Int.mul_comm _ _
  have c2 : n1 / d1 * d2 = d2 * (n1 / d1) := Int.mul_comm _ _
  simp only [bd] at *
  refine ⟨⟨by omega, by omega⟩, ⟨by omega, by omega⟩, ⟨by omega, by omega⟩, ⟨by omega, by omega⟩, ⟨by omega, by omega⟩, ⟨by omega, by omega⟩, ⟨by omega, by omega⟩, ⟨by omega, by omega⟩, by omega, by omega, ⟨by omega, by omega⟩, ⟨by omega, by omega⟩⟩
theorem emod_abs {n d : Int} (hn : 0 ≤ n) (hd : 0 ≤ d) : (n % d).natAbs = n.natAbs % d.natAbs := by
  obtain ⟨N, rfl⟩ := Int.eq_ofNat_of_zero_le hn
  obtain ⟨D, rfl⟩ := Int.eq_ofNat_of_zero_le hd
  rfl
theorem cop_step {n d : Int} (hn : 0 ≤ n) (hd : 0 ≤ d) (h : Nat.gcd n.natAbs d.natAbs = 1) : Nat.gcd d.natAbs (n % d).natAbs = 1 := by
  rw [emod_abs hn hd, Nat.gcd_comm, ← Nat.gcd_rec, Nat.gcd_comm]; exact h
theorem cop_one {n d : Int} (hn : 0 ≤ n) (hd : 0 < d) (h : Nat.gcd n.natAbs d.natAbs = 1) (h1 : d ≠ 1) : n % d ≠ 0 := by
  intro e
  have e2 := emod_abs hn (Int.le_of_lt hd)
  rw [e] at e2
  have : d.natAbs ∣ n.natAbs := Nat.dvd_of_mod_eq_zero (by omega)
  have := Nat.gcd_eq_right this
  omega
theorem between_any : ∀ (k : Nat) (n1 d1 n2 d2 : Int) (w : World), bd (-999999999999999999) 999999999999999999 n1 → bd 1 999999999999999999 d1 → bd (-999999999999999999) 999999999999999999 n2 → bd 1 999999999999999999 d2 → SgH k n1 d1 n2 d2 → Nat.gcd n1.natAbs d1.natAbs = 1 → Nat.gcd n2.natAbs d2.natAbs = 1 →
    Calls Tryd.prog 59 #[.agg #[.int .i64 n1, .int .i64 d1], .agg #[.int .i64 n2, .int .i64 d2]] w fun e w' => e = .returned (.agg #[.int .i64 (sg k n1 d1 n2 d2).1, .int .i64 (sg k n1 d1 n2 d2).2]) ∧ Below w.heap.size w w'
  | 0, n1, d1, n2, d2, w, _, _, _, _, h, _, _ => by obtain ⟨p1, q1, q2, le, fu⟩ := h; exfalso; omega
  | k + 1, n1, d1, n2, d2, w, vn1, vd1, vn2, vd2, h, c1, c2 => by
    have hp := h.p1
    have hq := h.q1
    have hn2 : 0 < n2 := by
      rcases Int.lt_or_le 0 n2 with z | z
      · exact z
      · have a1 := Int.mul_pos hp h.q2
        have a2 := Int.mul_nonneg (show 0 ≤ -n2 by omega) (Int.le_of_lt hq)
        have a3 := h.le
        rw [Int.neg_mul] at a2; omega
    by_cases h1 : d1 = 1
    · have e : sg (k + 1) n1 d1 n2 d2 = (n1, d1) := by
        unfold sg; rw [h1, Int.emod_one, if_pos rfl, Int.ediv_one]
      rw [e]
      exact btw_one n1 d1 n2 d2 w vn1 vd1 vn2 vd2 h1
    · have hr := cop_one (Int.le_of_lt hp) hq c1 h1
      by_cases hf : n1 / d1 < n2 / d2
      · have e : sg (k + 1) n1 d1 n2 d2 = (n1 / d1 + 1, 1) := by
          unfold sg; rw [if_neg hr, if_pos hf]
        rw [e]
        exact btw_less n1 d1 n2 d2 w vn1 vd1 vn2 vd2 h1 hf
      · have e : sg (k + 1) n1 d1 n2 d2 = (n1 / d1 * (sg k d2 (n2 % d2) d1 (n1 % d1)).1 + (sg k d2 (n2 % d2) d1 (n1 % d1)).2, (sg k d2 (n2 % d2) d1 (n1 % d1)).1) := by
          conv => lhs; unfold sg
          rw [if_neg hr, if_neg hf]
        obtain ⟨b1, b2, b3, b4, b5, b6, b7, b8, b9, b10, b11, b12⟩ := sg_bounds vn1 vd1 vn2 vd2 h hr hf
        have ih := fun w => between_any k d2 (n2 % d2) d1 (n1 % d1) w (bd_weak vd2 rfl) b12 (bd_weak vd1 rfl) b11 (sg_rec h hr hf).1 (cop_step (Int.le_of_lt hn2) (Int.le_of_lt h.q2) c2) (cop_step (Int.le_of_lt hp) (Int.le_of_lt hq) c1)
        rw [e]
        exact btw_rec n1 d1 n2 d2 _ _ w vn1 vd1 vn2 vd2 h1 hf b1 b2 b3 b4 b5 b6 b7 b8 b9 b10 ih
/-- a closure that calls itself through its own cell -/
def CL (g : FuncId) : Heap := [some ⟨[.func (.func g) #[] #[.pointer (some ⟨0, 0, none⟩)]], 36⟩]
theorem ptr_rel {β : Names} {b o : Nat} {v' : Value} (h : Rel ρ1 β (.pointer (some ⟨b, o, none⟩)) v') : Rel ρ2 β (.pointer (some ⟨b, o, none⟩)) v' := by
  cases h with
  | flat h => exact absurd h (by simp [flat, flat1, flat0])
  | ptr h => exact .ptr h
theorem clo_rel {β : Names} {g : FuncId} {v' : Value} (h : Rel ρ1 β (.func (.func g) #[] #[.pointer (some ⟨0, 0, none⟩)]) v') : Rel ρ2 β (.func (.func g) #[] #[.pointer (some ⟨0, 0, none⟩)]) v' := by
  obtain ⟨cs', rfl, hl⟩ := Rel.fn_inv h rfl
  have q : Rel ρ2 β (.func (.func g) #[] [(.pointer (some ⟨0, 0, none⟩) : Value)].toArray) (.func (.func g) #[] cs'.toList.toArray) := by
    refine .fn hl.1 (fun i v v' a b => ?_)
    have c := hl.2 i v v' a b
    cases i with
    | zero => cases a; exact ptr_rel c
    | succ i => simp at a
  exact q
theorem sim_move {w0 : Base} {β : Names} {w : World} {g : FuncId} (hw : ρ1.w = ρ2.w) (h : Sim ρ1 P w0 β (CL g) w) : Sim ρ2 P w0 β (CL g) w := by
  refine ⟨h.dom, h.below, h.bound, fun i b hb => ?_, h.inj, hw ▸ h.far, fun i b s hb hm => ?_, hw ▸ h.new⟩
  · obtain ⟨e, cs', a1, a2, a3, a4, a5, a6⟩ := h.cells i b hb
    refine ⟨e, cs', a1, a2, a3, a4, a5, fun j v hv => ?_⟩
    obtain ⟨v', c1, c2⟩ := a6 j v hv
    refine ⟨v', c1, ?_⟩
    have : v = .func (.func g) #[] #[.pointer (some ⟨0, 0, none⟩)] := by
      unfold CL at hb
      cases i with
      | zero =>
        simp at hb; subst hb
        cases j with
        | zero => simp at hv; exact hv.symm
        | succ j => simp at hv
      | succ i => simp at hb
    subst this
    exact clo_rel c2
  · exfalso
    unfold CL at hb
    cases i with
    | zero => simp at hb; subst hb; cases hm
    | succ i => simp at hb
theorem memo_move (hw : ρ1.w = ρ2.w) {f g : FuncId} {a1 a2 v1 b1 b2 v2 : Value} (ha : (af a1 && (af a2 && (af v1 && (af b1 && (af b2 && af v2))))) = true)
    (e1 : inst ρ1 a1 = inst ρ2 b1) (e2 : inst ρ1 a2 = inst ρ2 b2) (e3 : inst ρ1 v1 = inst ρ2 v2) (h : MemoE ρ1 P (f, [a1, a2, .pointer (some ⟨0, 0, none⟩)], CL g, v1, CL g)) : MemoE ρ2 P (f, [b1, b2, .pointer (some ⟨0, 0, none⟩)], CL g, v2, CL g) := by
  simp only [Bool.and_eq_true] at ha
  obtain ⟨x1, x2, x3, x4, x5, x6⟩ := ha
  intro w0 β w args' hS hA
  have hA1 : RelL ρ1 β [a1, a2, .pointer (some ⟨0, 0, none⟩)] args' := by
    refine ⟨hA.1, fun i v v' p q => ?_⟩
    match i with
    | 0 => cases p; rw [(hA.2 0 b1 v' rfl q).af_eq x4, ← e1]; exact rel_inst x1
    | 1 => cases p; rw [(hA.2 1 b2 v' rfl q).af_eq x5, ← e2]; exact rel_inst x2
    | 2 => cases p; exact ptr_rel (hA.2 2 _ v' rfl q)
    | i + 3 => simp at p
  refine (h w0 β w args' (sim_move hw.symm hS) hA1).mono ?_
  rintro en w' ⟨v', β', q1, q2, q3, q4⟩
  exact ⟨v', β', q1, q2, by rw [q3.af_eq x3, e3]; exact rel_inst x6, sim_move hw q4⟩
theorem unf_one (n1 d1 n2 d2 : Int) (w0 : World) (vn1 : bd (-999999999999999999) 999999999999999999 n1) (vd1 : bd 1 999999999999999999 d1) (vn2 : bd (-999999999999999999) 999999999999999999 n2) (vd2 : bd 1 999999999999999999 d2) (r1 : bd (-999999999999999999) 999999999999999999 (n1 % d1)) (r2 : bd (-999999999999999999) 999999999999999999 (n2 % d2)) (g1 : 0 ≤ n1 ∧ 0 < d1) (g2 : 0 ≤ n2 ∧ 0 < d2) (hr : n1 % d1 = 0) : MemoE (env [n1, d1, n2, d2, (n1 / d1), (n1 % d1)] [] w0) Tryd.prog (71, [.agg #[sy 0, sy 1], .agg #[sy 2, sy 3], .pointer (some ⟨0, 0, none⟩)], CL 71, .agg #[sy 4, .int .i64 1], CL 71) := by
  have bq0 : bd (-999999999999999999) 999999999999999999 (n1 / d1) := (floor_bd vn1 g1.2)
  have bq1 : bd (-999999999999999999) 999999999999999999 (n1 % d1) := r1
  exact memo_know (o := { bin := [(.quo, 2, sy 0, sy 1, sy 4), (.rem, 2, sy 0, sy 1, sy 5), (.eql, 2, .int .i64 (sn 5), .int .i64 0, .bool true)] }) ⟨(all_cons (binK (op := .quo) (ty := 2) (x := sy 0) (y := sy 1) (r := sy 4) (by kernel_rfl) (k := .i64) (l := .i64) (a := n1) (b := d1) (v := .int .i64 (n1 / d1)) (by kernel_rfl) (by kernel_rfl) (by kernel_rfl) (fun w => i_quo (show d1 ≠ 0 by omega) (Int.tdiv_eq_ediv_of_nonneg g1.1) (wr_bd bq0 rfl) w)) (all_cons (binK (op := .rem) (ty := 2) (x := sy 0) (y := sy 1) (r := sy 5) (by kernel_rfl) (k := .i64) (l := .i64) (a := n1) (b := d1) (v := .int .i64 (n1 % d1)) (by kernel_rfl) (by kernel_rfl) (by kernel_rfl) (fun w => i_rem (show d1 ≠ 0 by omega) (Int.tmod_eq_emod_of_nonneg g1.1) w)) (all_cons (cmpOK (op := .eql) (ty := 2) (k := .i64) (n := (sn 5)) (m := 0) (t := true) (a := (n1 % d1)) (b := 0) (by kernel_rfl) (by kernel_rfl) (congrArg some ((show ((n1 % d1) == 0) = true from (by simp; exact hr))))) all_nil))), all_nil, all_nil, all_nil, all_nil, all_nil, all_nil, all_nil, all_nil, all_nil, all_nil, all_nil, all_nil, all_nil, all_nil, all_nil, all_nil⟩ 1000 50 71 [.agg #[sy 0, sy 1], .agg #[sy 2, sy 3], .pointer (some ⟨0, 0, none⟩)] (CL 71) (.agg #[sy 4, .int .i64 1]) (CL 71) (by kernel_rfl)
theorem unf_less (n1 d1 n2 d2 : Int) (w0 : World) (vn1 : bd (-999999999999999999) 999999999999999999 n1) (vd1 : bd 1 999999999999999999 d1) (vn2 : bd (-999999999999999999) 999999999999999999 n2) (vd2 : bd 1 999999999999999999 d2) (r1 : bd (-999999999999999999) 999999999999999999 (n1 % d1)) (r2 : bd (-999999999999999999) 999999999999999999 (n2 % d2)) (g1 : 0 ≤ n1 ∧ 0 < d1) (g2 : 0 ≤ n2 ∧ 0 < d2) (hr : n1 % d1 ≠ 0) (hf : n1 / d1 < n2 / d2) : MemoE (env [n1, d1, n2, d2, ((n1 / d1) + 1), (n1 / d1), (n1 % d1), (n2 / d2)] [] w0) Tryd.prog (71, [.agg #[sy 0, sy 1], .agg #[sy 2, sy 3], .pointer (some ⟨0, 0, none⟩)], CL 71, .agg #[sy 4, .int .i64 1], CL 71) := by
  have bq0 : bd (-999999999999999999) 999999999999999999 (n1 / d1) := (floor_bd vn1 g1.2)
  have bq1 : bd (-999999999999999999) 999999999999999999 (n1 % d1) := r1
  have bq2 : bd (-999999999999999999) 999999999999999999 (n2 / d2) := (floor_bd vn2 g2.2)
  have bq3 : bd (-999999999999999999) 1000000000000000000 (((n1 / d1) + 1)) := (by have g := bq0; simp only [bd] at g ⊢; omega)
  exact memo_know (o := { bin := [(.quo, 2, sy 0, sy 1, sy 5), (.rem, 2, sy 0, sy 1, sy 6), (.eql, 2, .int .i64 (sn 6), .int .i64 0, .bool false), (.quo, 2, sy 2, sy 3, sy 7), (.lss, 2, .int .i64 (sn 5), .int .i64 (sn 7), .bool true), (.add, 2, .int .i64 (sn 5), .int .i64 1, .int .i64 (sn 4))] }) ⟨(all_cons (binK (op := .quo) (ty := 2) (x := sy 0) (y := sy 1) (r := sy 5) (by kernel_rfl) (k := .i64) (l := .i64) (a := n1) (b := d1) (v := .int .i64 (n1 / d1)) (by kernel_rfl) (by kernel_rfl) (by kernel_rfl) (fun w => i_quo (show d1 ≠ 0 by omega) (Int.tdiv_eq_ediv_of_nonneg g1.1) (wr_bd bq0 rfl) w)) (all_cons (binK (op := .rem) (ty := 2) (x := sy 0) (y := sy 1) (r := sy 6) (by kernel_rfl) (k := .i64) (l := .i64) (a := n1) (b := d1) (v := .int .i64 (n1 % d1)) (by kernel_rfl) (by kernel_rfl) (by kernel_rfl) (fun w => i_rem (show d1 ≠ 0 by omega) (Int.tmod_eq_emod_of_nonneg g1.1) w)) (all_cons (cmpOK (op := .eql) (ty := 2) (k := .i64) (n := (sn 6)) (m := 0) (t := false) (a := (n1 % d1)) (b := 0) (by kernel_rfl) (by kernel_rfl) (congrArg some ((show ((n1 % d1) == 0) = false from (by simp; exact hr))))) (all_cons (binK (op := .quo) (ty := 2) (x := sy 2) (y := sy 3) (r := sy 7) (by kernel_rfl) (k := .i64) (l := .i64) (a := n2) (b := d2) (v := .int .i64 (n2 / d2)) (by kernel_rfl) (by kernel_rfl) (by kernel_rfl) (fun w => i_quo (show d2 ≠ 0 by omega) (Int.tdiv_eq_ediv_of_nonneg g2.1) (wr_bd bq2 rfl) w)) (all_cons (cmpOK (op := .lss) (ty := 2) (k := .i64) (n := (sn 5)) (m := (sn 7)) (t := true) (a := (n1 / d1)) (b := (n2 / d2)) (by kernel_rfl) (by kernel_rfl) (congrArg some ((lt_of_le (show decide ((n2 / d2) ≤ (n1 / d1)) = false from (by first | exact decide_eq_true (by omega) | exact decide_eq_false (by omega))))))) (all_cons (arOK (op := .add) (ty := 2) (k := .i64) (n := (sn 5)) (m := 1) (r := (sn 4)) (a := (n1 / d1)) (b := 1) (c := (((n1 / d1) + 1))) (d := (n1 / d1) + 1) (by kernel_rfl) (by kernel_rfl) (by kernel_rfl) rfl (wr_bd bq3 rfl)) all_nil)))))), all_nil, all_nil, all_nil, all_nil, all_nil, all_nil, all_nil, all_nil, all_nil, all_nil, all_nil, all_nil, all_nil, all_nil, all_nil, all_nil⟩ 1000 50 71 [.agg #[sy 0, sy 1], .agg #[sy 2, sy 3], .pointer (some ⟨0, 0, none⟩)] (CL 71) (.agg #[sy 4, .int .i64 1]) (CL 71) (by kernel_rfl)
theorem unf_rec (n1 d1 n2 d2 u v : Int) (w0 : World) (vn1 : bd (-999999999999999999) 999999999999999999 n1) (vd1 : bd 1 999999999999999999 d1) (vn2 : bd (-999999999999999999) 999999999999999999 n2) (vd2 : bd 1 999999999999999999 d2) (r1 : bd (-999999999999999999) 999999999999999999 (n1 % d1)) (r2 : bd (-999999999999999999) 999999999999999999 (n2 % d2)) (g1 : 0 ≤ n1 ∧ 0 < d1) (g2 : 0 ≤ n2 ∧ 0 < d2) (hr : n1 % d1 ≠ 0) (hf : ¬ n1 / d1 < n2 / d2) (hu : bd 0 999999999999999999 u) (hv : bd 0 999999999999999999 v) (m3 : bd (-999999999999999999) 999999999999999999 ((n1 / d1) * u)) (m4 : bd (-999999999999999999) 999999999999999999 ((n1 / d1) * u + v)) (hm : MemoE (env [n1, d1, n2, d2, ((n1 / d1) * u + v), u, v, (n1 % d1), (n2 % d2), (n1 / d1), (n2 / d2), ((n1 / d1) * u)] [] w0) Tryd.prog (71, [.agg #[sy 3, sy 8], .agg #[sy 1, sy 7], .pointer (some ⟨0, 0, none⟩)], CL 71, .agg #[sy 5, sy 6], CL 71)) : MemoE (env [n1, d1, n2, d2, ((n1 / d1) * u + v), u, v, (n1 % d1), (n2 % d2), (n1 / d1), (n2 / d2), ((n1 / d1) * u)] [] w0) Tryd.prog (71, [.agg #[sy 0, sy 1], .agg #[sy 2, sy 3], .pointer (some ⟨0, 0, none⟩)], CL 71, .agg #[sy 4, sy 5], CL 71) := by
  have bq0 : bd (-999999999999999999) 999999999999999999 (n1 / d1) := (floor_bd vn1 g1.2)
  have bq1 : bd (-999999999999999999) 999999999999999999 (n1 % d1) := r1
  have bq2 : bd (-999999999999999999) 999999999999999999 (n2 / d2) := (floor_bd vn2 g2.2)
  have bq3 : bd (-999999999999999999) 999999999999999999 (n2 % d2) := r2
  have bq4 : bd (-999999999999999999) 999999999999999999 (((n1 / d1) * u)) := m3
  have bq5 : bd (-999999999999999999) 999999999999999999 (((n1 / d1) * u + v)) := m4
  exact memo_know (o := { bin := [(.quo, 2, sy 0, sy 1, sy 9), (.rem, 2, sy 0, sy 1, sy 7), (.eql, 2, .int .i64 (sn 7), .int .i64 0, .bool false), (.quo, 2, sy 2, sy 3, sy 10), (.lss, 2, .int .i64 (sn 9), .int .i64 (sn 10), .bool false), (.rem, 2, sy 2, sy 3, sy 8), (.mul, 2, .int .i64 (sn 9), .int .i64 (sn 5), .int .i64 (sn 11)), (.add, 2, .int .i64 (sn 11), .int .i64 (sn 6), .int .i64 (sn 4))], memo := [(71, [.agg #[sy 3, sy 8], .agg #[sy 1, sy 7], .pointer (some ⟨0, 0, none⟩)], CL 71, .agg #[sy 5, sy 6], CL 71)] }) ⟨(all_cons (binK (op := .quo) (ty := 2) (x := sy 0) (y := sy 1) (r := sy 9) (by kernel_rfl) (k := .i64) (l := .i64) (a := n1) (b := d1) (v := .int .i64 (n1 / d1)) (by kernel_rfl) (by kernel_rfl) (by kernel_rfl) (fun w => i_quo (show d1 ≠ 0 by omega) (Int.tdiv_eq_ediv_of_nonneg g1.1) (wr_bd bq0 rfl) w)) (all_cons (binK (op := .rem) (ty := 2) (x := sy 0) (y := sy 1) (r := sy 7) (by kernel_rfl) (k := .i64) (l := .i64) (a := n1) (b := d1) (v := .int .i64 (n1 % d1)) (by kernel_rfl) (by kernel_rfl) (by kernel_rfl) (fun w => i_rem (show d1 ≠ 0 by omega) (Int.tmod_eq_emod_of_nonneg g1.1) w)) (all_cons (cmpOK (op := .eql) (ty := 2) (k := .i64) (n := (sn 7)) (m := 0) (t := false) (a := (n1 % d1)) (b := 0) (by kernel_rfl) (by kernel_rfl) (congrArg some ((show ((n1 % d1) == 0) = false from (by simp; exact hr))))) (all_cons (binK (op := .quo) (ty := 2) (x := sy 2) (y := sy 3) (r := sy 10) (by kernel_rfl) (k := .i64) (l := .i64) (a := n2) (b := d2) (v := .int .i64 (n2 / d2)) (by kernel_rfl) (by kernel_rfl) (by kernel_rfl) (fun w => i_quo (show d2 ≠ 0 by omega) (Int.tdiv_eq_ediv_of_nonneg g2.1) (wr_bd bq2 rfl) w)) (all_cons (cmpOK (op := .lss) (ty := 2) (k := .i64) (n := (sn 9)) (m := (sn 10)) (t := false) (a := (n1 / d1)) (b := (n2 / d2)) (by kernel_rfl) (by kernel_rfl) (congrArg some ((lt_of_le (show decide ((n2 / d2) ≤ (n1 / d1)) = true from (by first | exact decide_eq_true (by omega) | exact decide_eq_false (by omega))))))) (all_cons (binK (op := .rem) (ty := 2) (x := sy 2) (y := sy 3) (r := sy 8) (by kernel_rfl) (k := .i64) (l := .i64) (a := n2) (b := d2) (v := .int .i64 (n2 % d2)) (by kernel_rfl) (by kernel_rfl) (by kernel_rfl) (fun w => i_rem (show d2 ≠ 0 by omega) (Int.tmod_eq_emod_of_nonneg g2.1) w)) (all_cons (arOK (op := .mul) (ty := 2) (k := .i64) (n := (sn 9)) (m := (sn 5)) (r := (sn 11)) (a := (n1 / d1)) (b := u) (c := (((n1 / d1) * u))) (d := (n1 / d1) * u) (by kernel_rfl) (by kernel_rfl) (by kernel_rfl) rfl (wr_bd bq4 rfl)) (all_cons (arOK (op := .add) (ty := 2) (k := .i64) (n := (sn 11)) (m := (sn 6)) (r := (sn 4)) (a := (((n1 / d1) * u))) (b := v) (c := (((n1 / d1) * u + v))) (d := (((n1 / d1) * u)) + v) (by kernel_rfl) (by kernel_rfl) (by kernel_rfl) rfl (wr_bd bq5 rfl)) all_nil)))))))), all_nil, all_nil, all_nil, all_nil, all_nil, all_nil, all_nil, all_nil, all_nil, all_nil, all_nil, all_nil, all_nil, (all_cons hm all_nil), all_nil, all_nil⟩ 1000 50 71 [.agg #[sy 0, sy 1], .agg #[sy 2, sy 3], .pointer (some ⟨0, 0, none⟩)] (CL 71) (.agg #[sy 4, sy 5]) (CL 71) (by kernel_rfl)
theorem unf_any : ∀ (k : Nat) (n1 d1 n2 d2 : Int), bd (-999999999999999999) 999999999999999999 n1 → bd 1 999999999999999999 d1 → bd (-999999999999999999) 999999999999999999 n2 → bd 1 999999999999999999 d2 → SgH k n1 d1 n2 d2 →
    ∀ (ρ : Env) (a1 a2 v : Value), (af a1 && (af a2 && af v)) = true → inst ρ a1 = .agg #[.int .i64 n1, .int .i64 d1] → inst ρ a2 = .agg #[.int .i64 n2, .int .i64 d2] → inst ρ v = .agg #[.int .i64 (sg k n1 d1 n2 d2).1, .int .i64 (sg k n1 d1 n2 d2).2] → MemoE ρ Tryd.prog (71, [a1, a2, .pointer (some ⟨0, 0, none⟩)], CL 71, v, CL 71)
  | 0, n1, d1, n2, d2, _, _, _, _, h, _, _, _, _, _, _, _, _ => by obtain ⟨p1, q1, q2, le, fu⟩ := h; exfalso; omega
  | k + 1, n1, d1, n2, d2, vn1, vd1, vn2, vd2, h, ρ, a1, a2, v, haf, x1, x2, x3 => by
    simp only [Bool.and_eq_true] at haf
    obtain ⟨f1, f2, f3⟩ := haf
    have hp := h.p1
    have hq := h.q1
    have hq2 := h.q2
    have hn2 : 0 < n2 := by
      rcases Int.lt_or_le 0 n2 with z | z
      · exact z
      · have a1 := Int.mul_pos hp h.q2
        have a2 := Int.mul_nonneg (show 0 ≤ -n2 by omega) (Int.le_of_lt hq)
        have a3 := h.le
        rw [Int.neg_mul] at a2; omega
    have r1 : bd (-999999999999999999) 999999999999999999 (n1 % d1) := by
      have := Int.emod_nonneg n1 (show d1 ≠ 0 by omega); have := Int.emod_lt_of_pos n1 hq; simp only [bd] at *; omega
    have r2 : bd (-999999999999999999) 999999999999999999 (n2 % d2) := by
      have := Int.emod_nonneg n2 (show d2 ≠ 0 by omega); have := Int.emod_lt_of_pos n2 hq2; simp only [bd] at *; omega
    have aft : ∀ (y1 y2 y3 : Value), (af y1 && (af y2 && af y3)) = true → (af y1 && (af y2 && (af y3 && (af a1 && (af a2 && af v))))) = true := by
      intro y1 y2 y3 hy
      simp only [Bool.and_eq_true] at hy ⊢
      exact ⟨hy.1, hy.2.1, hy.2.2, f1, f2, f3⟩
    by_cases hr : n1 % d1 = 0
    · have e : sg (k + 1) n1 d1 n2 d2 = (n1 / d1, 1) := by
        unfold sg; rw [if_pos hr]
      rw [e] at x3
      have m := unf_one n1 d1 n2 d2 ρ.w vn1 vd1 vn2 vd2 r1 r2 ⟨Int.le_of_lt hp, hq⟩ ⟨Int.le_of_lt hn2, hq2⟩ hr
      refine memo_move ?_ ?_ ?_ ?_ ?_ m
      · rfl
      · exact aft _ _ _ (by kernel_rfl)
      · rw [x1]; kernel_rfl
      · rw [x2]; kernel_rfl
      · rw [x3]; kernel_rfl
    · by_cases hf : n1 / d1 < n2 / d2
      · have e : sg (k + 1) n1 d1 n2 d2 = (n1 / d1 + 1, 1) := by
          unfold sg; rw [if_neg hr, if_pos hf]
        rw [e] at x3
        have m := unf_less n1 d1 n2 d2 ρ.w vn1 vd1 vn2 vd2 r1 r2 ⟨Int.le_of_lt hp, hq⟩ ⟨Int.le_of_lt hn2, hq2⟩ hr hf
        refine memo_move ?_ ?_ ?_ ?_ ?_ m
        · rfl
        · exact aft _ _ _ (by kernel_rfl)
        · rw [x1]; kernel_rfl
        · rw [x2]; kernel_rfl
        · rw [x3]; kernel_rfl
      · have e : sg (k + 1) n1 d1 n2 d2 = (n1 / d1 * (sg k d2 (n2 % d2) d1 (n1 % d1)).1 + (sg k d2 (n2 % d2) d1 (n1 % d1)).2, (sg k d2 (n2 % d2) d1 (n1 % d1)).1) := by
          conv => lhs; unfold sg
          rw [if_neg hr, if_neg hf]
        rw [e] at x3
        obtain ⟨b1, b2, b3, b4, b5, b6, b7, b8, b9, b10, b11, b12⟩ := sg_bounds vn1 vd1 vn2 vd2 h hr hf
        have ih := unf_any k d2 (n2 % d2) d1 (n1 % d1) (bd_weak vd2 rfl) b12 (bd_weak vd1 rfl) b11 (sg_rec h hr hf).1
        generalize (sg k d2 (n2 % d2) d1 (n1 % d1)).1 = u at *
        generalize (sg k d2 (n2 % d2) d1 (n1 % d1)).2 = v' at *
        have m := unf_rec n1 d1 n2 d2 u v' ρ.w vn1 vd1 vn2 vd2 r1 r2 ⟨Int.le_of_lt hp, hq⟩ ⟨Int.le_of_lt hn2, hq2⟩ hr hf b1 b2 b5 b6 (ih _ _ _ _ (by kernel_rfl) (by kernel_rfl) (by kernel_rfl) (by kernel_rfl))
        refine memo_move ?_ ?_ ?_ ?_ ?_ m
        · rfl
        · exact aft _ _ _ (by kernel_rfl)
        · rw [x1]; kernel_rfl
        · rw [x2]; kernel_rfl
        · rw [x3]; kernel_rfl
theorem simplest_any (k : Nat) (n1 d1 n2 d2 : Int) (w : World) (vn1 : bd (-999999999999999999) 999999999999999999 n1) (vd1 : bd 1 999999999999999999 d1) (vn2 : bd (-999999999999999999) 999999999999999999 n2) (vd2 : bd 1 999999999999999999 d2) (hk : SgH k n1 d1 n2 d2) : Calls Tryd.prog 58 #[.agg #[.int .i64 n1, .int .i64 d1], .agg #[.int .i64 n2, .int .i64 d2]] w fun e w' => e = .returned (.agg #[.int .i64 ((sg k n1 d1 n2 d2).1), .int .i64 ((sg k n1 d1 n2 d2).2)]) ∧ Below w.heap.size w w' := by
  exact run_know (P := Tryd.prog) (ρ := env [n1, d1, n2, d2, (sg k n1 d1 n2 d2).1, (sg k n1 d1 n2 d2).2] [] w) (o := { memo := [(71, [.agg #[sy 0, sy 1], .agg #[sy 2, sy 3], .pointer (some ⟨0, 0, none⟩)], CL 71, .agg #[sy 4, sy 5], CL 71)] }) ⟨all_nil, all_nil, all_nil, all_nil, all_nil, all_nil, all_nil, all_nil, all_nil, all_nil, all_nil, all_nil, all_nil, all_nil, (all_cons (unf_any k n1 d1 n2 d2 vn1 vd1 vn2 vd2 hk _ _ _ _ (by kernel_rfl) (by kernel_rfl) (by kernel_rfl) (by kernel_rfl)) all_nil), all_nil, all_nil⟩ 1000 50 58 [.agg #[sy 0, sy 1], .agg #[sy 2, sy 3]] (.agg #[sy 4, sy 5]) (args' := #[.agg #[.int .i64 n1, .int .i64 d1], .agg #[.int .i64 n2, .int .i64 d2]]) (v' := .agg #[.int .i64 ((sg k n1 d1 n2 d2).1), .int .i64 ((sg k n1 d1 n2 d2).2)]) (by kernel_rfl) (by kernel_rfl) (by kernel_rfl) w (Below.refl _ _)
def simpV (n1 d1 n2 d2 : Int) : Int × Int := if n2 < 0 then (-(sg (d1 + d2).toNat (-n2) d2 (-n1) d1).1, (sg (d1 + d2).toNat (-n2) d2 (-n1) d1).2) else if n1 ≤ 0 then (0, 1) else (sg (d1 + d2).toNat n1 d1 n2 d2)
theorem sg_valid {k : Nat} {n1 d1 n2 d2 : Int} (vn1 : bd (-999999999999999999) 999999999999999999 n1) (vd1 : bd 1 999999999999999999 d1) (h : SgH k n1 d1 n2 d2) : validB (sg k n1 d1 n2 d2).1 (sg k n1 d1 n2 d2).2 = true := by
  obtain ⟨s1, s2, s3, s4, s5⟩ := sg_props k n1 d1 n2 d2 h
  obtain ⟨t1, t2⟩ := s5 n1 d1 h.p1 h.q1 (Int.le_refl _) h.le
  generalize (sg k n1 d1 n2 d2).1 = u at *
  generalize (sg k n1 d1 n2 d2).2 = v at *
  simp only [bd] at vn1 vd1
  refine vb_mk ⟨by omega, by omega⟩ ⟨by omega, by omega⟩ ?_
  unfold gcdN
  have g0 : 0 < Nat.gcd u.natAbs v.natAbs := Nat.gcd_pos_of_pos_left _ (by omega)
  have e1 := Nat.div_mul_cancel (Nat.gcd_dvd_left u.natAbs v.natAbs)
  have e2 := Nat.div_mul_cancel (Nat.gcd_dvd_right u.natAbs v.natAbs)
  generalize u.natAbs / Nat.gcd u.natAbs v.natAbs = a at *
  generalize v.natAbs / Nat.gcd u.natAbs v.natAbs = b at *
  generalize Nat.gcd u.natAbs v.natAbs = g at *
  have x1 : u = (a : Int) * (g : Int) := by rw [← Int.natCast_mul, e1]; omega
  have x2 : v = (b : Int) * (g : Int) := by rw [← Int.natCast_mul, e2]; omega
  have a0 : 0 < a := by
    rcases Nat.eq_zero_or_pos a with z | z
    · subst z; simp at x1; omega
    · exact z
  have b0 : 0 < b := by
    rcases Nat.eq_zero_or_pos b with z | z
    · subst z; simp at x2; omega
    · exact z
  have y1 : n1 * (b : Int) ≤ (a : Int) * d1 := by
    refine Int.le_of_mul_le_mul_right (a := (g : Int)) ?_ (by omega)
    have q1 : n1 * (b : Int) * (g : Int) = n1 * v := by rw [x2, Int.mul_assoc]
    have q2 : (a : Int) * d1 * (g : Int) = u * d1 := by rw [x1, Int.mul_right_comm]
    omega
  have y2 : (a : Int) * d2 ≤ n2 * (b : Int) := by
    refine Int.le_of_mul_le_mul_right (a := (g : Int)) ?_ (by omega)
    have q1 : n2 * (b : Int) * (g : Int) = n2 * v := by rw [x2, Int.mul_assoc]
    have q2 : (a : Int) * d2 * (g : Int) = u * d2 := by rw [x1, Int.mul_right_comm]
    omega
  obtain ⟨m1, -⟩ := s5 a b (by omega) (by omega) y1 y2
  rcases Nat.lt_or_ge 1 g with z | z
  · exfalso
    have := Int.mul_le_mul_of_nonneg_left (show (2 : Int) ≤ (g : Int) by omega) (show (0 : Int) ≤ (a : Int) by omega)
    omega
  · omega
theorem sgh_p {n1 d1 n2 d2 : Int} (q1 : 0 < d1) (q2 : 0 < d2) (hle : n1 * d2 ≤ n2 * d1) (p : 0 < n1) : SgH (d1 + d2).toNat n1 d1 n2 d2 := ⟨p, q1, q2, hle, by omega⟩
theorem sgh_n {n1 d1 n2 d2 : Int} (q1 : 0 < d1) (q2 : 0 < d2) (hle : n1 * d2 ≤ n2 * d1) (p : n2 < 0) : SgH (d1 + d2).toNat (-n2) d2 (-n1) d1 := ⟨by omega, q2, q1, by rw [Int.neg_mul, Int.neg_mul]; omega, by omega⟩
theorem simpV_props {n1 d1 n2 d2 : Int} (h1 : validB n1 d1 = true) (h2 : validB n2 d2 = true) (hc : cmpV n1 d1 n2 d2 ≤ 0) :
    validB (simpV n1 d1 n2 d2).1 (simpV n1 d1 n2 d2).2 = true ∧ n1 * (simpV n1 d1 n2 d2).2 ≤ (simpV n1 d1 n2 d2).1 * d1 ∧ (simpV n1 d1 n2 d2).1 * d2 ≤ n2 * (simpV n1 d1 n2 d2).2 ∧
    ∀ p q, 0 < q → n1 * q ≤ p * d1 → p * d2 ≤ n2 * q → (simpV n1 d1 n2 d2).2 ≤ q := by
  have hle := cmp_le.1 hc
  obtain ⟨b1, b2, -⟩ := vb_ok h1
  obtain ⟨b3, b4, -⟩ := vb_ok h2
  have q1 : 0 < d1 := by simp only [bd] at b2; omega
  have q2 : 0 < d2 := by simp only [bd] at b4; omega
  unfold simpV
  by_cases g : n2 < 0
  · rw [if_pos g]
    have hS := sgh_n q1 q2 hle g
    have hv := sg_valid (bd_neg b3 rfl) b4 hS
    obtain ⟨s1, s2, s3, s4, s5⟩ := sg_props _ _ _ _ _ hS
    dsimp only
    generalize (sg (d1 + d2).toNat (-n2) d2 (-n1) d1).1 = u at *
    generalize (sg (d1 + d2).toNat (-n2) d2 (-n1) d1).2 = v at *
    rw [Int.neg_mul] at s3 s4
    refine ⟨by rw [vb_negE]; exact hv, by rw [Int.neg_mul]; omega, by rw [Int.neg_mul]; omega, ?_⟩
    intro p q hq x1 x2
    have hp : p < 0 := by
      rcases Int.lt_or_le p 0 with z | z
      · exact z
      · have := Int.mul_nonneg z (Int.le_of_lt q2)
        have := Int.mul_neg_of_neg_of_pos g hq
        omega
    exact (s5 (-p) q (by omega) hq (by rw [Int.neg_mul, Int.neg_mul]; omega) (by rw [Int.neg_mul, Int.neg_mul]; omega)).2
  · rw [if_neg g]
    by_cases f : n1 ≤ 0
    · rw [if_pos f]
      exact ⟨by decide, by dsimp only; omega, by dsimp only; omega, fun p q hq _ _ => by dsimp only; omega⟩
    · rw [if_neg f]
      have hS := sgh_p q1 q2 hle (by omega)
      have hv := sg_valid b1 b2 hS
      obtain ⟨s1, s2, s3, s4, s5⟩ := sg_props _ _ _ _ _ hS
      refine ⟨hv, s3, s4, ?_⟩
      intro p q hq x1 x2
      have hp : 0 < p := by
        rcases Int.lt_or_le 0 p with z | z
        · exact z
        · have := Int.mul_nonneg (show 0 ≤ -p by omega) (Int.le_of_lt q1)
          have := Int.mul_pos (show 0 < n1 by omega) hq
          rw [Int.neg_mul] at *; omega
      exact (s5 p q hp hq x1 x2).2
theorem Simp_any (n1 d1 n2 d2 : Int) (w : World) (v1 : validB n1 d1 = true) (v2 : validB n2 d2 = true) (hc : cmpV n1 d1 n2 d2 ≤ 0) : Calls Tryd.prog 33 #[.agg #[.int .i64 n1, .int .i64 d1], .agg #[.int .i64 n2, .int .i64 d2]] w fun e w' => e = .returned (.tuple #[.agg #[.int .i64 ((simpV n1 d1 n2 d2).1), .int .i64 ((simpV n1 d1 n2 d2).2)], .int .i64 0]) ∧ Below w.heap.size w w' := by
  obtain ⟨vn1, vd1, c1⟩ := vb_ok v1
  obtain ⟨vn2, vd2, c2⟩ := vb_ok v2
  have q1 : 0 < d1 := by simp only [bd] at vd1; omega
  have q2 : 0 < d2 := by simp only [bd] at vd2; omega
  have hle := cmp_le.1 hc
  have hn1 : bd (-9223372036854775808) 9223372036854775807 n1 := bd_weak vn1 rfl
  have hd1 : bd (-9223372036854775808) 9223372036854775807 d1 := bd_weak vd1 rfl
  have hn2 : bd (-9223372036854775808) 9223372036854775807 n2 := bd_weak vn2 rfl
  have hd2 : bd (-9223372036854775808) 9223372036854775807 d2 := bd_weak vd2 rfl
  rcases h0 : (decide (n2 ≤ (-1))) with _ | _
  · rcases h1 : (decide (n1 ≤ 0)) with _ | _
    · have hr : (.tuple #[.agg #[.int .i64 ((simpV n1 d1 n2 d2).1), .int .i64 ((simpV n1 d1 n2 d2).2)], .int .i64 0] : Value) = .tuple #[.agg #[.int .i64 ((sg (d1 + d2).toNat n1 d1 n2 d2).1), .int .i64 ((sg (d1 + d2).toNat n1 d1 n2 d2).2)], .int .i64 0] := by (have g0 := of_decide_eq_false h0; have g1 := of_decide_eq_false h1; unfold simpV; rw [if_neg (by omega), if_neg (by omega)])
      rw [hr]
      exact run_know (P := Tryd.prog) (ρ := env [n1, d1, n2, d2, (cmpV n1 d1 n2 d2), (sg (d1 + d2).toNat n1 d1 n2 d2).1, (sg (d1 + d2).toNat n1 d1 n2 d2).2] [] w) (o := { bin := [(.gtr, 3, .int .i64 (sn 4), .int .i64 0, .bool false), (.lss, 2, .int .i64 (sn 2), .int .i64 0, .bool false), (.leq, 2, .int .i64 (sn 0), .int .i64 0, .bool false)], calls := [(14, [.agg #[sy 0, sy 1]], .bool true), (14, [.agg #[sy 2, sy 3]], .bool true), (27, [.agg #[sy 0, sy 1], .agg #[sy 2, sy 3]], sy 4), (58, [.agg #[sy 0, sy 1], .agg #[sy 2, sy 3]], .agg #[sy 5, sy 6])] }) ⟨(all_cons (cmpOK (op := .gtr) (ty := 3) (k := .i64) (n := (sn 4)) (m := 0) (t := false) (a := (cmpV n1 d1 n2 d2)) (b := 0) (by kernel_rfl) (by kernel_rfl) (congrArg some ((gt_of_le (show decide ((cmpV n1 d1 n2 d2) ≤ 0) = true from (decide_eq_true hc)))))) (all_cons (cmpOK (op := .lss) (ty := 2) (k := .i64) (n := (sn 2)) (m := 0) (t := false) (a := n2) (b := 0) (by kernel_rfl) (by kernel_rfl) (congrArg some ((lt_c h0 rfl)))) (all_cons (cmpOK (op := .leq) (ty := 2) (k := .i64) (n := (sn 0)) (m := 0) (t := false) (a := n1) (b := 0) (by kernel_rfl) (by kernel_rfl) (congrArg some (h1))) all_nil))), all_nil, all_nil, all_nil, (all_cons (callOK (f := 14) (args := [.agg #[sy 0, sy 1]]) (v := .bool true) (args' := #[.agg #[.int .i64 n1, .int .i64 d1]]) (v' := .bool true) (by kernel_rfl) (by kernel_rfl) (by kernel_rfl) (fun w => by have q := valid_any n1 d1 w hn1 hd1; rw [v1] at q; exact q)) (all_cons (callOK (f := 14) (args := [.agg #[sy 2, sy 3]]) (v := .bool true) (args' := #[.agg #[.int .i64 n2, .int .i64 d2]]) (v' := .bool true) (by kernel_rfl) (by kernel_rfl) (by kernel_rfl) (fun w => by have q := valid_any n2 d2 w hn2 hd2; rw [v2] at q; exact q)) (all_cons (callOK (f := 27) (args := [.agg #[sy 0, sy 1], .agg #[sy 2, sy 3]]) (v := sy 4) (args' := #[.agg #[.int .i64 n1, .int .i64 d1], .agg #[.int .i64 n2, .int .i64 d2]]) (v' := .int .i64 (cmpV n1 d1 n2 d2)) (by kernel_rfl) (by kernel_rfl) (by kernel_rfl) (fun w => by have q := cmp_any n1 d1 n2 d2 w hn1 hd1 hn2 hd2; rw [show cmpF n1 d1 n2 d2 = cmpV n1 d1 n2 d2 from by unfold cmpF; rw [v1, v2]; rfl] at q; exact q)) (all_cons (callOK (f := 58) (args := [.agg #[sy 0, sy 1], .agg #[sy 2, sy 3]]) (v := .agg #[sy 5, sy 6]) (args' := #[.agg #[.int .i64 n1, .int .i64 d1], .agg #[.int .i64 n2, .int .i64 d2]]) (v' := .agg #[.int .i64 ((sg (d1 + d2).toNat n1 d1 n2 d2).1), .int .i64 ((sg (d1 + d2).toNat n1 d1 n2 d2).2)]) (by kernel_rfl) (by kernel_rfl) (by kernel_rfl) (fun w => simplest_any (d1 + d2).toNat n1 d1 n2 d2 w vn1 vd1 vn2 vd2 (sgh_p q1 q2 hle (by have g := of_decide_eq_false h1; omega)))) all_nil)))), all_nil, all_nil, all_nil, all_nil, all_nil, all_nil, all_nil, all_nil, all_nil, all_nil, all_nil, all_nil⟩ 1000 50 33 [.agg #[sy 0, sy 1], .agg #[sy 2, sy 3]] (.tuple #[.agg #[sy 5, sy 6], .int .i64 0]) (args' := #[.agg #[.int .i64 n1, .int .i64 d1], .agg #[.int .i64 n2, .int .i64 d2]]) (v' := .tuple #[.agg #[.int .i64 ((sg (d1 + d2).toNat n1 d1 n2 d2).1), .int .i64 ((sg (d1 + d2).toNat n1 d1 n2 d2).2)], .int .i64 0]) (by kernel_rfl) (by kernel_rfl) (by kernel_rfl) w (Below.refl _ _)
    · have hr : (.tuple #[.agg #[.int .i64 ((simpV n1 d1 n2 d2).1), .int .i64 ((simpV n1 d1 n2 d2).2)], .int .i64 0] : Value) = .tuple #[.agg #[.int .i64 0, .int .i64 1], .int .i64 0] := by (have g0 := of_decide_eq_false h0; have g1 := of_decide_eq_true h1; unfold simpV; rw [if_neg (by omega), if_pos (by omega)])
      rw [hr]
      exact run_know (P := Tryd.prog) (ρ := env [n1, d1, n2, d2, (cmpV n1 d1 n2 d2)] [] w) (o := { bin := [(.gtr, 3, .int .i64 (sn 4), .int .i64 0, .bool false), (.lss, 2, .int .i64 (sn 2), .int .i64 0, .bool false), (.leq, 2, .int .i64 (sn 0), .int .i64 0, .bool true)], calls := [(14, [.agg #[sy 0, sy 1]], .bool true), (14, [.agg #[sy 2, sy 3]], .bool true), (27, [.agg #[sy 0, sy 1], .agg #[sy 2, sy 3]], sy 4)] }) ⟨(all_cons (cmpOK (op := .gtr) (ty := 3) (k := .i64) (n := (sn 4)) (m := 0) (t := false) (a := (cmpV n1 d1 n2 d2)) (b := 0) (by kernel_rfl) (by kernel_rfl) (congrArg some ((gt_of_le (show decide ((cmpV n1 d1 n2 d2) ≤ 0) = true from (decide_eq_true hc)))))) (all_cons (cmpOK (op := .lss) (ty := 2) (k := .i64) (n := (sn 2)) (m := 0) (t := false) (a := n2) (b := 0) (by kernel_rfl) (by kernel_rfl) (congrArg some ((lt_c h0 rfl)))) (all_cons (cmpOK (op := .leq) (ty := 2) (k := .i64) (n := (sn 0)) (m := 0) (t := true) (a := n1) (b := 0) (by kernel_rfl) (by kernel_rfl) (congrArg some (h1))) all_nil))), all_nil, all_nil, all_nil, (all_cons (callOK (f := 14) (args := [.agg #[sy 0, sy 1]]) (v := .bool true) (args' := #[.agg #[.int .i64 n1, .int .i64 d1]]) (v' := .bool true) (by kernel_rfl) (by kernel_rfl) (by kernel_rfl) (fun w => by have q := valid_any n1 d1 w hn1 hd1; rw [v1] at q; exact q)) (all_cons (callOK (f := 14) (args := [.agg #[sy 2, sy 3]]) (v := .bool true) (args' := #[.agg #[.int .i64 n2, .int .i64 d2]]) (v' := .bool true) (by kernel_rfl) (by kernel_rfl) (by kernel_rfl) (fun w => by have q := valid_any n2 d2 w hn2 hd2; rw [v2] at q; exact q)) (all_cons (callOK (f := 27) (args := [.agg #[sy 0, sy 1], .agg #[sy 2, sy 3]]) (v := sy 4) (args' := #[.agg #[.int .i64 n1, .int .i64 d1], .agg #[.int .i64 n2, .int .i64 d2]]) (v' := .int .i64 (cmpV n1 d1 n2 d2)) (by kernel_rfl) (by kernel_rfl) (by kernel_rfl) (fun w => by have q := cmp_any n1 d1 n2 d2 w hn1 hd1 hn2 hd2; rw [show cmpF n1 d1 n2 d2 = cmpV n1 d1 n2 d2 from by unfold cmpF; rw [v1, v2]; rfl] at q; exact q)) all_nil))), all_nil, all_nil, all_nil, all_nil, all_nil, all_nil, all_nil, all_nil, all_nil, all_nil, all_nil, all_nil⟩ 1000 50 33 [.agg #[sy 0, sy 1], .agg #[sy 2, sy 3]] (.tuple #[.agg #[.int .i64 0, .int .i64 1], .int .i64 0]) (args' := #[.agg #[.int .i64 n1, .int .i64 d1], .agg #[.int .i64 n2, .int .i64 d2]]) (v' := .tuple #[.agg #[.int .i64 0, .int .i64 1], .int .i64 0]) (by kernel_rfl) (by kernel_rfl) (by kernel_rfl) w (Below.refl _ _)
  · have hr : (.tuple #[.agg #[.int .i64 ((simpV n1 d1 n2 d2).1), .int .i64 ((simpV n1 d1 n2 d2).2)], .int .i64 0] : Value) = .tuple #[.agg #[.int .i64 ((-(sg (d1 + d2).toNat (-n2) d2 (-n1) d1).1)), .int .i64 ((sg (d1 + d2).toNat (-n2) d2 (-n1) d1).2)], .int .i64 0] := by (have g0 := of_decide_eq_true h0; unfold simpV; rw [if_pos (by omega)])
    rw [hr]
    exact run_know (P := Tryd.prog) (ρ := env [n1, d1, n2, d2, (cmpV n1 d1 n2 d2), (-n2), (-n1), (sg (d1 + d2).toNat (-n2) d2 (-n1) d1).1, (sg (d1 + d2).toNat (-n2) d2 (-n1) d1).2, (-(sg (d1 + d2).toNat (-n2) d2 (-n1) d1).1)] [] w) (o := { bin := [(.gtr, 3, .int .i64 (sn 4), .int .i64 0, .bool false), (.lss, 2, .int .i64 (sn 2), .int .i64 0, .bool true)], calls := [(14, [.agg #[sy 0, sy 1]], .bool true), (14, [.agg #[sy 2, sy 3]], .bool true), (27, [.agg #[sy 0, sy 1], .agg #[sy 2, sy 3]], sy 4), (53, [.agg #[sy 2, sy 3]], .agg #[sy 5, sy 3]), (53, [.agg #[sy 0, sy 1]], .agg #[sy 6, sy 1]), (58, [.agg #[sy 5, sy 3], .agg #[sy 6, sy 1]], .agg #[sy 7, sy 8]), (53, [.agg #[sy 7, sy 8]], .agg #[sy 9, sy 8])] }) ⟨(all_cons (cmpOK (op := .gtr) (ty := 3) (k := .i64) (n := (sn 4)) (m := 0) (t := false) (a := (cmpV n1 d1 n2 d2)) (b := 0) (by kernel_rfl) (by kernel_rfl) (congrArg some ((gt_of_le (show decide ((cmpV n1 d1 n2 d2) ≤ 0) = true from (decide_eq_true hc)))))) (all_cons (cmpOK (op := .lss) (ty := 2) (k := .i64) (n := (sn 2)) (m := 0) (t := true) (a := n2) (b := 0) (by kernel_rfl) (by kernel_rfl) (congrArg some ((lt_c h0 rfl)))) all_nil)), all_nil, all_nil, all_nil, (all_cons (callOK (f := 14) (args := [.agg #[sy 0, sy 1]]) (v := .bool true) (args' := #[.agg #[.int .i64 n1, .int .i64 d1]]) (v' := .bool true) (by kernel_rfl) (by kernel_rfl) (by kernel_rfl) (fun w => by have q := valid_any n1 d1 w hn1 hd1; rw [v1] at q; exact q)) (all_cons (callOK (f := 14) (args := [.agg #[sy 2, sy 3]]) (v := .bool true) (args' := #[.agg #[.int .i64 n2, .int .i64 d2]]) (v' := .bool true) (by kernel_rfl) (by kernel_rfl) (by kernel_rfl) (fun w => by have q := valid_any n2 d2 w hn2 hd2; rw [v2] at q; exact q)) (all_cons (callOK (f := 27) (args := [.agg #[sy 0, sy 1], .agg #[sy 2, sy 3]]) (v := sy 4) (args' := #[.agg #[.int .i64 n1, .int .i64 d1], .agg #[.int .i64 n2, .int .i64 d2]]) (v' := .int .i64 (cmpV n1 d1 n2 d2)) (by kernel_rfl) (by kernel_rfl) (by kernel_rfl) (fun w => by have q := cmp_any n1 d1 n2 d2 w hn1 hd1 hn2 hd2; rw [show cmpF n1 d1 n2 d2 = cmpV n1 d1 n2 d2 from by unfold cmpF; rw [v1, v2]; rfl] at q; exact q)) (all_cons (callOK (f := 53) (args := [.agg #[sy 2, sy 3]]) (v := .agg #[sy 5, sy 3]) (args' := #[.agg #[.int .i64 n2, .int .i64 d2]]) (v' := .agg #[.int .i64 (-n2), .int .i64 d2]) (by kernel_rfl) (by kernel_rfl) (by kernel_rfl) (fun w => negative_any n2 d2 w vn2 vd2)) (all_cons (callOK (f := 53) (args := [.agg #[sy 0, sy 1]]) (v := .agg #[sy 6, sy 1]) (args' := #[.agg #[.int .i64 n1, .int .i64 d1]]) (v' := .agg #[.int .i64 (-n1), .int .i64 d1]) (by kernel_rfl) (by kernel_rfl) (by kernel_rfl) (fun w => negative_any n1 d1 w vn1 vd1)) (all_cons (callOK (f := 58) (args := [.agg #[sy 5, sy 3], .agg #[sy 6, sy 1]]) (v := .agg #[sy 7, sy 8]) (args' := #[.agg #[.int .i64 (-n2), .int .i64 d2], .agg #[.int .i64 (-n1), .int .i64 d1]]) (v' := .agg #[.int .i64 ((sg (d1 + d2).toNat (-n2) d2 (-n1) d1).1), .int .i64 ((sg (d1 + d2).toNat (-n2) d2 (-n1) d1).2)]) (by kernel_rfl) (by kernel_rfl) (by kernel_rfl) (fun w => simplest_any (d1 + d2).toNat (-n2) d2 (-n1) d1 w (bd_neg vn2 rfl) vd2 (bd_neg vn1 rfl) vd1 (sgh_n q1 q2 hle (by have g := of_decide_eq_true h0; omega)))) (all_cons (callOK (f := 53) (args := [.agg #[sy 7, sy 8]]) (v := .agg #[sy 9, sy 8]) (args' := #[.agg #[.int .i64 ((sg (d1 + d2).toNat (-n2) d2 (-n1) d1).1), .int .i64 ((sg (d1 + d2).toNat (-n2) d2 (-n1) d1).2)]]) (v' := .agg #[.int .i64 ((-(sg (d1 + d2).toNat (-n2) d2 (-n1) d1).1)), .int .i64 ((sg (d1 + d2).toNat (-n2) d2 (-n1) d1).2)]) (by kernel_rfl) (by kernel_rfl) (by kernel_rfl) (fun w => (fun z => negative_any (sg (d1 + d2).toNat (-n2) d2 (-n1) d1).1 (sg (d1 + d2).toNat (-n2) d2 (-n1) d1).2 w (vb_ok z).1 (vb_ok z).2.1) (sg_valid (bd_neg vn2 rfl) vd2 (sgh_n q1 q2 hle (by have g := of_decide_eq_true h0; omega))))) all_nil))))))), all_nil, all_nil, all_nil, all_nil, all_nil, all_nil, all_nil, all_nil, all_nil, all_nil, all_nil, all_nil⟩ 1000 50 33 [.agg #[sy 0, sy 1], .agg #[sy 2, sy 3]] (.tuple #[.agg #[sy 9, sy 8], .int .i64 0]) (args' := #[.agg #[.int .i64 n1, .int .i64 d1], .agg #[.int .i64 n2, .int .i64 d2]]) (v' := .tuple #[.agg #[.int .i64 ((-(sg (d1 + d2).toNat (-n2) d2 (-n1) d1).1)), .int .i64 ((sg (d1 + d2).toNat (-n2) d2 (-n1) d1).2)], .int .i64 0]) (by kernel_rfl) (by kernel_rfl) (by kernel_rfl) w (Below.refl _ _)
theorem rSimp_any (n1 d1 n2 d2 : Int) (w : World) (v1 : validB n1 d1 = true) (v2 : validB n2 d2 = true) (hc : cmpV n1 d1 n2 d2 ≤ 0) : Calls Tryd.prog 34 #[.agg #[.int .i64 n1, .int .i64 d1], .agg #[.int .i64 n2, .int .i64 d2]] w fun e w' => e = .returned (.agg #[.int .i64 ((simpV n1 d1 n2 d2).1), .int .i64 ((simpV n1 d1 n2 d2).2)]) ∧ Below w.heap.size w w' := by
  obtain ⟨vn1, vd1, c1⟩ := vb_ok v1
  obtain ⟨vn2, vd2, c2⟩ := vb_ok v2
  have q1 : 0 < d1 := by simp only [bd] at vd1; omega
  have q2 : 0 < d2 := by simp only [bd] at vd2; omega
  have hle := cmp_le.1 hc
  have hn1 : bd (-9223372036854775808) 9223372036854775807 n1 := bd_weak vn1 rfl
  have hd1 : bd (-9223372036854775808) 9223372036854775807 d1 := bd_weak vd1 rfl
  have hn2 : bd (-9223372036854775808) 9223372036854775807 n2 := bd_weak vn2 rfl
  have hd2 : bd (-9223372036854775808) 9223372036854775807 d2 := bd_weak vd2 rfl
  have hpos : 0 < n1 → ¬ n2 < 0 := by
    intro x y
    have := Int.mul_pos x q2
    have := Int.mul_neg_of_neg_of_pos y q1
    omega
  rcases h0 : (decide (n1 ≤ 0)) with _ | _
  · have hr : (.agg #[.int .i64 ((simpV n1 d1 n2 d2).1), .int .i64 ((simpV n1 d1 n2 d2).2)] : Value) = .agg #[.int .i64 ((sg (d1 + d2).toNat n1 d1 n2 d2).1), .int .i64 ((sg (d1 + d2).toNat n1 d1 n2 d2).2)] := by (have g0 := of_decide_eq_false h0; unfold simpV; rw [if_neg (hpos (by omega)), if_neg (by omega)])
    rw [hr]
    exact run_know (P := Tryd.prog) (ρ := env [n1, d1, n2, d2, (sg (d1 + d2).toNat n1 d1 n2 d2).1, (sg (d1 + d2).toNat n1 d1 n2 d2).2] [] w) (o := { bin := [(.gtr, 2, .int .i64 (sn 0), .int .i64 0, .bool true)], calls := [(59, [.agg #[sy 0, sy 1], .agg #[sy 2, sy 3]], .agg #[sy 4, sy 5])] }) ⟨(all_cons (cmpOK (op := .gtr) (ty := 2) (k := .i64) (n := (sn 0)) (m := 0) (t := true) (a := n1) (b := 0) (by kernel_rfl) (by kernel_rfl) (congrArg some ((gt_of_le h0)))) all_nil), all_nil, all_nil, all_nil, (all_cons (callOK (f := 59) (args := [.agg #[sy 0, sy 1], .agg #[sy 2, sy 3]]) (v := .agg #[sy 4, sy 5]) (args' := #[.agg #[.int .i64 n1, .int .i64 d1], .agg #[.int .i64 n2, .int .i64 d2]]) (v' := .agg #[.int .i64 ((sg (d1 + d2).toNat n1 d1 n2 d2).1), .int .i64 ((sg (d1 + d2).toNat n1 d1 n2 d2).2)]) (by kernel_rfl) (by kernel_rfl) (by kernel_rfl) (fun w => between_any (d1 + d2).toNat n1 d1 n2 d2 w vn1 vd1 vn2 vd2 (sgh_p q1 q2 hle (by have g := of_decide_eq_false h0; omega)) c1 c2)) all_nil), all_nil, all_nil, all_nil, all_nil, all_nil, all_nil, all_nil, all_nil, all_nil, all_nil, all_nil, all_nil⟩ 1000 50 34 [.agg #[sy 0, sy 1], .agg #[sy 2, sy 3]] (.agg #[sy 4, sy 5]) (args' := #[.agg #[.int .i64 n1, .int .i64 d1], .agg #[.int .i64 n2, .int .i64 d2]]) (v' := .agg #[.int .i64 ((sg (d1 + d2).toNat n1 d1 n2 d2).1), .int .i64 ((sg (d1 + d2).toNat n1 d1 n2 d2).2)]) (by kernel_rfl) (by kernel_rfl) (by kernel_rfl) w (Below.refl _ _)
  · rcases h1 : (decide (n2 ≤ (-1))) with _ | _
    · have hr : (.agg #[.int .i64 ((simpV n1 d1 n2 d2).1), .int .i64 ((simpV n1 d1 n2 d2).2)] : Value) = .agg #[.int .i64 0, .int .i64 1] := by (have g0 := of_decide_eq_true h0; have g1 := of_decide_eq_false h1; unfold simpV; rw [if_neg (by omega), if_pos (by omega)])
      rw [hr]
      exact run_know (P := Tryd.prog) (ρ := env [n1, d1, n2, d2] [] w) (o := { bin := [(.gtr, 2, .int .i64 (sn 0), .int .i64 0, .bool false), (.lss, 2, .int .i64 (sn 2), .int .i64 0, .bool false)] }) ⟨(all_cons (cmpOK (op := .gtr) (ty := 2) (k := .i64) (n := (sn 0)) (m := 0) (t := false) (a := n1) (b := 0) (by kernel_rfl) (by kernel_rfl) (congrArg some ((gt_of_le h0)))) (all_cons (cmpOK (op := .lss) (ty := 2) (k := .i64) (n := (sn 2)) (m := 0) (t := false) (a := n2) (b := 0) (by kernel_rfl) (by kernel_rfl) (congrArg some ((lt_c h1 rfl)))) all_nil)), all_nil, all_nil, all_nil, all_nil, all_nil, all_nil, all_nil, all_nil, all_nil, all_nil, all_nil, all_nil, all_nil, all_nil, all_nil, all_nil⟩ 1000 50 34 [.agg #[sy 0, sy 1], .agg #[sy 2, sy 3]] (.agg #[.int .i64 0, .int .i64 1]) (args' := #[.agg #[.int .i64 n1, .int .i64 d1], .agg #[.int .i64 n2, .int .i64 d2]]) (v' := .agg #[.int .i64 0, .int .i64 1]) (by kernel_rfl) (by kernel_rfl) (by kernel_rfl) w (Below.refl _ _)
    · have bq0 : bd (-999999999999999999) 999999999999999999 (-n2) := bd_neg vn2 rfl
      have bq1 : bd (-999999999999999999) 999999999999999999 (-n1) := bd_neg vn1 rfl
      have bq2 : bd (-999999999999999999) 999999999999999999 ((-(sg (d1 + d2).toNat (-n2) d2 (-n1) d1).1)) := bd_neg (vb_ok (sg_valid (bd_neg vn2 rfl) vd2 (sgh_n q1 q2 hle (by have g := of_decide_eq_true h1; omega)))).1 rfl
      have hr : (.agg #[.int .i64 ((simpV n1 d1 n2 d2).1), .int .i64 ((simpV n1 d1 n2 d2).2)] : Value) = .agg #[.int .i64 ((-(sg (d1 + d2).toNat (-n2) d2 (-n1) d1).1)), .int .i64 ((sg (d1 + d2).toNat (-n2) d2 (-n1) d1).2)] := by (have g0 := of_decide_eq_true h0; have g1 := of_decide_eq_true h1; unfold simpV; rw [if_pos (by omega)])
      rw [hr]
      exact run_know (P := Tryd.prog) (ρ := env [n1, d1, n2, d2, (-n2), (-n1), (sg (d1 + d2).toNat (-n2) d2 (-n1) d1).1, (sg (d1 + d2).toNat (-n2) d2 (-n1) d1).2, (-(sg (d1 + d2).toNat (-n2) d2 (-n1) d1).1)] [] w) (o := { bin := [(.gtr, 2, .int .i64 (sn 0), .int .i64 0, .bool false), (.lss, 2, .int .i64 (sn 2), .int .i64 0, .bool true), (.sub, 2, .int .i64 0, .int .i64 (sn 2), .int .i64 (sn 4)), (.sub, 2, .int .i64 0, .int .i64 (sn 0), .int .i64 (sn 5)), (.sub, 2, .int .i64 0, .int .i64 (sn 6), .int .i64 (sn 8))], calls := [(59, [.agg #[sy 4, sy 3], .agg #[sy 5, sy 1]], .agg #[sy 6, sy 7])] }) ⟨(all_cons (cmpOK (op := .gtr) (ty := 2) (k := .i64) (n := (sn 0)) (m := 0) (t := false) (a := n1) (b := 0) (by kernel_rfl) (by kernel_rfl) (congrArg some ((gt_of_le h0)))) (all_cons (cmpOK (op := .lss) (ty := 2) (k := .i64) (n := (sn 2)) (m := 0) (t := true) (a := n2) (b := 0) (by kernel_rfl) (by kernel_rfl) (congrArg some ((lt_c h1 rfl)))) (all_cons (arOK (op := .sub) (ty := 2) (k := .i64) (n := 0) (m := (sn 2)) (r := (sn 4)) (a := 0) (b := n2) (c := (-n2)) (d := 0 - n2) (by kernel_rfl) (by kernel_rfl) (by kernel_rfl) rfl (by rw [Int.zero_sub]; exact (wr_bd bq0 rfl))) (all_cons (arOK (op := .sub) (ty := 2) (k := .i64) (n := 0) (m := (sn 0)) (r := (sn 5)) (a := 0) (b := n1) (c := (-n1)) (d := 0 - n1) (by kernel_rfl) (by kernel_rfl) (by kernel_rfl) rfl (by rw [Int.zero_sub]; exact (wr_bd bq1 rfl))) (all_cons (arOK (op := .sub) (ty := 2) (k := .i64) (n := 0) (m := (sn 6)) (r := (sn 8)) (a := 0) (b := ((sg (d1 + d2).toNat (-n2) d2 (-n1) d1).1)) (c := ((-(sg (d1 + d2).toNat (-n2) d2 (-n1) d1).1))) (d := 0 - ((sg (d1 + d2).toNat (-n2) d2 (-n1) d1).1)) (by kernel_rfl) (by kernel_rfl) (by kernel_rfl) rfl (by rw [Int.zero_sub]; exact (wr_bd bq2 rfl))) all_nil))))), all_nil, all_nil, all_nil, (all_cons (callOK (f := 59) (args := [.agg #[sy 4, sy 3], .agg #[sy 5, sy 1]]) (v := .agg #[sy 6, sy 7]) (args' := #[.agg #[.int .i64 (-n2), .int .i64 d2], .agg #[.int .i64 (-n1), .int .i64 d1]]) (v' := .agg #[.int .i64 ((sg (d1 + d2).toNat (-n2) d2 (-n1) d1).1), .int .i64 ((sg (d1 + d2).toNat (-n2) d2 (-n1) d1).2)]) (by kernel_rfl) (by kernel_rfl) (by kernel_rfl) (fun w => between_any (d1 + d2).toNat (-n2) d2 (-n1) d1 w (bd_neg vn2 rfl) vd2 (bd_neg vn1 rfl) vd1 (sgh_n q1 q2 hle (by have g := of_decide_eq_true h1; omega)) (by rw [Int.natAbs_neg]; exact c2) (by rw [Int.natAbs_neg]; exact c1))) all_nil), all_nil, all_nil, all_nil, all_nil, all_nil, all_nil, all_nil, all_nil, all_nil, all_nil, all_nil, all_nil⟩ 1000 50 34 [.agg #[sy 0, sy 1], .agg #[sy 2, sy 3]] (.agg #[sy 8, sy 7]) (args' := #[.agg #[.int .i64 n1, .int .i64 d1], .agg #[.int .i64 n2, .int .i64 d2]]) (v' := .agg #[.int .i64 ((-(sg (d1 + d2).toNat (-n2) d2 (-n1) d1).1)), .int .i64 ((sg (d1 + d2).toNat (-n2) d2 (-n1) d1).2)]) (by kernel_rfl) (by kernel_rfl) (by kernel_rfl) w (Below.refl _ _)
theorem Simp_no (n1 d1 n2 d2 : Int) (w : World) (hn1 : bd (-9223372036854775808) 9223372036854775807 n1) (hd1 : bd (-9223372036854775808) 9223372036854775807 d1) (hn2 : bd (-9223372036854775808) 9223372036854775807 n2) (hd2 : bd (-9223372036854775808) 9223372036854775807 d2) (hno : (validB n1 d1 && (validB n2 d2 && decide (cmpV n1 d1 n2 d2 ≤ 0))) = false) : Calls Tryd.prog 33 #[.agg #[.int .i64 n1, .int .i64 d1], .agg #[.int .i64 n2, .int .i64 d2]] w fun e w' => e = .returned (.tuple #[.agg #[.int .i64 0, .int .i64 0], .int .i64 1]) ∧ Below w.heap.size w w' := by
  rcases h0 : (validB n1 d1) with _ | _
  · exact run_know (P := Tryd.prog) (ρ := env [n1, d1, n2, d2] [] w) (o := { calls := [(14, [.agg #[sy 0, sy 1]], .bool false)] }) ⟨all_nil, all_nil, all_nil, all_nil, (all_cons (callOK (f := 14) (args := [.agg #[sy 0, sy 1]]) (v := .bool false) (args' := #[.agg #[.int .i64 n1, .int .i64 d1]]) (v' := .bool false) (by kernel_rfl) (by kernel_rfl) (by kernel_rfl) (fun w => by have q := valid_any n1 d1 w hn1 hd1; rw [h0] at q; exact q)) all_nil), all_nil, all_nil, all_nil, all_nil, all_nil, all_nil, all_nil, all_nil, all_nil, all_nil, all_nil, all_nil⟩ 1000 50 33 [.agg #[sy 0, sy 1], .agg #[sy 2, sy 3]] (.tuple #[.agg #[.int .i64 0, .int .i64 0], .int .i64 1]) (args' := #[.agg #[.int .i64 n1, .int .i64 d1], .agg #[.int .i64 n2, .int .i64 d2]]) (v' := .tuple #[.agg #[.int .i64 0, .int .i64 0], .int .i64 1]) (by kernel_rfl) (by kernel_rfl) (by kernel_rfl) w (Below.refl _ _)
  · rcases h1 : (validB n2 d2) with _ | _
    · exact run_know (P := Tryd.prog) (ρ := env [n1, d1, n2, d2] [] w) (o := { calls := [(14, [.agg #[sy 0, sy 1]], .bool true), (14, [.agg #[sy 2, sy 3]], .bool false)] }) ⟨all_nil, all_nil, all_nil, all_nil, (all_cons (callOK (f := 14) (args := [.agg #[sy 0, sy 1]]) (v := .bool true) (args' := #[.agg #[.int .i64 n1, .int .i64 d1]]) (v' := .bool true) (by kernel_rfl) (by kernel_rfl) (by kernel_rfl) (fun w => by have q := valid_any n1 d1 w hn1 hd1; rw [h0] at q; exact q)) (all_cons (callOK (f := 14) (args := [.agg #[sy 2, sy 3]]) (v := .bool false) (args' := #[.agg #[.int .i64 n2, .int .i64 d2]]) (v' := .bool false) (by kernel_rfl) (by kernel_rfl) (by kernel_rfl) (fun w => by have q := valid_any n2 d2 w hn2 hd2; rw [h1] at q; exact q)) all_nil)), all_nil, all_nil, all_nil, all_nil, all_nil, all_nil, all_nil, all_nil, all_nil, all_nil, all_nil, all_nil⟩ 1000 50 33 [.agg #[sy 0, sy 1], .agg #[sy 2, sy 3]] (.tuple #[.agg #[.int .i64 0, .int .i64 0], .int .i64 1]) (args' := #[.agg #[.int .i64 n1, .int .i64 d1], .agg #[.int .i64 n2, .int .i64 d2]]) (v' := .tuple #[.agg #[.int .i64 0, .int .i64 0], .int .i64 1]) (by kernel_rfl) (by kernel_rfl) (by kernel_rfl) w (Below.refl _ _)
    · rcases h2 : (decide ((cmpV n1 d1 n2 d2) ≤ 0)) with _ | _
      · exact run_know (P := Tryd.prog) (ρ := env [n1, d1, n2, d2, (cmpV n1 d1 n2 d2)] [] w) (o := { bin := [(.gtr, 3, .int .i64 (sn 4), .int .i64 0, .bool true)], calls := [(14, [.agg #[sy 0, sy 1]], .bool true), (14, [.agg #[sy 2, sy 3]], .bool true), (27, [.agg #[sy 0, sy 1], .agg #[sy 2, sy 3]], sy 4)] }) ⟨(all_cons (cmpOK (op := .gtr) (ty := 3) (k := .i64) (n := (sn 4)) (m := 0) (t := true) (a := (cmpV n1 d1 n2 d2)) (b := 0) (by kernel_rfl) (by kernel_rfl) (congrArg some ((gt_of_le h2)))) all_nil), all_nil, all_nil, all_nil, (all_cons (callOK (f := 14) (args := [.agg #[sy 0, sy 1]]) (v := .bool true) (args' := #[.agg #[.int .i64 n1, .int .i64 d1]]) (v' := .bool true) (by kernel_rfl) (by kernel_rfl) (by kernel_rfl) (fun w => by have q := valid_any n1 d1 w hn1 hd1; rw [h0] at q; exact q)) (all_cons (callOK (f := 14) (args := [.agg #[sy 2, sy 3]]) (v := .bool true) (args' := #[.agg #[.int .i64 n2, .int .i64 d2]]) (v' := .bool true) (by kernel_rfl) (by kernel_rfl) (by kernel_rfl) (fun w => by have q := valid_any n2 d2 w hn2 hd2; rw [h1] at q; exact q)) (all_cons (callOK (f := 27) (args := [.agg #[sy 0, sy 1], .agg #[sy 2, sy 3]]) (v := sy 4) (args' := #[.agg #[.int .i64 n1, .int .i64 d1], .agg #[.int .i64 n2, .int .i64 d2]]) (v' := .int .i64 (cmpV n1 d1 n2 d2)) (by kernel_rfl) (by kernel_rfl) (by kernel_rfl) (fun w => by have q := cmp_any n1 d1 n2 d2 w hn1 hd1 hn2 hd2; rw [show cmpF n1 d1 n2 d2 = cmpV n1 d1 n2 d2 from by unfold cmpF; rw [h0, h1]; rfl] at q; exact q)) all_nil))), all_nil, all_nil, all_nil, all_nil, all_nil, all_nil, all_nil, all_nil, all_nil, all_nil, all_nil, all_nil⟩ 1000 50 33 [.agg #[sy 0, sy 1], .agg #[sy 2, sy 3]] (.tuple #[.agg #[.int .i64 0, .int .i64 0], .int .i64 1]) (args' := #[.agg #[.int .i64 n1, .int .i64 d1], .agg #[.int .i64 n2, .int .i64 d2]]) (v' := .tuple #[.agg #[.int .i64 0, .int .i64 0], .int .i64 1]) (by kernel_rfl) (by kernel_rfl) (by kernel_rfl) w (Below.refl _ _)
      · exact absurd hno (by rw [h0, h1, h2]; decide)
theorem simplest_law (n1 d1 n2 d2 n3 d3 : Int) (w : World) (hn1 : bd (-9223372036854775808) 9223372036854775807 n1) (hd1 : bd (-9223372036854775808) 9223372036854775807 d1) (hn2 : bd (-9223372036854775808) 9223372036854775807 n2) (hd2 : bd (-9223372036854775808) 9223372036854775807 d2) (hn3 : bd (-9223372036854775808) 9223372036854775807 n3) (hd3 : bd (-9223372036854775808) 9223372036854775807 d3) (w0 : World) (ht : Tab w0) (hw : Below w0.heap.size w0 w) : Calls Tryd.prog 7 #[.agg #[.int .i64 n1, .int .i64 d1], .agg #[.int .i64 n2, .int .i64 d2], .agg #[.int .i64 n3, .int .i64 d3]] w fun e w' => e = .returned (.bool true) ∧ Below w.heap.size w w' := by
  rcases h0 : (validB n1 d1) with _ | _
  · rcases h1 : (validB n2 d2) with _ | _
    · exact run_know (P := Tryd.prog) (ρ := env [n1, d1, n2, d2, n3, d3] [] w0) (o := { calls := [(33, [.agg #[sy 0, sy 1], .agg #[sy 2, sy 3]], .tuple #[.agg #[.int .i64 0, .int .i64 0], .int .i64 1]), (15, [.agg #[sy 0, sy 1]], .bool false), (13, [], .bool true)] }) ⟨all_nil, all_nil, all_nil, all_nil, (all_cons (callOK (f := 33) (args := [.agg #[sy 0, sy 1], .agg #[sy 2, sy 3]]) (v := .tuple #[.agg #[.int .i64 0, .int .i64 0], .int .i64 1]) (args' := #[.agg #[.int .i64 n1, .int .i64 d1], .agg #[.int .i64 n2, .int .i64 d2]]) (v' := .tuple #[.agg #[.int .i64 0, .int .i64 0], .int .i64 1]) (by kernel_rfl) (by kernel_rfl) (by kernel_rfl) (fun w => Simp_no n1 d1 n2 d2 w hn1 hd1 hn2 hd2 (by rw [h0, h1]; rfl))) (all_cons (callOK (f := 15) (args := [.agg #[sy 0, sy 1]]) (v := .bool false) (args' := #[.agg #[.int .i64 n1, .int .i64 d1]]) (v' := .bool false) (by kernel_rfl) (by kernel_rfl) (by kernel_rfl) (fun w => by have q := rvalid_any n1 d1 w hn1 hd1; rw [h0] at q; exact q)) (all_cons (callOKb (f := 13) (args := []) (v := .bool true) (args' := #[]) (v' := .bool true) (by kernel_rfl) (by kernel_rfl) (by kernel_rfl) (fun w1 hw1 => awake_any w1 w0 ht hw1)) all_nil))), all_nil, all_nil, all_nil, all_nil, all_nil, all_nil, all_nil, all_nil, all_nil, all_nil, all_nil, all_nil⟩ 1000 50 7 [.agg #[sy 0, sy 1], .agg #[sy 2, sy 3], .agg #[sy 4, sy 5]] (.bool true) (args' := #[.agg #[.int .i64 n1, .int .i64 d1], .agg #[.int .i64 n2, .int .i64 d2], .agg #[.int .i64 n3, .int .i64 d3]]) (v' := .bool true) (by kernel_rfl) (by kernel_rfl) (by kernel_rfl) w hw
    · exact run_know (P := Tryd.prog) (ρ := env [n1, d1, n2, d2, n3, d3] [] w0) (o := { calls := [(33, [.agg #[sy 0, sy 1], .agg #[sy 2, sy 3]], .tuple #[.agg #[.int .i64 0, .int .i64 0], .int .i64 1]), (15, [.agg #[sy 0, sy 1]], .bool false), (13, [], .bool true)] }) ⟨all_nil, all_nil, all_nil, all_nil, (all_cons (callOK (f := 33) (args := [.agg #[sy 0, sy 1], .agg #[sy 2, sy 3]]) (v := .tuple #[.agg #[.int .i64 0, .int .i64 0], .int .i64 1]) (args' := #[.agg #[.int .i64 n1, .int .i64 d1], .agg #[.int .i64 n2, .int .i64 d2]]) (v' := .tuple #[.agg #[.int .i64 0, .int .i64 0], .int .i64 1]) (by kernel_rfl) (by kernel_rfl) (by kernel_rfl) (fun w => Simp_no n1 d1 n2 d2 w hn1 hd1 hn2 hd2 (by rw [h0, h1]; rfl))) (all_cons (callOK (f := 15) (args := [.agg #[sy 0, sy 1]]) (v := .bool false) (args' := #[.agg #[.int .i64 n1, .int .i64 d1]]) (v' := .bool false) (by kernel_rfl) (by kernel_rfl) (by kernel_rfl) (fun w => by have q := rvalid_any n1 d1 w hn1 hd1; rw [h0] at q; exact q)) (all_cons (callOKb (f := 13) (args := []) (v := .bool true) (args' := #[]) (v' := .bool true) (by kernel_rfl) (by kernel_rfl) (by kernel_rfl) (fun w1 hw1 => awake_any w1 w0 ht hw1)) all_nil))), all_nil, all_nil, all_nil, all_nil, all_nil, all_nil, all_nil, all_nil, all_nil, all_nil, all_nil, all_nil⟩ 1000 50 7 [.agg #[sy 0, sy 1], .agg #[sy 2, sy 3], .agg #[sy 4, sy 5]] (.bool true) (args' := #[.agg #[.int .i64 n1, .int .i64 d1], .agg #[.int .i64 n2, .int .i64 d2], .agg #[.int .i64 n3, .int .i64 d3]]) (v' := .bool true) (by kernel_rfl) (by kernel_rfl) (by kernel_rfl) w hw
  · rcases h1 : (validB n2 d2) with _ | _
    · have vn1 : bd (-999999999999999999) 999999999999999999 n1 := (vb_ok h0).1
      have vd1 : bd 1 999999999999999999 d1 := (vb_ok h0).2.1
      exact run_know (P := Tryd.prog) (ρ := env [n1, d1, n2, d2, n3, d3] [] w0) (o := { calls := [(33, [.agg #[sy 0, sy 1], .agg #[sy 2, sy 3]], .tuple #[.agg #[.int .i64 0, .int .i64 0], .int .i64 1]), (15, [.agg #[sy 0, sy 1]], .bool true), (15, [.agg #[sy 2, sy 3]], .bool false), (13, [], .bool true)] }) ⟨all_nil, all_nil, all_nil, all_nil, (all_cons (callOK (f := 33) (args := [.agg #[sy 0, sy 1], .agg #[sy 2, sy 3]]) (v := .tuple #[.agg #[.int .i64 0, .int .i64 0], .int .i64 1]) (args' := #[.agg #[.int .i64 n1, .int .i64 d1], .agg #[.int .i64 n2, .int .i64 d2]]) (v' := .tuple #[.agg #[.int .i64 0, .int .i64 0], .int .i64 1]) (by kernel_rfl) (by kernel_rfl) (by kernel_rfl) (fun w => Simp_no n1 d1 n2 d2 w hn1 hd1 hn2 hd2 (by rw [h0, h1]; rfl))) (all_cons (callOK (f := 15) (args := [.agg #[sy 0, sy 1]]) (v := .bool true) (args' := #[.agg #[.int .i64 n1, .int .i64 d1]]) (v' := .bool true) (by kernel_rfl) (by kernel_rfl) (by kernel_rfl) (fun w => by have q := rvalid_any n1 d1 w hn1 hd1; rw [h0] at q; exact q)) (all_cons (callOK (f := 15) (args := [.agg #[sy 2, sy 3]]) (v := .bool false) (args' := #[.agg #[.int .i64 n2, .int .i64 d2]]) (v' := .bool false) (by kernel_rfl) (by kernel_rfl) (by kernel_rfl) (fun w => by have q := rvalid_any n2 d2 w hn2 hd2; rw [h1] at q; exact q)) (all_cons (callOKb (f := 13) (args := []) (v := .bool true) (args' := #[]) (v' := .bool true) (by kernel_rfl) (by kernel_rfl) (by kernel_rfl) (fun w1 hw1 => awake_any w1 w0 ht hw1)) all_nil)))), all_nil, all_nil, all_nil, all_nil, all_nil, all_nil, all_nil, all_nil, all_nil, all_nil, all_nil, all_nil⟩ 1000 50 7 [.agg #[sy 0, sy 1], .agg #[sy 2, sy 3], .agg #[sy 4, sy 5]] (.bool true) (args' := #[.agg #[.int .i64 n1, .int .i64 d1], .agg #[.int .i64 n2, .int .i64 d2], .agg #[.int .i64 n3, .int .i64 d3]]) (v' := .bool true) (by kernel_rfl) (by kernel_rfl) (by kernel_rfl) w hw
    · rcases h2 : (decide ((cmpV n1 d1 n2 d2) ≤ 0)) with _ | _
      · have vn1 : bd (-999999999999999999) 999999999999999999 n1 := (vb_ok h0).1
        have vd1 : bd 1 999999999999999999 d1 := (vb_ok h0).2.1
        have vn2 : bd (-999999999999999999) 999999999999999999 n2 := (vb_ok h1).1
        have vd2 : bd 1 999999999999999999 d2 := (vb_ok h1).2.1
        exact run_know (P := Tryd.prog) (ρ := env [n1, d1, n2, d2, n3, d3, (cmpV n1 d1 n2 d2)] [] w0) (o := { bin := [(.gtr, 3, .int .i64 (sn 6), .int .i64 0, .bool true)], calls := [(33, [.agg #[sy 0, sy 1], .agg #[sy 2, sy 3]], .tuple #[.agg #[.int .i64 0, .int .i64 0], .int .i64 1]), (15, [.agg #[sy 0, sy 1]], .bool true), (15, [.agg #[sy 2, sy 3]], .bool true), (28, [.agg #[sy 0, sy 1], .agg #[sy 2, sy 3]], sy 6), (13, [], .bool true)] }) ⟨(all_cons (cmpOK (op := .gtr) (ty := 3) (k := .i64) (n := (sn 6)) (m := 0) (t := true) (a := (cmpV n1 d1 n2 d2)) (b := 0) (by kernel_rfl) (by kernel_rfl) (congrArg some ((gt_of_le h2)))) all_nil), all_nil, all_nil, all_nil, (all_cons (callOK (f := 33) (args := [.agg #[sy 0, sy 1], .agg #[sy 2, sy 3]]) (v := .tuple #[.agg #[.int .i64 0, .int .i64 0], .int .i64 1]) (args' := #[.agg #[.int .i64 n1, .int .i64 d1], .agg #[.int .i64 n2, .int .i64 d2]]) (v' := .tuple #[.agg #[.int .i64 0, .int .i64 0], .int .i64 1]) (by kernel_rfl) (by kernel_rfl) (by kernel_rfl) (fun w => Simp_no n1 d1 n2 d2 w hn1 hd1 hn2 hd2 (by rw [h0, h1, h2]; rfl))) (all_cons (callOK (f := 15) (args := [.agg #[sy 0, sy 1]]) (v := .bool true) (args' := #[.agg #[.int .i64 n1, .int .i64 d1]]) (v' := .bool true) (by kernel_rfl) (by kernel_rfl) (by kernel_rfl) (fun w => by have q := rvalid_any n1 d1 w hn1 hd1; rw [h0] at q; exact q)) (all_cons (callOK (f := 15) (args := [.agg #[sy 2, sy 3]]) (v := .bool true) (args' := #[.agg #[.int .i64 n2, .int .i64 d2]]) (v' := .bool true) (by kernel_rfl) (by kernel_rfl) (by kernel_rfl) (fun w => by have q := rvalid_any n2 d2 w hn2 hd2; rw [h1] at q; exact q)) (all_cons (callOK (f := 28) (args := [.agg #[sy 0, sy 1], .agg #[sy 2, sy 3]]) (v := sy 6) (args' := #[.agg #[.int .i64 n1, .int .i64 d1], .agg #[.int .i64 n2, .int .i64 d2]]) (v' := .int .i64 (cmpV n1 d1 n2 d2)) (by kernel_rfl) (by kernel_rfl) (by kernel_rfl) (fun w => rcmp_any n1 d1 n2 d2 w vn1 vd1 vn2 vd2)) (all_cons (callOKb (f := 13) (args := []) (v := .bool true) (args' := #[]) (v' := .bool true) (by kernel_rfl) (by kernel_rfl) (by kernel_rfl) (fun w1 hw1 => awake_any w1 w0 ht hw1)) all_nil))))), all_nil, all_nil, all_nil, all_nil, all_nil, all_nil, all_nil, all_nil, all_nil, all_nil, all_nil, all_nil⟩ 1000 50 7 [.agg #[sy 0, sy 1], .agg #[sy 2, sy 3], .agg #[sy 4, sy 5]] (.bool true) (args' := #[.agg #[.int .i64 n1, .int .i64 d1], .agg #[.int .i64 n2, .int .i64 d2], .agg #[.int .i64 n3, .int .i64 d3]]) (v' := .bool true) (by kernel_rfl) (by kernel_rfl) (by kernel_rfl) w hw
      · rcases h3 : (validB n3 d3) with _ | _
        · have hc : cmpV n1 d1 n2 d2 ≤ 0 := (of_decide_eq_true h2)
          have vn1 : bd (-999999999999999999) 999999999999999999 n1 := (vb_ok h0).1
          have vd1 : bd 1 999999999999999999 d1 := (vb_ok h0).2.1
          have vn2 : bd (-999999999999999999) 999999999999999999 n2 := (vb_ok h1).1
          have vd2 : bd 1 999999999999999999 d2 := (vb_ok h1).2.1
          have X := simpV_props h0 h1 hc
          have p1 : 0 < d1 := by have g := vd1; simp only [bd] at g; omega
          have p2 : 0 < d2 := by have g := vd2; simp only [bd] at g; omega
          have px : 0 < (simpV n1 d1 n2 d2).2 := by have g := (vb_ok X.1).2.1; simp only [bd] at g; omega
          exact run_know (P := Tryd.prog) (ρ := env [n1, d1, n2, d2, n3, d3, (simpV n1 d1 n2 d2).1, (simpV n1 d1 n2 d2).2, (cmpV n1 d1 n2 d2), (cmpV n1 d1 (simpV n1 d1 n2 d2).1 (simpV n1 d1 n2 d2).2), (cmpV (simpV n1 d1 n2 d2).1 (simpV n1 d1 n2 d2).2 n2 d2)] [] w0) (o := { bin := [(.gtr, 3, .int .i64 (sn 8), .int .i64 0, .bool false), (.neq, 23, .agg #[sy 6, sy 7], .agg #[sy 6, sy 7], .bool false), (.gtr, 3, .int .i64 (sn 9), .int .i64 0, .bool false), (.gtr, 3, .int .i64 (sn 10), .int .i64 0, .bool false)], calls := [(15, [.agg #[sy 0, sy 1]], .bool true), (15, [.agg #[sy 2, sy 3]], .bool true), (33, [.agg #[sy 0, sy 1], .agg #[sy 2, sy 3]], .tuple #[.agg #[sy 6, sy 7], .int .i64 0]), (28, [.agg #[sy 0, sy 1], .agg #[sy 2, sy 3]], sy 8), (34, [.agg #[sy 0, sy 1], .agg #[sy 2, sy 3]], .agg #[sy 6, sy 7]), (27, [.agg #[sy 0, sy 1], .agg #[sy 6, sy 7]], sy 9), (27, [.agg #[sy 6, sy 7], .agg #[sy 2, sy 3]], sy 10), (15, [.agg #[sy 4, sy 5]], .bool false), (13, [], .bool true)] }) ⟨(all_cons (cmpOK (op := .gtr) (ty := 3) (k := .i64) (n := (sn 8)) (m := 0) (t := false) (a := (cmpV n1 d1 n2 d2)) (b := 0) (by kernel_rfl) (by kernel_rfl) (congrArg some ((gt_of_le h2)))) (all_cons (structOK (op := .neq) (ty := 23) (x := .agg #[sy 6, sy 7]) (y := .agg #[sy 6, sy 7]) (x' := .agg #[.int .i64 ((simpV n1 d1 n2 d2).1), .int .i64 ((simpV n1 d1 n2 d2).2)]) (y' := .agg #[.int .i64 ((simpV n1 d1 n2 d2).1), .int .i64 ((simpV n1 d1 n2 d2).2)]) (t := false) (by kernel_rfl) (by kernel_rfl) (by kernel_rfl) (by kernel_rfl) (fun p q w => frac_guard .neq p q _ _ w) (fun w => by have q := frac_neq ((simpV n1 d1 n2 d2).1) ((simpV n1 d1 n2 d2).2) ((simpV n1 d1 n2 d2).1) ((simpV n1 d1 n2 d2).2) w; rw [show ((((simpV n1 d1 n2 d2).1) == ((simpV n1 d1 n2 d2).1)) && (((simpV n1 d1 n2 d2).2) == ((simpV n1 d1 n2 d2).2))) = true from (by simp)] at q; exact q)) (all_cons (cmpOK (op := .gtr) (ty := 3) (k := .i64) (n := (sn 9)) (m := 0) (t := false) (a := ((cmpV n1 d1 (simpV n1 d1 n2 d2).1 (simpV n1 d1 n2 d2).2))) (b := 0) (by kernel_rfl) (by kernel_rfl) (congrArg some ((gt_of_le (show decide (((cmpV n1 d1 (simpV n1 d1 n2 d2).1 (simpV n1 d1 n2 d2).2)) ≤ 0) = true from (decide_eq_true (cmp_le.2 X.2.1))))))) (all_cons (cmpOK (op := .gtr) (ty := 3) (k := .i64) (n := (sn 10)) (m := 0) (t := false) (a := ((cmpV (simpV n1 d1 n2 d2).1 (simpV n1 d1 n2 d2).2 n2 d2))) (b := 0) (by kernel_rfl) (by kernel_rfl) (congrArg some ((gt_of_le (show decide (((cmpV (simpV n1 d1 n2 d2).1 (simpV n1 d1 n2 d2).2 n2 d2)) ≤ 0) = true from (decide_eq_true (cmp_le.2 X.2.2.1))))))) all_nil)))), all_nil, all_nil, all_nil, (all_cons (callOK (f := 15) (args := [.agg #[sy 0, sy 1]]) (v := .bool true) (args' := #[.agg #[.int .i64 n1, .int .i64 d1]]) (v' := .bool true) (by kernel_rfl) (by kernel_rfl) (by kernel_rfl) (fun w => by have q := rvalid_any n1 d1 w hn1 hd1; rw [h0] at q; exact q)) (all_cons (callOK (f := 15) (args := [.agg #[sy 2, sy 3]]) (v := .bool true) (args' := #[.agg #[.int .i64 n2, .int .i64 d2]]) (v' := .bool true) (by kernel_rfl) (by kernel_rfl) (by kernel_rfl) (fun w => by have q := rvalid_any n2 d2 w hn2 hd2; rw [h1] at q; exact q)) (all_cons (callOK (f := 33) (args := [.agg #[sy 0, sy 1], .agg #[sy 2, sy 3]]) (v := .tuple #[.agg #[sy 6, sy 7], .int .i64 0]) (args' := #[.agg #[.int .i64 n1, .int .i64 d1], .agg #[.int .i64 n2, .int .i64 d2]]) (v' := .tuple #[.agg #[.int .i64 ((simpV n1 d1 n2 d2).1), .int .i64 ((simpV n1 d1 n2 d2).2)], .int .i64 0]) (by kernel_rfl) (by kernel_rfl) (by kernel_rfl) (fun w => Simp_any n1 d1 n2 d2 w h0 h1 hc)) (all_cons (callOK (f := 28) (args := [.agg #[sy 0, sy 1], .agg #[sy 2, sy 3]]) (v := sy 8) (args' := #[.agg #[.int .i64 n1, .int .i64 d1], .agg #[.int .i64 n2, .int .i64 d2]]) (v' := .int .i64 (cmpV n1 d1 n2 d2)) (by kernel_rfl) (by kernel_rfl) (by kernel_rfl) (fun w => rcmp_any n1 d1 n2 d2 w vn1 vd1 vn2 vd2)) (all_cons (callOK (f := 34) (args := [.agg #[sy 0, sy 1], .agg #[sy 2, sy 3]]) (v := .agg #[sy 6, sy 7]) (args' := #[.agg #[.int .i64 n1, .int .i64 d1], .agg #[.int .i64 n2, .int .i64 d2]]) (v' := .agg #[.int .i64 ((simpV n1 d1 n2 d2).1), .int .i64 ((simpV n1 d1 n2 d2).2)]) (by kernel_rfl) (by kernel_rfl) (by kernel_rfl) (fun w => rSimp_any n1 d1 n2 d2 w h0 h1 hc)) (all_cons (callOK (f := 27) (args := [.agg #[sy 0, sy 1], .agg #[sy 6, sy 7]]) (v := sy 9) (args' := #[.agg #[.int .i64 n1, .int .i64 d1], .agg #[.int .i64 ((simpV n1 d1 n2 d2).1), .int .i64 ((simpV n1 d1 n2 d2).2)]]) (v' := .int .i64 ((cmpV n1 d1 (simpV n1 d1 n2 d2).1 (simpV n1 d1 n2 d2).2))) (by kernel_rfl) (by kernel_rfl) (by kernel_rfl) (fun w => by have q := cmp_any n1 d1 (simpV n1 d1 n2 d2).1 (simpV n1 d1 n2 d2).2 w hn1 hd1 (bd_weak (vb_ok X.1).1 rfl) (bd_weak (vb_ok X.1).2.1 rfl); rw [show cmpF n1 d1 (simpV n1 d1 n2 d2).1 (simpV n1 d1 n2 d2).2 = cmpV n1 d1 (simpV n1 d1 n2 d2).1 (simpV n1 d1 n2 d2).2 from by unfold cmpF; rw [h0, X.1]; rfl] at q; exact q)) (all_cons (callOK (f := 27) (args := [.agg #[sy 6, sy 7], .agg #[sy 2, sy 3]]) (v := sy 10) (args' := #[.agg #[.int .i64 ((simpV n1 d1 n2 d2).1), .int .i64 ((simpV n1 d1 n2 d2).2)], .agg #[.int .i64 n2, .int .i64 d2]]) (v' := .int .i64 ((cmpV (simpV n1 d1 n2 d2).1 (simpV n1 d1 n2 d2).2 n2 d2))) (by kernel_rfl) (by kernel_rfl) (by kernel_rfl) (fun w => by have q := cmp_any (simpV n1 d1 n2 d2).1 (simpV n1 d1 n2 d2).2 n2 d2 w (bd_weak (vb_ok X.1).1 rfl) (bd_weak (vb_ok X.1).2.1 rfl) hn2 hd2; rw [show cmpF (simpV n1 d1 n2 d2).1 (simpV n1 d1 n2 d2).2 n2 d2 = cmpV (simpV n1 d1 n2 d2).1 (simpV n1 d1 n2 d2).2 n2 d2 from by unfold cmpF; rw [h1, X.1]; rfl] at q; exact q)) (all_cons (callOK (f := 15) (args := [.agg #[sy 4, sy 5]]) (v := .bool false) (args' := #[.agg #[.int .i64 n3, .int .i64 d3]]) (v' := .bool false) (by kernel_rfl) (by kernel_rfl) (by kernel_rfl) (fun w => by have q := rvalid_any n3 d3 w hn3 hd3; rw [h3] at q; exact q)) (all_cons (callOKb (f := 13) (args := []) (v := .bool true) (args' := #[]) (v' := .bool true) (by kernel_rfl) (by kernel_rfl) (by kernel_rfl) (fun w1 hw1 => awake_any w1 w0 ht hw1)) all_nil))))))))), all_nil, all_nil, all_nil, all_nil, all_nil, all_nil, all_nil, all_nil, all_nil, all_nil, all_nil, all_nil⟩ 1000 50 7 [.agg #[sy 0, sy 1], .agg #[sy 2, sy 3], .agg #[sy 4, sy 5]] (.bool true) (args' := #[.agg #[.int .i64 n1, .int .i64 d1], .agg #[.int .i64 n2, .int .i64 d2], .agg #[.int .i64 n3, .int .i64 d3]]) (v' := .bool true) (by kernel_rfl) (by kernel_rfl) (by kernel_rfl) w hw
        · rcases h4 : (decide ((cmpV n2 d2 n3 d3) ≤ 0)) with _ | _
          · have hc : cmpV n1 d1 n2 d2 ≤ 0 := (of_decide_eq_true h2)
            have vn1 : bd (-999999999999999999) 999999999999999999 n1 := (vb_ok h0).1
            have vd1 : bd 1 999999999999999999 d1 := (vb_ok h0).2.1
            have vn2 : bd (-999999999999999999) 999999999999999999 n2 := (vb_ok h1).1
            have vd2 : bd 1 999999999999999999 d2 := (vb_ok h1).2.1
            have X := simpV_props h0 h1 hc
            have p1 : 0 < d1 := by have g := vd1; simp only [bd] at g; omega
            have p2 : 0 < d2 := by have g := vd2; simp only [bd] at g; omega
            have px : 0 < (simpV n1 d1 n2 d2).2 := by have g := (vb_ok X.1).2.1; simp only [bd] at g; omega
            have vn3 : bd (-999999999999999999) 999999999999999999 n3 := (vb_ok h3).1
            have vd3 : bd 1 999999999999999999 d3 := (vb_ok h3).2.1
            exact run_know (P := Tryd.prog) (ρ := env [n1, d1, n2, d2, n3, d3, (simpV n1 d1 n2 d2).1, (simpV n1 d1 n2 d2).2, (cmpV n1 d1 n2 d2), (cmpV n1 d1 (simpV n1 d1 n2 d2).1 (simpV n1 d1 n2 d2).2), (cmpV (simpV n1 d1 n2 d2).1 (simpV n1 d1 n2 d2).2 n2 d2), (cmpV n2 d2 n3 d3)] [] w0) (o := { bin := [(.gtr, 3, .int .i64 (sn 8), .int .i64 0, .bool false), (.neq, 23, .agg #[sy 6, sy 7], .agg #[sy 6, sy 7], .bool false), (.gtr, 3, .int .i64 (sn 9), .int .i64 0, .bool false), (.gtr, 3, .int .i64 (sn 10), .int .i64 0, .bool false), (.gtr, 3, .int .i64 (sn 11), .int .i64 0, .bool true)], calls := [(15, [.agg #[sy 0, sy 1]], .bool true), (15, [.agg #[sy 2, sy 3]], .bool true), (33, [.agg #[sy 0, sy 1], .agg #[sy 2, sy 3]], .tuple #[.agg #[sy 6, sy 7], .int .i64 0]), (28, [.agg #[sy 0, sy 1], .agg #[sy 2, sy 3]], sy 8), (34, [.agg #[sy 0, sy 1], .agg #[sy 2, sy 3]], .agg #[sy 6, sy 7]), (27, [.agg #[sy 0, sy 1], .agg #[sy 6, sy 7]], sy 9), (27, [.agg #[sy 6, sy 7], .agg #[sy 2, sy 3]], sy 10), (15, [.agg #[sy 4, sy 5]], .bool true), (28, [.agg #[sy 2, sy 3], .agg #[sy 4, sy 5]], sy 11), (13, [], .bool true)] }) ⟨(all_cons (cmpOK (op := .gtr) (ty := 3) (k := .i64) (n := (sn 8)) (m := 0) (t := false) (a := (cmpV n1 d1 n2 d2)) (b := 0) (by kernel_rfl) (by kernel_rfl) (congrArg some ((gt_of_le h2)))) (all_cons (structOK (op := .neq) (ty := 23) (x := .agg #[sy 6, sy 7]) (y := .agg #[sy 6, sy 7]) (x' := .agg #[.int .i64 ((simpV n1 d1 n2 d2).1), .int .i64 ((simpV n1 d1 n2 d2).2)]) (y' := .agg #[.int .i64 ((simpV n1 d1 n2 d2).1), .int .i64 ((simpV n1 d1 n2 d2).2)]) (t := false) (by kernel_rfl) (by kernel_rfl) (by kernel_rfl) (by kernel_rfl) (fun p q w => frac_guard .neq p q _ _ w) (fun w => by have q := frac_neq ((simpV n1 d1 n2 d2).1) ((simpV n1 d1 n2 d2).2) ((simpV n1 d1 n2 d2).1) ((simpV n1 d1 n2 d2).2) w; rw [show ((((simpV n1 d1 n2 d2).1) == ((simpV n1 d1 n2 d2).1)) && (((simpV n1 d1 n2 d2).2) == ((simpV n1 d1 n2 d2).2))) = true from (by simp)] at q; exact q)) (all_cons (cmpOK (op := .gtr) (ty := 3) (k := .i64) (n := (sn 9)) (m := 0) (t := false) (a := ((cmpV n1 d1 (simpV n1 d1 n2 d2).1 (simpV n1 d1 n2 d2).2))) (b := 0) (by kernel_rfl) (by kernel_rfl) (congrArg some ((gt_of_le (show decide (((cmpV n1 d1 (simpV n1 d1 n2 d2).1 (simpV n1 d1 n2 d2).2)) ≤ 0) = true from (decide_eq_true (cmp_le.2 X.2.1))))))) (all_cons (cmpOK (op := .gtr) (ty := 3) (k := .i64) (n := (sn 10)) (m := 0) (t := false) (a := ((cmpV (simpV n1 d1 n2 d2).1 (simpV n1 d1 n2 d2).2 n2 d2))) (b := 0) (by kernel_rfl) (by kernel_rfl) (congrArg some ((gt_of_le (show decide (((cmpV (simpV n1 d1 n2 d2).1 (simpV n1 d1 n2 d2).2 n2 d2)) ≤ 0) = true from (decide_eq_true (cmp_le.2 X.2.2.1))))))) (all_cons (cmpOK (op := .gtr) (ty := 3) (k := .i64) (n := (sn 11)) (m := 0) (t := true) (a := (cmpV n2 d2 n3 d3)) (b := 0) (by kernel_rfl) (by kernel_rfl) (congrArg some ((gt_of_le h4)))) all_nil))))), all_nil, all_nil, all_nil, (all_cons (callOK (f := 15) (args := [.agg #[sy 0, sy 1]]) (v := .bool true) (args' := #[.agg #[.int .i64 n1, .int .i64 d1]]) (v' := .bool true) (by kernel_rfl) (by kernel_rfl) (by kernel_rfl) (fun w => by have q := rvalid_any n1 d1 w hn1 hd1; rw [h0] at q; exact q)) (all_cons (callOK (f := 15) (args := [.agg #[sy 2, sy 3]]) (v := .bool true) (args' := #[.agg #[.int .i64 n2, .int .i64 d2]]) (v' := .bool true) (by kernel_rfl) (by kernel_rfl) (by kernel_rfl) (fun w => by have q := rvalid_any n2 d2 w hn2 hd2; rw [h1] at q; exact q)) (all_cons (callOK (f := 33) (args := [.agg #[sy 0, sy 1], .agg #[sy 2, sy 3]]) (v := .tuple #[.agg #[sy 6, sy 7], .int .i64 0]) (args' := #[.agg #[.int .i64 n1, .int .i64 d1], .agg #[.int .i64 n2, .int .i64 d2]]) (v' := .tuple #[.agg #[.int .i64 ((simpV n1 d1 n2 d2).1), .int .i64 ((simpV n1 d1 n2 d2).2)], .int .i64 0]) (by kernel_rfl) (by kernel_rfl) (by kernel_rfl) (fun w => Simp_any n1 d1 n2 d2 w h0 h1 hc)) (all_cons (callOK (f := 28) (args := [.agg #[sy 0, sy 1], .agg #[sy 2, sy 3]]) (v := sy 8) (args' := #[.agg #[.int .i64 n1, .int .i64 d1], .agg #[.int .i64 n2, .int .i64 d2]]) (v' := .int .i64 (cmpV n1 d1 n2 d2)) (by kernel_rfl) (by kernel_rfl) (by kernel_rfl) (fun w => rcmp_any n1 d1 n2 d2 w vn1 vd1 vn2 vd2)) (all_cons (callOK (f := 34) (args := [.agg #[sy 0, sy 1], .agg #[sy 2, sy 3]]) (v := .agg #[sy 6, sy 7]) (args' := #[.agg #[.int .i64 n1, .int .i64 d1], .agg #[.int .i64 n2, .int .i64 d2]]) (v' := .agg #[.int .i64 ((simpV n1 d1 n2 d2).1), .int .i64 ((simpV n1 d1 n2 d2).2)]) (by kernel_rfl) (by kernel_rfl) (by kernel_rfl) (fun w => rSimp_any n1 d1 n2 d2 w h0 h1 hc)) (all_cons (callOK (f := 27) (args := [.agg #[sy 0, sy 1], .agg #[sy 6, sy 7]]) (v := sy 9) (args' := #[.agg #[.int .i64 n1, .int .i64 d1], .agg #[.int .i64 ((simpV n1 d1 n2 d2).1), .int .i64 ((simpV n1 d1 n2 d2).2)]]) (v' := .int .i64 ((cmpV n1 d1 (simpV n1 d1 n2 d2).1 (simpV n1 d1 n2 d2).2))) (by kernel_rfl) (by kernel_rfl) (by kernel_rfl) (fun w => by have q := cmp_any n1 d1 (simpV n1 d1 n2 d2).1 (simpV n1 d1 n2 d2).2 w hn1 hd1 (bd_weak (vb_ok X.1).1 rfl) (bd_weak (vb_ok X.1).2.1 rfl); rw [show cmpF n1 d1 (simpV n1 d1 n2 d2).1 (simpV n1 d1 n2 d2).2 = cmpV n1 d1 (simpV n1 d1 n2 d2).1 (simpV n1 d1 n2 d2).2 from by unfold cmpF; rw [h0, X.1]; rfl] at q; exact q)) (all_cons (callOK (f := 27) (args := [.agg #[sy 6, sy 7], .agg #[sy 2, sy 3]]) (v := sy 10) (args' := #[.agg #[.int .i64 ((simpV n1 d1 n2 d2).1), .int .i64 ((simpV n1 d1 n2 d2).2)], .agg #[.int .i64 n2, .int .i64 d2]]) (v' := .int .i64 ((cmpV (simpV n1 d1 n2 d2).1 (simpV n1 d1 n2 d2).2 n2 d2))) (by kernel_rfl) (by kernel_rfl) (by kernel_rfl) (fun w => by have q := cmp_any (simpV n1 d1 n2 d2).1 (simpV n1 d1 n2 d2).2 n2 d2 w (bd_weak (vb_ok X.1).1 rfl) (bd_weak (vb_ok X.1).2.1 rfl) hn2 hd2; rw [show cmpF (simpV n1 d1 n2 d2).1 (simpV n1 d1 n2 d2).2 n2 d2 = cmpV (simpV n1 d1 n2 d2).1 (simpV n1 d1 n2 d2).2 n2 d2 from by unfold cmpF; rw [h1, X.1]; rfl] at q; exact q)) (all_cons (callOK (f := 15) (args := [.agg #[sy 4, sy 5]]) (v := .bool true) (args' := #[.agg #[.int .i64 n3, .int .i64 d3]]) (v' := .bool true) (by kernel_rfl) (by kernel_rfl) (by kernel_rfl) (fun w => by have q := rvalid_any n3 d3 w hn3 hd3; rw [h3] at q; exact q)) (all_cons (callOK (f := 28) (args := [.agg #[sy 2, sy 3], .agg #[sy 4, sy 5]]) (v := sy 11) (args' := #[.agg #[.int .i64 n2, .int .i64 d2], .agg #[.int .i64 n3, .int .i64 d3]]) (v' := .int .i64 (cmpV n2 d2 n3 d3)) (by kernel_rfl) (by kernel_rfl) (by kernel_rfl) (fun w => rcmp_any n2 d2 n3 d3 w vn2 vd2 vn3 vd3)) (all_cons (callOKb (f := 13) (args := []) (v := .bool true) (args' := #[]) (v' := .bool true) (by kernel_rfl) (by kernel_rfl) (by kernel_rfl) (fun w1 hw1 => awake_any w1 w0 ht hw1)) all_nil)))))))))), all_nil, all_nil, all_nil, all_nil, all_nil, all_nil, all_nil, all_nil, all_nil, all_nil, all_nil, all_nil⟩ 1000 50 7 [.agg #[sy 0, sy 1], .agg #[sy 2, sy 3], .agg #[sy 4, sy 5]] (.bool true) (args' := #[.agg #[.int .i64 n1, .int .i64 d1], .agg #[.int .i64 n2, .int .i64 d2], .agg #[.int .i64 n3, .int .i64 d3]]) (v' := .bool true) (by kernel_rfl) (by kernel_rfl) (by kernel_rfl) w hw
          · have hc : cmpV n1 d1 n2 d2 ≤ 0 := (of_decide_eq_true h2)
            have vn1 : bd (-999999999999999999) 999999999999999999 n1 := (vb_ok h0).1
            have vd1 : bd 1 999999999999999999 d1 := (vb_ok h0).2.1
            have vn2 : bd (-999999999999999999) 999999999999999999 n2 := (vb_ok h1).1
            have vd2 : bd 1 999999999999999999 d2 := (vb_ok h1).2.1
            have X := simpV_props h0 h1 hc
            have p1 : 0 < d1 := by have g := vd1; simp only [bd] at g; omega
            have p2 : 0 < d2 := by have g := vd2; simp only [bd] at g; omega
            have px : 0 < (simpV n1 d1 n2 d2).2 := by have g := (vb_ok X.1).2.1; simp only [bd] at g; omega
            have vn3 : bd (-999999999999999999) 999999999999999999 n3 := (vb_ok h3).1
            have vd3 : bd 1 999999999999999999 d3 := (vb_ok h3).2.1
            have p3 : 0 < d3 := by have g := vd3; simp only [bd] at g; omega
            have hc3 : cmpV n1 d1 n3 d3 ≤ 0 := ord_trans p1 p2 p3 hc (of_decide_eq_true h4)
            have Z := simpV_props h0 h3 hc3
            have hx3 : cmpV (simpV n1 d1 n2 d2).1 (simpV n1 d1 n2 d2).2 n3 d3 ≤ 0 := ord_trans px p2 p3 (cmp_le.2 X.2.2.1) (of_decide_eq_true h4)
            exact run_know (P := Tryd.prog) (ρ := env [n1, d1, n2, d2, n3, d3, (simpV n1 d1 n2 d2).1, (simpV n1 d1 n2 d2).2, (cmpV n1 d1 n2 d2), (cmpV n1 d1 (simpV n1 d1 n2 d2).1 (simpV n1 d1 n2 d2).2), (cmpV (simpV n1 d1 n2 d2).1 (simpV n1 d1 n2 d2).2 n2 d2), (cmpV n2 d2 n3 d3), (simpV n1 d1 n3 d3).1, (simpV n1 d1 n3 d3).2] [] w0) (o := { bin := [(.gtr, 3, .int .i64 (sn 8), .int .i64 0, .bool false), (.neq, 23, .agg #[sy 6, sy 7], .agg #[sy 6, sy 7], .bool false), (.gtr, 3, .int .i64 (sn 9), .int .i64 0, .bool false), (.gtr, 3, .int .i64 (sn 10), .int .i64 0, .bool false), (.gtr, 3, .int .i64 (sn 11), .int .i64 0, .bool false), (.leq, 2, .int .i64 (sn 13), .int .i64 (sn 7), .bool true)], calls := [(15, [.agg #[sy 0, sy 1]], .bool true), (15, [.agg #[sy 2, sy 3]], .bool true), (33, [.agg #[sy 0, sy 1], .agg #[sy 2, sy 3]], .tuple #[.agg #[sy 6, sy 7], .int .i64 0]), (28, [.agg #[sy 0, sy 1], .agg #[sy 2, sy 3]], sy 8), (34, [.agg #[sy 0, sy 1], .agg #[sy 2, sy 3]], .agg #[sy 6, sy 7]), (27, [.agg #[sy 0, sy 1], .agg #[sy 6, sy 7]], sy 9), (27, [.agg #[sy 6, sy 7], .agg #[sy 2, sy 3]], sy 10), (15, [.agg #[sy 4, sy 5]], .bool true), (28, [.agg #[sy 2, sy 3], .agg #[sy 4, sy 5]], sy 11), (33, [.agg #[sy 0, sy 1], .agg #[sy 4, sy 5]], .tuple #[.agg #[sy 12, sy 13], .int .i64 0]), (13, [], .bool true)] }) ⟨(all_cons (cmpOK (op := .gtr) (ty := 3) (k := .i64) (n := (sn 8)) (m := 0) (t := false) (a := (cmpV n1 d1 n2 d2)) (b := 0) (by kernel_rfl) (by kernel_rfl) (congrArg some ((gt_of_le h2)))) (all_cons (structOK (op := .neq) (ty := 23) (x := .agg #[sy 6, sy 7]) (y := .agg #[sy 6, sy 7]) (x' := .agg #[.int .i64 ((simpV n1 d1 n2 d2).1), .int .i64 ((simpV n1 d1 n2 d2).2)]) (y' := .agg #[.int .i64 ((simpV n1 d1 n2 d2).1), .int .i64 ((simpV n1 d1 n2 d2).2)]) (t := false) (by kernel_rfl) (by kernel_rfl) (by kernel_rfl) (by kernel_rfl) (fun p q w => frac_guard .neq p q _ _ w) (fun w => by have q := frac_neq ((simpV n1 d1 n2 d2).1) ((simpV n1 d1 n2 d2).2) ((simpV n1 d1 n2 d2).1) ((simpV n1 d1 n2 d2).2) w; rw [show ((((simpV n1 d1 n2 d2).1) == ((simpV n1 d1 n2 d2).1)) && (((simpV n1 d1 n2 d2).2) == ((simpV n1 d1 n2 d2).2))) = true from (by simp)] at q; exact q)) (all_cons (cmpOK (op := .gtr) (ty := 3) (k := .i64) (n := (sn 9)) (m := 0) (t := false) (a := ((cmpV n1 d1 (simpV n1 d1 n2 d2).1 (simpV n1 d1 n2 d2).2))) (b := 0) (by kernel_rfl) (by kernel_rfl) (congrArg some ((gt_of_le (show decide (((cmpV n1 d1 (simpV n1 d1 n2 d2).1 (simpV n1 d1 n2 d2).2)) ≤ 0) = true from (decide_eq_true (cmp_le.2 X.2.1))))))) (all_cons (cmpOK (op := .gtr) (ty := 3) (k := .i64) (n := (sn 10)) (m := 0) (t := false) (a := ((cmpV (simpV n1 d1 n2 d2).1 (simpV n1 d1 n2 d2).2 n2 d2))) (b := 0) (by kernel_rfl) (by kernel_rfl) (congrArg some ((gt_of_le (show decide (((cmpV (simpV n1 d1 n2 d2).1 (simpV n1 d1 n2 d2).2 n2 d2)) ≤ 0) = true from (decide_eq_true (cmp_le.2 X.2.2.1))))))) (all_cons (cmpOK (op := .gtr) (ty := 3) (k := .i64) (n := (sn 11)) (m := 0) (t := false) (a := (cmpV n2 d2 n3 d3)) (b := 0) (by kernel_rfl) (by kernel_rfl) (congrArg some ((gt_of_le h4)))) (all_cons (cmpOK (op := .leq) (ty := 2) (k := .i64) (n := (sn 13)) (m := (sn 7)) (t := true) (a := ((simpV n1 d1 n3 d3).2)) (b := ((simpV n1 d1 n2 d2).2)) (by kernel_rfl) (by kernel_rfl) (congrArg some ((show decide (((simpV n1 d1 n3 d3).2) ≤ ((simpV n1 d1 n2 d2).2)) = true from (decide_eq_true (Z.2.2.2 (simpV n1 d1 n2 d2).1 (simpV n1 d1 n2 d2).2 px X.2.1 (cmp_le.1 hx3))))))) all_nil)))))), all_nil, all_nil, all_nil, (all_cons (callOK (f := 15) (args := [.agg #[sy 0, sy 1]]) (v := .bool true) (args' := #[.agg #[.int .i64 n1, .int .i64 d1]]) (v' := .bool true) (by kernel_rfl) (by kernel_rfl) (by kernel_rfl) (fun w => by have q := rvalid_any n1 d1 w hn1 hd1; rw [h0] at q; exact q)) (all_cons (callOK (f := 15) (args := [.agg #[sy 2, sy 3]]) (v := .bool true) (args' := #[.agg #[.int .i64 n2, .int .i64 d2]]) (v' := .bool true) (by kernel_rfl) (by kernel_rfl) (by kernel_rfl) (fun w => by have q := rvalid_any n2 d2 w hn2 hd2; rw [h1] at q; exact q)) (all_cons (callOK (f := 33) (args := [.agg #[sy 0, sy 1], .agg #[sy 2, sy 3]]) (v := .tuple #[.agg #[sy 6, sy 7], .int .i64 0]) (args' := #[.agg #[.int .i64 n1, .int .i64 d1], .agg #[.int .i64 n2, .int .i64 d2]]) (v' := .tuple #[.agg #[.int .i64 ((simpV n1 d1 n2 d2).1), .int .i64 ((simpV n1 d1 n2 d2).2)], .int .i64 0]) (by kernel_rfl) (by kernel_rfl) (by kernel_rfl) (fun w => Simp_any n1 d1 n2 d2 w h0 h1 hc)) (all_cons (callOK (f := 28) (args := [.agg #[sy 0, sy 1], .agg #[sy 2, sy 3]]) (v := sy 8) (args' := #[.agg #[.int .i64 n1, .int .i64 d1], .agg #[.int .i64 n2, .int .i64 d2]]) (v' := .int .i64 (cmpV n1 d1 n2 d2)) (by kernel_rfl) (by kernel_rfl) (by kernel_rfl) (fun w => rcmp_any n1 d1 n2 d2 w vn1 vd1 vn2 vd2)) (all_cons (callOK (f := 34) (args := [.agg #[sy 0, sy 1], .agg #[sy 2, sy 3]]) (v := .agg #[sy 6, sy 7]) (args' := #[.agg #[.int .i64 n1, .int .i64 d1], .agg #[.int .i64 n2, .int .i64 d2]]) (v' := .agg #[.int .i64 ((simpV n1 d1 n2 d2).1), .int .i64 ((simpV n1 d1 n2 d2).2)]) (by kernel_rfl) (by kernel_rfl) (by kernel_rfl) (fun w => rSimp_any n1 d1 n2 d2 w h0 h1 hc)) (all_cons (callOK (f := 27) (args := [.agg #[sy 0, sy 1], .agg #[sy 6, sy 7]]) (v := sy 9) (args' := #[.agg #[.int .i64 n1, .int .i64 d1], .agg #[.int .i64 ((simpV n1 d1 n2 d2).1), .int .i64 ((simpV n1 d1 n2 d2).2)]]) (v' := .int .i64 ((cmpV n1 d1 (simpV n1 d1 n2 d2).1 (simpV n1 d1 n2 d2).2))) (by kernel_rfl) (by kernel_rfl) (by kernel_rfl) (fun w => by have q := cmp_any n1 d1 (simpV n1 d1 n2 d2).1 (simpV n1 d1 n2 d2).2 w hn1 hd1 (bd_weak (vb_ok X.1).1 rfl) (bd_weak (vb_ok X.1).2.1 rfl); rw [show cmpF n1 d1 (simpV n1 d1 n2 d2).1 (simpV n1 d1 n2 d2).2 = cmpV n1 d1 (simpV n1 d1 n2 d2).1 (simpV n1 d1 n2 d2).2 from by unfold cmpF; rw [h0, X.1]; rfl] at q; exact q)) (all_cons (callOK (f := 27) (args := [.agg #[sy 6, sy 7], .agg #[sy 2, sy 3]]) (v := sy 10) (args' := #[.agg #[.int .i64 ((simpV n1 d1 n2 d2).1), .int .i64 ((simpV n1 d1 n2 d2).2)], .agg #[.int .i64 n2, .int .i64 d2]]) (v' := .int .i64 ((cmpV (simpV n1 d1 n2 d2).1 (simpV n1 d1 n2 d2).2 n2 d2))) (by kernel_rfl) (by kernel_rfl) (by kernel_rfl) (fun w => by have q := cmp_any (simpV n1 d1 n2 d2).1 (simpV n1 d1 n2 d2).2 n2 d2 w (bd_weak (vb_ok X.1).1 rfl) (bd_weak (vb_ok X.1).2.1 rfl) hn2 hd2; rw [show cmpF (simpV n1 d1 n2 d2).1 (simpV n1 d1 n2 d2).2 n2 d2 = cmpV (simpV n1 d1 n2 d2).1 (simpV n1 d1 n2 d2).2 n2 d2 from by unfold cmpF; rw [h1, X.1]; rfl] at q; exact q)) (all_cons (callOK (f := 15) (args := [.agg #[sy 4, sy 5]]) (v := .bool true) (args' := #[.agg #[.int .i64 n3, .int .i64 d3]]) (v' := .bool true) (by kernel_rfl) (by kernel_rfl) (by kernel_rfl) (fun w => by have q := rvalid_any n3 d3 w hn3 hd3; rw [h3] at q; exact q)) (all_cons (callOK (f := 28) (args := [.agg #[sy 2, sy 3], .agg #[sy 4, sy 5]]) (v := sy 11) (args' := #[.agg #[.int .i64 n2, .int .i64 d2], .agg #[.int .i64 n3, .int .i64 d3]]) (v' := .int .i64 (cmpV n2 d2 n3 d3)) (by kernel_rfl) (by kernel_rfl) (by kernel_rfl) (fun w => rcmp_any n2 d2 n3 d3 w vn2 vd2 vn3 vd3)) (all_cons (callOK (f := 33) (args := [.agg #[sy 0, sy 1], .agg #[sy 4, sy 5]]) (v := .tuple #[.agg #[sy 12, sy 13], .int .i64 0]) (args' := #[.agg #[.int .i64 n1, .int .i64 d1], .agg #[.int .i64 n3, .int .i64 d3]]) (v' := .tuple #[.agg #[.int .i64 ((simpV n1 d1 n3 d3).1), .int .i64 ((simpV n1 d1 n3 d3).2)], .int .i64 0]) (by kernel_rfl) (by kernel_rfl) (by kernel_rfl) (fun w => Simp_any n1 d1 n3 d3 w h0 h3 hc3)) (all_cons (callOKb (f := 13) (args := []) (v := .bool true) (args' := #[]) (v' := .bool true) (by kernel_rfl) (by kernel_rfl) (by kernel_rfl) (fun w1 hw1 => awake_any w1 w0 ht hw1)) all_nil))))))))))), all_nil, all_nil, all_nil, all_nil, all_nil, all_nil, all_nil, all_nil, all_nil, all_nil, all_nil, all_nil⟩ 1000 50 7 [.agg #[sy 0, sy 1], .agg #[sy 2, sy 3], .agg #[sy 4, sy 5]] (.bool true) (args' := #[.agg #[.int .i64 n1, .int .i64 d1], .agg #[.int .i64 n2, .int .i64 d2], .agg #[.int .i64 n3, .int .i64 d3]]) (v' := .bool true) (by kernel_rfl) (by kernel_rfl) (by kernel_rfl) w hw
theorem simplest_row (n1 d1 n2 d2 n3 d3 : Int) (w : World) (h1 : has2 n1 d1) (h2 : has2 n2 d2) (h3 : has2 n3 d3) (ht : Tab w) : Calls Tryd.prog 7 #[.agg #[.int .i64 n1, .int .i64 d1], .agg #[.int .i64 n2, .int .i64 d2], .agg #[.int .i64 n3, .int .i64 d3]] w fun e w' => e = .returned (.bool true) ∧ Below w.heap.size w w' :=
  simplest_law n1 d1 n2 d2 n3 d3 w (has2_bd h1).1 (has2_bd h1).2 (has2_bd h2).1 (has2_bd h2).2 (has2_bd h3).1 (has2_bd h3).2 w ht (Below.refl _ _)
end Go.Proofs.YtdmdpkmdilipaaaDoor.Ev
