/- Numbers within bounds; comparisons; quotients. -/
import Derived.Test.YtapcooolainmdaaEvS
import Derived.Test.YtapcooolainmdaaProg
namespace Go.Proofs.Ytapcooolainmdaa.Ev
open Go.RowKit
set_option linter.unusedVariables false
set_option linter.unusedSimpArgs false

abbrev bd (l h x : Int) : Prop := l ≤ x ∧ x ≤ h
def mx (a b : Int) : Int := if b > a then b else a
def mn (a b : Int) : Int := if b < a then b else a
def ok2 (l l' h' h : Int) : Bool := decide (l ≤ l') && decide (h' ≤ h)
theorem bd_weak {l h l' h' x : Int} (p : bd l' h' x) (c : ok2 l l' h' h = true) : bd l h x := by
  simp only [ok2, Bool.and_eq_true, decide_eq_true_eq] at c; obtain ⟨p, q⟩ := p; exact ⟨by omega, by omega⟩
theorem bd_lit {l h x : Int} (c : ok2 l x x h = true) : bd l h x := by
  simp only [ok2, Bool.and_eq_true, decide_eq_true_eq] at c; exact ⟨by omega, by omega⟩
theorem bd_add {l h l1 h1 l2 h2 x y : Int} (p : bd l1 h1 x) (q : bd l2 h2 y) (c : ok2 l (l1 + l2) (h1 + h2) h = true) : bd l h (x + y) := by
  simp only [ok2, Bool.and_eq_true, decide_eq_true_eq] at c; obtain ⟨p, p'⟩ := p; obtain ⟨q, q'⟩ := q; exact ⟨by omega, by omega⟩
theorem bd_sub {l h l1 h1 l2 h2 x y : Int} (p : bd l1 h1 x) (q : bd l2 h2 y) (c : ok2 l (l1 - h2) (h1 - l2) h = true) : bd l h (x - y) := by
  simp only [ok2, Bool.and_eq_true, decide_eq_true_eq] at c; obtain ⟨p, p'⟩ := p; obtain ⟨q, q'⟩ := q; exact ⟨by omega, by omega⟩
theorem bd_neg {l h l1 h1 x : Int} (p : bd l1 h1 x) (c : ok2 l (-h1) (-l1) h = true) : bd l h (-x) := by
  simp only [ok2, Bool.and_eq_true, decide_eq_true_eq] at c; obtain ⟨p, p'⟩ := p; exact ⟨by omega, by omega⟩
theorem bd_mx {l h l1 h1 l2 h2 x y : Int} (p : bd l1 h1 x) (q : bd l2 h2 y) (c : ((decide (l ≤ l1) || decide (l ≤ l2)) && (decide (h1 ≤ h) && decide (h2 ≤ h))) = true) : bd l h (mx x y) := by
  simp only [Bool.and_eq_true, Bool.or_eq_true, decide_eq_true_eq] at c; obtain ⟨p, p'⟩ := p; obtain ⟨q, q'⟩ := q; unfold mx; split <;> exact ⟨by omega, by omega⟩
theorem bd_mn {l h l1 h1 l2 h2 x y : Int} (p : bd l1 h1 x) (q : bd l2 h2 y) (c : ((decide (h1 ≤ h) || decide (h2 ≤ h)) && (decide (l ≤ l1) && decide (l ≤ l2))) = true) : bd l h (mn x y) := by
  simp only [Bool.and_eq_true, Bool.or_eq_true, decide_eq_true_eq] at c; obtain ⟨p, p'⟩ := p; obtain ⟨q, q'⟩ := q; unfold mn; split <;> exact ⟨by omega, by omega⟩
theorem mul_abs {m n x y : Int} (p : -m ≤ x ∧ x ≤ m) (q : -n ≤ y ∧ y ≤ n) : -(m * n) ≤ x * y ∧ x * y ≤ m * n := by
  have hx : x.natAbs ≤ m.natAbs := by omega
  have hy : y.natAbs ≤ n.natAbs := by omega
  have h := Nat.mul_le_mul hx hy
  rw [← Int.natAbs_mul, ← Int.natAbs_mul] at h
  have hm : 0 ≤ m * n := Int.mul_nonneg (by omega) (by omega)
  omega
theorem bd_mul {l h l1 h1 l2 h2 x y : Int} (p : bd l1 h1 x) (q : bd l2 h2 y) (m n : Int) (c : (ok2 (-m) l1 h1 m && (ok2 (-n) l2 h2 n && ok2 l (-(m * n)) (m * n) h)) = true) : bd l h (x * y) := by
  simp only [ok2, Bool.and_eq_true, decide_eq_true_eq] at c
  obtain ⟨p, p'⟩ := p; obtain ⟨q, q'⟩ := q
  have := mul_abs (m := m) (n := n) (x := x) (y := y) ⟨by omega, by omega⟩ ⟨by omega, by omega⟩
  exact ⟨by omega, by omega⟩
theorem bd_quo {l h l1 h1 x y : Int} (p : bd l1 h1 x) (m : Int) (c : (ok2 (-m) l1 h1 m && ok2 l (-m) m h) = true) : bd l h (x.tdiv y) := by
  simp only [ok2, Bool.and_eq_true, decide_eq_true_eq] at c
  obtain ⟨p, p'⟩ := p
  have h1 : (x.tdiv y).natAbs ≤ x.natAbs := by rw [Int.natAbs_tdiv]; exact Nat.div_le_self _ _
  exact ⟨by omega, by omega⟩
theorem bd_rem {l h l1 h1 x y : Int} (p : bd l1 h1 x) (m : Int) (c : (ok2 (-m) l1 h1 m && ok2 l (-m) m h) = true) : bd l h (x.tmod y) := by
  simp only [ok2, Bool.and_eq_true, decide_eq_true_eq] at c
  obtain ⟨p, p'⟩ := p
  have h1 : (x.tmod y).natAbs ≤ x.natAbs := by rw [Int.natAbs_tmod]; exact Nat.mod_le _ _
  exact ⟨by omega, by omega⟩
theorem wr_bd {l h x : Int} (p : bd l h x) (c : ok2 (-9223372036854775808) l h 9223372036854775807 = true) : IntKind.i64.wrap x = x := by
  simp only [ok2, Bool.and_eq_true, decide_eq_true_eq] at c; obtain ⟨p, p'⟩ := p
  rw [IntKind.wrap_i64]; omega
theorem wr_neg {l h x : Int} (p : bd l h (-x)) (c : ok2 (-9223372036854775808) l h 9223372036854775807 = true) : IntKind.i64.wrap (0 - x) = -x := by
  rw [Int.zero_sub]; exact wr_bd p c
theorem wr_add0 {l h x : Int} (p : bd l h x) (c : ok2 (-9223372036854775808) l h 9223372036854775807 = true) : IntKind.i64.wrap (0 + x) = x := by
  rw [Int.zero_add]; exact wr_bd p c
theorem wr_addz {l h x : Int} (p : bd l h x) (c : ok2 (-9223372036854775808) l h 9223372036854775807 = true) : IntKind.i64.wrap (x + 0) = x := by
  rw [Int.add_zero]; exact wr_bd p c
theorem gt_of_le {x y : Int} {b : Bool} (h : decide (x ≤ y) = b) : decide (x > y) = !b := by
  rw [← h, Bool.eq_iff_iff]; simp
theorem lt_of_le {x y : Int} {b : Bool} (h : decide (y ≤ x) = b) : decide (x < y) = !b := by
  rw [← h, Bool.eq_iff_iff]; simp
theorem lt_c {x c d : Int} {b : Bool} (h : decide (x ≤ d) = b) (hd : decide (d = c - 1) = true) : decide (x < c) = b := by
  simp only [decide_eq_true_eq] at hd; subst hd; rw [← h, Bool.eq_iff_iff]; simp only [decide_eq_true_eq]; omega
theorem ge_c {x c d : Int} {b : Bool} (h : decide (x ≤ d) = b) (hd : decide (d = c - 1) = true) : decide (x ≥ c) = !b := by
  simp only [decide_eq_true_eq] at hd; subst hd; rw [← h, Bool.eq_iff_iff]; simp only [decide_eq_true_eq, Bool.not_eq_true', decide_eq_false_iff_not]; omega
theorem le_c {y c d : Int} {b : Bool} (h : decide (y ≤ d) = b) (hd : decide (d = c - 1) = true) : decide (c ≤ y) = !b := ge_c h hd
theorem ne_of {x y : Int} {b : Bool} (h : (x == y) = b) : (x != y) = !b := by rw [← h]; rfl
theorem eq_symm {x y : Int} {b : Bool} (h : (x == y) = b) : (y == x) = b := by rw [← h, Bool.eq_iff_iff]; simp only [beq_iff_eq]; exact eq_comm
variable {ρ : Env} {P : Program}
theorem quoOK {ty : TypeId} {n m r a b : Int} (ha : valOf ρ n = a) (hb : valOf ρ m = b) (hc : valOf ρ r = a.tdiv b) (h0 : b ≠ 0) (hw : IntKind.i64.wrap (a.tdiv b) = a.tdiv b) : BinOK ρ P (.quo, ty, .int .i64 n, .int .i64 m, .int .i64 r) := by
  refine ⟨rfl, rfl, rfl, fun x y w => ?_⟩
  simp only [inst_int, ha, hb, hc]
  rw [Sem.run_bind, eqGuard_int, Result.andThen_ok]
  simp [binOp, Op.intArith, Op.intDiv, h0, hw]
theorem remOK {ty : TypeId} {n m r a b : Int} (ha : valOf ρ n = a) (hb : valOf ρ m = b) (hc : valOf ρ r = a.tmod b) (h0 : b ≠ 0) : BinOK ρ P (.rem, ty, .int .i64 n, .int .i64 m, .int .i64 r) := by
  refine ⟨rfl, rfl, rfl, fun x y w => ?_⟩
  simp only [inst_int, ha, hb, hc]
  rw [Sem.run_bind, eqGuard_int, Result.andThen_ok]
  simp [binOp, Op.intArith, Op.intDiv, h0]
end Go.Proofs.Ytapcooolainmdaa.Ev
