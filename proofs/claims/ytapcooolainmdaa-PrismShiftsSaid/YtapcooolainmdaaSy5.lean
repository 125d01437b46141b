/- Entries for unsigned numbers of 64 bits. -/
import Derived.Test.YtapcooolainmdaaSy4
import Derived.Laws.Bits64b
import Derived.Laws.Bits64
import Derived.Laws.Externs
namespace Go.Proofs.Ytapcooolainmdaa.Ev
open Go.RowKit
set_option linter.unusedVariables false
set_option linter.unusedSimpArgs false
variable {ρ : Env} {P : Program}
theorem wrap_u64_nat {a : Nat} (h : a < 18446744073709551616) : IntKind.u64.wrap (a : Int) = (a : Int) := by rw [IntKind.wrap_u64]; omega
theorem wrap_u64_mod (a : Nat) : IntKind.u64.wrap (a : Int) = ((a % 18446744073709551616 : Nat) : Int) := by rw [IntKind.wrap_u64]; omega
theorem binK {op : BinOp} {ty : TypeId} {x y r : Value} (hx : (af x && (af y && af r)) = true) {k l : IntKind} {a b : Int} {v : Value} (ex : inst ρ x = .int k a) (ey : inst ρ y = .int l b) (er : inst ρ r = v)
    (h : ∀ w, (binOp op ty (.int k a) (.int l b)).run P w = .ok v w) : BinOK ρ P (op, ty, x, y, r) := by
  simp only [Bool.and_eq_true] at hx
  refine ⟨hx.1, hx.2.1, hx.2.2, fun p q w => ?_⟩
  simp only [ex, ey, er]
  rw [Sem.run_bind, eqGuard_int, Result.andThen_ok]
  exact h w
theorem b_quo {ty : TypeId} {a b : Nat} (ha : a < 18446744073709551616) (hb : b ≠ 0) (w : World) : (binOp .quo ty (.int .u64 (a : Int)) (.int .u64 (b : Int))).run P w = .ok (.int .u64 ((a / b : Nat) : Int)) w := by
  have h0 : (b : Int) ≠ 0 := by omega
  have : a / b < 18446744073709551616 := Nat.lt_of_le_of_lt (Nat.div_le_self _ _) ha
  have e : Int.tdiv (a : Int) (b : Int) = ((a / b : Nat) : Int) := rfl
  simp only [binOp, Op.intDiv, h0, if_false, e, wrap_u64_nat this, ne_eq, not_true_eq_false, Sem.run_pure, reduceIte]
theorem b_rem {ty : TypeId} {a b : Nat} (hb : b ≠ 0) (w : World) : (binOp .rem ty (.int .u64 (a : Int)) (.int .u64 (b : Int))).run P w = .ok (.int .u64 ((a % b : Nat) : Int)) w := by
  have h0 : (b : Int) ≠ 0 := by omega
  have e : Int.tmod (a : Int) (b : Int) = ((a % b : Nat) : Int) := rfl
  simp only [binOp, Op.intDiv, h0, if_false, e, ne_eq, not_true_eq_false, Sem.run_pure, reduceIte]
theorem b_shl {ty : TypeId} {a s : Nat} {l : IntKind} (hs : s ≤ 64) (w : World) : (binOp .shl ty (.int .u64 (a : Int)) (.int l (s : Int))).run P w = .ok (.int .u64 ((a * 2 ^ s % 18446744073709551616 : Nat) : Int)) w := by
  have h0 : ¬ ((s : Int) < 0) := by omega
  have e : min (s : Int).toNat IntKind.u64.bits = s := by simp [IntKind.bits]; omega
  have e2 : ((a : Int) * 2 ^ s) = ((a * 2 ^ s : Nat) : Int) := by simp
  simp only [binOp, Op.shift, h0, if_false, e, e2, wrap_u64_mod, Sem.run_pure]
theorem b_shr {ty : TypeId} {a s : Nat} {l : IntKind} (hs : s ≤ 64) (w : World) : (binOp .shr ty (.int .u64 (a : Int)) (.int l (s : Int))).run P w = .ok (.int .u64 ((a / 2 ^ s : Nat) : Int)) w := by
  have h0 : ¬ ((s : Int) < 0) := by omega
  have e : min (s : Int).toNat IntKind.u64.bits = s := by simp [IntKind.bits]; omega
  have e2 : (a : Int).fdiv (2 ^ s) = ((a / 2 ^ s : Nat) : Int) := by
    have : (2 : Int) ^ s = ((2 ^ s : Nat) : Int) := by simp
    rw [this, Int.fdiv_eq_ediv_of_nonneg _ (Int.natCast_nonneg _)]; rfl
  simp only [binOp, Op.shift, h0, if_false, e, e2, Sem.run_pure]
theorem b_or {ty : TypeId} {a b : Nat} (ha : a < 18446744073709551616) (hb : b < 18446744073709551616) (w : World) : (binOp .or ty (.int .u64 (a : Int)) (.int .u64 (b : Int))).run P w = .ok (.int .u64 ((a ||| b : Nat) : Int)) w := by
  have h := bits_or_u64_nat a b ha hb
  have : (binOp .or ty (.int .u64 (a : Int)) (.int .u64 (b : Int))).run P w = .ok (.int .u64 (bits .or .u64 (a : Int) (b : Int))) w := by rfl
  rw [this, h]
theorem b_and {ty : TypeId} {a b : Nat} (ha : a < 18446744073709551616) (hb : b < 18446744073709551616) (w : World) : (binOp .and ty (.int .u64 (a : Int)) (.int .u64 (b : Int))).run P w = .ok (.int .u64 ((a &&& b : Nat) : Int)) w := by
  have h := bits_and_u64_nat a b ha hb
  have : (binOp .and ty (.int .u64 (a : Int)) (.int .u64 (b : Int))).run P w = .ok (.int .u64 (bits .and .u64 (a : Int) (b : Int))) w := by rfl
  rw [this, h]
theorem b_arU {op : BinOp} {ty : TypeId} {a b c d : Int} (h : arOf op a b = some d) (hw : IntKind.u64.wrap d = c) (w : World) : (binOp op ty (.int .u64 a) (.int .u64 b)).run P w = .ok (.int .u64 c) w := by
  cases op <;> simp only [arOf, Option.some.injEq] at h <;> first | cases h | skip
  all_goals (subst hw; simp [binOp, Op.intArith])
theorem unK {op : UnOp} {x r : Value} (hx : (af x && af r) = true) {v v' : Value} (ex : inst ρ x = v) (er : inst ρ r = v') (h : ∀ w, (Op.unary op v).run P w = .ok v' w) : UnOK ρ P (op, x, r) := by
  simp only [Bool.and_eq_true] at hx
  exact ⟨hx.1, hx.2, fun w => by rw [ex, er]; exact h w⟩
theorem u_neg {a c : Int} (h : IntKind.u64.wrap (0 - a) = c) (w : World) : (Op.unary .neg (.int .u64 a)).run P w = .ok (.int .u64 c) w := by subst h; rfl
theorem u_not {a : Nat} (ha : a < 18446744073709551616) (w : World) : (Op.unary .xor (.int .u64 (a : Int))).run P w = .ok (.int .u64 ((18446744073709551616 - 1 - a : Nat) : Int)) w := by
  have h := bits_xor_u64_nat (18446744073709551616 - 1) a (by decide) ha
  have e1 : (Op.unary .xor (.int .u64 (a : Int))).run P w = .ok (.int .u64 (bits .xor .u64 (18446744073709551615 : Int) (a : Int))) w := by rfl
  have e2 : (((18446744073709551616 - 1 : Nat) : Nat) : Int) = 18446744073709551615 := by rfl
  rw [e2] at h
  rw [e1, h]
  have e3 : (18446744073709551616 - 1) ^^^ a = 18446744073709551616 - 1 - a := by
    have h1 : BitVec.toNat (~~~ (BitVec.ofNat 64 a)) = 2 ^ 64 - 1 - a := by
      rw [BitVec.toNat_not, BitVec.toNat_ofNat, Nat.mod_eq_of_lt (show a < 2 ^ 64 from ha)]
    have h2 : BitVec.toNat (BitVec.allOnes 64 ^^^ BitVec.ofNat 64 a) = (2 ^ 64 - 1) ^^^ a := by
      rw [BitVec.toNat_xor, BitVec.toNat_allOnes, BitVec.toNat_ofNat, Nat.mod_eq_of_lt (show a < 2 ^ 64 from ha)]
    have h3 : BitVec.allOnes 64 ^^^ BitVec.ofNat 64 a = ~~~ (BitVec.ofNat 64 a) := by rw [BitVec.xor_comm, BitVec.xor_allOnes]
    rw [h3] at h2
    show (2 ^ 64 - 1) ^^^ a = 2 ^ 64 - 1 - a
    rw [← h2, h1]
  rw [e3]
theorem extOK {f : FuncId} {args : List Value} {v v' : Value} {args' : Array Value} (ha : (args.all af && af v) = true) (ea : (args.map (inst ρ)).toArray = args') (ev : inst ρ v = v') (h : ∀ w : World, (callFunc f args').run P w = .ok (.value v') w) : ExtOK ρ P (f, args, v) := by
  rw [Bool.and_eq_true] at ha
  exact ⟨ha.1, ha.2, fun w => by simp only [ea, ev]; exact h w⟩
end Go.Proofs.Ytapcooolainmdaa.Ev
