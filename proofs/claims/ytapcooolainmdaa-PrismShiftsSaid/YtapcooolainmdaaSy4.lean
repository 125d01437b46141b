/- Numbers of every kind, strings as opaque values. -/
import Derived.Test.YtapcooolainmdaaEvM
import Derived.Test.YtapcooolainmdaaSy
namespace Go.Proofs.Ytapcooolainmdaa.Ev
open Go.RowKit
set_option linter.unusedVariables false
set_option linter.unusedSimpArgs false
variable {ρ : Env} {P : Program}
def krange : IntKind → Int × Int
  | .i8 => (-128, 127)
  | .i16 => (-32768, 32767)
  | .i32 => (-2147483648, 2147483647)
  | .i64 => (-9223372036854775808, 9223372036854775807)
  | .u8 => (0, 255)
  | .u16 => (0, 65535)
  | .u32 => (0, 4294967295)
  | .u64 => (0, 18446744073709551615)
theorem wrk_bd {k : IntKind} {l h x : Int} (p : bd l h x) (c : ok2 (krange k).1 l h (krange k).2 = true) : k.wrap x = x := by
  simp only [ok2, Bool.and_eq_true, decide_eq_true_eq] at c; obtain ⟨p, p'⟩ := p
  cases k <;> simp only [krange] at c <;> simp only [IntKind.wrap, IntKind.signed, IntKind.bits] <;> simp <;> omega
def bt (s : ByteArray) (i : Nat) : Int := (((s[i]?).getD 0).toNat : Nat)
theorem bt_bd (s : ByteArray) (i : Nat) : bd 0 255 (bt s i) := by
  have := UInt8.toNat_lt ((s[i]?).getD 0)
  unfold bt bd; omega
theorem slenOK {i : Nat} {r : Int} {s : ByteArray} (hv : ρ.val i = .string s) (hr : valOf ρ r = s.size) : LenOK ρ (true, oq i, .int .i64 r) :=
  ⟨rfl, rfl, fun _ => ⟨s, hv, by rw [inst_int, hr]⟩, fun h => by cases h⟩
theorem sidxOK {i k : Nat} {j r : Int} {s : ByteArray} {ty : TypeId} (hv : ρ.val i = .string s) (hj : valOf ρ j = k) (hr : valOf ρ r = bt s k) (hk : k < s.size) (hd : P.underlying ty = some .string) : IdxOK ρ P (ty, oq i, .int .i64 j, .int .u8 r) := by
  refine ⟨rfl, rfl, rfl, fun w => ?_⟩
  have e : inst ρ (oq i) = .string s := hv
  simp only [inst_int, e, hj, hr]
  have h2 : (0 : Int) ≤ k ∧ (k : Int) < s.size := ⟨by omega, by omega⟩
  rw [run_index_string _ _ _ _ _ hd, dif_pos h2]
  have h3 : s[k]? = some s[k] := getElem?_pos s k hk
  simp [bt, h3]
def allB (q : Int → Bool) (s : ByteArray) : Bool := (List.range s.size).all fun i => q (bt s i)
theorem allB_at {q : Int → Bool} {s : ByteArray} (h : allB q s = true) {i : Nat} (hi : i < s.size) : q (bt s i) = true := by
  simp only [allB, List.all_eq_true, List.mem_range] at h; exact h i hi
/-- the least index at which it fails -/
theorem least_fail (p : Nat → Bool) : ∀ n, (∀ i, i < n → p i = true) ∨ ∃ k, k < n ∧ p k = false ∧ ∀ i, i < k → p i = true := by
  intro n
  induction n with
  | zero => exact .inl fun i h => by omega
  | succ n ih =>
    rcases ih with h | ⟨k, h1, h2, h3⟩
    · cases hp : p n with
      | true =>
        refine .inl fun i hi => ?_
        rcases Nat.lt_or_ge i n with hj | hj
        · exact h i hj
        · have : i = n := by omega
          subst this; exact hp
      | false => exact .inr ⟨n, by omega, hp, h⟩
    · exact .inr ⟨k, by omega, h2, h3⟩
/-- how many bytes at the beginning are of a kind -/
noncomputable def runL (q : Int → Bool) (s : ByteArray) : Nat := ((List.range s.size).find? fun i => !q (bt s i)).getD s.size
theorem find_first {p : Nat → Bool} : ∀ (n k : Nat), k < n → p k = true → (∀ i, i < k → p i = false) → (List.range n).find? p = some k := by
  intro n
  induction n with
  | zero => intro k h; omega
  | succ n ih =>
    intro k h hk hl
    rw [List.range_succ, List.find?_append]
    rcases Nat.lt_or_ge k n with hj | hj
    · rw [ih k hj hk hl]; rfl
    · have : k = n := by omega
      subst this
      have : (List.range k).find? p = none := by
        rw [List.find?_eq_none]; intro x hx; rw [hl x (List.mem_range.1 hx)]; simp
      rw [this]; simp [hk]
theorem runL_fail {q : Int → Bool} {s : ByteArray} {k : Nat} (hk : k < s.size) (h1 : q (bt s k) = false) (h2 : ∀ i, i < k → q (bt s i) = true) : runL q s = k := by
  unfold runL
  rw [find_first s.size k hk (by simp [h1]) (fun i hi => by simp [h2 i hi])]; rfl
theorem runL_all {q : Int → Bool} {s : ByteArray} (h : ∀ i, i < s.size → q (bt s i) = true) : runL q s = s.size := by
  unfold runL
  have : (List.range s.size).find? (fun i => !q (bt s i)) = none := by
    rw [List.find?_eq_none]; intro x hx; simp [h x (List.mem_range.1 hx)]
  rw [this]; rfl
theorem runL_eq {q : Int → Bool} {s : ByteArray} : (((runL q s : Nat) : Int) == ((s.size : Nat) : Int)) = allB q s := by
  rw [Bool.eq_iff_iff]
  rcases least_fail (fun i => q (bt s i)) s.size with h | ⟨k, h1, h2, h3⟩
  · have : allB q s = true := by simp only [allB, List.all_eq_true, List.mem_range]; exact h
    rw [runL_all h, this]; simp
  · rw [runL_fail h1 h2 h3]
    have : allB q s = false := by
      cases e : allB q s with
      | false => rfl
      | true => have := allB_at e h1; rw [this] at h2; cases h2
    rw [this]; simp; omega
theorem runL_le {q : Int → Bool} {s : ByteArray} : runL q s ≤ s.size := by
  rcases least_fail (fun i => q (bt s i)) s.size with h | ⟨k, h1, h2, h3⟩
  · rw [runL_all h]; omega
  · rw [runL_fail h1 h2 h3]; omega
theorem eqGuard_str (op : BinOp) (ty : TypeId) (x y : Operand) (a b : ByteArray) (w : World) : (eqGuard op ty x y (.string a) (.string b)).run P w = .ok () w := by
  cases op <;> rfl
/-- a string held against a string, or joined to it -/
theorem strOK {op : BinOp} {ty : TypeId} {x y r v : Value} {a b : ByteArray} (hx : (af x && (af y && af r)) = true) (ex : inst ρ x = .string a) (ey : inst ρ y = .string b) (er : inst ρ r = v)
    (h : ∀ w, (Op.stringOp op a b).run P w = .ok v w) : BinOK ρ P (op, ty, x, y, r) := by
  simp only [Bool.and_eq_true] at hx
  refine ⟨hx.1, hx.2.1, hx.2.2, fun p q w => ?_⟩
  simp only [ex, ey, er]
  rw [Sem.run_bind, eqGuard_str, Result.andThen_ok]
  have hb : binOp op ty (.string a) (.string b) = Op.stringOp op a b := by cases op <;> rfl
  rw [hb]; exact h w
theorem strEq {a b : ByteArray} {t : Bool} (h : (a.toList == b.toList) = t) (w : World) : (Op.stringOp .eql a b).run P w = .ok (.bool t) w := by subst h; rfl
theorem strNe {a b : ByteArray} {t : Bool} (h : (a.toList == b.toList) = !t) (w : World) : (Op.stringOp .neq a b).run P w = .ok (.bool t) w := by
  have : (!(a.toList == b.toList)) = t := by rw [h]; simp
  subst this; rfl
theorem str_empty {s : ByteArray} : (s.toList == (⟨#[]⟩ : ByteArray).toList) = decide ((s.size : Int) ≤ 0) := by
  rw [ByteArray.toList_eq, ByteArray.toList_eq, Bool.eq_iff_iff]
  simp only [beq_iff_eq, decide_eq_true_eq]
  have : s.data.toList.length = s.size := by rw [Array.length_toList]; rfl
  constructor
  · intro h; rw [h] at this; simp at this; omega
  · intro h
    have h0 : s.data.toList.length = 0 := by omega
    exact List.eq_nil_of_length_eq_zero h0
end Go.Proofs.Ytapcooolainmdaa.Ev
