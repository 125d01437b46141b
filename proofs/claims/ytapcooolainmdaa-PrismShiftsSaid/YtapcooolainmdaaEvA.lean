/- An evaluator of calls at fixed arguments: values without addresses, values that answer to each other, a heap of the call's own. -/
import Derived.WalkKit
import Derived.ProofKit
import Derived.Laws.AppendOwn
import Derived.Laws.MakeOwn
import Derived.Below
import Derived.LoopN
import Derived.Scope
import Derived.Orders
import Derived.RangeFuncRecord
import Derived.OrdersIn
import Derived.TacticsIn
import Derived.LoopNIn
namespace Go.Proofs.Ytapcooolainmdaa.Ev
open Go.RowKit
set_option linter.unusedVariables false
set_option linter.unusedSimpArgs false

/-- what an opaque value may stand for -/
def one : Value → Bool
  | .string _ => true
  | .pointer _ => true
  | .slice _ _ _ => true
  | .map _ => true
  | .iface _ _ => true
  | .nilIface => true
  | .func _ _ _ => true
  | .nilFunc => true
  | _ => false
theorem one_oneCell {v : Value} (h : one v = true) : v.oneCell' = true := by cases v <;> first | rfl | simp [one] at h
/-- what letters stand for; the world that the run began in -/
structure Env where
  num : Int → Int
  val : Nat → Value
  hval : ∀ i, one (val i) = true
  lst : Nat → List Value
  w : World
variable {ρ : Env}
/-- numbers from here on stand for numbers that are not known -/
def isSym : Int → Bool
  | .ofNat n => Nat.ble 1180591620717411303424 n
  | .negSucc _ => false
/-- a value of one cell without an address -/
def flat0 : Value → Bool
  | .bool _ => true
  | .int _ n => !isSym n
  | .float _ _ => true
  | .string _ => true
  | .pointer none => true
  | .slice none _ _ => true
  | .nilFunc => true
  | .nilIface => true
  | .func (.func _) a b => a.toList.isEmpty && b.toList.isEmpty
  | _ => false
def flat1 : Value → Bool
  | .agg cs => cs.toList.all flat0
  | .iface _ v => flat0 v
  | v => flat0 v
def flat : Value → Bool
  | .tuple vs => vs.toList.all flat1
  | v => flat1 v

theorem flat0_flat1 {v : Value} (h : flat0 v = true) : flat1 v = true := by
  cases v <;> first | exact h | simp [flat0] at h
theorem flat1_flat {v : Value} (h : flat1 v = true) : flat v = true := by
  cases v <;> first | exact h | simp [flat1, flat0] at h

/-- a block's type; a block that holds a list letter bears the letter, too -/
def realTy (t : Nat) : Nat := if Nat.blt t 1180591620717411303424 then t else (t - 1180591620717411303424) % 1048576
/-- a block that is no row of cells -/
def isObj (t : Nat) : Bool := Nat.ble 1329227995784915872903807060280344576 t
def markOf (t : Nat) : Option Nat := if Nat.blt t 1180591620717411303424 then none else if isObj t then none else some ((t - 1180591620717411303424) / 1048576)
theorem small_notObj {t : Nat} (h : Nat.blt t 1180591620717411303424 = true) : isObj t = false := by
  rcases q : isObj t with _ | _
  · rfl
  · simp only [isObj, Nat.ble_eq] at q; simp only [Nat.blt, Nat.ble_eq] at h; omega
theorem mark_notObj {t s : Nat} (h : markOf t = some s) : isObj t = false := by
  unfold markOf at h
  split at h
  · cases h
  split at h
  · cases h
  · rename_i q; simpa using q
theorem realTy_small {t : Nat} (h : Nat.blt t 1180591620717411303424 = true) : realTy t = t ∧ markOf t = none := by
  unfold realTy markOf; rw [if_pos h, if_pos h]; exact ⟨rfl, rfl⟩
/-- what stands for a block: the real block, how many cells it has, how many an element takes -/
structure Ent where
  blk : Nat
  cnt : Nat
  sz : Nat

/-- a value that nothing is known of -/
def anyV : Value := .tuple #[.complex .f32 0 0]
abbrev Names := Nat → Option Ent
inductive Rel (ρ : Env) (β : Names) : Value → Value → Prop
  | sym {k : IntKind} {n : Int} (h : isSym n = true) : Rel ρ β (.int k n) (.int k (ρ.num n))
  | opq {i j : Nat} : Rel ρ β (.complex .f64 i j) (ρ.val i)
  | any {v' : Value} : Rel ρ β anyV v'
  | flat {v : Value} (h : flat v = true) : Rel ρ β v v
  | ptr {b o : Nat} {e : Ent} (h : β b = some e) : Rel ρ β (.pointer (some ⟨b, o, none⟩)) (.pointer (some ⟨e.blk, o, none⟩))
  | slc {b o n c c' : Nat} {e : Ent} (h : β b = some e) (hc : c' = c ∨ (c ≤ c' ∧ c' ≤ maxLen ∧ o + c' * e.sz ≤ e.cnt)) :
      Rel ρ β (.slice (some ⟨b, o, none⟩) n c) (.slice (some ⟨e.blk, o, none⟩) n c')
  | lst {b s n c : Nat} {e : Ent} (h : β b = some e) (hz : 0 < e.sz ∧ e.sz = s % 1024) (hn : n * e.sz = (ρ.lst s).length) (hc : n ≤ c ∧ c ≤ maxLen ∧ c * e.sz ≤ e.cnt) :
      Rel ρ β (.complex .f32 b (10 + s)) (.slice (some ⟨e.blk, 0, none⟩) n c)
  | lpt {b sz j i : Nat} {e : Ent} (h : β b = some e) (hj : isSym (.ofNat j) = true) (hi : ρ.num (.ofNat j) = (i : Int)) :
      Rel ρ β (.pointer (some ⟨b, sz, some j⟩)) (.pointer (some ⟨e.blk, i * sz, none⟩))
  | emp {a : Addr} {c' : Nat} : Rel ρ β (.slice (some ⟨0, 0, some 0⟩) 0 0) (.slice (some a) 0 c')
  | emp0 {a : Addr} : Rel ρ β (.slice (some ⟨0, 1, some 0⟩) 0 0) (.slice (some a) 0 0)
  | nni {t : TypeId} {u : Value} : Rel ρ β (.complex .f32 0 1) (.iface t u)
  | yld {b : Nat} {e : Ent} (h : β b = some e) : Rel ρ β (.func (.yield b) #[] #[]) (.func (.yield e.blk) #[] #[])
  | fn {f : FuncId} {cs cs' : List Value} (hs : cs.length = cs'.length) (h : ∀ (i : Nat) (v v' : Value), cs[i]? = some v → cs'[i]? = some v' → Rel ρ β v v') :
      Rel ρ β (.func (.func f) #[] cs.toArray) (.func (.func f) #[] cs'.toArray)
  | agg {cs cs' : List Value} (hs : cs.length = cs'.length) (h : ∀ (i : Nat) (v v' : Value), cs[i]? = some v → cs'[i]? = some v' → Rel ρ β v v') :
      Rel ρ β (.agg cs.toArray) (.agg cs'.toArray)
  | tup {cs cs' : List Value} (hs : cs.length = cs'.length) (h : ∀ (i : Nat) (v v' : Value), cs[i]? = some v → cs'[i]? = some v' → Rel ρ β v v') :
      Rel ρ β (.tuple cs.toArray) (.tuple cs'.toArray)

def RelL (ρ : Env) (β : Names) (l l' : List Value) : Prop := l.length = l'.length ∧ ∀ (i : Nat) (v v' : Value), l[i]? = some v → l'[i]? = some v' → Rel ρ β v v'
def Ext (β γ : Names) : Prop := ∀ (i : Nat) (e : Ent), β i = some e → γ i = some e
def upd (β : Names) (i : Nat) (e : Ent) : Names := fun j => if j = i then some e else β j
theorem Ext.refl (β : Names) : Ext β β := fun _ _ h => h
theorem Ext.trans {a b c : Names} (h : Ext a b) (k : Ext b c) : Ext a c := fun i e q => k i e (h i e q)
theorem Ext.upd {β : Names} {i : Nat} (h : β i = none) (e : Ent) : Ext β (upd β i e) := fun j d q => by
  unfold Ev.upd
  by_cases hj : j = i
  · subst hj; rw [h] at q; cases q
  · rw [if_neg hj]; exact q
theorem upd_self (β : Names) (i : Nat) (e : Ent) : upd β i e i = some e := by unfold upd; rw [if_pos rfl]
theorem upd_ne {β : Names} {i j : Nat} (h : j ≠ i) (e : Ent) : upd β i e j = β j := by unfold upd; rw [if_neg h]

theorem Rel.mono {β γ : Names} (hx : Ext β γ) {v v' : Value} (h : Rel ρ β v v') : Rel ρ γ v v' := by
  induction h with
  | sym h => exact .sym h
  | opq => exact .opq
  | any => exact .any
  | flat h => exact .flat h
  | ptr h => exact .ptr (hx _ _ h)
  | slc h hc => exact .slc (hx _ _ h) hc
  | lst h hz hn hc => exact .lst (hx _ _ h) hz hn hc
  | lpt h hj hi => exact .lpt (hx _ _ h) hj hi
  | emp => exact .emp
  | emp0 => exact .emp0
  | yld h => exact .yld (hx _ _ h)
  | nni => exact .nni
  | fn hs _ ih => exact .fn hs ih
  | agg hs _ ih => exact .agg hs ih
  | tup hs _ ih => exact .tup hs ih
theorem RelL.mono {β γ : Names} (hx : Ext β γ) {l l' : List Value} (h : RelL ρ β l l') : RelL ρ γ l l' := ⟨h.1, fun i v v' a b => (h.2 i v v' a b).mono hx⟩

theorem list_eq_of {l l' : List Value} (hs : l.length = l'.length) (h : ∀ (i : Nat) (v v' : Value), l[i]? = some v → l'[i]? = some v' → v' = v) : l' = l := by
  apply List.ext_getElem?
  intro i
  rcases Nat.lt_or_ge i l.length with hi | hi
  · rw [List.getElem?_eq_getElem hi, List.getElem?_eq_getElem (hs ▸ hi)]
    exact congrArg some (h i _ _ (List.getElem?_eq_getElem hi) (List.getElem?_eq_getElem (hs ▸ hi)))
  · rw [List.getElem?_eq_none hi, List.getElem?_eq_none (hs ▸ hi)]

theorem Rel.eq_of_flat {β : Names} {v v' : Value} (h : Rel ρ β v v') (hf : Ev.flat v = true) : v' = v := by
  induction h with
  | sym h => simp [Ev.flat, flat1, flat0, h] at hf
  | opq => simp [Ev.flat, flat1, flat0] at hf
  | any => simp [anyV, Ev.flat, flat1, flat0] at hf
  | flat _ => rfl
  | ptr _ => simp [Ev.flat, flat1, flat0] at hf
  | slc _ _ => simp [Ev.flat, flat1, flat0] at hf
  | lst _ _ _ _ => simp [Ev.flat, flat1, flat0] at hf
  | lpt _ _ _ => simp [Ev.flat, flat1, flat0] at hf
  | emp => simp [Ev.flat, flat1, flat0] at hf
  | emp0 => simp [Ev.flat, flat1, flat0] at hf
  | yld _ => simp [Ev.flat, flat1, flat0] at hf
  | nni => simp [Ev.flat, flat1, flat0] at hf
  | fn hs h ih =>
    simp only [Ev.flat, flat1, flat0, List.isEmpty_nil, Bool.true_and, List.isEmpty_iff] at hf
    subst hf
    have := List.eq_nil_of_length_eq_zero (hs.symm.trans rfl)
    subst this
    rfl
  | agg hs h ih =>
    simp only [Ev.flat, flat1, List.all_eq_true] at hf
    rw [list_eq_of hs fun i v v' a b => ih i v v' a b (flat1_flat (flat0_flat1 (hf v (List.mem_of_getElem? a))))]
  | tup hs h ih =>
    simp only [Ev.flat, List.all_eq_true] at hf
    rw [list_eq_of hs fun i v v' a b => ih i v v' a b (flat1_flat (hf v (List.mem_of_getElem? a)))]

/-! values without an address -/
def af0 : Value → Bool
  | .int _ _ => true
  | .complex .f64 _ _ => true
  | v => flat0 v
def af1 : Value → Bool
  | .agg cs => cs.toList.all af0
  | .int _ _ => true
  | .complex .f64 _ _ => true
  | v => flat1 v
def af : Value → Bool
  | .tuple vs => vs.toList.all af1
  | v => af1 v
def valOf (ρ : Env) (n : Int) : Int := if isSym n then ρ.num n else n
def inst0 (ρ : Env) : Value → Value
  | .int k n => .int k (valOf ρ n)
  | .complex .f64 i _ => ρ.val i
  | v => v
def inst1 (ρ : Env) : Value → Value
  | .agg cs => .agg (cs.toList.map (inst0 ρ)).toArray
  | v => inst0 ρ v
def inst (ρ : Env) : Value → Value
  | .tuple vs => .tuple (vs.toList.map (inst1 ρ)).toArray
  | v => inst1 ρ v
theorem af0_af1 {v : Value} (h : af0 v = true) : af1 v = true := by
  cases v <;> first | exact h | (simp [af0, flat0] at h; done) | (rename_i k a b; cases k <;> first | rfl | (simp [af0, flat0] at h))
theorem af1_af {v : Value} (h : af1 v = true) : af v = true := by
  cases v <;> first | exact h | (simp [af1, af0, flat1, flat0] at h; done) | (rename_i k a b; cases k <;> first | rfl | (simp [af1, af0, flat1, flat0] at h))
theorem inst_int (k : IntKind) (n : Int) : inst ρ (.int k n) = .int k (valOf ρ n) := rfl
theorem inst_flat {v : Value} (h : flat v = true) : inst ρ v = v := by
  have h0 : ∀ u : Value, flat0 u = true → inst0 ρ u = u := by
    intro u hu
    cases u <;> first | rfl | (simp [flat0] at hu; done) | skip
    simp only [flat0, Bool.not_eq_true'] at hu
    simp [inst0, valOf, hu]
  have h1 : ∀ u : Value, flat1 u = true → inst1 ρ u = u := by
    intro u hu
    by_cases hi : ∃ k n, u = .int k n
    · obtain ⟨k, n, rfl⟩ := hi; exact h0 (.int k n) hu
    cases u <;> first | rfl | exact absurd ⟨_, _, rfl⟩ hi | (simp [flat1, flat0] at hu; done) | skip
    rename_i cs
    simp only [flat1, List.all_eq_true] at hu
    simp only [inst1, Value.agg.injEq]
    apply Array.toList_inj.1
    conv => rhs; rw [← List.map_id cs.toList]
    exact List.map_congr_left fun x hx => h0 x (hu x hx)
  by_cases hi : ∃ k n, v = .int k n
  · obtain ⟨k, n, rfl⟩ := hi; exact h1 (.int k n) h
  by_cases ha : ∃ cs, v = .agg cs
  · obtain ⟨cs, rfl⟩ := ha; exact h1 (.agg cs) h
  cases v <;> first | rfl | exact absurd ⟨_, _, rfl⟩ hi | exact absurd ⟨_, rfl⟩ ha | (simp [Ev.flat, flat1, flat0] at h; done) | skip
  rename_i vs
  simp only [Ev.flat, List.all_eq_true] at h
  simp only [inst, Value.tuple.injEq]
  apply Array.toList_inj.1
  conv => rhs; rw [← List.map_id vs.toList]
  exact List.map_congr_left fun x hx => h1 x (h x hx)
theorem Rel.af0_eq {β : Names} {v v' : Value} (h : Rel ρ β v v') (hf : af0 v = true) : v' = inst0 ρ v := by
  cases h with
  | sym h => simp [inst0, valOf, h]
  | opq => rfl
  | any => simp [anyV, af0, flat0] at hf
  | flat h =>
    have := inst_flat (ρ := ρ) h
    cases v <;> first | rfl | exact this.symm | (simp [af0, flat0] at hf; done) | (simp [Ev.flat, flat1, flat0] at h)
  | ptr _ => simp [af0, flat0] at hf
  | slc _ _ => simp [af0, flat0] at hf
  | lst _ _ _ _ => simp [af0, flat0] at hf
  | lpt _ _ _ => simp [af0, flat0] at hf
  | emp => simp [af0, flat0] at hf
  | emp0 => simp [af0, flat0] at hf
  | yld _ => simp [af0, flat0] at hf
  | nni => simp [af0, flat0] at hf
  | fn hs h =>
    simp only [af0, flat0, List.isEmpty_nil, Bool.true_and, List.isEmpty_iff] at hf
    subst hf
    have := List.eq_nil_of_length_eq_zero (hs.symm.trans rfl)
    subst this
    rfl
  | agg _ _ => simp [af0, flat0] at hf
  | tup _ _ => simp [af0, flat0] at hf
theorem list_map_of {g : Value → Value} {l l' : List Value} (hs : l.length = l'.length) (h : ∀ (i : Nat) (v v' : Value), l[i]? = some v → l'[i]? = some v' → v' = g v) : l' = l.map g := by
  apply List.ext_getElem?
  intro i
  rw [List.getElem?_map]
  rcases Nat.lt_or_ge i l.length with hi | hi
  · rw [List.getElem?_eq_getElem hi, List.getElem?_eq_getElem (hs ▸ hi)]
    exact congrArg some (h i _ _ (List.getElem?_eq_getElem hi) (List.getElem?_eq_getElem (hs ▸ hi)))
  · rw [List.getElem?_eq_none hi, List.getElem?_eq_none (hs ▸ hi)]; rfl
theorem Rel.af1_eq {β : Names} {v v' : Value} (h : Rel ρ β v v') (hf : af1 v = true) : v' = inst1 ρ v := by
  cases h with
  | opq => rfl
  | any => simp [anyV, af1, flat1, flat0] at hf
  | flat h =>
    have := inst_flat (ρ := ρ) h
    cases v <;> first | rfl | exact this.symm | (simp [af1, flat1, flat0] at hf; done) | (simp [Ev.flat, flat1, flat0] at h)
  | agg hs h =>
    simp only [af1, List.all_eq_true] at hf
    rw [list_map_of hs fun i v v' a b => (h i v v' a b).af0_eq (hf v (List.mem_of_getElem? a))]
    rfl
  | sym h => exact (Rel.sym (β := β) h).af0_eq rfl
  | ptr _ => simp [af1, flat1, flat0] at hf
  | slc _ _ => simp [af1, flat1, flat0] at hf
  | lst _ _ _ _ => simp [af1, flat1, flat0] at hf
  | lpt _ _ _ => simp [af1, flat1, flat0] at hf
  | emp => simp [af1, flat1, flat0] at hf
  | emp0 => simp [af1, flat1, flat0] at hf
  | yld _ => simp [af1, flat1, flat0] at hf
  | nni => simp [af1, af0, flat1, flat0] at hf
  | fn hs h => exact (Rel.fn hs h).af0_eq hf
  | tup _ _ => simp [af1, flat1, flat0] at hf
/-- a value without an address answers to one value alone -/
theorem Rel.af_eq {β : Names} {v v' : Value} (h : Rel ρ β v v') (hf : Ev.af v = true) : v' = inst ρ v := by
  cases h with
  | opq => rfl
  | any => simp [anyV, Ev.af, af1, af0, flat1, flat0] at hf
  | flat h => exact (inst_flat h).symm
  | tup hs h =>
    simp only [Ev.af, List.all_eq_true] at hf
    rw [list_map_of hs fun i v v' a b => (h i v v' a b).af1_eq (hf v (List.mem_of_getElem? a))]
    rfl
  | sym h => exact (Rel.sym (β := β) h).af1_eq rfl
  | ptr _ => simp [Ev.af, af1, flat1, flat0] at hf
  | slc _ _ => simp [Ev.af, af1, flat1, flat0] at hf
  | lst _ _ _ _ => simp [Ev.af, af1, af0, flat1, flat0] at hf
  | lpt _ _ _ => simp [Ev.af, af1, af0, flat1, flat0] at hf
  | emp => simp [Ev.af, af1, flat1, flat0] at hf
  | emp0 => simp [Ev.af, af1, flat1, flat0] at hf
  | yld _ => simp [Ev.af, af1, flat1, flat0] at hf
  | nni => simp [Ev.af, af1, af0, flat1, flat0] at hf
  | fn hs h => exact (Rel.fn hs h).af1_eq hf
  | agg hs h => exact (Rel.agg hs h).af1_eq hf
theorem rel_inst0 {γ : Names} {v : Value} (hf : af0 v = true) : Rel ρ γ v (inst0 ρ v) := by
  cases v <;> first | exact .flat (flat1_flat (flat0_flat1 hf)) | skip
  case complex k a b => cases k <;> first | exact .opq | (simp [af0, flat0] at hf)
  rename_i k n
  show Rel ρ γ (.int k n) (.int k (valOf ρ n))
  unfold valOf
  cases hs : isSym n with
  | true => rw [if_pos rfl]; exact .sym hs
  | false =>
    rw [if_neg (by simp)]
    have hf : Ev.flat (.int k n) = true := by simp [Ev.flat, flat1, flat0, hs]
    exact .flat hf
theorem rel_inst1 {γ : Names} {v : Value} (hf : af1 v = true) : Rel ρ γ v (inst1 ρ v) := by
  cases v <;> first | exact rel_inst0 hf | exact .flat (flat1_flat hf) | skip
  case complex k a b => cases k <;> first | exact .opq | (simp [af1, flat1, flat0] at hf)
  rename_i cs
  simp only [af1, List.all_eq_true] at hf
  exact .agg (by simp) fun i v v' a b => by
    rw [List.getElem?_map, a] at b
    cases b
    exact rel_inst0 (hf v (List.mem_of_getElem? a))
theorem rel_inst {γ : Names} {v : Value} (hf : Ev.af v = true) : Rel ρ γ v (inst ρ v) := by
  cases v <;> first | exact rel_inst1 hf | skip
  rename_i vs
  simp only [Ev.af, List.all_eq_true] at hf
  exact .tup (by simp) fun i v v' a b => by
    rw [List.getElem?_map, a] at b
    cases b
    exact rel_inst1 (hf v (List.mem_of_getElem? a))
theorem Rel.names {β γ : Names} {v v' : Value} (h : Rel ρ β v v') (hf : Ev.af v = true) : Rel ρ γ v v' := by
  rw [h.af_eq hf]; exact rel_inst hf
theorem Rel.oneCell {β : Names} {v v' : Value} (h : Rel ρ β v v') (hf : v.oneCell' = true) : v'.oneCell' = true := by
  cases h <;> first | exact hf | rfl | exact one_oneCell (ρ.hval _) | (simp [anyV, Value.oneCell'] at hf)
/-- a part of a function's code, by the way that leads to it -/
def child : Code → Bool → Option Code
  | .seq x _, false => some x
  | .seq _ y, true => some y
  | .cond _ x _, false => some x
  | .cond _ _ y, true => some y
  | .block _ x, false => some x
  | .loop x, false => some x
  | .scope x, false => some x
  | .rangeFunc _ _ x _, false => some x
  | .rangeFunc _ _ _ y, true => some y
  | _, _ => none
def subR (body : Code) : List Bool → Option Code
  | [] => some body
  | b :: p => (subR body p).bind fun c => child c b
def partOf (P : Program) (g : FuncId) (p : List Bool) : Option Code := ((P.funcs[g]?).bind fun fn => fn.body).bind fun c => subR c p
/-- a block of the call's own: its first cells -/
structure Blk where
  cells : List Value
  ty : TypeId
abbrev Heap := List (Option Blk)
/-- the type of a block that stands for a loop over a function -/
def recTy : Nat := 1329227995784915872903807060280344576
def stOf : LoopState → Int
  | .ready => 0
  | .done => 1
  | .busy => 2
  | .exhausted => 3
def jmpOf : Option Code → Option Int
  | none => some 0
  | some .ret => some 1
  | some (.exit id) => some (2 + id)
  | _ => none
/-- what a block that is no row of cells stands for: a loop over a function: where it stands, its state, the jump that is pending, the temporaries -/
inductive ObjOK (ρ : Env) (P : Program) (β : Names) (b : Blk) (o : Obj) : Prop
  | loop (g : Nat) (p : List Bool) (j : Int) (tl : List Value) (f : Operand) (r : Loop) (hty : b.ty = recTy)
      (hc : b.cells = .int .i64 g :: .agg (p.map Value.bool).toArray :: .int .i64 (stOf r.state) :: .int .i64 j :: tl)
      (ho : o = .loop r) (hp : partOf P g p = some (.rangeFunc f r.params r.assign r.body)) (hj : jmpOf r.pending = some j) (ht : RelL ρ β tl r.tmps.toList)
theorem ObjOK.mono {β γ : Names} (hx : Ext β γ) {P : Program} {b : Blk} {o : Obj} (h : ObjOK ρ P β b o) : ObjOK ρ P γ b o := by
  cases h with
  | loop g p j tl f r hty hc ho hp hj ht => exact .loop g p j tl f r hty hc ho hp hj (ht.mono hx)

/-- where a call began, and which old blocks it may write -/
structure Base where
  w : World
  D : List Nat
structure Fr (D : List Nat) (a w : World) : Prop where
  os : w.os = a.os
  tape : w.tape = a.tape
  output : w.output = a.output
  size : a.heap.size ≤ w.heap.size
  block : ∀ k, k < a.heap.size → k ∉ D → w.heap[k]? = a.heap[k]?
theorem Fr.refl (D : List Nat) (a : World) : Fr D a a := ⟨rfl, rfl, rfl, Nat.le_refl _, fun _ _ _ => rfl⟩
theorem Fr.alloc {D : List Nat} {a w : World} (h : Fr D a w) (o : Obj) : Fr D a (w.alloc o) :=
  ⟨h.os, h.tape, h.output, Nat.le_trans h.size (by simp), fun k h1 h2 => (Below.heap_alloc _ _ _ (Nat.lt_of_lt_of_le h1 h.size)).trans (h.block k h1 h2)⟩
theorem Fr.setRow {D : List Nat} {a w : World} (h : Fr D a w) {g : Nat} (hg : a.heap.size ≤ g ∨ g ∈ D) (cs : Array Value) : Fr D a (w.setRow g cs) := by
  refine ⟨h.os, h.tape, h.output, by simpa using h.size, fun k h1 h2 => ?_⟩
  rw [setRow_other w g k cs (fun e => by subst e; rcases hg with hg | hg; omega; exact h2 hg)]
  exact h.block k h1 h2
theorem Fr.below {D : List Nat} {a w w' : World} (h : Fr D a w) (hb : Below w.heap.size w w') : Fr D a w' :=
  ⟨hb.os.trans h.os, hb.tape.trans h.tape, hb.output.trans h.output, Nat.le_trans h.size hb.size, fun k h1 h2 => (hb.block k (Nat.lt_of_lt_of_le h1 h.size)).trans (h.block k h1 h2)⟩
theorem Fr.toBelow {a w : World} (h : Fr [] a w) : Below a.heap.size a w := ⟨h.os, h.tape, h.output, h.size, fun k hk => h.block k hk (by simp)⟩
structure Sim (ρ : Env) (P : Program) (w0 : Base) (β : Names) (H : Heap) (w : World) : Prop where
  dom : ∀ (i : Nat) (e : Ent), β i = some e → i < H.length
  below : Fr w0.D w0.w w
  bound : ∀ (i : Nat) (e : Ent), β i = some e → w0.w.heap.size ≤ e.blk ∨ e.blk ∈ w0.D
  cells : ∀ (i : Nat) (b : Blk), H[i]? = some (some b) → isObj b.ty = false → ∃ e cs', β i = some e ∧ w.heap[e.blk]? = some (.cells cs' (realTy b.ty) (0, 0)) ∧ cs'.size = e.cnt ∧ e.sz = P.cellsOf (realTy b.ty) ∧ b.cells.length ≤ e.cnt ∧
    ∀ (j : Nat) (v : Value), b.cells[j]? = some v → ∃ v', cs'[j]? = some v' ∧ Rel ρ β v v'
  inj : ∀ (i j : Nat) (e d : Ent) (b c : Blk), H[i]? = some (some b) → H[j]? = some (some c) → β i = some e → β j = some d → e.blk = d.blk → i = j
  far : Below ρ.w.heap.size ρ.w w
  lists : ∀ (i : Nat) (b : Blk) (s : Nat), H[i]? = some (some b) → markOf b.ty = some s → ∃ e cs', β i = some e ∧ w.heap[e.blk]? = some (.cells cs' (realTy b.ty) (0, 0)) ∧ ∀ (j : Nat) (v : Value), (ρ.lst s)[j]? = some v → cs'[j]? = some v
  new : ∀ (i : Nat) (e : Ent), β i = some e → ρ.w.heap.size ≤ e.blk
  cap : ∀ (i : Nat) (e : Ent), β i = some e → e.blk < w.heap.size
  objs : ∀ (i : Nat) (b : Blk), H[i]? = some (some b) → isObj b.ty = true → ∃ e o, β i = some e ∧ w.heap[e.blk]? = some o ∧ ObjOK ρ P β b o
/-- a block that is there has a name -/
theorem Sim.named {P : Program} {w0 : Base} {w : World} {β : Names} {H : Heap} (h : Sim ρ P w0 β H w) (i : Nat) (b : Blk) (hb : H[i]? = some (some b)) : ∃ e, β i = some e := by
  rcases q : isObj b.ty with _ | _
  · obtain ⟨e, _, h1, _⟩ := h.cells i b hb q; exact ⟨e, h1⟩
  · obtain ⟨e, _, h1, _⟩ := h.objs i b hb q; exact ⟨e, h1⟩
/-- a name that is free in the heap of the call's own -/
theorem Sim.free {P : Program} {w0 : Base} {w : World} {β : Names} {H : Heap} (h : Sim ρ P w0 β H w) {i : Nat} (hi : H.length ≤ i) : β i = none := by
  cases q : β i with
  | none => rfl
  | some e => have := h.dom i e q; omega
/-- H' is H with the block k under the free name i -/
structure Put (H : Heap) (i : Nat) (k : Blk) (H' : Heap) : Prop where
  lt : i < H'.length
  len : H.length ≤ H'.length
  new : H'[i]? = some (some k)
  old : ∀ (j : Nat) (b : Blk), j ≠ i → H'[j]? = some (some b) → H[j]? = some (some b)
theorem Put.app (H : Heap) (k : Blk) : Put H H.length k (H ++ [some k]) := by
  refine ⟨by simp, by simp, by rw [List.getElem?_append_right (Nat.le_refl _)]; simp, fun j b hj q => ?_⟩
  rcases Nat.lt_or_ge j H.length with hi | hi
  · rwa [List.getElem?_append_left hi] at q
  · rw [List.getElem?_eq_none (by simp; omega)] at q; cases q
theorem Put.set {H : Heap} {i : Nat} (hi : i < H.length) (k : Blk) : Put H i k (H.set i (some k)) := by
  refine ⟨by simpa using hi, by simp, List.getElem?_set_self hi, fun j b hj q => ?_⟩
  rwa [List.getElem?_set_ne (fun e => hj e.symm)] at q

section
variable {P : Program} {w0 : Base} {w : World} {β : Names} {H : Heap}

theorem Sim.start (ρ : Env) (P : Program) (w : World) (hw : Below ρ.w.heap.size ρ.w w) : Sim ρ P ⟨w, []⟩ (fun _ => none) [] w :=
  ⟨fun i e h => by simp at h, Fr.refl _ _, fun i e h => by simp at h, fun i b h => by simp at h, fun i j e d b c h => by simp at h, hw, fun i b s h => by simp at h, fun i e h => by simp at h, fun i e h => by simp at h, fun i b h => by simp at h⟩

theorem Sim.drawn (h : Sim ρ P w0 β H w) (n : Nat) : Sim ρ P w0 β H { w with drawn := n } :=
  ⟨h.dom, ⟨h.below.os, h.below.tape, h.below.output, h.below.size, h.below.block⟩, h.bound, h.cells, h.inj, ⟨h.far.os, h.far.tape, h.far.output, h.far.size, h.far.block⟩, h.lists, h.new, h.cap, h.objs⟩

theorem add_none (m o n : Nat) : (⟨m, o, none⟩ : Addr).add n = ⟨m, o + n, none⟩ := by
  unfold Addr.add; split
  · subst_vars; rfl
  · rfl

/-- the cells from o on, n of them -/
def cut (l : List Value) (o n : Nat) : List Value := (l.drop o).take n
theorem cut_get (l : List Value) (o n j : Nat) : (cut l o n)[j]? = if j < n then l[o + j]? else none := by
  unfold cut
  rw [List.getElem?_take]
  split
  · rw [List.getElem?_drop]
  · rfl
theorem cut_length (l : List Value) (o n : Nat) (h : o + n ≤ l.length) : (cut l o n).length = n := by
  unfold cut; rw [List.length_take, List.length_drop]; omega

theorem Sim.loadCells {b : Nat} {k : Blk} (h : Sim ρ P w0 β H w) (hb : H[b]? = some (some k)) (hno : isObj k.ty = false) {e : Ent} (he : β b = some e) (o n : Nat) (hn : o + n ≤ k.cells.length) :
    ∃ l' : List Value, (loadCells ⟨e.blk, o, none⟩ n).run P w = .ok l'.toArray w ∧ RelL ρ β (cut k.cells o n) l' ∧ l'.length = n ∧ (∀ (j : Nat) (u : Value), l'[j]? = some u → w.cell? ((⟨e.blk, o, none⟩ : Addr).add j) = some u) := by
  obtain ⟨e', cs', h1, h2, h3, h4, h5, h6⟩ := h.cells b k hb hno
  obtain rfl : e = e' := Option.some.inj (he.symm.trans h1)
  have hl : (cut cs'.toList o n).length = n := cut_length _ _ _ (by rw [Array.length_toList]; omega)
  have hc : ∀ (j : Nat) (v : Value), (cut cs'.toList o n)[j]? = some v → w.cell? ((⟨e.blk, o, none⟩ : Addr).add j) = some v := by
    intro j v hv
    rw [add_none, cell_of_row w e.blk (o + j) cs' (realTy k.ty) (0, 0) h2]
    rw [cut_get] at hv
    split at hv
    · simpa using hv
    · cases hv
  refine ⟨cut cs'.toList o n, ?_, ⟨?_, ?_⟩, hl, hc⟩
  · have := run_loadCells_list (P := P) w ⟨e.blk, o, none⟩ (cut cs'.toList o n) hc
    rwa [hl] at this
  · rw [hl, cut_length _ _ _ hn]
  · intro i v v' hv hv'
    rw [cut_get] at hv hv'
    split at hv
    · rename_i hi
      rw [if_pos hi] at hv'
      obtain ⟨u, hu, hr⟩ := h6 _ _ hv
      have : v' = u := by
        have hv'' : cs'[o + i]? = some v' := by simpa using hv'
        exact Option.some.inj (hv''.symm.trans hu)
      subst this
      exact hr
    · cases hv

theorem Sim.cell {b : Nat} {k : Blk} (h : Sim ρ P w0 β H w) (hb : H[b]? = some (some k)) (hno : isObj k.ty = false) {e : Ent} (he : β b = some e) (o : Nat) {v : Value} (hv : k.cells[o]? = some v) :
    ∃ v', w.cell? ⟨e.blk, o, none⟩ = some v' ∧ Rel ρ β v v' := by
  obtain ⟨e', cs', h1, h2, h3, h4, h5, h6⟩ := h.cells b k hb hno
  obtain rfl : e = e' := Option.some.inj (he.symm.trans h1)
  obtain ⟨v', h7, h8⟩ := h6 o v hv
  exact ⟨v', (cell_of_row w e.blk o cs' (realTy k.ty) (0, 0) h2).trans h7, h8⟩

/-- a list with some of its cells written -/
def splice (l : List Value) (o : Nat) (vs : List Value) : List Value := l.take o ++ vs ++ l.drop (o + vs.length)
theorem splice_length (l : List Value) (o : Nat) (vs : List Value) (h : o + vs.length ≤ l.length) : (splice l o vs).length = l.length := by
  unfold splice; simp; omega
theorem splice_get (l : List Value) (o : Nat) (vs : List Value) (h : o + vs.length ≤ l.length) (j : Nat) :
    (splice l o vs)[j]? = if j < o then l[j]? else if j < o + vs.length then vs[j - o]? else l[j]? := by
  unfold splice
  rcases Nat.lt_or_ge j o with h1 | h1
  · rw [if_pos h1, List.append_assoc, List.getElem?_append_left (by simp; omega), List.getElem?_take, if_pos h1]
  · rw [if_neg (by omega)]
    rcases Nat.lt_or_ge j (o + vs.length) with h2 | h2
    · rw [if_pos h2, List.getElem?_append_left (by simp; omega), List.getElem?_append_right (by simp; omega)]
      congr 1; simp; omega
    · rw [if_neg (by omega), List.getElem?_append_right (by simp; omega), List.getElem?_drop]
      congr 1; simp; omega

theorem below_setRow {a w : World} {B : Nat} (h : Below B a w) {g : Nat} (hg : B ≤ g) (cs : Array Value) : Below B a (w.setRow g cs) :=
  h.trans ⟨rfl, rfl, rfl, by simp, fun k hk => setRow_other w g k cs (by omega)⟩

/-- a block's cells are written, as they are in the copy -/
theorem Sim.setRow {b : Nat} {k : Blk} (h : Sim ρ P w0 β H w) (hb : H[b]? = some (some k)) {e : Ent} (he : β b = some e) (cs : List Value) (cs' : Array Value)
    (hs : cs'.size = e.cnt) (hl : cs.length ≤ e.cnt) (hr : ∀ (j : Nat) (v : Value), cs[j]? = some v → ∃ v', cs'[j]? = some v' ∧ Rel ρ β v v') (hm : markOf k.ty = none) (hno : isObj k.ty = false) :
    Sim ρ P w0 β (H.set b (some ⟨cs, k.ty⟩)) (w.setRow e.blk cs') := by
  have hbl : b < H.length := (List.getElem?_eq_some_iff.1 hb).1
  have old : ∀ (i : Nat) (c : Blk), (H.set b (some ⟨cs, k.ty⟩))[i]? = some (some c) → ∃ c0, H[i]? = some (some c0) := by
    intro i c hc
    by_cases hi : b = i
    · subst hi; exact ⟨k, hb⟩
    · rw [List.getElem?_set_ne hi] at hc; exact ⟨c, hc⟩
  refine ⟨fun i d q => by rw [List.length_set]; exact h.dom i d q, h.below.setRow (h.bound b e he) _, h.bound, ?_, ?_, below_setRow h.far (h.new b e he) _, ?_, h.new, fun i d q => by simpa using h.cap i d q, ?_⟩
  · intro i c hc hco
    by_cases hi : b = i
    · subst hi
      rw [List.getElem?_set_self hbl] at hc
      obtain rfl := Option.some.inj (Option.some.inj hc)
      obtain ⟨e', cs0, h1, h2, h3, h4, h5, h6⟩ := h.cells b k hb hno
      obtain rfl : e = e' := Option.some.inj (he.symm.trans h1)
      exact ⟨e, cs', he, setRow_heap w e.blk cs0 cs' (realTy k.ty) (0, 0) h2, hs, h4, hl, hr⟩
    · rw [List.getElem?_set_ne hi] at hc
      obtain ⟨d, cs0, h1, h2, h3, h4, h5, h6⟩ := h.cells i c hc hco
      refine ⟨d, cs0, h1, ?_, h3, h4, h5, h6⟩
      rw [setRow_other w e.blk d.blk cs' (fun q => hi (h.inj b i e d k c hb hc he h1 q.symm))]
      exact h2
  · intro i j d f c c' hc hc'
    obtain ⟨x, hx⟩ := old i c hc
    obtain ⟨y, hy⟩ := old j c' hc'
    exact h.inj i j d f x y hx hy
  · intro i c s hc hcm
    by_cases hi : b = i
    · subst hi
      rw [List.getElem?_set_self hbl] at hc
      obtain rfl := Option.some.inj (Option.some.inj hc)
      simp only at hcm
      rw [hm] at hcm; cases hcm
    · rw [List.getElem?_set_ne hi] at hc
      obtain ⟨d, cs0, h1, h2, h3⟩ := h.lists i c s hc hcm
      refine ⟨d, cs0, h1, ?_, h3⟩
      rw [setRow_other w e.blk d.blk cs' (fun q => hi (h.inj b i e d k c hb hc he h1 q.symm))]
      exact h2
  · intro i c hc hco
    by_cases hi : b = i
    · subst hi
      rw [List.getElem?_set_self hbl] at hc
      obtain rfl := Option.some.inj (Option.some.inj hc)
      simp only at hco
      rw [hno] at hco; cases hco
    · rw [List.getElem?_set_ne hi] at hc
      obtain ⟨d, o, h1, h2, h3⟩ := h.objs i c hc hco
      refine ⟨d, o, h1, ?_, h3⟩
      rw [setRow_other w e.blk d.blk cs' (fun q => hi (h.inj b i e d k c hb hc he h1 q.symm))]
      exact h2

theorem Sim.storeCells {b : Nat} {k : Blk} (h : Sim ρ P w0 β H w) (hb : H[b]? = some (some k)) {e : Ent} (he : β b = some e) (o : Nat) (vs vs' : List Value) (hv : RelL ρ β vs vs')
    (hn : o + vs.length ≤ k.cells.length) (h1 : ∀ v ∈ vs, v.oneCell' = true) (hm : markOf k.ty = none) (hno : isObj k.ty = false) :
    ∃ w', (storeCells ⟨e.blk, o, none⟩ vs').run P w = .ok () w' ∧ Sim ρ P w0 β (H.set b (some ⟨splice k.cells o vs, k.ty⟩)) w' := by
  obtain ⟨e', cs', q1, q2, q3, q4, q5, q6⟩ := h.cells b k hb hno
  obtain rfl : e = e' := Option.some.inj (he.symm.trans q1)
  have hl' := hv.1
  have h1' : ∀ v' ∈ vs', v'.oneCell' = true := by
    intro v' hm
    obtain ⟨i, hi⟩ := List.getElem?_of_mem hm
    have hlt : i < vs.length := hl' ▸ (List.getElem?_eq_some_iff.1 hi).1
    have hvi : vs[i]? = some vs[i] := List.getElem?_eq_getElem hlt
    exact (hv.2 i _ _ hvi hi).oneCell (h1 _ (List.getElem_mem hlt))
  have hst := run_storeCells_at P e.blk o (realTy k.ty) vs' 0 cs' w q2 (by omega) h1'
  simp only [Nat.add_zero] at hst
  refine ⟨_, hst, ?_⟩
  have hsp : (cs'.toList.take o ++ vs' ++ cs'.toList.drop (o + vs'.length)) = splice cs'.toList o vs' := rfl
  rw [hsp]
  have hlen' : o + vs'.length ≤ cs'.toList.length := by have := Array.length_toList (xs := cs'); omega
  refine h.setRow hb he _ _ ?_ ?_ ?_ hm hno
  · rw [List.size_toArray, splice_length _ _ _ hlen', Array.length_toList]; exact q3
  · rw [splice_length _ _ _ hn]; exact q5
  · intro j v hj
    rw [splice_get _ _ _ hn] at hj
    rw [List.getElem?_toArray, splice_get _ _ _ hlen', ← hl']
    by_cases c1 : j < o
    · rw [if_pos c1] at hj ⊢
      obtain ⟨u, hu, hr⟩ := q6 j v hj
      exact ⟨u, by simpa using hu, hr⟩
    · rw [if_neg c1] at hj ⊢
      by_cases c2 : j < o + vs.length
      · rw [if_pos c2] at hj ⊢
        have hlt : j - o < vs'.length := by omega
        exact ⟨vs'[j - o], List.getElem?_eq_getElem hlt, hv.2 _ _ _ hj (List.getElem?_eq_getElem hlt)⟩
      · rw [if_neg c2] at hj ⊢
        obtain ⟨u, hu, hr⟩ := q6 j v hj
        exact ⟨u, by simpa using hu, hr⟩

/-- a new block -/
theorem Sim.alloc (h : Sim ρ P w0 β H w) {i : Nat} (hi : β i = none) (cs : List Value) (cs' : Array Value) (t : TypeId) {H' : Heap} (hP : Put H i ⟨cs, t⟩ H') (hl : cs.length ≤ cs'.size)
    (hr : ∀ (j : Nat) (v : Value), cs[j]? = some v → ∃ v', cs'[j]? = some v' ∧ Rel ρ β v v') (ht : realTy t = t ∧ markOf t = none) (hno : isObj t = false) :
    Sim ρ P w0 (upd β i ⟨w.heap.size, cs'.size, P.cellsOf t⟩) H' (w.alloc (.cells cs' t)) := by
  have hx := Ext.upd hi ⟨w.heap.size, cs'.size, P.cellsOf t⟩
  have hlt : ∀ (i : Nat) (b : Blk) (e : Ent), H[i]? = some (some b) → β i = some e → e.blk < w.heap.size := by
    intro i b e hb he
    exact h.cap i e he
  have hβ : ∀ (j : Nat) (e : Ent), upd β i ⟨w.heap.size, cs'.size, P.cellsOf t⟩ j = some e → (j ≠ i ∧ β j = some e) ∨ (j = i ∧ e = ⟨w.heap.size, cs'.size, P.cellsOf t⟩) := by
    intro j e q
    by_cases hj : j = i
    · subst hj; rw [upd_self] at q; exact .inr ⟨rfl, (Option.some.inj q).symm⟩
    · rw [upd_ne hj] at q; exact .inl ⟨hj, q⟩
  have hnew : ∀ (j : Nat) (c : Blk), H'[j]? = some (some c) → (j ≠ i ∧ H[j]? = some (some c)) ∨ (j = i ∧ c = ⟨cs, t⟩) := by
    intro j c q
    by_cases hj : j = i
    · subst hj; rw [hP.new] at q; exact .inr ⟨rfl, (Option.some.inj (Option.some.inj q)).symm⟩
    · exact .inl ⟨hj, hP.old j c hj q⟩
  refine ⟨?_, h.below.alloc _, ?_, ?_, ?_, h.far.alloc h.far.size _, ?_, ?_, ?_, ?_⟩
  · intro j e he
    rcases hβ j e he with ⟨_, q⟩ | ⟨rfl, _⟩
    · exact Nat.lt_of_lt_of_le (h.dom j e q) hP.len
    · exact hP.lt
  · intro j e he
    rcases hβ j e he with ⟨_, q⟩ | ⟨_, rfl⟩
    · exact h.bound j e q
    · exact .inl h.below.size
  · intro j b hb hbo
    rcases hnew j b hb with ⟨hj, q⟩ | ⟨rfl, rfl⟩
    · obtain ⟨e, cs0, h1, h2, h3, h4, h5, h6⟩ := h.cells j b q hbo
      refine ⟨e, cs0, hx _ _ h1, ?_, h3, h4, h5, fun k v hk => ?_⟩
      · rw [Below.heap_alloc w _ _ (hlt j b e q h1)]; exact h2
      · obtain ⟨u, hu, hr⟩ := h6 k v hk
        exact ⟨u, hu, hr.mono hx⟩
    · simp only [ht.1]
      refine ⟨⟨w.heap.size, cs'.size, P.cellsOf t⟩, cs', upd_self _ _ _, heap_alloc_new w _, rfl, rfl, hl, fun k v hk => ?_⟩
      obtain ⟨u, hu, hr'⟩ := hr k v hk
      exact ⟨u, hu, hr'.mono hx⟩
  · intro j k e d b c hb hc he hd hed
    rcases hnew j b hb with ⟨hj, q⟩ | ⟨rfl, rfl⟩ <;> rcases hnew k c hc with ⟨hk, r⟩ | ⟨rfl, rfl⟩
    · rw [upd_ne hj] at he; rw [upd_ne hk] at hd
      exact h.inj j k e d b c q r he hd hed
    · rw [upd_ne hj] at he; rw [upd_self] at hd; cases hd
      have := hlt j b e q he; rw [hed] at this; simp at this
    · rw [upd_ne hk] at hd; rw [upd_self] at he; cases he
      have := hlt k c d r hd; rw [← hed] at this; simp at this
    · rfl
  · intro j b s hb hbm
    rcases hnew j b hb with ⟨hj, q⟩ | ⟨rfl, rfl⟩
    · obtain ⟨e, cs0, h1, h2, h3⟩ := h.lists j b s q hbm
      exact ⟨e, cs0, hx _ _ h1, by rw [Below.heap_alloc w _ _ (hlt j b e q h1)]; exact h2, h3⟩
    · simp only [ht.2] at hbm; cases hbm
  · intro j e he
    rcases hβ j e he with ⟨_, q⟩ | ⟨_, rfl⟩
    · exact h.new j e q
    · exact h.far.size
  · intro j e he
    rcases hβ j e he with ⟨_, q⟩ | ⟨_, rfl⟩
    · have := h.cap j e q; simp; omega
    · simp
  · intro j b hb hbo
    rcases hnew j b hb with ⟨hj, q⟩ | ⟨rfl, rfl⟩
    · obtain ⟨e, o, h1, h2, h3⟩ := h.objs j b q hbo
      exact ⟨e, o, hx _ _ h1, by rw [Below.heap_alloc w _ _ (hlt j b e q h1)]; exact h2, h3.mono hx⟩
    · simp only at hbo; rw [hno] at hbo; cases hbo

/-- a block is forgotten -/
theorem Sim.kill (h : Sim ρ P w0 β H w) (b : Nat) : Sim ρ P w0 β (H.set b none) w := by
  have old : ∀ (i : Nat) (c : Blk), (H.set b none)[i]? = some (some c) → H[i]? = some (some c) := by
    intro i c hc
    by_cases hi : b = i
    · subst hi
      by_cases hl : b < H.length
      · rw [List.getElem?_set_self hl] at hc; cases hc
      · rw [List.getElem?_eq_none (by rw [List.length_set]; omega)] at hc; cases hc
    · rwa [List.getElem?_set_ne hi] at hc
  exact ⟨fun i d q => by rw [List.length_set]; exact h.dom i d q, h.below, h.bound, fun i c hc => h.cells i c (old i c hc), fun i j e d c c' hc hc' => h.inj i j e d c c' (old i c hc) (old j c' hc'), h.far, fun i c s hc => h.lists i c s (old i c hc), h.new, h.cap, fun i c hc => h.objs i c (old i c hc)⟩

/-- the type of a block that holds the list letter s -/
def listTy (s e : Nat) : Nat := 1180591620717411303424 + s * 1048576 + e
theorem listTy_eq {s e : Nat} (h : e < 1048576) (hs : s < 1099511627776) : realTy (listTy s e) = e ∧ markOf (listTy s e) = some s := by
  have hb : Nat.blt (listTy s e) 1180591620717411303424 = false := by
    unfold listTy
    rcases q : Nat.blt (1180591620717411303424 + s * 1048576 + e) 1180591620717411303424 with _ | _
    · rfl
    · simp only [Nat.blt, Nat.ble_eq] at q; omega
  have ho : isObj (listTy s e) = false := by
    rcases q : isObj (listTy s e) with _ | _
    · rfl
    · unfold listTy at q; simp only [isObj, Nat.ble_eq] at q; omega
  unfold realTy markOf
  rw [hb, ho]
  simp only [Bool.false_eq_true, if_false]
  unfold listTy
  constructor
  · omega
  · congr 1; omega
/-- a block without known cells takes another type of the same kind -/
theorem Sim.retype (h : Sim ρ P w0 β H w) {b t1 t2 : Nat} (hb : H[b]? = some (some ⟨[], t1⟩)) (hn1 : isObj t1 = false) (hn2 : isObj t2 = false) (ht : realTy t2 = realTy t1)
    (hl : ∀ s, markOf t2 = some s → ∃ e cs', β b = some e ∧ w.heap[e.blk]? = some (.cells cs' (realTy t1) (0, 0)) ∧ ∀ (j : Nat) (v : Value), (ρ.lst s)[j]? = some v → cs'[j]? = some v) :
    Sim ρ P w0 β (H.set b (some ⟨[], t2⟩)) w := by
  have hbl : b < H.length := (List.getElem?_eq_some_iff.1 hb).1
  have old : ∀ (i : Nat) (c : Blk), (H.set b (some ⟨[], t2⟩))[i]? = some (some c) → (i ≠ b ∧ H[i]? = some (some c)) ∨ (i = b ∧ c = ⟨[], t2⟩) := by
    intro i c hc
    by_cases hi : b = i
    · subst hi
      rw [List.getElem?_set_self hbl] at hc
      exact .inr ⟨rfl, (Option.some.inj (Option.some.inj hc)).symm⟩
    · rw [List.getElem?_set_ne hi] at hc; exact .inl ⟨fun q => hi q.symm, hc⟩
  have any : ∀ (i : Nat) (c : Blk), (H.set b (some ⟨[], t2⟩))[i]? = some (some c) → ∃ c0, H[i]? = some (some c0) := by
    intro i c hc
    rcases old i c hc with ⟨_, q⟩ | ⟨rfl, _⟩
    · exact ⟨c, q⟩
    · exact ⟨_, hb⟩
  refine ⟨fun i d q => by rw [List.length_set]; exact h.dom i d q, h.below, h.bound, fun i c hc hco => ?_, fun i j e d c c' hc hc' he hd hed => ?_, h.far, fun i c s hc hm => ?_, h.new, h.cap, fun i c hc hco => ?_⟩
  · rcases old i c hc with ⟨_, q⟩ | ⟨rfl, rfl⟩
    · exact h.cells i c q hco
    · obtain ⟨e, cs', q1, q2, q3, q4, q5, q6⟩ := h.cells i _ hb hn1
      exact ⟨e, cs', q1, by simp only [ht]; exact q2, q3, by simp only [ht]; exact q4, by simp, fun j v hj => by simp at hj⟩
  · obtain ⟨x, hx⟩ := any i c hc
    obtain ⟨y, hy⟩ := any j c' hc'
    exact h.inj i j e d x y hx hy he hd hed
  · rcases old i c hc with ⟨_, q⟩ | ⟨rfl, rfl⟩
    · exact h.lists i c s q hm
    · obtain ⟨e, cs', q1, q2, q3⟩ := hl s hm
      exact ⟨e, cs', q1, by simp only [ht]; exact q2, q3⟩
  · rcases old i c hc with ⟨_, q⟩ | ⟨rfl, rfl⟩
    · exact h.objs i c q hco
    · simp only at hco; rw [hn2] at hco; cases hco
/-- a block that takes another name -/
theorem Sim.rename {b : Nat} {k : Blk} (h : Sim ρ P w0 β H w) (hb : H[b]? = some (some k)) {e : Ent} (he : β b = some e) :
    Sim ρ P w0 (upd β H.length e) (H.set b none ++ [some k]) w := by
  have hfree := h.free (Nat.le_refl H.length)
  have hx := Ext.upd hfree e
  have hbl : b < H.length := (List.getElem?_eq_some_iff.1 hb).1
  have hnew : ∀ (i : Nat) (c : Blk), (H.set b none ++ [some k])[i]? = some (some c) → (i ≠ b ∧ i < H.length ∧ H[i]? = some (some c)) ∨ (i = H.length ∧ c = k) := by
    intro i c hc
    rcases Nat.lt_or_ge i H.length with hi | hi
    · rw [List.getElem?_append_left (by simpa using hi)] at hc
      by_cases hib : b = i
      · subst hib; rw [List.getElem?_set_self hbl] at hc; cases hc
      · rw [List.getElem?_set_ne hib] at hc; exact .inl ⟨fun q => hib q.symm, hi, hc⟩
    · rw [List.getElem?_append_right (by simpa using hi), List.length_set] at hc
      have hi0 : i - H.length = 0 := by
        rcases Nat.lt_or_ge (i - H.length) 1 with q | q
        · omega
        · rw [List.getElem?_eq_none (by simpa using q)] at hc; cases hc
      rw [hi0] at hc
      exact .inr ⟨by omega, (Option.some.inj (Option.some.inj hc)).symm⟩
  refine ⟨?_, h.below, ?_, ?_, ?_, h.far, ?_, ?_, ?_, ?_⟩
  · intro i d q
    simp only [List.length_append, List.length_set, List.length_singleton]
    by_cases hi : i = H.length
    · omega
    · rw [upd_ne hi] at q; have := h.dom i d q; omega
  · intro i d q
    by_cases hi : i = H.length
    · subst hi; rw [upd_self] at q; cases q; exact h.bound b e he
    · rw [upd_ne hi] at q; exact h.bound i d q
  · intro i c hc hco
    rcases hnew i c hc with ⟨_, hi, q⟩ | ⟨rfl, rfl⟩
    · obtain ⟨d, cs0, h1, h2, h3, h4, h5, h6⟩ := h.cells i c q hco
      exact ⟨d, cs0, hx _ _ h1, h2, h3, h4, h5, fun j v hj => by obtain ⟨u, hu, hr⟩ := h6 j v hj; exact ⟨u, hu, hr.mono hx⟩⟩
    · obtain ⟨d, cs0, h1, h2, h3, h4, h5, h6⟩ := h.cells b c hb hco
      obtain rfl : e = d := Option.some.inj (he.symm.trans h1)
      exact ⟨e, cs0, upd_self _ _ _, h2, h3, h4, h5, fun j v hj => by obtain ⟨u, hu, hr⟩ := h6 j v hj; exact ⟨u, hu, hr.mono hx⟩⟩
  · intro i j d f c c' hc hc' hd hf hdf
    rcases hnew i c hc with ⟨ib, hi, q⟩ | ⟨rfl, rfl⟩ <;> rcases hnew j c' hc' with ⟨jb, hj, r⟩ | ⟨rfl, rfl⟩
    · rw [upd_ne (by omega)] at hd hf
      exact h.inj i j d f c c' q r hd hf hdf
    · rw [upd_ne (by omega)] at hd; rw [upd_self] at hf; cases hf
      exact absurd (h.inj i b d _ c _ q hb hd he hdf) ib
    · rw [upd_ne (by omega)] at hf; rw [upd_self] at hd; cases hd
      exact absurd (h.inj j b f _ c' _ r hb hf he hdf.symm) jb
    · rfl
  · intro i c s hc hcm
    rcases hnew i c hc with ⟨_, hi, q⟩ | ⟨rfl, rfl⟩
    · obtain ⟨d, cs0, h1, h2, h3⟩ := h.lists i c s q hcm
      exact ⟨d, cs0, hx _ _ h1, h2, h3⟩
    · obtain ⟨d, cs0, h1, h2, h3⟩ := h.lists b c s hb hcm
      obtain rfl : e = d := Option.some.inj (he.symm.trans h1)
      exact ⟨e, cs0, upd_self _ _ _, h2, h3⟩
  · intro i d q
    by_cases hi : i = H.length
    · subst hi; rw [upd_self] at q; cases q; exact h.new b e he
    · rw [upd_ne hi] at q; exact h.new i d q
  · intro i d q
    by_cases hi : i = H.length
    · subst hi; rw [upd_self] at q; cases q; exact h.cap b e he
    · rw [upd_ne hi] at q; exact h.cap i d q
  · intro i c hc hco
    rcases hnew i c hc with ⟨_, hi, q⟩ | ⟨rfl, rfl⟩
    · obtain ⟨d, o, h1, h2, h3⟩ := h.objs i c q hco
      exact ⟨d, o, hx _ _ h1, h2, h3.mono hx⟩
    · obtain ⟨d, o, h1, h2, h3⟩ := h.objs b c hb hco
      obtain rfl : e = d := Option.some.inj (he.symm.trans h1)
      exact ⟨e, o, upd_self _ _ _, h2, h3.mono hx⟩
/-- names that nothing has yet -/
theorem Sim.pad (h : Sim ρ P w0 β H w) (n : Nat) : Sim ρ P w0 β (H ++ List.replicate n none) w := by
  have old : ∀ (i : Nat) (c : Blk), (H ++ List.replicate n none)[i]? = some (some c) → H[i]? = some (some c) := by
    intro i c q
    rcases Nat.lt_or_ge i H.length with hi | hi
    · rwa [List.getElem?_append_left hi] at q
    · rw [List.getElem?_append_right hi, List.getElem?_replicate] at q
      split at q <;> cases q
  exact ⟨fun i d q => by have := h.dom i d q; simp; omega, h.below, h.bound, fun i c hc => h.cells i c (old i c hc), fun i j e d c c' hc hc' => h.inj i j e d c c' (old i c hc) (old j c' hc'), h.far, fun i c s hc => h.lists i c s (old i c hc), h.new, h.cap, fun i c hc => h.objs i c (old i c hc)⟩
/-- a call that leaves old memory as it was -/
theorem Sim.onto {w' : World} (h : Sim ρ P w0 β H w) (hb : Below w.heap.size w w') : Sim ρ P w0 β H w' := by
  refine ⟨h.dom, h.below.below hb, h.bound, fun i c hc hco => ?_, h.inj, h.far.trans (hb.mono h.far.size), fun i c s hc hm => ?_, h.new, fun i e q => Nat.lt_of_lt_of_le (h.cap i e q) hb.size, fun i c hc hco => ?_⟩
  rotate_left
  · obtain ⟨e, cs', h1, h2, h3⟩ := h.lists i c s hc hm
    exact ⟨e, cs', h1, (hb.block e.blk (Array.getElem?_eq_some_iff.1 h2).1).trans h2, h3⟩
  · obtain ⟨e, o, h1, h2, h3⟩ := h.objs i c hc hco
    exact ⟨e, o, h1, (hb.block e.blk (h.cap i e h1)).trans h2, h3⟩
  obtain ⟨e, cs', h1, h2, h3⟩ := h.cells i c hc hco
  exact ⟨e, cs', h1, (hb.block e.blk (Array.getElem?_eq_some_iff.1 h2).1).trans h2, h3⟩
end
end Go.Proofs.Ytapcooolainmdaa.Ev
