/- The evaluator: loops of any number of rounds, lists of its own. -/
import Derived.Test.YtapcooolainmdaaEvS
namespace Go.Proofs.Ytapcooolainmdaa.Ev
noncomputable section
open Go.RowKit
set_option linter.unusedVariables false
set_option linter.unusedSimpArgs false

/-- what must be so for one reading of the letters to answer to another one -/
inductive EqE where
  | num (a m : Int)
  | val (i j : Nat)
  | lst (s t : Nat)
  | cel (cs : List Value) (t : Nat)
abbrev Eqs := List EqE
def EqE.holds (ρ1 ρ2 : Env) : EqE → Prop
  | .num a m => valOf ρ1 a = ρ2.num m
  | .val i j => ρ1.val i = ρ2.val j
  | .lst s t => ρ1.lst s = ρ2.lst t
  | .cel cs t => cs.map (inst ρ1) = ρ2.lst t
def Holds (ρ1 ρ2 : Env) (e : Eqs) : Prop := ∀ q ∈ e, q.holds ρ1 ρ2
/-- the names of one memory, by those of another one -/
def pick (f : List Nat) (β : Names) : Names := fun i => (f[i]?).bind β
def at_ (f : List Nat) (i b : Nat) : Bool := match getN f i with | some c => c == b | none => false
theorem at_eq {f : List Nat} {i b : Nat} (h : at_ f i b = true) : f[i]? = some b := by
  unfold at_ at h
  split at h
  · rename_i c hc; rw [getN_eq] at hc; rw [hc, beq_iff_eq.1 h]
  · cases h
def pass0 (P : Program) (H1 : Heap) (f : List Nat) (v u : Value) : Option Eqs :=
  match u with
  | .int k m => if isSym m then (match v with | .int k' a => if k = k' then some [.num a m] else none | _ => none) else if sameV 4 v (.int k m) then some [] else none
  | .complex .f64 j b => (match v with | .complex .f64 i _ => some [.val i j] | _ => none)
  | .complex .f32 b t => if Nat.blt t 10 then none else (match v with
    | .complex .f32 b1 s => if Nat.blt s 10 then none else if at_ f b b1 && (s - 10) % 1024 == (t - 10) % 1024 then some [.lst (s - 10) (t - 10)] else none
    | .slice (some ⟨b1, 0, none⟩) n c => (blkAt H1 b1).bind fun k =>
      if at_ f b b1 && (k.cells.all af && (n == c && (Nat.ble n 1000000 && (Nat.blt 0 (P.cellsOf k.ty) && (P.cellsOf k.ty == (t - 10) % 1024 && n * P.cellsOf k.ty == k.cells.length))))) then some [.cel k.cells (t - 10)] else none
    | _ => none)
  | .pointer (some ⟨b, o, none⟩) => (match v with | .pointer (some ⟨b1, o1, none⟩) => if at_ f b b1 && o1 == o then some [] else none | _ => none)
  | .slice (some ⟨b, o, none⟩) l c => (match v with | .slice (some ⟨b1, o1, none⟩) l1 c1 => if at_ f b b1 && (o1 == o && (l1 == l && c1 == c)) then some [] else none | _ => none)
  | .func (.yield b) p q => (match v with | .func (.yield b1) p1 q1 => if at_ f b b1 && ((p.toList.isEmpty && q.toList.isEmpty) && (p1.toList.isEmpty && q1.toList.isEmpty)) then some [] else none | _ => none)
  | u => if flat u && sameV 4 v u then some [] else none
def passL (f : Value → Value → Option Eqs) : List Value → List Value → Option Eqs
  | [], [] => some []
  | v :: vs, u :: us => (f v u).bind fun a => (passL f vs us).bind fun b => some (a ++ b)
  | _, _ => none
def pass1 (P : Program) (H1 : Heap) (n : List Nat) (v u : Value) : Option Eqs :=
  match u, v with
  | .agg us, .agg vs => passL (pass0 P H1 n) vs.toList us.toList
  | .func (.func g) f us, .func (.func g') f' vs => if g == g' && (f.toList.isEmpty && f'.toList.isEmpty) then passL (pass0 P H1 n) vs.toList us.toList else none
  | u, v => pass0 P H1 n v u
def pass2 (P : Program) (H1 : Heap) (n : List Nat) (v u : Value) : Option Eqs :=
  if sameV 4 u anyV then some [] else
  match u, v with
  | .tuple us, .tuple vs => if isAny (.tuple vs) then none else passL (pass1 P H1 n) vs.toList us.toList
  | u, v => pass1 P H1 n v u
def passP (f : Value → Value → Option Eqs) : List Value → List Value → Option Eqs
  | _, [] => some []
  | v :: vs, u :: us => (f v u).bind fun a => (passP f vs us).bind fun b => some (a ++ b)
  | _, _ => none
def passT (P : Program) (H1 : Heap) (n : List Nat) : Tm → Tm → Option Eqs
  | [], [] => some []
  | a :: x, b :: y => (passL (pass2 P H1 n) a b).bind fun a => (passT P H1 n x y).bind fun b => some (a ++ b)
  | _, _ => none
def passB (P : Program) (H1 : Heap) (n : List Nat) (k l : Blk) : Option Eqs :=
  match markOf l.ty with
  | none => if k.ty == l.ty then (if isObj l.ty then (if sameL (k.cells.take 4) (l.cells.take 4) then passL (pass2 P H1 n) k.cells l.cells else none) else passP (pass1 P H1 n) k.cells l.cells) else none
  | some t => if isObj k.ty == false && (l.cells.isEmpty && realTy k.ty == realTy l.ty) then (match markOf k.ty with
    | some s => some [.lst s t]
    | none => if k.cells.all af then some [.cel k.cells t] else none) else none
def passH (P : Program) (H1 : Heap) (n : List Nat) : Nat → Heap → Option Eqs
  | _, [] => some []
  | i, none :: y => passH P H1 n (i + 1) y
  | i, some l :: y => match getN n i with
    | some b => match getN H1 b with
      | some (some k) => (passB P H1 n k l).bind fun a => (passH P H1 n (i + 1) y).bind fun b => some (a ++ b)
      | _ => none
    | none => none
section
variable {ρ1 ρ2 : Env} {β : Names} {n : List Nat} {P : Program} {H1 : Heap} {w0 : Base} {w : World}
theorem Holds.left {a b : Eqs} (h : Holds ρ1 ρ2 (a ++ b)) : Holds ρ1 ρ2 a := fun q hq => h q (List.mem_append_left _ hq)
theorem Holds.right {a b : Eqs} (h : Holds ρ1 ρ2 (a ++ b)) : Holds ρ1 ρ2 b := fun q hq => h q (List.mem_append_right _ hq)
theorem pick_some {b b1 : Nat} {e : Ent} (h : at_ n b b1 = true) (he : β b1 = some e) : pick n β b = some e := by
  unfold pick; rw [at_eq h]; exact he
theorem pass0_ok (hS : Sim ρ1 P w0 β H1 w) {v u : Value} {e : Eqs} (h : pass0 P H1 n v u = some e) (hh : Holds ρ1 ρ2 e) {v' : Value} (hr : Rel ρ1 β v v') : Rel ρ2 (pick n β) u v' := by
  unfold pass0 at h
  split at h
  · rename_i k m
    split at h
    · rename_i hs
      split at h
      · rename_i k' a
        rw [Option.ite_none_right_eq_some] at h
        obtain ⟨rfl, h⟩ := h
        cases h
        have e1 := hr.af_eq (v := .int k a) rfl
        have e2 : valOf ρ1 a = ρ2.num m := hh (.num a m) (by simp)
        rw [e1, inst_int, e2]
        exact .sym hs
      · cases h
    · rename_i hs
      rw [Option.ite_none_right_eq_some] at h
      rw [sameV_eq _ _ _ h.1] at hr
      have hf : flat (.int k m) = true := by simp [flat, flat1, flat0, hs]
      rw [hr.eq_of_flat hf]
      exact .flat hf
  · rename_i j b
    split at h
    · rename_i i c
      cases h
      have e1 := hr.af_eq (v := .complex .f64 i c) rfl
      have e2 : ρ1.val i = ρ2.val j := hh (.val i j) (by simp)
      rw [e1]
      show Rel ρ2 (pick n β) _ (ρ1.val i)
      rw [e2]
      exact .opq
    · cases h
  · rename_i b t
    rw [Option.ite_none_left_eq_some] at h
    obtain ⟨ht, h⟩ := h
    have ht10 : t = 10 + (t - 10) := by simp [Nat.blt] at ht; omega
    split at h
    · rename_i b1 s
      rw [Option.ite_none_left_eq_some, Option.ite_none_right_eq_some] at h
      obtain ⟨hs, hat, h⟩ := h
      rw [Bool.and_eq_true, beq_iff_eq] at hat
      obtain ⟨hat, hsz⟩ := hat
      cases h
      have e2 : ρ1.lst (s - 10) = ρ2.lst (t - 10) := hh (.lst _ _) (by simp)
      obtain ⟨e0, n0, c0, h1, rfl, h2, h3, h4⟩ := rel_lst hr (by cases q : Nat.blt s 10 with | false => rfl | true => exact absurd q hs)
      rw [ht10]
      rw [hsz] at h2
      rw [e2] at h3
      exact .lst (pick_some hat h1) h2 h3 h4
    · rename_i b1 l c
      simp only [Option.bind_eq_some_iff, Option.ite_none_right_eq_some, Option.some.injEq, Bool.and_eq_true, beq_iff_eq, List.all_eq_true] at h
      obtain ⟨k, h1, ⟨hat, haf, hlc, hl, hz, hzz, hsz⟩, rfl⟩ := h
      subst hlc
      have e2 : k.cells.map (inst ρ1) = ρ2.lst (t - 10) := hh (.cel _ _) (by simp)
      obtain ⟨d, c', g1, rfl, g2⟩ := hr.slc_inv
      obtain ⟨d', cs', q1, q2, q3, q4, q5, q6⟩ := hS.cells b1 k (blkAt_eq h1) (blkAt_notObj h1)
      obtain rfl : d = d' := Option.some.inj (g1.symm.trans q1)
      rw [(blkAt_small h1).1] at q4
      rw [ht10]
      have hl' : l ≤ 1000000 := Nat.le_of_ble_eq_true hl
      have hz' : 0 < P.cellsOf k.ty := by simp [Nat.blt] at hz; omega
      refine .lst (pick_some hat g1) ⟨by rw [q4]; exact hz', by rw [q4]; exact hzz⟩ (by rw [← e2, List.length_map, q4]; exact hsz) ?_
      rcases g2 with rfl | ⟨g3, g4, g5⟩
      · exact ⟨Nat.le_refl _, by unfold maxLen; omega, by rw [q4, hsz]; exact q5⟩
      · exact ⟨g3, g4, by rw [Nat.zero_add] at g5; exact g5⟩
    · cases h
  · split at h
    · rename_i b o b1 o1
      rw [Option.ite_none_right_eq_some, Bool.and_eq_true, beq_iff_eq] at h
      obtain ⟨⟨hat, rfl⟩, h⟩ := h
      obtain ⟨d, h1, rfl⟩ := hr.ptr_inv
      exact .ptr (pick_some hat h1)
    · cases h
  · split at h
    · rename_i b o l c b1 o1 l1 c1
      simp only [Option.ite_none_right_eq_some, Bool.and_eq_true, beq_iff_eq] at h
      obtain ⟨⟨hat, rfl, rfl, rfl⟩, h⟩ := h
      obtain ⟨d, c', h1, rfl, h3⟩ := hr.slc_inv
      exact .slc (pick_some hat h1) h3
    · cases h
  · rename_i b p q
    split at h
    · rename_i b1 p1 q1
      simp only [Option.ite_none_right_eq_some, Bool.and_eq_true, List.isEmpty_iff, Array.toList_eq_nil_iff] at h
      obtain ⟨⟨hat, ⟨rfl, rfl⟩, rfl, rfl⟩, h⟩ := h
      cases hr with
      | flat hf => simp [flat, flat1, flat0] at hf
      | yld he => exact .yld (pick_some hat he)
    · cases h
  · rw [Option.ite_none_right_eq_some, Bool.and_eq_true] at h
    rw [sameV_eq _ _ _ h.1.2] at hr
    rw [hr.eq_of_flat h.1.1]
    exact .flat h.1.1
theorem passL_ok {f : Value → Value → Option Eqs} (hf : ∀ {v u : Value} {e : Eqs}, f v u = some e → Holds ρ1 ρ2 e → ∀ {v' : Value}, Rel ρ1 β v v' → Rel ρ2 (pick n β) u v') :
    ∀ (vs us vs' : List Value) (e : Eqs), passL f vs us = some e → Holds ρ1 ρ2 e → RelL ρ1 β vs vs' → RelL ρ2 (pick n β) us vs' := by
  intro vs
  induction vs with
  | nil =>
    intro us vs' e h hh hr
    cases us with
    | nil => exact ⟨hr.1, fun i v v' q => by simp at q⟩
    | cons u us => simp [passL] at h
  | cons v vs ih =>
    intro us vs' e h hh hr
    cases us with
    | nil => simp [passL] at h
    | cons u us =>
      simp only [passL, Option.bind_eq_some_iff, Option.some.injEq] at h
      obtain ⟨a, h1, b, h2, rfl⟩ := h
      match vs', hr with
      | [], hr => exact absurd hr.1 (by simp)
      | v' :: vs', hr =>
        have r1 := hf h1 hh.left (hr.2 0 v v' rfl rfl)
        have r2 := ih us vs' b h2 hh.right ⟨by simpa using hr.1, fun i x y qx qy => hr.2 (i + 1) x y (by simpa using qx) (by simpa using qy)⟩
        refine ⟨by simp [r2.1], fun i x y qx qy => ?_⟩
        cases i with
        | zero => simp at qx qy; subst qx; subst qy; exact r1
        | succ i => simp only [List.getElem?_cons_succ] at qx qy; exact r2.2 i x y qx qy
theorem flat_rel_list {cs : Array Value} (h : flat (.agg cs) = true) : RelL ρ1 β cs.toList cs.toList := by
  simp only [flat, flat1, List.all_eq_true] at h
  exact flats_rel _ fun c hc => flat1_flat (flat0_flat1 (h c hc))
theorem pass1_ok (hS : Sim ρ1 P w0 β H1 w) {v u : Value} {e : Eqs} (h : pass1 P H1 n v u = some e) (hh : Holds ρ1 ρ2 e) {v' : Value} (hr : Rel ρ1 β v v') : Rel ρ2 (pick n β) u v' := by
  unfold pass1 at h
  split at h
  · rename_i us vs
    have : ∃ vs', v' = .agg vs' ∧ RelL ρ1 β vs.toList vs'.toList := by
      cases hr with
      | flat hf => exact ⟨_, rfl, flat_rel_list hf⟩
      | agg hs hc => exact ⟨_, rfl, hs, hc⟩
    obtain ⟨vs', rfl, hl⟩ := this
    have := passL_ok (fun h hh _ hr => pass0_ok hS h hh hr) _ _ _ _ h hh hl
    exact .agg (cs := us.toList) (cs' := vs'.toList) this.1 this.2
  · rename_i g f us g' f' vs
    rw [Option.ite_none_right_eq_some] at h
    simp only [Bool.and_eq_true, beq_iff_eq, List.isEmpty_iff, Array.toList_eq_nil_iff] at h
    obtain ⟨⟨rfl, rfl, rfl⟩, h⟩ := h
    obtain ⟨cs', rfl, hl⟩ := hr.fn_inv (by simp)
    have := passL_ok (fun h hh _ hr => pass0_ok hS h hh hr) _ _ _ _ h hh hl
    exact .fn (cs := us.toList) (cs' := cs'.toList) this.1 this.2
  · exact pass0_ok hS h hh hr
theorem pass2_ok (hS : Sim ρ1 P w0 β H1 w) {v u : Value} {e : Eqs} (h : pass2 P H1 n v u = some e) (hh : Holds ρ1 ρ2 e) {v' : Value} (hr : Rel ρ1 β v v') : Rel ρ2 (pick n β) u v' := by
  unfold pass2 at h
  split at h
  · rename_i ha
    rw [sameV_eq _ _ _ ha]
    exact .any
  split at h
  · rename_i us vs hna0
    rw [Option.ite_none_left_eq_some] at h
    obtain ⟨hna, h⟩ := h
    have : ∃ vs', v' = .tuple vs' ∧ RelL ρ1 β vs.toList vs'.toList := by
      cases hr with
      | any => simp [isAny, notAny] at hna
      | flat hf =>
        refine ⟨_, rfl, ?_⟩
        simp only [flat, List.all_eq_true] at hf
        exact flats_rel _ fun c hc => flat1_flat (hf c hc)
      | tup hs hc => exact ⟨_, rfl, hs, hc⟩
    obtain ⟨vs', rfl, hl⟩ := this
    have := passL_ok (fun h hh _ hr => pass1_ok hS h hh hr) _ _ _ _ h hh hl
    exact .tup (cs := us.toList) (cs' := vs'.toList) this.1 this.2
  · exact pass1_ok hS h hh hr
theorem passP_ok {f : Value → Value → Option Eqs} (hf : ∀ {v u : Value} {e : Eqs}, f v u = some e → Holds ρ1 ρ2 e → ∀ {v' : Value}, Rel ρ1 β v v' → Rel ρ2 (pick n β) u v') :
    ∀ (vs us : List Value) (e : Eqs), passP f vs us = some e → Holds ρ1 ρ2 e → us.length ≤ vs.length ∧ ∀ (j : Nat) (u : Value), us[j]? = some u → ∃ v, vs[j]? = some v ∧ ∀ v', Rel ρ1 β v v' → Rel ρ2 (pick n β) u v' := by
  intro vs us
  induction us generalizing vs with
  | nil => intro e h hh; exact ⟨by simp, fun j u q => by simp at q⟩
  | cons u us ih =>
    intro e h hh
    cases vs with
    | nil => simp [passP] at h
    | cons v vs =>
      simp only [passP, Option.bind_eq_some_iff, Option.some.injEq] at h
      obtain ⟨a, h1, b, h2, rfl⟩ := h
      obtain ⟨r1, r2⟩ := ih vs b h2 hh.right
      refine ⟨by simpa using r1, fun j x q => ?_⟩
      cases j with
      | zero => simp at q; subst q; exact ⟨v, rfl, fun v' hr => hf h1 hh.left hr⟩
      | succ j => simp only [List.getElem?_cons_succ] at q ⊢; exact r2 j x q
theorem passRow_get (hS : Sim ρ1 P w0 β H1 w) : ∀ (vs us : List Value) (e : Eqs), passL (pass2 P H1 n) vs us = some e → Holds ρ1 ρ2 e → vs.length = us.length ∧ ∀ (j : Nat) (v u : Value), vs[j]? = some v → us[j]? = some u → ∀ v', Rel ρ1 β v v' → Rel ρ2 (pick n β) u v' := by
  intro vs
  induction vs with
  | nil =>
    intro us e h hh
    cases us with
    | nil => exact ⟨rfl, fun j v u q => by simp at q⟩
    | cons u us => simp [passL] at h
  | cons v vs ih =>
    intro us e h hh
    cases us with
    | nil => simp [passL] at h
    | cons u us =>
      simp only [passL, Option.bind_eq_some_iff, Option.some.injEq] at h
      obtain ⟨a, h1, b, h2, rfl⟩ := h
      obtain ⟨r1, r2⟩ := ih us b h2 hh.right
      refine ⟨by simp [r1], fun j x y qx qy => ?_⟩
      cases j with
      | zero => simp at qx qy; subst qx; subst qy; exact fun v' hr => pass2_ok hS h1 hh.left hr
      | succ j => simp only [List.getElem?_cons_succ] at qx qy; exact r2 j x y qx qy
theorem passT_get : ∀ (x y : Tm) (e : Eqs), passT P H1 n x y = some e → Holds ρ1 ρ2 e → x.length = y.length ∧ ∀ (i : Nat) (a b : List Value), x[i]? = some a → y[i]? = some b → ∃ e', passL (pass2 P H1 n) a b = some e' ∧ Holds ρ1 ρ2 e' := by
  intro x
  induction x with
  | nil =>
    intro y e h hh
    cases y with
    | nil => exact ⟨rfl, fun i a b q => by simp at q⟩
    | cons b y => simp [passT] at h
  | cons a x ih =>
    intro y e h hh
    cases y with
    | nil => simp [passT] at h
    | cons b y =>
      simp only [passT, Option.bind_eq_some_iff, Option.some.injEq] at h
      obtain ⟨e1, h1, e2, h2, rfl⟩ := h
      obtain ⟨r1, r2⟩ := ih y e2 h2 hh.right
      refine ⟨by simp [r1], fun i p q qp qq => ?_⟩
      cases i with
      | zero => simp at qp qq; subst qp; subst qq; exact ⟨e1, h1, hh.left⟩
      | succ i => simp only [List.getElem?_cons_succ] at qp qq; exact r2 i p q qp qq
theorem passT_ok (hS : Sim ρ1 P w0 β H1 w) {t1 t2 : Tm} {e : Eqs} (h : passT P H1 n t1 t2 = some e) (hh : Holds ρ1 ρ2 e) {t' : Array Value} (hr : RelT ρ1 β t1 t') : RelT ρ2 (pick n β) t2 t' := by
  obtain ⟨l, g⟩ := passT_get t1 t2 e h hh
  intro i
  have key : (t1.at i = none ∧ t2.at i = none) ∨ ∃ v u, t1.at i = some v ∧ t2.at i = some u ∧ ∀ v', Rel ρ1 β v v' → Rel ρ2 (pick n β) u v' := by
    unfold Tm.at
    simp only [getN_eq]
    rcases Nat.lt_or_ge (i / 16) t1.length with hi | hi
    · have hi2 : i / 16 < t2.length := l ▸ hi
      rw [List.getElem?_eq_getElem hi, List.getElem?_eq_getElem hi2]
      simp only [getN_eq]
      obtain ⟨e', g1, g2⟩ := g _ _ _ (List.getElem?_eq_getElem hi) (List.getElem?_eq_getElem hi2)
      obtain ⟨r1, r2⟩ := passRow_get hS _ _ _ g1 g2
      rcases Nat.lt_or_ge (i % 16) (t1[i / 16]).length with hj | hj
      · have hj2 : i % 16 < (t2[i / 16]).length := r1 ▸ hj
        exact .inr ⟨_, _, List.getElem?_eq_getElem hj, List.getElem?_eq_getElem hj2, r2 _ _ _ (List.getElem?_eq_getElem hj) (List.getElem?_eq_getElem hj2)⟩
      · exact .inl ⟨List.getElem?_eq_none hj, List.getElem?_eq_none (r1 ▸ hj)⟩
    · rw [List.getElem?_eq_none hi, List.getElem?_eq_none (l ▸ hi)]
      exact .inl ⟨rfl, rfl⟩
  rcases key with ⟨k1, k2⟩ | ⟨v, u, k1, k2, k3⟩
  · rcases hr i with ⟨h1, h2⟩ | ⟨v, v', h1, h2, h3⟩
    · exact .inl ⟨k2, h2⟩
    · rw [k1] at h1; cases h1
  · rcases hr i with ⟨h1, h2⟩ | ⟨v0, v', h1, h2, h3⟩
    · rw [k1] at h1; cases h1
    · rw [k1] at h1; cases h1
      exact .inr ⟨u, v', k2, h2, k3 v' h3⟩
theorem passH_get : ∀ (y : Heap) (i : Nat) (e : Eqs), passH P H1 n i y = some e → Holds ρ1 ρ2 e → ∀ (j : Nat) (l : Blk), y[j]? = some (some l) → ∃ (c : Nat) (k : Blk) (e' : Eqs), n[i + j]? = some c ∧ H1[c]? = some (some k) ∧ passB P H1 n k l = some e' ∧ Holds ρ1 ρ2 e' := by
  intro y
  induction y with
  | nil => intro i e h hh j l q; simp at q
  | cons b y ih =>
    intro i e h hh j l q
    cases b with
    | none =>
      simp only [passH] at h
      cases j with
      | zero => simp at q
      | succ j =>
        rw [List.getElem?_cons_succ] at q
        obtain ⟨c, k, e', h1, h2⟩ := ih (i + 1) e h hh j l q
        exact ⟨c, k, e', by rw [show i + (j + 1) = i + 1 + j by omega]; exact h1, h2⟩
    | some b =>
      simp only [passH] at h
      split at h
      · rename_i c hc
        split at h
        · rename_i k hk
          simp only [Option.bind_eq_some_iff, Option.some.injEq] at h
          obtain ⟨a, h1, d, h2, rfl⟩ := h
          cases j with
          | zero =>
            simp at q; subst q
            rw [getN_eq] at hc hk
            exact ⟨c, k, a, by simpa using hc, hk, h1, hh.left⟩
          | succ j =>
            rw [List.getElem?_cons_succ] at q
            obtain ⟨c', k', e', g1, g2⟩ := ih (i + 1) d h2 hh.right j l q
            exact ⟨c', k', e', by rw [show i + (j + 1) = i + 1 + j by omega]; exact g1, g2⟩
        · cases h
      · cases h
/-- no index twice -/
theorem nodup_at {n : List Nat} (h : nodupB n = true) {i j c : Nat} (h1 : n[i]? = some c) (h2 : n[j]? = some c) : i = j := nodupB_get h i j c h1 h2
end
/-- one reading of the letters, with its temporaries and memory, answers to another one; n: where its memory comes from -/
structure Pass (P : Program) (ρ1 ρ2 : Env) (n : List Nat) (t1 : Tm) (H1 : Heap) (t2 : Tm) (H2 : Heap) : Prop where
  w : ρ1.w = ρ2.w
  len : n.length = H2.length
  nd : nodupB n = true
  tm : ∃ e, passT P H1 n t1 t2 = some e ∧ Holds ρ1 ρ2 e
  hp : ∃ e, passH P H1 n 0 H2 = some e ∧ Holds ρ1 ρ2 e
section
variable {ρ1 ρ2 : Env} {P : Program} {w0 : Base} {β : Names} {n : List Nat} {t1 t2 : Tm} {H1 H2 : Heap} {w : World}
theorem pick_get {i : Nat} {d : Ent} (q : pick n β i = some d) : ∃ c, n[i]? = some c ∧ β c = some d := Option.bind_eq_some_iff.1 q
theorem list_inst {cs : List Value} {s : Nat} (haf : cs.all af = true) (e : cs.map (inst ρ1) = ρ2.lst s) {cs' : Array Value} (h6 : ∀ (j : Nat) (v : Value), cs[j]? = some v → ∃ v', cs'[j]? = some v' ∧ Rel ρ1 β v v') :
    ∀ (j : Nat) (v : Value), (ρ2.lst s)[j]? = some v → cs'[j]? = some v := by
  intro j v hj
  rw [← e, List.getElem?_map] at hj
  obtain ⟨u, hu, rfl⟩ := Option.map_eq_some_iff.1 hj
  obtain ⟨v', q1, q2⟩ := h6 j u hu
  rw [q1, q2.af_eq (List.all_eq_true.1 haf u (List.mem_of_getElem? hu))]
theorem obj_pass {k l : Blk} {e : Eqs} (hS : Sim ρ1 P w0 β H1 w) (hty : k.ty = l.ty) (hh : sameL (k.cells.take 4) (l.cells.take 4) = true) (hp : passL (pass2 P H1 n) k.cells l.cells = some e) (he : Holds ρ1 ρ2 e) {o : Obj} (ho : ObjOK ρ1 P β k o) : ObjOK ρ2 P (pick n β) l o := by
  obtain ⟨g1, g2⟩ := passRow_get (ρ2 := ρ2) hS _ _ _ hp he
  cases ho with
  | loop g p j tl f r hkt hc hob hpa hj ht =>
    have h4 := sameL_eq hh
    rw [hc] at h4 g1 g2
    simp only [List.take_succ_cons, List.take_zero] at h4
    have hl : l.cells = l.cells.take 4 ++ l.cells.drop 4 := (List.take_append_drop 4 _).symm
    rw [← h4] at hl
    refine .loop g p j (l.cells.drop 4) f r (hty ▸ hkt) hl hob hpa hj ⟨?_, fun i u u' q q' => ?_⟩
    · rw [List.length_drop, ← g1, ← ht.1]; simp
    · rw [List.getElem?_drop] at q
      have hlt : i < tl.length := by rw [ht.1]; exact (List.getElem?_eq_some_iff.1 q').1
      have hk : (Value.int .i64 ↑g :: .agg (p.map Value.bool).toArray :: .int .i64 (stOf r.state) :: .int .i64 j :: tl)[4 + i]? = some tl[i] := by
        rw [Nat.add_comm]; simp [hlt]
      exact g2 (4 + i) _ u hk q u' (ht.2 i _ u' (List.getElem?_eq_getElem hlt) q')
theorem Pass.sim (h : Pass P ρ1 ρ2 n t1 H1 t2 H2) (hS : Sim ρ1 P w0 β H1 w) : Sim ρ2 P w0 (pick n β) H2 w := by
  obtain ⟨e, h1, h2⟩ := h.hp
  have hg := passH_get (ρ1 := ρ1) (ρ2 := ρ2) H2 0 e h1 h2
  refine ⟨fun i d q => ?_, hS.below, fun i d q => ?_, fun i b q qo => ?_, fun i j d f b c qb qc qd qf e => ?_, h.w ▸ hS.far, fun i b s q hm => ?_, fun i d q => ?_, fun i d q => ?_, fun i b q qo => ?_⟩
  · obtain ⟨c, q1, _⟩ := pick_get q
    have := (List.getElem?_eq_some_iff.1 q1).1
    have := h.len; omega
  · obtain ⟨c, _, q2⟩ := pick_get q; exact hS.bound c d q2
  · obtain ⟨c, k, e', g1, g2, g3, g4⟩ := hg i b q
    rw [Nat.zero_add] at g1
    have hko : isObj k.ty = false := by
      unfold passB at g3
      split at g3
      · rw [Option.ite_none_right_eq_some, beq_iff_eq] at g3
        rw [g3.1]; exact qo
      · rw [Option.ite_none_right_eq_some, Bool.and_eq_true, beq_iff_eq] at g3
        exact g3.1.1
    obtain ⟨d, cs', s1, s2, s3, s4, s5, s6⟩ := hS.cells c k g2 hko
    have hp : pick n β i = some d := by unfold pick; rw [g1]; exact s1
    unfold passB at g3
    split at g3
    · rw [Option.ite_none_right_eq_some, beq_iff_eq] at g3
      obtain ⟨hty, g3⟩ := g3
      rw [if_neg (by rw [qo]; simp)] at g3
      obtain ⟨r1, r2⟩ := passP_ok (β := β) (n := n) (fun h hh _ hr => pass1_ok hS h hh hr) _ _ _ g3 g4
      refine ⟨d, cs', hp, by rw [← hty]; exact s2, s3, by rw [← hty]; exact s4, Nat.le_trans r1 s5, fun j u hu => ?_⟩
      obtain ⟨v, x1, x2⟩ := r2 j u hu
      obtain ⟨v', x3, x4⟩ := s6 j v x1
      exact ⟨v', x3, x2 v' x4⟩
    · rw [Option.ite_none_right_eq_some, Bool.and_eq_true, Bool.and_eq_true, beq_iff_eq, beq_iff_eq, List.isEmpty_iff] at g3
      obtain ⟨⟨_, hce, hty⟩, _⟩ := g3
      refine ⟨d, cs', hp, by rw [← hty]; exact s2, s3, by rw [← hty]; exact s4, by rw [hce]; simp, fun j u hu => ?_⟩
      rw [hce] at hu; simp at hu
  · obtain ⟨c1, k1, _, g1, g2, _⟩ := hg i b qb
    obtain ⟨c2, k2, _, g3, g4, _⟩ := hg j c qc
    rw [Nat.zero_add] at g1 g3
    obtain ⟨x1, y1, y2⟩ := pick_get qd
    obtain ⟨x2, y3, y4⟩ := pick_get qf
    rw [g1] at y1; rw [g3] at y3
    cases y1; cases y3
    have := hS.inj c1 c2 d f k1 k2 g2 g4 y2 y4 e
    subst this
    exact nodup_at h.nd g1 g3
  · obtain ⟨c, k, e', g1, g2, g3, g4⟩ := hg i b q
    rw [Nat.zero_add] at g1
    unfold passB at g3
    rw [hm] at g3
    simp only [Option.ite_none_right_eq_some, Bool.and_eq_true, beq_iff_eq, List.isEmpty_iff] at g3
    obtain ⟨⟨hko, hce, hty⟩, g3⟩ := g3
    split at g3
    · rename_i s1 hk1
      cases g3
      obtain ⟨d, cs', x1, x2, x3⟩ := hS.lists c k s1 g2 hk1
      have hp : pick n β i = some d := by unfold pick; rw [g1]; exact x1
      have e2 : ρ1.lst s1 = ρ2.lst s := g4 (.lst s1 s) (by simp)
      exact ⟨d, cs', hp, by rw [← hty]; exact x2, by rw [← e2]; exact x3⟩
    · rw [Option.ite_none_right_eq_some] at g3
      obtain ⟨haf, g3⟩ := g3
      cases g3
      obtain ⟨d, cs', s1, s2, s3, s4, s5, s6⟩ := hS.cells c k g2 hko
      have hp : pick n β i = some d := by unfold pick; rw [g1]; exact s1
      have e2 : k.cells.map (inst ρ1) = ρ2.lst s := g4 (.cel k.cells s) (by simp)
      exact ⟨d, cs', hp, by rw [← hty]; exact s2, list_inst haf e2 s6⟩
  · obtain ⟨c, _, q2⟩ := pick_get q; exact h.w ▸ hS.new c d q2
  · obtain ⟨c, _, q2⟩ := pick_get q; exact hS.cap c d q2
  · obtain ⟨c, k, e', g1, g2, g3, g4⟩ := hg i b q
    rw [Nat.zero_add] at g1
    unfold passB at g3
    split at g3
    · rw [Option.ite_none_right_eq_some, beq_iff_eq, if_pos qo, Option.ite_none_right_eq_some] at g3
      obtain ⟨hty, hh, g3⟩ := g3
      obtain ⟨d, o, s1, s2, s3⟩ := hS.objs c k g2 (by rw [hty]; exact qo)
      exact ⟨d, o, by unfold pick; rw [g1]; exact s1, s2, obj_pass hS hty hh g3 g4 s3⟩
    · rename_i hm
      rw [mark_notObj hm] at qo; cases qo
theorem Pass.rel (h : Pass P ρ1 ρ2 n t1 H1 t2 H2) (hS : Sim ρ1 P w0 β H1 w) {t' : Array Value} (hT : RelT ρ1 β t1 t') : RelT ρ2 (pick n β) t2 t' := by
  obtain ⟨e, h1, h2⟩ := h.tm
  exact passT_ok hS h1 h2 hT
end
def sameX : X → X → Bool
  | .normal, .normal => true
  | .exit a, .exit b => a == b
  | .ret, .ret => true
  | _, _ => false
theorem sameX_eq {a b : X} (h : sameX a b = true) : a = b := by
  cases a <;> cases b <;> first | rfl | (simp [sameX] at h; done) | skip
  simp only [sameX, beq_iff_eq] at h; rw [h]
/-- one round of a loop -/
def evBody (P : Program) (orc : Orc) (m n : Nat) (g : FuncId) (p : List Bool) (t : Tm) (H : Heap) : Option (X × Tm × Heap) :=
  (partOf P g p).bind fun c => match c with
    | .loop x => evCode P orc (evCal P orc m n) g m (some none) true (false :: p) x t H
    | _ => none
def sameQ : EqE → EqE → Bool
  | .num a b, .num c d => decide (a = c) && decide (b = d)
  | .val a b, .val c d => a == c && b == d
  | .lst a b, .lst c d => a == c && b == d
  | .cel a b, .cel c d => sameL a c && b == d
  | _, _ => false
theorem sameQ_eq {a b : EqE} (h : sameQ a b = true) : a = b := by
  cases a <;> cases b <;> first | (simp [sameQ] at h; done) | skip
  · simp only [sameQ, Bool.and_eq_true, decide_eq_true_eq] at h; rw [h.1, h.2]
  · simp only [sameQ, Bool.and_eq_true, beq_iff_eq] at h; rw [h.1, h.2]
  · simp only [sameQ, Bool.and_eq_true, beq_iff_eq] at h; rw [h.1, h.2]
  · simp only [sameQ, Bool.and_eq_true, beq_iff_eq] at h; rw [sameL_eq h.1, h.2]
def inQ (e : EqE) : Eqs → Bool
  | [] => false
  | d :: r => sameQ d e || inQ e r
theorem inQ_mem {e : EqE} : ∀ {l : Eqs}, inQ e l = true → e ∈ l := by
  intro l
  induction l with
  | nil => intro h; simp [inQ] at h
  | cons d r ih =>
    intro h
    simp only [inQ, Bool.or_eq_true] at h
    rcases h with h | h
    · rw [sameQ_eq h]; simp
    · exact List.mem_cons_of_mem _ (ih h)
def subE (a b : Eqs) : Bool := a.all fun e => inQ e b
theorem subE_holds {ρ1 ρ2 : Env} {a b : Eqs} (h : subE a b = true) (hb : Holds ρ1 ρ2 b) : Holds ρ1 ρ2 a := by
  simp only [subE, List.all_eq_true] at h
  exact fun q hq => hb q (inQ_mem (h q hq))
/-- the test of one round: how it ends, and what must be so for it to answer to a given state -/
def passQ (P : Program) (n : List Nat) (t1 : Tm) (H1 : Heap) (t2 : Tm) (H2 : Heap) (es : Eqs) : Bool :=
  (n.length == H2.length && nodupB n) && ((match passT P H1 n t1 t2 with | some e => subE e es | none => false) && (match passH P H1 n 0 H2 with | some e => subE e es | none => false))
def stepT (P : Program) (n : List Nat) (r : Option (X × Tm × Heap)) (x : X) (t2 : Tm) (H2 : Heap) (es : Eqs) : Bool :=
  match r with
  | some (x', t1, H1) => sameX x' x && passQ P n t1 H1 t2 H2 es
  | none => false
/-- the names of what was there before the loop stay -/
def idPre : Nat → Nat → List Nat → Bool
  | _, 0, _ => true
  | i, m + 1, n => at_ n i i && idPre (i + 1) m n
theorem idPre_at {n : List Nat} : ∀ (m i : Nat), idPre i m n = true → ∀ j, j < m → n[i + j]? = some (i + j) := by
  intro m
  induction m with
  | zero => intro i h j hj; omega
  | succ m ih =>
    intro i h j hj
    simp only [idPre, Bool.and_eq_true] at h
    cases j with
    | zero => exact at_eq h.1
    | succ j => have := ih (i + 1) h.2 j (by omega); rw [show i + (j + 1) = i + 1 + j by omega]; exact this
theorem passQ_ok {P : Program} {n : List Nat} {ρ1 ρ2 : Env} {t1 t2 : Tm} {H1 H2 : Heap} {es : Eqs} (hw : ρ1.w = ρ2.w) (h : passQ P n t1 H1 t2 H2 es = true) (he : Holds ρ1 ρ2 es) : Pass P ρ1 ρ2 n t1 H1 t2 H2 := by
  simp only [passQ, Bool.and_eq_true, beq_iff_eq] at h
  obtain ⟨⟨h3, h4⟩, h1, h2⟩ := h
  refine ⟨hw, h3, h4, ?_, ?_⟩
  · split at h1
    · rename_i e hq; exact ⟨e, hq, subE_holds h1 he⟩
    · cases h1
  · split at h2
    · rename_i e hq; exact ⟨e, hq, subE_holds h2 he⟩
    · cases h2
theorem pickL {f : List Nat} {a b : Names} {w w' : World} (h : Left a w b w') : Left a w (pick f b) w' :=
  ⟨h.keep, fun i e q => by obtain ⟨c, _, q2⟩ := pick_get q; exact h.names c e q2, h.size⟩
theorem pickM {f : List Nat} {b : Names} {w w' : World} {a a' : Act} (h : Marks w b w' a a') : Marks w (pick f b) w' a a' := by
  obtain ⟨ms, h1, h2, h3⟩ := h
  exact ⟨ms, h1, h2, fun r hr => ⟨(h3 r hr).1, fun i e q => by obtain ⟨c, _, q2⟩ := pick_get q; exact (h3 r hr).2.1 c e q2, (h3 r hr).2.2⟩⟩
/-- A LOOP: each round from the state s leads on to another state, with fewer rounds left, or out of the loop. A state has its own reading of the letters, its own temporaries and memory -/
theorem loop_rule {σ : Type} {P : Program} {g : FuncId} {p : List Bool} {ρ : Env} (E : σ → Env) (hE : ∀ s, (E s).w = ρ.w) (μ : σ → Nat) (t0 : σ → Tm) (H0 : σ → Heap) {t tf : Tm} {H Hf : Heap} {x : X} (hx : sameX x .normal = false)
    (hl : ∀ s, H.length ≤ (H0 s).length) (hf : H.length ≤ Hf.length)
    (step : ∀ s, (∃ (orc : Orc) (m n : Nat) (es : Eqs) (f : List Nat) (s' : σ), OrcOK (E s) P orc ∧ stepT P f (evBody P orc m n g p (t0 s) (H0 s)) .normal (t0 s') (H0 s') es = true ∧ idPre 0 H.length f = true ∧ Holds (E s) (E s') es ∧ μ s' < μ s) ∨
      (∃ (orc : Orc) (m n : Nat) (es : Eqs) (f : List Nat), OrcOK (E s) P orc ∧ stepT P f (evBody P orc m n g p (t0 s) (H0 s)) x tf Hf es = true ∧ idPre 0 H.length f = true ∧ Holds (E s) ρ es))
    (s0 : σ) (es0 : Eqs) (f0 : List Nat) (hs : passQ P f0 t H (t0 s0) (H0 s0) es0 = true) (hi0 : idPre 0 H.length f0 = true) (he : Holds ρ (E s0) es0) : LoopE ρ P (g, p, t, H, x, tf, Hf) := by
  intro c hc w0 β w a Q hS hT hQ
  simp only at hc hS hT hQ
  have isLoop : ∃ d, c = .loop d := by
    rcases step s0 with ⟨orc, m, n, es, f, s', _, h2, _⟩ | ⟨orc, m, n, es, f, _, h2, _⟩ <;>
    · unfold evBody at h2
      rw [hc] at h2
      simp only [Option.bind_some] at h2
      cases c <;> first | exact ⟨_, rfl⟩ | (simp [stepT] at h2)
  obtain ⟨d, rfl⟩ := isLoop
  have hcd : partOf P g (false :: p) = some d := by
    unfold partOf at hc ⊢
    simp only [Option.bind_eq_some_iff] at hc ⊢
    obtain ⟨c0, h1, h3⟩ := hc
    exact ⟨c0, h1, by simp only [subR, h3, Option.bind_some, child]⟩
  have pre : ∀ (f : List Nat) (γ : Names), idPre 0 H.length f = true → ∀ i, i < H.length → pick f γ i = γ i := by
    intro f γ h i hi
    have := idPre_at H.length 0 h i hi
    rw [Nat.zero_add] at this
    unfold pick; rw [this]; rfl
  have key : ∀ (N : Nat) (s : σ), μ s < N → ∀ (β' : Names) (w' : World) (a' : Act), Ext β β' → (∀ y, y < H.length → β y = none → β' y = none) → Marks w β' w' a a' → Left β w β' w' → Sim (E s) P w0 β' (H0 s) w' → RelT (E s) β' (t0 s) a'.tmps → Code.roundsIn (rd none) 0 P d Q N a' w' := by
    intro N
    induction N with
    | zero => intro s h; omega
    | succ N ih =>
      intro s hN β' w' a' k1 k2 k3 k4 hS' hT'
      rw [roundsIn_succ]
      have run : ∀ (orc : Orc) (m n : Nat) (x' : X) (t2 : Tm) (H2 : Heap) (es : Eqs) (f : List Nat), OrcOK (E s) P orc → stepT P f (evBody P orc m n g p (t0 s) (H0 s)) x' t2 H2 es = true →
          (∀ (β1 : Names) (w1 : World) (a1 : Act) (t1 : Tm) (H1 : Heap), Kp (H0 s) none H1 β' β1 → passQ P f t1 H1 t2 H2 es = true → RelT (E s) β1 t1 a1.tmps → Marks w β1 w1 a a1 → Left β w β1 w1 → Sim (E s) P w0 β1 H1 w1 → (Exit.then (Code.roundsIn (rd none) 0 P d Q N) Q) x'.ex a1 w1) →
          d.wpIn (rd none) 0 P (Exit.then (Code.roundsIn (rd none) 0 P d Q N) Q) a' w' := by
        intro orc m n x' t2 H2 es f ho ht hk
        unfold evBody at ht
        rw [hc] at ht
        simp only [Option.bind_some] at ht
        unfold stepT at ht
        split at ht
        · rename_i x1 t1 H1 hr
          rw [Bool.and_eq_true] at ht
          have hxx := sameX_eq ht.1
          subst hxx
          exact (evCode_ok (evCal_len m n) ho (evCal_ok ho m n) _ _ _ _ _ _ _ _ _ _ hr hcd none w0 β' w' a' _ rfl hS' hT' fun β1 w1 a1 q1 q2 q3 l q4 => hk β1 w1 a1 t1 H1 q1 ht.2 q2 (k3.trans k4.size l q3) (k4.trans l) q4).1
        · cases ht
      have low : ∀ (β1 : Names) (H1 : Heap), Kp (H0 s) none H1 β' β1 → ∀ (f : List Nat), idPre 0 H.length f = true → Ext β (pick f β1) ∧ ∀ y, y < H.length → β y = none → pick f β1 y = none := by
        intro β1 H1 q f hf'
        refine ⟨fun i e he => ?_, fun y hy hn => ?_⟩
        · rw [pre f β1 hf' i (hS.dom i e he)]
          exact q.1.1 _ _ (k1 _ _ he)
        · rw [pre f β1 hf' y hy]
          exact q.1.2 y (Nat.lt_of_lt_of_le hy (hl s)) (k2 y hy hn) (by simp)
      rcases step s with ⟨orc, m, n, es, f, s', h1, h2, hid, h3, h4⟩ | ⟨orc, m, n, es, f, h1, h2, hid, h3⟩
      · refine run orc m n .normal _ _ es f h1 h2 fun β1 w1 a1 t1 H1 q1 q2 q3 q4 q4l q5 => ?_
        have hp := passQ_ok ((hE s).trans (hE s').symm) q2 h3
        obtain ⟨l1, l2⟩ := low β1 H1 q1 f hid
        exact ih s' (by omega) _ w1 a1 l1 l2 (pickM q4) (pickL q4l) (hp.sim q5) (hp.rel q5 q3)
      · refine run orc m n x tf Hf es f h1 h2 fun β1 w1 a1 t1 H1 q1 q2 q3 q4 q4l q5 => ?_
        have hp := passQ_ok (hE s) q2 h3
        obtain ⟨l1, l2⟩ := low β1 H1 q1 f hid
        have hfin := hQ (pick f β1) w1 a1 ⟨⟨l1, fun y h1 h2 _ => l2 y h1 h2⟩, hf⟩ (hp.rel q5 q3) (pickM q4) (pickL q4l) (hp.sim q5)
        cases x with
        | normal => simp [sameX] at hx
        | exit id => exact hfin
        | ret => exact hfin
  have hp := passQ_ok (hE s0).symm hs he
  refine wpIn_loop_rounds (μ s0 + 1) (key _ s0 (by omega) (pick f0 β) w a ?_ ?_ (.none rfl) (pickL (.refl _ _)) (hp.sim hS) (hp.rel hS hT))
  · intro i e q
    rw [pre f0 β hi0 i (hS.dom i e q)]; exact q
  · intro y hy hn
    rw [pre f0 β hi0 y hy]; exact hn
end
end Go.Proofs.Ytapcooolainmdaa.Ev
