/- The evaluator: code, rounds of loops over functions, calls. -/
import Derived.Test.YtapcooolainmdaaEvE
namespace Go.Proofs.Ytapcooolainmdaa.Ev
noncomputable section
open Go.RowKit
set_option linter.unusedVariables false
set_option linter.unusedSimpArgs false
variable {ρ : Env}
/-! blocks that are no rows of cells -/
section
variable {P : Program} {w0 : Base} {w : World} {β : Names} {H : Heap}
/-- the blocks that have names -/
def img (β : Names) (n : Nat) : List Nat := (List.range n).filterMap fun i => (β i).map (·.blk)
theorem mem_img (hS : Sim ρ P w0 β H w) {k : Nat} : k ∈ img β H.length ↔ ∃ i e, β i = some e ∧ e.blk = k := by
  unfold img
  rw [List.mem_filterMap]
  constructor
  · rintro ⟨i, _, h⟩
    obtain ⟨e, h1, h2⟩ := Option.map_eq_some_iff.1 h
    exact ⟨i, e, h1, h2⟩
  · rintro ⟨i, e, h1, h2⟩
    exact ⟨i, List.mem_range.2 (hS.dom i e h1), by rw [h1]; exact congrArg some h2⟩
theorem Sim.rebase (hS : Sim ρ P w0 β H w) : Sim ρ P ⟨w, img β H.length⟩ β H w :=
  ⟨hS.dom, Fr.refl _ _, fun i e q => .inr ((mem_img hS).2 ⟨i, e, q, rfl⟩), hS.cells, hS.inj, hS.far, hS.lists, hS.new, hS.cap, hS.objs⟩
theorem Sim.back (hS : Sim ρ P w0 β H w) {β' : Names} {H' : Heap} {w' : World} (h : Sim ρ P ⟨w, img β H.length⟩ β' H' w') : Sim ρ P w0 β' H' w' := by
  refine ⟨h.dom, ⟨h.below.os.trans hS.below.os, h.below.tape.trans hS.below.tape, h.below.output.trans hS.below.output, Nat.le_trans hS.below.size h.below.size, fun k h1 h2 => ?_⟩, fun i e q => ?_, h.cells, h.inj, h.far, h.lists, h.new, h.cap, h.objs⟩
  · refine (h.below.block k (Nat.lt_of_lt_of_le h1 hS.below.size) fun hm => ?_).trans (hS.below.block k h1 h2)
    obtain ⟨i, e, g1, g2⟩ := (mem_img hS).1 hm
    rcases hS.bound i e g1 with g | g
    · omega
    · rw [g2] at g; exact h2 g
  · rcases h.bound i e q with g | g
    · exact .inl (Nat.le_trans hS.below.size g)
    · obtain ⟨j, d, g1, g2⟩ := (mem_img hS).1 g
      rw [← g2]; exact hS.bound j d g1
theorem Sim.left (hS : Sim ρ P w0 β H w) {β' : Names} {H' : Heap} {w' : World} (h : Sim ρ P ⟨w, img β H.length⟩ β' H' w') : Left β w β' w' := by
  refine ⟨fun k h1 h2 => h.below.block k h1 fun hm => ?_, fun i e q => ?_, h.below.size⟩
  · obtain ⟨i, e, g1, g2⟩ := (mem_img hS).1 hm
    exact h2 i e g1 g2
  · rcases h.bound i e q with g | g
    · exact .inl g
    · exact .inr ((mem_img hS).1 g)
/-- a block that no block of the call's own stands for may be written -/
theorem Sim.putAny (hS : Sim ρ P w0 β H w) {r : Nat} (hr : ∀ i e b, H[i]? = some (some b) → β i = some e → e.blk ≠ r) (h1 : w0.w.heap.size ≤ r ∨ r ∈ w0.D) (h2 : ρ.w.heap.size ≤ r) (o : Obj) : Sim ρ P w0 β H (w.putObj r o) := by
  have other : ∀ k, k ≠ r → (w.putObj r o).heap[k]? = w.heap[k]? := fun k hk => World.putObj_heap_other hk
  refine ⟨hS.dom, ⟨hS.below.os, hS.below.tape, hS.below.output, by simpa using hS.below.size, fun k g1 g2 => ?_⟩, hS.bound, fun i b hb hbo => ?_, hS.inj, ⟨hS.far.os, hS.far.tape, hS.far.output, by simpa using hS.far.size, fun k g1 => ?_⟩, fun i b s hb hm => ?_, hS.new, fun i e q => by simpa using hS.cap i e q, fun i b hb hbo => ?_⟩
  · rw [other k (fun q => by subst q; rcases h1 with g | g; omega; exact g2 g)]; exact hS.below.block k g1 g2
  · obtain ⟨e, cs, q1, q2, q3⟩ := hS.cells i b hb hbo
    exact ⟨e, cs, q1, by rw [other _ (hr i e b hb q1)]; exact q2, q3⟩
  · rw [other k (by omega)]; exact hS.far.block k g1
  · obtain ⟨e, cs, q1, q2, q3⟩ := hS.lists i b s hb hm
    exact ⟨e, cs, q1, by rw [other _ (hr i e b hb q1)]; exact q2, q3⟩
  · obtain ⟨e, x, q1, q2, q3⟩ := hS.objs i b hb hbo
    exact ⟨e, x, q1, by rw [other _ (hr i e b hb q1)]; exact q2, q3⟩
/-- another object in the place of one -/
theorem Sim.putObj (hS : Sim ρ P w0 β H w) {b : Nat} {k k' : Blk} (hb : H[b]? = some (some k)) (hk : isObj k.ty = true) (hk' : isObj k'.ty = true) {e : Ent} (he : β b = some e) {o : Obj} (ho : ObjOK ρ P β k' o) :
    Sim ρ P w0 β (H.set b (some k')) (w.putObj e.blk o) := by
  have hbl : b < H.length := (List.getElem?_eq_some_iff.1 hb).1
  have hK := (hS.kill b).putAny (r := e.blk) (fun i d c hc hd q => by
    by_cases hi : b = i
    · subst hi; rw [List.getElem?_set_self hbl] at hc; cases hc
    · rw [List.getElem?_set_ne hi] at hc
      exact hi (hS.inj b i e d k c hb hc he hd q.symm)) (hS.bound b e he) (hS.new b e he) o
  have set2 : ∀ (i : Nat) (c : Blk), (H.set b (some k'))[i]? = some (some c) → (i ≠ b ∧ (H.set b none)[i]? = some (some c)) ∨ (i = b ∧ c = k') := by
    intro i c hc
    by_cases hi : b = i
    · subst hi; rw [List.getElem?_set_self hbl] at hc; exact .inr ⟨rfl, (Option.some.inj (Option.some.inj hc)).symm⟩
    · rw [List.getElem?_set_ne hi] at hc; exact .inl ⟨fun q => hi q.symm, by rw [List.getElem?_set_ne hi]; exact hc⟩
  have none_of : ∀ s, markOf k'.ty = some s → False := fun s q => by rw [mark_notObj q] at hk'; cases hk'
  refine ⟨fun i d q => by rw [List.length_set]; exact hS.dom i d q, hK.below, hS.bound, fun i c hc hco => ?_, fun i j d f c c' hc hc' hd hf hdf => ?_, hK.far, fun i c s hc hm => ?_, hS.new, hK.cap, fun i c hc hco => ?_⟩
  · rcases set2 i c hc with ⟨_, q⟩ | ⟨rfl, rfl⟩
    · exact hK.cells i c q hco
    · rw [hk'] at hco; cases hco
  · have any : ∀ (i : Nat) (c : Blk), (H.set b (some k'))[i]? = some (some c) → ∃ c0, H[i]? = some (some c0) := by
      intro i c hc
      rcases set2 i c hc with ⟨g, q⟩ | ⟨rfl, _⟩
      · rw [List.getElem?_set_ne (fun q => g q.symm)] at q; exact ⟨c, q⟩
      · exact ⟨k, hb⟩
    obtain ⟨x, hx⟩ := any i c hc
    obtain ⟨y, hy⟩ := any j c' hc'
    exact hS.inj i j d f x y hx hy hd hf hdf
  · rcases set2 i c hc with ⟨_, q⟩ | ⟨rfl, rfl⟩
    · exact hK.lists i c s q hm
    · exact (none_of s hm).elim
  · rcases set2 i c hc with ⟨_, q⟩ | ⟨rfl, rfl⟩
    · exact hK.objs i c q hco
    · exact ⟨e, o, he, World.putObj_heap_same (hS.cap i e he), ho⟩
/-- a new object with a name -/
theorem Sim.allocObj (hS : Sim ρ P w0 β H w) {k : Blk} (hk : isObj k.ty = true) {o : Obj} (ho : ObjOK ρ P β k o) :
    Sim ρ P w0 (upd β H.length ⟨w.heap.size, 0, 0⟩) (H ++ [some k]) (w.alloc o) := by
  have hfree := hS.free (Nat.le_refl H.length)
  have hx := Ext.upd hfree ⟨w.heap.size, 0, 0⟩
  have hn := hS.onto (w' := w.alloc o) ((Below.refl _ w).alloc (Nat.le_refl _) _)
  have hnew : ∀ (i : Nat) (c : Blk), (H ++ [some k])[i]? = some (some c) → (i < H.length ∧ H[i]? = some (some c)) ∨ (i = H.length ∧ c = k) := by
    intro i c hc
    rcases Nat.lt_or_ge i H.length with hi | hi
    · rw [List.getElem?_append_left hi] at hc; exact .inl ⟨hi, hc⟩
    · rw [List.getElem?_append_right hi] at hc
      have : i = H.length := by
        rcases Nat.lt_or_ge (i - H.length) 1 with q | q
        · omega
        · rw [List.getElem?_eq_none (by simpa using q)] at hc; cases hc
      subst this
      simp at hc
      exact .inr ⟨rfl, hc.symm⟩
  have hβ : ∀ (j : Nat) (e : Ent), upd β H.length ⟨w.heap.size, 0, 0⟩ j = some e → (j ≠ H.length ∧ β j = some e) ∨ (j = H.length ∧ e = ⟨w.heap.size, 0, 0⟩) := by
    intro j e q
    by_cases hj : j = H.length
    · subst hj; rw [upd_self] at q; exact .inr ⟨rfl, (Option.some.inj q).symm⟩
    · rw [upd_ne hj] at q; exact .inl ⟨hj, q⟩
  refine ⟨fun i e q => ?_, hn.below, fun i e q => ?_, fun i c hc hco => ?_, fun i j d f c c' hc hc' hd hf hdf => ?_, hn.far, fun i c s hc hm => ?_, fun i e q => ?_, fun i e q => ?_, fun i c hc hco => ?_⟩
  · rcases hβ i e q with ⟨_, q⟩ | ⟨rfl, _⟩
    · have := hS.dom i e q; simp; omega
    · simp
  · rcases hβ i e q with ⟨_, q⟩ | ⟨_, rfl⟩
    · exact hS.bound i e q
    · exact .inl hS.below.size
  · rcases hnew i c hc with ⟨hi, q⟩ | ⟨rfl, rfl⟩
    · obtain ⟨e, cs, h1, h2, h3, h4, h5, h6⟩ := hn.cells i c q hco
      exact ⟨e, cs, hx _ _ h1, h2, h3, h4, h5, fun j v hj => by obtain ⟨u, hu, hr⟩ := h6 j v hj; exact ⟨u, hu, hr.mono hx⟩⟩
    · rw [hk] at hco; cases hco
  · rcases hnew i c hc with ⟨hi, q⟩ | ⟨rfl, rfl⟩ <;> rcases hnew j c' hc' with ⟨hj, r⟩ | ⟨rfl, rfl⟩
    · rw [upd_ne (by omega)] at hd hf
      exact hS.inj i j d f c c' q r hd hf hdf
    · rw [upd_ne (by omega)] at hd; rw [upd_self] at hf; cases hf
      have := hS.cap i d hd; rw [hdf] at this; simp at this
    · rw [upd_ne (by omega)] at hf; rw [upd_self] at hd; cases hd
      have := hS.cap j f hf; rw [← hdf] at this; simp at this
    · rfl
  · rcases hnew i c hc with ⟨hi, q⟩ | ⟨rfl, rfl⟩
    · obtain ⟨e, cs, h1, h2, h3⟩ := hn.lists i c s q hm
      exact ⟨e, cs, hx _ _ h1, h2, h3⟩
    · rw [mark_notObj hm] at hk; cases hk
  · rcases hβ i e q with ⟨_, q⟩ | ⟨_, rfl⟩
    · exact hS.new i e q
    · exact hS.far.size
  · rcases hβ i e q with ⟨_, q⟩ | ⟨_, rfl⟩
    · have := hS.cap i e q; simp; omega
    · simp
  · rcases hnew i c hc with ⟨hi, q⟩ | ⟨rfl, rfl⟩
    · obtain ⟨e, x, h1, h2, h3⟩ := hn.objs i c q hco
      exact ⟨e, x, hx _ _ h1, h2, h3.mono hx⟩
    · exact ⟨_, o, upd_self _ _ _, World.alloc_heap_new w o, ho.mono hx⟩
end
/-! the record of a loop over a function -/
structure Rec where
  g : Nat
  p : List Bool
  st : Int
  j : Int
  tl : List Value
def recB (r : Rec) : Blk := ⟨.int .i64 r.g :: .agg (r.p.map Value.bool).toArray :: .int .i64 r.st :: .int .i64 r.j :: r.tl, recTy⟩
def decB : Value → Bool
  | .bool b => b
  | _ => false
def recAt (H : Heap) (b : Nat) : Option Rec :=
  match getN H b with
  | some (some k) => if k.ty == recTy then (match k.cells with
    | .int .i64 g :: .agg p :: .int .i64 st :: .int .i64 j :: tl => some ⟨g.toNat, p.toList.map decB, st, j, tl⟩
    | _ => none) else none
  | _ => none
theorem map_decB (p : List Bool) : ((p.map Value.bool).toArray.toList).map decB = p := by
  simp only [List.map_map]
  conv => rhs; rw [← List.map_id p]
  exact List.map_congr_left fun x _ => rfl
section
variable {P : Program} {w0 : Base} {w : World} {β : Names} {H : Heap}
theorem recTy_obj : isObj recTy = true := by unfold isObj recTy; simp
theorem recB_ty (q : Rec) : (recB q).ty = recTy := rfl
theorem recB_obj (q : Rec) : isObj (recB q).ty = true := by rw [recB_ty]; exact recTy_obj
theorem rec_get (hS : Sim ρ P w0 β H w) {b : Nat} {q : Rec} (h : recAt H b = some q) :
    ∃ e r f, β b = some e ∧ w.heap[e.blk]? = some (.loop r) ∧ H[b]? = some (some (recB q)) ∧ partOf P q.g q.p = some (.rangeFunc f r.params r.assign r.body) ∧ stOf r.state = q.st ∧ jmpOf r.pending = some q.j ∧ RelL ρ β q.tl r.tmps.toList := by
  unfold recAt at h
  split at h
  · rename_i k hk
    rw [getN_eq] at hk
    rw [Option.ite_none_right_eq_some] at h
    obtain ⟨hty, h⟩ := h
    have hty := beq_iff_eq.1 hty
    obtain ⟨e, o, h1, h2, h3⟩ := hS.objs b k hk (by rw [hty]; exact recTy_obj)
    cases h3 with
    | loop g p j tl f r _ hc ho hp hj ht =>
      rw [hc] at h
      simp only [Option.some.injEq] at h
      subst h
      subst ho
      have e1 : ((g : Int)).toNat = g := by simp
      have e2 : ((p.map Value.bool).toArray.toList).map decB = p := map_decB p
      have ek : k = recB ⟨((g : Int)).toNat, ((p.map Value.bool).toArray.toList).map decB, stOf r.state, j, tl⟩ := by
        obtain ⟨kc, kt⟩ := k
        simp only at hty hc
        subst hty; subst hc
        unfold recB
        rw [e1, e2]
      refine ⟨e, r, f, h1, h2, by rw [← ek]; exact hk, ?_, rfl, hj, ht⟩
      simp only
      rw [e1, e2]; exact hp
  · cases h
/-- a record with another state -/
theorem rec_put (hS : Sim ρ P w0 β H w) {b : Nat} {q : Rec} (hb : H[b]? = some (some (recB q))) {e : Ent} (he : β b = some e) {r : Loop} {f : Operand} {st j : Int} (hp : partOf P q.g q.p = some (.rangeFunc f r.params r.assign r.body)) (hst : stOf r.state = st)
    (hj : jmpOf r.pending = some j) (ht : RelL ρ β q.tl r.tmps.toList) : Sim ρ P w0 β (H.set b (some (recB { q with st := st, j := j }))) (w.putObj e.blk (.loop r)) :=
  hS.putObj hb (recB_obj _) (recB_obj _) he (.loop q.g q.p j q.tl f r (recB_ty _) (by subst hst; rfl) rfl hp hj ht)
end
/-! temporaries in a row -/
def tmN (t : Tm) : Nat := t.foldr (fun r n => r.length + n) 0
def seqO : List (Option Value) → Option (List Value)
  | [] => some []
  | o :: r => o.bind fun v => (seqO r).bind fun vs => some (v :: vs)
def tmL (t : Tm) : Option (List Value) :=
  match t.at (tmN t) with
  | some _ => none
  | none => seqO ((List.range (tmN t)).map t.at)
theorem seqO_get : ∀ (l : List (Option Value)) (vs : List Value), seqO l = some vs → l = vs.map some := by
  intro l
  induction l with
  | nil => intro vs h; cases h; rfl
  | cons o r ih =>
    intro vs h
    simp only [seqO, Option.bind_eq_some_iff, Option.some.injEq] at h
    obtain ⟨v, rfl, us, h2, rfl⟩ := h
    rw [ih us h2]; rfl
theorem tmL_rel {β : Names} {t : Tm} {t' : Array Value} (hT : RelT ρ β t t') {l : List Value} (h : tmL t = some l) : RelL ρ β l t'.toList := by
  unfold tmL at h
  split at h
  · cases h
  · rename_i hn
    have hs := seqO_get _ _ h
    have hlen : l.length = tmN t := by have := congrArg List.length hs; simpa using this.symm
    have hat : ∀ i, i < tmN t → t.at i = l[i]? := by
      intro i hi
      have := congrArg (fun x => x[i]?) hs
      simp only [List.getElem?_map, List.getElem?_range hi, Option.map_some] at this
      rw [List.getElem?_eq_getElem (by omega)] at this ⊢
      simpa using this
    have hsz : t'.size = tmN t := by
      apply Nat.le_antisymm
      · rcases hT (tmN t) with ⟨_, h2⟩ | ⟨v, v', h1, _⟩
        · rw [Array.getElem?_eq_none_iff] at h2; exact h2
        · rw [hn] at h1; cases h1
      · rcases Nat.lt_or_ge t'.size (tmN t) with hlt | hge
        · rcases hT t'.size with ⟨h1, _⟩ | ⟨v, v', _, h2, _⟩
          · rw [hat _ hlt, List.getElem?_eq_none_iff] at h1; omega
          · rw [Array.getElem?_eq_none (Nat.le_refl _)] at h2; cases h2
        · exact hge
    refine ⟨by rw [hlen, Array.length_toList, hsz], fun i v v' q q' => ?_⟩
    have hi : i < tmN t := by have := (List.getElem?_eq_some_iff.1 q).1; omega
    rcases hT i with ⟨h1, _⟩ | ⟨u, u', h1, h2, h3⟩
    · rw [hat i hi, q] at h1; cases h1
    · rw [hat i hi, q] at h1
      cases h1
      rw [Array.getElem?_toList, h2] at q'
      cases q'
      exact h3
def setAll (l : List Value) : List (Tmp × Value) → List Value
  | [] => l
  | p :: r => setAll (setN l p.1 p.2) r
theorem setAll_rel {β : Names} : ∀ (ps : List Tmp) (vs vs' : List Value) (l : List Value) (l' : Array Value), RelL ρ β vs vs' → RelL ρ β l l'.toList → RelL ρ β (setAll l (ps.zip vs)) ((ps.zip vs').foldl (fun t p => t.setIfInBounds p.1 p.2) l').toList := by
  intro ps
  induction ps with
  | nil => intro vs vs' l l' _ h; simpa [setAll] using h
  | cons p ps ih =>
    intro vs vs' l l' hv h
    match vs, vs', hv with
    | [], [], _ => simpa [setAll] using h
    | [], _ :: _, hv => exact absurd hv.1 (by simp)
    | _ :: _, [], hv => exact absurd hv.1 (by simp)
    | v :: vs, v' :: vs', hv =>
      simp only [List.zip_cons_cons, setAll, List.foldl_cons]
      refine ih vs vs' _ _ ⟨by simpa using hv.1, fun i a b q q' => hv.2 (i + 1) a b (by simpa using q) (by simpa using q')⟩ ?_
      rw [setN_eq, Array.toList_setIfInBounds]
      refine ⟨by simpa using h.1, fun i a b q q' => ?_⟩
      by_cases hi : p = i
      · subst hi
        have hlt : p < l.length := by have := (List.getElem?_eq_some_iff.1 q).1; simpa using this
        have hlt' : p < l'.toList.length := by rw [← h.1]; exact hlt
        rw [List.getElem?_set_self hlt] at q
        rw [List.getElem?_set_self hlt'] at q'
        cases q; cases q'
        exact hv.2 0 _ _ rfl rfl
      · rw [List.getElem?_set_ne hi] at q q'
        exact h.2 i a b q q'
theorem chunk_rel {β : Names} {l : List Value} {l' : Array Value} (h : RelL ρ β l l'.toList) {f : Nat} (hf : l.length ≤ 16 * f) : RelT ρ β (chunk f l) l' := by
  intro i
  rw [chunk_at _ _ _ hf]
  rcases Nat.lt_or_ge i l.length with hi | hi
  · have hi' : i < l'.toList.length := by rw [← h.1]; exact hi
    refine .inr ⟨l[i], l'.toList[i], List.getElem?_eq_getElem hi, ?_, h.2 i _ _ (List.getElem?_eq_getElem hi) (List.getElem?_eq_getElem hi')⟩
    rw [← Array.getElem?_toList]; exact List.getElem?_eq_getElem hi'
  · exact .inl ⟨List.getElem?_eq_none hi, by rw [← Array.getElem?_toList]; exact List.getElem?_eq_none (by rw [← h.1]; exact hi)⟩
/-! code -/
def drawn (P : Program) (orc : Orc) (call : Cal) (ops : Array Oper) (t : Tm) (H : Heap) : Option (Tm × Heap) :=
  match evRun P orc call ops false H.length (ops.size + 1) ops.size [⟨0, t, H ++ List.replicate (cnt ops ops.size) none⟩] with
  | some p => some p
  | none =>
    match evRun P orc call ops true H.length (ops.size + 1) ops.size [⟨0, t, H ++ List.replicate (cnt ops ops.size) none⟩] with
    | some p => some p
    | none => evAny P orc call ops false H.length false ops.size [⟨0, t, H ++ List.replicate (cnt ops ops.size) none⟩]
def xOf (j : Int) : Option X :=
  match j with
  | .ofNat 0 => some .normal
  | .ofNat 1 => some .ret
  | .ofNat (n + 2) => some (.exit n)
  | .negSucc _ => none
def inRec (H : Heap) : Option Nat → Bool
  | none => true
  | some b => (recAt H b).isSome
def evCode (P : Program) (orc : Orc) (call : Cal) (g : FuncId) : Nat → Option (Option Nat) → Bool → List Bool → Code → Tm → Heap → Option (X × Tm × Heap)
  | 0, _, _, _, _, _, _ => none
  | n + 1, rb, fresh, p, c, t, H =>
    match c with
    | .skip => some (.normal, t, H)
    | .label _ => some (.normal, t, H)
    | .region _ ops draw =>
      if draw then (if P.follows .mixedOrders then (drawn P orc call ops t H).map fun p => (.normal, p.1, p.2) else none)
      else (evList P orc call ops ops.toList t H).map fun p => (.normal, p.1, p.2)
    | .seq x y => (evCode P orc call g n rb true (false :: p) x t H).bind fun r => match r.1 with
      | .normal => evCode P orc call g n rb true (true :: p) y r.2.1 r.2.2
      | e => some (e, r.2.1, r.2.2)
    | .cond c x y => (ev t c).bind fun b => match b with
      | .bool true => evCode P orc call g n rb true (false :: p) x t H
      | .bool false => evCode P orc call g n rb true (true :: p) y t H
      | _ => none
    | .block id x => (evCode P orc call g n rb true (false :: p) x t H).bind fun r => match r.1 with
      | .exit id' => if id' = id then some (.normal, r.2.1, r.2.2) else some (.exit id', r.2.1, r.2.2)
      | e => some (e, r.2.1, r.2.2)
    | .loop x =>
      match (if fresh then (match rb with | some none => findLoop g p t H orc.loops | _ => none) else none) with
      | some r => some r
      | none => (evCode P orc call g n rb true (false :: p) x t H).bind fun r => match r.1 with
        | .normal => evCode P orc call g n rb false p (.loop x) r.2.1 r.2.2
        | e => some (e, r.2.1, r.2.2)
    | .scope x => evCode P orc call g n rb true (false :: p) x t H
    | .rangeFunc f _ _ _ =>
      match rb with
      | none => none
      | some rb' => if inRec H rb' then (tmL t).bind fun tl => (ev t f).bind fun fv => (asFn P fv).bind fun k =>
        (herm (callM orc call.fn) k.1 (.func (.yield H.length) #[] #[] :: k.2) (H ++ [some (recB ⟨g, p, 0, 0, tl⟩)])).bind fun r => (recAt r.2 H.length).bind fun q =>
          if q.st = 2 then none else (xOf q.j).map fun x => (x, t, r.2.set H.length none)
        else none
    | .exit id => some (.exit id, t, H)
    | .ret => some (.ret, t, H)
    | _ => none

section
variable {P : Program} {orc : Orc} {call : Cal}
theorem MR.start (ops : Array Oper) : MR ops 0 (Array.replicate ops.size false) := ⟨by simp, fun i => by simp [Array.getElem?_replicate]; split <;> rfl⟩
variable {w0 : Base}
theorem drawn_ok {lr : Option Nat} (hor : OrcOK ρ P orc) (hc : CalOK ρ P call) (Q : Exit → Act → World → Prop) {ops : Array Oper} {t t1 : Tm} {H H1 : Heap} (h : drawn P orc call ops t H = some (t1, H1)) (β : Names) (w : World) (a : Act)
    (hS : Sim ρ P w0 β H w) (hT : RelT ρ β t a.tmps) (hQ : ∀ β' w' a', Kp H none H1 β β' → RelT ρ β' t1 a'.tmps → a'.defers = a.defers → Sim ρ P w0 β' H1 w' → Q .normal a' w') :
    wpAnyIn (rd lr) 0 P .any ops Q ops.size (Array.replicate ops.size false) a w := by
  have hl : H.length + cnt ops ops.size ≤ (H ++ List.replicate (cnt ops ops.size) none : Heap).length := by simp
  have key : ∀ (cs strict : Bool), Good P orc call ops cs H.length strict (t1, H1) ops.size (Array.replicate ops.size false) t (H ++ List.replicate (cnt ops ops.size) none) →
      wpAnyIn (rd lr) 0 P .any ops Q ops.size (Array.replicate ops.size false) a w := by
    intro cs strict hG
    exact wpAny_of_good hor hc Q _ _ _ _ hG (by simp) hl β w a (hS.pad _) hT (fun i o _ _ _ => hS.free (by omega)) fun β' w' a' r1 r2 r3 r4 r5 r6 =>
      hQ β' w' a' ⟨⟨r1, fun x h1 h2 _ => r2 x h1 h2⟩, by simp only at r3; omega⟩ r4 r5 r6
  unfold drawn at h
  split at h
  · rename_i p hp
    cases h
    exact key _ true (good_of_run _ _ _ hp ⟨0, t, H ++ List.replicate (cnt ops ops.size) none⟩ (by simp) _ (MR.start ops) hl)
  split at h
  · rename_i p hp
    cases h
    exact key _ true (good_of_run _ _ _ hp ⟨0, t, H ++ List.replicate (cnt ops ops.size) none⟩ (by simp) _ (MR.start ops) hl)
  · exact key _ false (good_of_any _ _ h ⟨0, t, H ++ List.replicate (cnt ops ops.size) none⟩ (by simp) _ (MR.start ops) hl)

theorem stepR_scope {c : Code} {b : Frame} {a : Act} {k : List Item} {cs : List Frame} {w : World} : step P (lone (b.atR a (.code (.scope c) :: k)) cs w) = .next (lone (b.atR a (.code c :: .inScope c :: k)) cs w) :=
  step_lone_go (by simp [stepG, stepG.exec, Frame.atR])
theorem stepR_inScope {c : Code} {b : Frame} {a : Act} {k : List Item} {cs : List Frame} {w : World} : step P (lone (b.atR a (.inScope c :: k)) cs w) = .next (lone (b.atR a k) cs w) :=
  step_lone_go (by simp [stepG, stepG.exec, Frame.atR])
theorem wpIn_scope_straight {F : Fence} {n : Nat} {c : Code} {Q : Exit → Act → World → Prop} {a : Act} {w : World} (h : c.wpIn F n P (Exit.noGoto Q) a w) : (Code.scope c).wpIn F n P Q a w := by
  intro b k cs hro hb hr
  have h0 : (lone (b.atR a (.code (.scope c) :: k)) cs w).fenced P F := fenced_calm hb hr rfl
  obtain ⟨e, a₁, w₁, hq, harr⟩ := h b (.inScope c :: k) cs hro hb hr
  cases e with
  | normal => exact ⟨.normal, a₁, w₁, hq, .head h0 stepR_scope (StepsIn.trans harr (.one (fenced_calm hb hr rfl) stepR_inScope))⟩
  | exit id =>
    have hx : exitTo id (.inScope c :: k) = exitTo id k := by simp [exitTo]
    exact ⟨_, a₁, w₁, hq, fun k' hk => .head h0 stepR_scope (harr.1 k' (by rw [hx]; exact hk)),
      fun hr' hk => let ⟨k₁, h1, h2⟩ := harr.2 hr' (by rw [hx]; exact hk); ⟨k₁, h1, .head h0 stepR_scope h2⟩⟩
  | goto l => exact hq.elim
  | ret => exact ⟨_, a₁, w₁, hq, .of_steps (.one h0 stepR_scope) harr⟩
  | panic ch => exact ⟨_, a₁, w₁, hq, .of_steps (.one h0 stepR_scope) harr⟩
  | outgrown => exact ⟨_, a₁, w₁, hq, .of_steps (.one h0 stepR_scope) harr⟩
/-- in what round a frame is -/
def RB (rb : Option (Option Nat)) (lr : Option Nat) (β : Names) : Prop :=
  match rb with
  | none => True
  | some none => lr = none
  | some (some b) => ∃ e, β b = some e ∧ lr = some e.blk
theorem RB.mono {rb : Option (Option Nat)} {lr : Option Nat} {β γ : Names} (h : RB rb lr β) (hx : Ext β γ) : RB rb lr γ := by
  match rb, h with
  | none, _ => trivial
  | some none, h => exact h
  | some (some b), ⟨e, h1, h2⟩ => exact ⟨e, hx _ _ h1, h2⟩
def jwp (F : Fence) (n : Nat) (P : Program) (Q : Exit → Act → World → Prop) (a : Act) (w : World) : Option Code → Prop
  | none => Q .normal a w
  | some c => c.wpIn F n P Q a w
theorem xOf_jump {F : Fence} {n : Nat} {j : Int} {x : X} {c : Option Code} (h : xOf j = some x) (hj : jmpOf c = some j) {Q : Exit → Act → World → Prop} {a : Act} {w : World} (hQ : Q x.ex a w) :
    jwp F n P Q a w c := by
  unfold jmpOf at hj
  split at hj
  · cases hj; cases h; exact hQ
  · cases hj; cases h; exact wpIn_ret hQ
  · rename_i id
    cases hj
    have e : (2 + (id : Int)) = ((id + 2 : Nat) : Int) := by omega
    rw [e] at h
    cases h
    exact wpIn_exit hQ
  · cases hj
theorem run_enterLoop_in {w : World} {l0 : Nat} {r0 : Loop} (h : w.heap[l0]? = some (.loop r0)) (fn : FuncId) (tmps : Array Value) (ps : Array Tmp) (assign body : Code) :
    (Instr.enterLoop fn tmps ps assign body (some l0)).run P w = .ok (w.heap.size, []) (w.alloc (.loop { state := .ready, pending := none, fn, tmps, params := ps, assign, body, defers := r0.defers })) := by
  unfold Instr.enterLoop
  simp only [Sem.run_bind, run_getLoop h, Result.andThen, Sem.run_pure, run_newObj_alloc]

theorem evCode_ok {g : FuncId} (hl : CalLen call) (hor : OrcOK ρ P orc) (hc : CalOK ρ P call) : ∀ (n : Nat) (rb : Option (Option Nat)) (fresh : Bool) (p : List Bool) (c : Code) (t : Tm) (H : Heap) (x : X) (t1 : Tm) (H1 : Heap),
    evCode P orc call g n rb fresh p c t H = some (x, t1, H1) → partOf P g p = some c →
    ∀ (lr : Option Nat) (w0 : Base) (β : Names) (w : World) (a : Act) (Q : Exit → Act → World → Prop), RB rb lr β → Sim ρ P w0 β H w → RelT ρ β t a.tmps → Goes ρ P w0 x t1 H H1 β w a Q →
      c.wpIn (rd lr) 0 P Q a w ∧ (fresh = false → ∀ d, c = .loop d → Code.roundsIn (rd lr) 0 P d Q n a w) := by
  intro n
  induction n with
  | zero => intro rb fresh p c t H x t1 H1 h; simp [evCode] at h
  | succ n ih =>
    intro rb fresh p c t H x t1 H1 h hp lr w0 β w a Q hrb hS hT hQ
    have hpc : ∀ (b : Bool) (d : Code), child c b = some d → partOf P g (b :: p) = some d := by
      intro b d hd
      unfold partOf at hp ⊢
      simp only [Option.bind_eq_some_iff] at hp ⊢
      obtain ⟨c0, ⟨fn, h1, h2⟩, h3⟩ := hp
      refine ⟨c0, ⟨fn, h1, h2⟩, ?_⟩
      simp only [subR, h3, Option.bind_some, hd]
    have done : ∀ (e : X) , (e, t, H) = (x, t1, H1) → Q e.ex a w := by
      intro e q
      simp only [Prod.mk.injEq] at q
      obtain ⟨rfl, rfl, rfl⟩ := q
      exact hQ β w a (Kp.refl _ _ _) hT (.none rfl) (.refl _ _) hS
    cases c with
    | skip => simp only [evCode, Option.some.injEq] at h; exact ⟨wpIn_skip (done _ h), fun _ d q => by cases q⟩
    | label l => simp only [evCode, Option.some.injEq] at h; exact ⟨wpIn_label (done _ h), fun _ d q => by cases q⟩
    | exit id => simp only [evCode, Option.some.injEq] at h; exact ⟨wpIn_exit (done _ h), fun _ d q => by cases q⟩
    | ret => simp only [evCode, Option.some.injEq] at h; exact ⟨wpIn_ret (done _ h), fun _ d q => by cases q⟩
    | goto l => simp [evCode] at h
    | refuse y => simp [evCode] at h
    | rangeFunc f ps assign body =>
      refine ⟨?_, fun _ d q => by cases q⟩
      simp only [evCode] at h
      split at h
      · cases h
      rename_i rb'
      rw [Option.ite_none_right_eq_some] at h
      obtain ⟨hin, h⟩ := h
      simp only [Option.bind_eq_some_iff, Option.ite_none_left_eq_some, Option.map_eq_some_iff, Prod.mk.injEq] at h
      obtain ⟨tl, h1, fv, h2, ⟨gf, cap⟩, h3, ⟨v, H2⟩, h4, q, h5, hq2, x', h6, rfl, rfl, rfl⟩ := h
      obtain ⟨cap', fn, e1, e2, e3, e4⟩ := asFn_ok h3 (rel_ev hT h2)
      refine wpIn_rangeFunc fun fnr _ => ?_
      -- what lies in the world where the function is called
      have go : ∀ (wa : World) (la : Left β w β wa) (da : Nat) (mk : List Deferred) (mm : List Nat), Sim ρ P w0 β H wa → mk = mm.map mark → mm.Nodup → (∀ r ∈ mm, w.heap.size ≤ r ∧ r < wa.heap.size ∧ (∀ i e, β i = some e → e.blk ≠ r) ∧ wa.heap[r]? = some (.deferred (some []))) →
          CallsIn (rd lr) (0 - 1) P gf (#[Value.func (.yield wa.heap.size) #[] #[]] ++ cap'.toArray) (wa.alloc (.loop { state := .ready, pending := none, fn := fnr, tmps := a.tmps, params := ps, assign, body, defers := da })) (rangePost (rd lr) 0 P wa.heap.size Q { a with defers := mk ++ a.defers }) := by
        intro wa la da mk mm hSa hmk hnd hmm
        refine callsIn_rd.2 ?_
        have hx := Ext.upd (hSa.free (Nat.le_refl H.length)) ⟨wa.heap.size, 0, 0⟩
        have hTL := tmL_rel hT h1
        have hob : ObjOK ρ P β (recB ⟨g, p, 0, 0, tl⟩) (.loop { state := .ready, pending := none, fn := fnr, tmps := a.tmps, params := ps, assign, body, defers := da }) :=
          .loop g p 0 tl f _ rfl rfl rfl hp rfl hTL
        have hS2 := hSa.allocObj (k := recB ⟨g, p, 0, 0, tl⟩) recTy_obj hob
        have hA : RelL ρ (upd β H.length ⟨wa.heap.size, 0, 0⟩) (Value.func (.yield H.length) #[] #[] :: cap) (Value.func (.yield wa.heap.size) #[] #[] :: cap') := by
          refine ⟨by simp [e2.1], fun i u u' r r' => ?_⟩
          cases i with
          | zero =>
            simp only [List.getElem?_cons_zero, Option.some.injEq] at r r'
            subst r; subst r'
            exact .yld (e := ⟨wa.heap.size, 0, 0⟩) (upd_self _ _ _)
          | succ i => simp only [List.getElem?_cons_succ] at r r'; exact (e2.2 i u u' r r').mono hx
        have hargs : (#[Value.func (.yield wa.heap.size) #[] #[]] ++ cap'.toArray : Array Value) = (Value.func (.yield wa.heap.size) #[] #[] :: cap').toArray := by simp
        rw [hargs]
        have la2 : Left β wa (upd β H.length ⟨wa.heap.size, 0, 0⟩) (wa.alloc (.loop { state := .ready, pending := none, fn := fnr, tmps := a.tmps, params := ps, assign, body, defers := da })) :=
          ⟨fun k hk _ => Below.heap_alloc _ _ _ hk, fun i e he => by
            by_cases hi : i = H.length
            · subst hi; rw [upd_self] at he; cases he; exact .inl (Nat.le_refl _)
            · rw [upd_ne hi] at he; exact .inr ⟨i, e, he, rfl⟩, by simp⟩
        refine (herm_ok (callM_ok hor hc.1) hS2.rebase hA h4).mono ?_
        rintro en w3 ⟨v', β3, rfl, k1, k2, k3⟩
        have hS3 := hS2.back k3
        have la3 := la.trans (la2.trans (hS2.left k3))
        obtain ⟨e, r, f', g1, g2, g3, g4, g5, g6, g7⟩ := rec_get hS3 h5
        have he : e = ⟨wa.heap.size, 0, 0⟩ := by
          have := k1.1 _ _ (upd_self β H.length ⟨wa.heap.size, 0, 0⟩)
          exact Option.some.inj (g1.symm.trans this)
        subst he
        have hb : r.state ≠ .busy := fun hb => hq2 (by rw [← g5, hb]; rfl)
        refine ⟨r.pending, _, run_endLoop g2 hb, ?_⟩
        have hlt : H.length < H2.length := (List.getElem?_eq_some_iff.1 g3).1
        have hK := (hS3.kill H.length).putAny (r := wa.heap.size) (fun i d c hc hd q => by
          by_cases hi : H.length = i
          · subst hi; rw [List.getElem?_set_self hlt] at hc; cases hc
          · rw [List.getElem?_set_ne hi] at hc
            exact hi (hS3.inj _ _ _ d _ c g3 hc g1 hd q.symm)) (hS3.bound _ _ g1) (hS3.new _ _ g1) (.loop { r with state := .exhausted })
        have la4 : Left β3 w3 β3 (w3.putObj wa.heap.size (.loop { r with state := .exhausted })) :=
          ⟨fun k hk hn => World.putObj_heap_other fun q => hn _ _ g1 q.symm, fun i e q => .inr ⟨i, e, q, rfl⟩, by simp⟩
        have la5 := la3.trans la4
        have hsz : wa.heap.size < w3.heap.size := hS3.cap _ _ g1
        refine (show jwp (rd lr) 0 P Q { a with defers := mk ++ a.defers } (w3.putObj wa.heap.size (.loop { r with state := .exhausted })) r.pending from xOf_jump h6 g6 (hQ β3 _ _ ⟨⟨fun i e q => k1.1 _ _ (hx _ _ q), fun y h1 h2 h3 => k1.2 y (by simp; omega) (by rw [upd_ne (by omega)]; exact h2) (by simp)⟩, ?_⟩ (hT.mono fun i e q => k1.1 _ _ (hx _ _ q)) ?_ la5 hK))
        · simp only [List.length_set]; omega
        · refine ⟨mm, by simp only [hmk], hnd, fun y hy => ?_⟩
          obtain ⟨m1, m2, m3, m4⟩ := hmm y hy
          have lb := (la2.trans (hS2.left k3)).trans la4
          exact ⟨m1, lb.other m2 m3, (lb.keep y m2 m3).trans m4⟩
      have hev : (a.eval f) = .func (.func gf) #[] cap'.toArray := e1
      have res : ∀ (l : Nat) (wx : World), (resolve a.eval (rangeCall f l) 0).run P wx = .ok { target := .fn (.func gf) cap'.toArray, args := #[Value.func (.yield l) #[] #[]] } wx := by
        intro l wx
        simp only [rangeCall, resolve, List.map_toArray, List.map_cons, List.map_nil]
        rw [hev]
        simp only [Deferred.ofValue, Sem.run_pure]
        simp
        rfl
      have inv : ∀ (l : Nat) (wx : World), (invoke (.fn (.func gf) cap'.toArray) #[Value.func (.yield l) #[] #[]]).run P wx = .ok (.enter gf (#[Value.func (.yield l) #[] #[]] ++ cap'.toArray)) wx := by
        intro l wx
        simp only [invoke]
        exact run_callFunc e3 e4 _
      have hdep : (rd lr).depth.isSome = true → 1 ≤ 0 := fun q => by simp [rd, Fence.wide] at q
      match rb', lr, hrb, hin with
      | none, _, hrb, _ =>
        obtain rfl : _ = none := hrb
        refine ⟨_, _, _, _, _, _, _, _, run_enterLoop_outer _ _ _ _ _, res _ _, fun _ _ => trivial, inv _ _, hdep, ?_⟩
        have hd := hS.onto (w' := w.alloc (.deferred (some []))) ((Below.refl _ w).alloc (Nat.le_refl _) _)
        have := go (w.alloc (.deferred (some []))) ⟨fun k hk _ => Below.heap_alloc _ _ _ hk, fun i e he => .inr ⟨i, e, he, rfl⟩, by simp⟩ w.heap.size [mark w.heap.size] [w.heap.size] hd rfl (by simp) (fun r hr => by
          simp only [List.mem_singleton] at hr
          subst hr
          exact ⟨Nat.le_refl _, by simp, fun i e he q => by have := hS.cap i e he; omega, World.alloc_heap_new w _⟩)
        simpa [World.size_alloc, mark] using this
      | some b0, lr, hrb, hin =>
        obtain ⟨e0, hb0, rfl⟩ := hrb
        unfold inRec at hin
        obtain ⟨q0, hq0⟩ := Option.isSome_iff_exists.1 hin
        obtain ⟨e', r0, _, z1, z2, _⟩ := rec_get hS hq0
        obtain rfl : e0 = e' := Option.some.inj (hb0.symm.trans z1)
        refine ⟨_, _, _, _, _, _, _, _, run_enterLoop_in z2 _ _ _ _ _, res _ _, fun _ _ => trivial, inv _ _, hdep, ?_⟩
        exact go w (.refl _ _) r0.defers [] [] hS rfl (by simp) (fun r hr => by simp at hr)
    | region id ops draw =>
      refine ⟨?_, fun _ d q => by cases q⟩
      simp only [evCode] at h
      split at h
      · rename_i hd; subst hd
        rw [Option.ite_none_right_eq_some] at h
        obtain ⟨hm, h⟩ := h
        simp only [Option.map_eq_some_iff, Prod.mk.injEq] at h
        obtain ⟨⟨t2, H2⟩, h1, rfl, rfl, rfl⟩ := h
        refine wpIn_region_any hm ?_
        have hSd := hS.drawn (w.drawn + 1)
        exact drawn_ok hor hc Q h1 β _ a hSd.rebase hT fun β' w' a' q1 q2 q3 q4 => hQ β' w' a' q1 q2 (.none q3) (have l := hSd.left q4; ⟨l.keep, l.names, l.size⟩) (hSd.back q4)
      · rename_i hd
        have : draw = false := by simpa using hd
        subst this
        simp only [Option.map_eq_some_iff, Prod.mk.injEq] at h
        obtain ⟨⟨t2, H2⟩, h1, rfl, rfl, rfl⟩ := h
        exact wpIn_region_list (evList_ok hl hor hc Q _ _ _ _ _ h1 β w a hS.rebase hT fun β' w' a' q1 q2 q3 q4 => hQ β' w' a' q1 q2 (.none q3) (hS.left q4) (hS.back q4))
    | seq c1 c2 =>
      refine ⟨?_, fun _ d q => by cases q⟩
      simp only [evCode, Option.bind_eq_some_iff] at h
      obtain ⟨⟨e, t2, H2⟩, h1, h2⟩ := h
      refine wpIn_seq (ih _ _ _ c1 t H e t2 H2 h1 (hpc false c1 rfl) lr w0 β w a _ hrb hS hT fun β' w' a' q1 q2 q3 l q4 => ?_).1
      cases e with
      | normal => exact (ih _ _ _ c2 t2 H2 x t1 H1 h2 (hpc true c2 rfl) lr w0 β' w' a' Q (hrb.mono q1.1.1) q4 q2 fun β'' w'' a'' r1 r2 r3 l' r4 => hQ β'' w'' a'' (q1.trans r1) r2 (q3.trans l.size l' r3) (l.trans l') r4).1
      | exit id => simp only [Option.some.injEq, Prod.mk.injEq] at h2; obtain ⟨rfl, rfl, rfl⟩ := h2; exact hQ β' w' a' q1 q2 q3 l q4
      | ret => simp only [Option.some.injEq, Prod.mk.injEq] at h2; obtain ⟨rfl, rfl, rfl⟩ := h2; exact hQ β' w' a' q1 q2 q3 l q4
    | cond c x1 y1 =>
      refine ⟨?_, fun _ d q => by cases q⟩
      simp only [evCode, Option.bind_eq_some_iff] at h
      obtain ⟨b, h1, h2⟩ := h
      have hb := rel_ev hT h1
      split at h2
      · exact wpIn_cond_true (hb.eq_of_flat rfl) (ih _ _ _ _ _ _ _ _ _ h2 (hpc false x1 rfl) lr w0 β w a Q hrb hS hT hQ).1
      · exact wpIn_cond_false (hb.eq_of_flat rfl) (ih _ _ _ _ _ _ _ _ _ h2 (hpc true y1 rfl) lr w0 β w a Q hrb hS hT hQ).1
      · cases h2
    | block id c1 =>
      refine ⟨?_, fun _ d q => by cases q⟩
      simp only [evCode, Option.bind_eq_some_iff] at h
      obtain ⟨⟨e, t2, H2⟩, h1, h2⟩ := h
      refine wpIn_block (ih _ _ _ c1 t H e t2 H2 h1 (hpc false c1 rfl) lr w0 β w a _ hrb hS hT fun β' w' a' q1 q2 q3 l q4 => ?_).1
      cases e with
      | normal => simp only [Option.some.injEq, Prod.mk.injEq] at h2; obtain ⟨rfl, rfl, rfl⟩ := h2; exact hQ β' w' a' q1 q2 q3 l q4
      | ret => simp only [Option.some.injEq, Prod.mk.injEq] at h2; obtain ⟨rfl, rfl, rfl⟩ := h2; exact hQ β' w' a' q1 q2 q3 l q4
      | exit id' =>
        simp only at h2
        simp only [X.ex, Exit.inBlock]
        split at h2
        · rename_i hid
          rw [if_pos hid]
          simp only [Option.some.injEq, Prod.mk.injEq] at h2; obtain ⟨rfl, rfl, rfl⟩ := h2; exact hQ β' w' a' q1 q2 q3 l q4
        · rename_i hid
          rw [if_neg hid]
          simp only [Option.some.injEq, Prod.mk.injEq] at h2; obtain ⟨rfl, rfl, rfl⟩ := h2; exact hQ β' w' a' q1 q2 q3 l q4
    | loop c1 =>
      simp only [evCode] at h
      split at h
      · rename_i r hr
        rw [Option.ite_none_right_eq_some] at hr
        obtain ⟨hf, hr⟩ := hr
        simp only [Option.some.injEq] at h
        subst h
        split at hr
        · obtain rfl : lr = none := hrb
          exact ⟨hor.loops _ (findLoop_mem hr).1 _ hp w0 β w a Q hS hT hQ, fun q => by rw [hf] at q; cases q⟩
        · cases hr
      have hr : Code.roundsIn (rd lr) 0 P c1 Q (n + 1) a w := by
        simp only [Option.bind_eq_some_iff] at h
        obtain ⟨⟨e, t2, H2⟩, h1, h2⟩ := h
        rw [roundsIn_succ]
        refine (ih _ _ _ c1 t H e t2 H2 h1 (hpc false c1 rfl) lr w0 β w a _ hrb hS hT fun β' w' a' q1 q2 q3 l q4 => ?_).1
        cases e with
        | normal => exact (ih rb false p (.loop c1) t2 H2 x t1 H1 h2 hp lr w0 β' w' a' Q (hrb.mono q1.1.1) q4 q2 fun β'' w'' a'' r1 r2 r3 l' r4 => hQ β'' w'' a'' (q1.trans r1) r2 (q3.trans l.size l' r3) (l.trans l') r4).2 rfl c1 rfl
        | exit id => simp only [Option.some.injEq, Prod.mk.injEq] at h2; obtain ⟨rfl, rfl, rfl⟩ := h2; exact hQ β' w' a' q1 q2 q3 l q4
        | ret => simp only [Option.some.injEq, Prod.mk.injEq] at h2; obtain ⟨rfl, rfl, rfl⟩ := h2; exact hQ β' w' a' q1 q2 q3 l q4
      exact ⟨wpIn_loop_rounds (n + 1) hr, fun _ d q => by cases q; exact hr⟩
    | scope c1 =>
      refine ⟨?_, fun _ d q => by cases q⟩
      simp only [evCode] at h
      refine wpIn_scope_straight (ih _ _ _ c1 t H x t1 H1 h (hpc false c1 rfl) lr w0 β w a _ hrb hS hT fun β' w' a' q1 q2 q3 l q4 => ?_).1
      have := hQ β' w' a' q1 q2 q3 l q4
      cases x <;> exact this
end
def evRes1 (P : Program) (t : Tm) (H : Heap) : ResultVar → Option Value
  | .tmp i => t.at i
  | .cell i ty => (t.at i).bind fun v => evLoad P H ty v
def evRes (P : Program) (t : Tm) (H : Heap) : List ResultVar → Option (List Value)
  | [] => some []
  | r :: rs => (evRes1 P t H r).bind fun v => (evRes P t H rs).bind fun vs => some (v :: vs)
def evResults (P : Program) (rs : List ResultVar) (t : Tm) (H : Heap) : Option Value :=
  (evRes P t H rs).map fun vs => match vs with | [v] => v | vs => .tuple vs.toArray

section
variable {P : Program} {w0 : Base} {orc : Orc}
theorem loadVar_of_loadAt {ty : TypeId} {v : Value} {u : Value} {w w' : World} (h : (Instr.loadAt ty v).run P w = .ok u w') : (asAddr v >>= fun x => loadVar ty x).run P w = .ok u w' := by
  unfold Instr.loadAt Instr.sureAddr at h
  split at h
  · simpa [asAddr] using h
  · simp [stuck, Sem.run] at h

def resF (tmps : Array Value) : ResultVar → Sem Value
  | .tmp t => pure (tmps.getD t undef)
  | .cell x ty => do loadVar ty (← asAddr (tmps.getD x undef))
theorem evRes_ok {t : Tm} {a : Act} {H : Heap} {β : Names} {w : World} (hS : Sim ρ P w0 β H w) (hT : RelT ρ β t a.tmps) : ∀ (rs : List ResultVar) (vs : List Value), evRes P t H rs = some vs →
    ∃ vs', (rs.mapM (resF a.tmps)).run P w = .ok vs' w ∧ RelL ρ β vs vs' := by
  intro rs
  induction rs with
  | nil => intro vs h; cases h; exact ⟨[], rfl, rfl, fun i v v' q => by simp at q⟩
  | cons r rs ih =>
    intro vs h
    simp only [evRes, Option.bind_eq_some_iff, Option.some.injEq] at h
    obtain ⟨v, h1, us, h2, rfl⟩ := h
    obtain ⟨us', q1, q2⟩ := ih us h2
    have one : ∃ v', (resF a.tmps r).run P w = .ok v' w ∧ Rel ρ β v v' := by
      cases r with
      | tmp i => exact ⟨_, rfl, rel_at hT h1⟩
      | cell i ty =>
        simp only [evRes1, Option.bind_eq_some_iff] at h1
        obtain ⟨u, h0, h1⟩ := h1
        obtain ⟨v', r1, r2⟩ := evLoad_ok hS h1 (rel_at hT h0)
        exact ⟨v', loadVar_of_loadAt r1, r2⟩
    obtain ⟨v', r1, r2⟩ := one
    refine ⟨v' :: us', ?_, by simp [q2.1], fun i u u' s s' => ?_⟩
    · rw [List.mapM_cons, Sem.run_bind, r1, Result.andThen_ok, Sem.run_bind, q1]; rfl
    · cases i with
      | zero => simp at s s'; subst s; subst s'; exact r2
      | succ i => simp only [List.getElem?_cons_succ] at s s'; exact q2.2 i u u' s s'

theorem evResults_ok {fn : Func} {t : Tm} {a : Act} {H : Heap} {β : Names} {w : World} {v : Value} (hS : Sim ρ P w0 β H w) (hT : RelT ρ β t a.tmps) (h : evResults P fn.results.toList t H = some v) :
    ∃ v', (results fn a.tmps).run P w = .ok v' w ∧ Rel ρ β v v' := by
  simp only [evResults, Option.map_eq_some_iff] at h
  obtain ⟨vs, h1, h2⟩ := h
  obtain ⟨vs', q1, q2⟩ := evRes_ok hS hT _ _ h1
  have hm : ∀ (f : ResultVar → Sem Value), fn.results.mapM f = List.toArray <$> fn.results.toList.mapM f := by
    intro f
    obtain ⟨l⟩ := fn.results
    rw [List.mapM_toArray]
  have hr : (results fn a.tmps).run P w = .ok (if h : vs'.toArray.size = 1 then vs'.toArray[0] else .tuple vs'.toArray) w := by
    have hf : results fn a.tmps = (fn.results.mapM (resF a.tmps) >>= fun vs => pure (if h : vs.size = 1 then vs[0] else .tuple vs)) := by
      unfold results
      congr 1
    rw [hf, hm, Sem.run_bind]
    simp only [← bind_pure_comp, Sem.run_bind]
    rw [q1]
    rfl
  refine ⟨_, hr, ?_⟩
  obtain ⟨l1, l2⟩ := q2
  split at h2
  · rename_i u
    subst h2
    match vs', l1, l2 with
    | [u'], _, l2 => exact l2 0 u u' rfl rfl
  · rename_i hne
    subst h2
    have : ¬ vs'.toArray.size = 1 := by
      intro q
      match vs, (by simpa [l1] using q : vs.length = 1) with
      | [u], _ => exact hne u rfl
    rw [dif_neg this]
    exact .tup l1 l2

theorem evList_len {call : Cal} (hl : CalLen call) {ops : Array Oper} : ∀ (l : List Oper) (t : Tm) (H : Heap) (r : Tm × Heap), evList P orc call ops l t H = some r → H.length ≤ r.2.length := by
  intro l
  induction l with
  | nil => intro t H r h; cases h; exact Nat.le_refl _
  | cons o l ih =>
    intro t H r h
    simp only [evList, Option.bind_eq_some_iff] at h
    obtain ⟨⟨t2, H2⟩, h1, h2⟩ := h
    exact Nat.le_trans (evOne_len hl h1) (ih _ _ _ h2)
theorem good_len {call : Cal} {ops : Array Oper} {cs : Bool} {base : Nat} {strict : Bool} {F : Tm × Heap} : ∀ (n : Nat) (l : Array Bool) (t : Tm) (H : Heap),
    Good P orc call ops cs base strict F n l t H → base + cnt ops ops.size ≤ H.length → base + cnt ops ops.size ≤ F.2.length := by
  intro n
  induction n with
  | zero => rintro l t H ⟨_, rfl⟩ h; exact h
  | succ n ih =>
    rintro l t H ⟨h1, h2⟩ h
    cases hr : Region.ready .any ops l with
    | nil => exact absurd hr h1
    | cons i r =>
      obtain ⟨p, h3, h4⟩ := h2 i (by rw [hr]; simp)
      simp only [evR, Option.bind_eq_some_iff, Option.ite_none_right_eq_some, Option.some.injEq] at h3
      obtain ⟨o, _, p', _, ⟨h5, _⟩, rfl⟩ := h3
      exact ih _ _ _ h4 h5
theorem drawn_len {call : Cal} {ops : Array Oper} {t : Tm} {H : Heap} {r : Tm × Heap} (h : drawn P orc call ops t H = some r) : H.length ≤ r.2.length := by
  have hl : H.length + cnt ops ops.size ≤ (H ++ List.replicate (cnt ops ops.size) none : Heap).length := by simp
  have key : ∀ (cs strict : Bool), Good P orc call ops cs H.length strict r ops.size (Array.replicate ops.size false) t (H ++ List.replicate (cnt ops ops.size) none) → H.length ≤ r.2.length := by
    intro cs strict hG
    have := good_len _ _ _ _ hG hl
    omega
  unfold drawn at h
  split at h
  · rename_i p hp
    cases h
    exact key _ true (good_of_run _ _ _ hp ⟨0, t, H ++ List.replicate (cnt ops ops.size) none⟩ (by simp) _ (MR.start ops) hl)
  split at h
  · rename_i p hp
    cases h
    exact key _ true (good_of_run _ _ _ hp ⟨0, t, H ++ List.replicate (cnt ops ops.size) none⟩ (by simp) _ (MR.start ops) hl)
  · exact key _ false (good_of_any _ _ h ⟨0, t, H ++ List.replicate (cnt ops ops.size) none⟩ (by simp) _ (MR.start ops) hl)
theorem evCode_len {call : Cal} {g : FuncId} (hl : CalLen call) : ∀ (n : Nat) (rb : Option (Option Nat)) (fresh : Bool) (p : List Bool) (c : Code) (t : Tm) (H : Heap) (r : X × Tm × Heap), evCode P orc call g n rb fresh p c t H = some r → H.length ≤ r.2.2.length := by
  intro n
  induction n with
  | zero => intro rb fresh p c t H r h; simp [evCode] at h
  | succ n ih =>
    intro rb fresh p c t H r h
    cases c with
    | skip => simp only [evCode, Option.some.injEq] at h; subst h; exact Nat.le_refl _
    | label l => simp only [evCode, Option.some.injEq] at h; subst h; exact Nat.le_refl _
    | exit id => simp only [evCode, Option.some.injEq] at h; subst h; exact Nat.le_refl _
    | ret => simp only [evCode, Option.some.injEq] at h; subst h; exact Nat.le_refl _
    | goto l => simp [evCode] at h
    | refuse y => simp [evCode] at h
    | rangeFunc f p' q b =>
      simp only [evCode] at h
      split at h
      · cases h
      rw [Option.ite_none_right_eq_some] at h
      obtain ⟨_, h⟩ := h
      simp only [Option.bind_eq_some_iff, Option.ite_none_left_eq_some, Option.map_eq_some_iff] at h
      obtain ⟨tl, h1, fv, h2, k, h3, r', h4, q, h5, _, x', h6, rfl⟩ := h
      have := herm_len h4
      simp only [List.length_append, List.length_set] at this ⊢
      omega
    | region id ops draw =>
      simp only [evCode] at h
      split at h
      · rw [Option.ite_none_right_eq_some] at h
        obtain ⟨_, h⟩ := h
        simp only [Option.map_eq_some_iff] at h
        obtain ⟨p, h1, rfl⟩ := h
        exact drawn_len h1
      · simp only [Option.map_eq_some_iff] at h
        obtain ⟨p, h1, rfl⟩ := h
        exact evList_len hl _ _ _ _ h1
    | seq c1 c2 =>
      simp only [evCode, Option.bind_eq_some_iff] at h
      obtain ⟨⟨e, t2, H2⟩, h1, h2⟩ := h
      have h3 := ih _ _ _ _ _ _ _ h1
      cases e with
      | normal => exact Nat.le_trans h3 (ih _ _ _ _ _ _ _ h2)
      | exit id => simp only [Option.some.injEq] at h2; subst h2; exact h3
      | ret => simp only [Option.some.injEq] at h2; subst h2; exact h3
    | cond c x1 y1 =>
      simp only [evCode, Option.bind_eq_some_iff] at h
      obtain ⟨b, h1, h2⟩ := h
      split at h2
      · exact ih _ _ _ _ _ _ _ h2
      · exact ih _ _ _ _ _ _ _ h2
      · cases h2
    | block id c1 =>
      simp only [evCode, Option.bind_eq_some_iff] at h
      obtain ⟨⟨e, t2, H2⟩, h1, h2⟩ := h
      have h3 := ih _ _ _ _ _ _ _ h1
      cases e with
      | normal => simp only [Option.some.injEq] at h2; subst h2; exact h3
      | ret => simp only [Option.some.injEq] at h2; subst h2; exact h3
      | exit id' =>
        simp only at h2
        split at h2 <;>
        · simp only [Option.some.injEq] at h2; subst h2; exact h3
    | loop c1 =>
      simp only [evCode] at h
      split at h
      · rename_i r' hr
        rw [Option.ite_none_right_eq_some] at hr
        simp only [Option.some.injEq] at h
        subst h
        obtain ⟨_, hr⟩ := hr
        split at hr
        · exact (findLoop_mem hr).2
        · cases hr
      simp only [Option.bind_eq_some_iff] at h
      obtain ⟨⟨e, t2, H2⟩, h1, h2⟩ := h
      have h3 := ih _ _ _ _ _ _ _ h1
      cases e with
      | normal => exact Nat.le_trans h3 (ih _ _ _ _ _ _ _ h2)
      | exit id => simp only [Option.some.injEq] at h2; subst h2; exact h3
      | ret => simp only [Option.some.injEq] at h2; subst h2; exact h3
    | scope c1 => simp only [evCode] at h; exact ih _ _ _ _ _ _ _ h
end
def jOf : X → Int
  | .normal => 0
  | .ret => 1
  | .exit id => 2 + id
def isNorm : X → Bool
  | .normal => true
  | _ => false
/-- a round: the loop's left sides, then the body, on the temporaries that the record has -/
def mkRnd (P : Program) (orc : Orc) (m : Nat) (call : Cal) (b : Nat) (args : List Value) (H : Heap) : Option (Value × Heap) :=
  (recAt H b).bind fun r => (partOf P r.g r.p).bind fun c => match c with
    | .rangeFunc _ ps assign body => if ps.toList.length == args.length && (r.tl.length.ble 1120 && decide (r.st = 0)) then
        (evCode P orc call r.g m (some (some b)) true (false :: r.p) assign (chunk (r.tl.length / 16 + 1) (setAll r.tl (ps.toList.zip args))) H).bind fun a => if isNorm a.1 then
          (recAt a.2.2 b).bind fun r1 => if r1.st = 0 then
            (evCode P orc call r.g m (some (some b)) true (true :: r.p) body a.2.1 (a.2.2.set b (some (recB { r1 with st := 2, j := r1.j })))).bind fun z => (recAt z.2.2 b).bind fun r2 =>
              gc H (.bool (isNorm z.1)) (z.2.2.set b (some (recB { r2 with st := if isNorm z.1 then 0 else 1, j := jOf z.1 })))
          else none
        else none
      else none
    | _ => none
def mkFn (P : Program) (orc : Orc) (m : Nat) (call : Cal) (f : FuncId) (args : List Value) (H : Heap) : Option (Value × Heap) :=
  (P.funcs[f]?).bind fun fn => fn.body.bind fun c => if (args.length + fn.ntmps).ble 1120 = false then none else
    (evCode P orc call f m (some none) true [] c (chunk ((args.length + fn.ntmps) / 16 + 1) (args ++ List.replicate (fn.ntmps - args.length) undef)) H).bind fun r =>
      match r.1 with
      | .exit _ => none
      | _ => (evResults P fn.results.toList r.2.1 r.2.2).bind fun v => gc H v r.2.2
def evCal (P : Program) (orc : Orc) (m : Nat) : Nat → Cal
  | 0 => ⟨fun _ _ _ => none, fun _ _ _ => none⟩
  | n + 1 => ⟨mkFn P orc m (evCal P orc m n), mkRnd P orc m (evCal P orc m n)⟩
def evCall (P : Program) (orc : Orc) (m n : Nat) : FuncId → List Value → Heap → Option (Value × Heap) := (evCal P orc m n).fn
section
variable {P : Program} {w0 : Base} {orc : Orc}
theorem evCal_len (m : Nat) : ∀ n, CalLen (evCal P orc m n) := by
  intro n
  induction n with
  | zero => exact ⟨fun f args H v H1 h => by simp [evCal] at h, fun f args H v H1 h => by simp [evCal] at h⟩
  | succ n ih =>
    constructor
    · intro f args H v H1 h
      simp only [evCal, mkFn, Option.bind_eq_some_iff] at h
      obtain ⟨fn, h1, c, h2, h⟩ := h
      split at h
      · cases h
      simp only [Option.bind_eq_some_iff] at h
      obtain ⟨⟨x, t1, H2⟩, h3, h4⟩ := h
      have fin : ∀ (h5 : ((evResults P fn.results.toList t1 H2).bind fun v => gc H v H2) = some (v, H1)), H.length ≤ H1.length := by
        intro h6
        simp only [Option.bind_eq_some_iff] at h6
        obtain ⟨u, _, h7⟩ := h6
        exact gc_len h7
      cases x with
      | exit id => cases h4
      | normal => exact fin h4
      | ret => exact fin h4
    · intro b args H v H1 h
      simp only [evCal, mkRnd, Option.bind_eq_some_iff] at h
      obtain ⟨r, h1, c, h2, h⟩ := h
      split at h
      · rw [Option.ite_none_right_eq_some] at h
        obtain ⟨_, h⟩ := h
        simp only [Option.bind_eq_some_iff, Option.ite_none_right_eq_some] at h
        obtain ⟨_, _, _, _, _, _, _, _, _, _, h⟩ := h
        exact gc_len h
      · cases h
theorem jmpOf_jOf (x : X) : ∃ c : Option Code, jmpOf c = some (jOf x) ∧ (c = match x with | .normal => none | .ret => some .ret | .exit id => some (.exit id)) := by
  cases x <;> exact ⟨_, rfl, rfl⟩
theorem evCal_ok (hor : OrcOK ρ P orc) (m : Nat) : ∀ n, CalOK ρ P (evCal P orc m n) := by
  intro n
  induction n with
  | zero => exact ⟨fun w0 f args H v H1 h => by simp [evCal] at h, fun w0 f args H v H1 h => by simp [evCal] at h⟩
  | succ n ih =>
    constructor
    · intro w0 f args H v H1 h β w args' hS hA
      simp only [evCal, mkFn, Option.bind_eq_some_iff] at h
      obtain ⟨fn, h1, c, h2, h⟩ := h
      split at h
      · cases h
      rename_i hle
      simp only [Option.bind_eq_some_iff] at h
      obtain ⟨⟨x, t1, H2⟩, h3, h4⟩ := h
      have hle : args.length + fn.ntmps ≤ 1120 := by
        rw [Bool.not_eq_false] at hle
        exact Nat.le_of_ble_eq_true hle
      have hsz : args.length = args'.toArray.size := by simp [hA.1]
      have hT : RelT ρ β (chunk ((args.length + fn.ntmps) / 16 + 1) (args ++ List.replicate (fn.ntmps - args.length) undef)) (args'.toArray ++ Array.replicate (fn.ntmps - args'.toArray.size) undef) := by
        refine chunk_rel ?_ (by simp; omega)
        rw [← hsz, Array.toList_append, Array.toList_replicate]
        exact relL_append hA ⟨rfl, fun i u u' q q' => by
            obtain rfl : u = u' := Option.some.inj (q.symm.trans q')
            rw [List.getElem?_replicate] at q
            split at q
            · cases q; exact .flat rfl
            · cases q⟩
      have fin : ∀ (h5 : ((evResults P fn.results.toList t1 H2).bind fun v => gc H v H2) = some (v, H1)) (β' : Names) (w' : World) (a' : Act), Kp H none H2 β β' → RelT ρ β' t1 a'.tmps → Sim ρ P w0 β' H2 w' → w.heap.size ≤ w'.heap.size →
          ∀ (ms : List Nat), ms.Nodup → (∀ r ∈ ms, w.heap.size ≤ r ∧ (∀ i e, β' i = some e → e.blk ≠ r) ∧ w'.heap[r]? = some (.deferred (some []))) →
          LeavesInM Fence.wide 0 P fn a'.tmps (fun e w' => ∃ v' β', e = .returned v' ∧ Keep H none β β' ∧ Rel ρ β' v v' ∧ Sim ρ P w0 β' H1 w') (ms.map mark) .returning w' := by
        intro h5 β' w' a' q1 q2 q4 hsw ms
        induction ms generalizing w' with
        | nil =>
          intro _ _
          simp only [Option.bind_eq_some_iff] at h5
          obtain ⟨u, h5, h6⟩ := h5
          obtain ⟨u', r1, r2⟩ := evResults_ok q4 q2 h5
          obtain ⟨β'', s1, s2, s3, _⟩ := gc_ok hS q1.1 q4 r2 h6
          exact ⟨u', r1, u', β'', rfl, s1, s2, s3⟩
        | cons y ms ihm =>
          intro hnd hms
          obtain ⟨g1, g2, g3⟩ := hms y (by simp)
          refine ⟨by simp, .inl ⟨y, _, rfl, run_takeDeferred g3, ?_⟩⟩
          have hy : ∀ z ∈ ms, z ≠ y := fun z hz q => by subst q; exact (List.nodup_cons.1 hnd).1 hz
          refine ihm _ (q4.putAny (fun i e b _ he => g2 i e he) (.inl (Nat.le_trans hS.below.size g1)) (Nat.le_trans hS.far.size g1) _) (by simpa using hsw) (List.nodup_cons.1 hnd).2 fun z hz => ?_
          obtain ⟨k1, k2, k3⟩ := hms z (by simp [hz])
          exact ⟨k1, k2, by rw [World.putObj_heap_other (hy z hz)]; exact k3⟩
      refine (callsIn_wide (n := 0)).1 (callsIn_of_wp_marks h1 h2 trivial ?_)
      refine (evCode_ok (evCal_len m n) hor ih m (some none) true [] c _ H x t1 H2 h3 (by simp only [partOf, h1, h2, Option.bind_some, subR]) none w0 β w _ _ rfl hS hT fun β' w' a' q1 q2 q3 l q4 => ?_).1
      obtain ⟨ms, m1, m2, m3⟩ := q3
      simp only [List.append_nil] at m1
      cases x with
      | exit id => cases h4
      | normal => show LeavesInM Fence.wide 0 P fn a'.tmps _ a'.defers .returning w'; rw [m1]; exact fin h4 β' w' a' q1 q2 q4 l.size ms m2 m3
      | ret => show LeavesInM Fence.wide 0 P fn a'.tmps _ a'.defers .returning w'; rw [m1]; exact fin h4 β' w' a' q1 q2 q4 l.size ms m2 m3
    · intro w0 b args H v H1 h β w args' e hS hA hbe
      simp only [evCal, mkRnd, Option.bind_eq_some_iff] at h
      obtain ⟨r, h1, c, h2, h⟩ := h
      split at h
      rotate_left
      · cases h
      rename_i f ps assign body
      rw [Option.ite_none_right_eq_some, Bool.and_eq_true, Bool.and_eq_true, beq_iff_eq, decide_eq_true_eq] at h
      obtain ⟨⟨hps, hle0, hst⟩, h⟩ := h
      have hle := Nat.le_of_ble_eq_true hle0
      simp only [Option.bind_eq_some_iff, Option.ite_none_right_eq_some] at h
      obtain ⟨⟨x, ta, Ha⟩, h3, hx, r1, h4, hst1, ⟨y, tz, Hz⟩, h5, r2, h6, h7⟩ := h
      simp only at hx h4 h5 h6 h7
      have hx : x = .normal := by cases x <;> first | rfl | cases hx
      subst hx
      obtain ⟨e', rr, f', g1, g2, g3, g4, g5, g6, g7⟩ := rec_get hS h1
      obtain rfl : e = e' := Option.some.inj (hbe.symm.trans g1)
      rw [h2] at g4
      simp only [Option.some.injEq, Code.rangeFunc.injEq] at g4
      obtain ⟨rfl, rfl, rfl, rfl⟩ := g4
      have hsz : args'.toArray.size = rr.params.size := by have := hA.1; simp only [Array.length_toList] at hps; simp; omega
      refine ⟨_, _, _, _, run_yield g2 hsz, ?_⟩
      have hT : RelT ρ β (chunk (r.tl.length / 16 + 1) (setAll r.tl (rr.params.toList.zip args))) ((rr.params.zip args'.toArray).foldl (fun tmps p => tmps.setIfInBounds p.1 p.2) rr.tmps) := by
        have hR := setAll_rel rr.params.toList args args' r.tl rr.tmps hA g7
        have hz : ((rr.params.zip args'.toArray).foldl (fun tmps p => tmps.setIfInBounds p.1 p.2) rr.tmps) = ((rr.params.toList.zip args').foldl (fun t p => t.setIfInBounds p.1 p.2) rr.tmps) := by
          rw [← Array.foldl_toList, Array.toList_zip]
        rw [hz]
        refine chunk_rel hR ?_
        have : ∀ (l : List Value) (ps : List (Tmp × Value)), (setAll l ps).length = l.length := by
          intro l ps
          induction ps generalizing l with
          | nil => rfl
          | cons p ps ih => simp only [setAll]; rw [ih, setN_eq]; simp
        rw [this]; omega
      have hpc : ∀ (bb : Bool) (d : Code), child (.rangeFunc f rr.params rr.assign rr.body) bb = some d → partOf P r.g (bb :: r.p) = some d := by
        intro bb d hd
        unfold partOf at h2 ⊢
        simp only [Option.bind_eq_some_iff] at h2 ⊢
        obtain ⟨c0, ⟨fn, k1, k2⟩, k3⟩ := h2
        refine ⟨c0, ⟨fn, k1, k2⟩, ?_⟩
        simp only [subR, k3, Option.bind_some, hd]
      refine roundIn_of_wpIn trivial ?_
      refine (evCode_ok (evCal_len m n) hor ih m (some (some b)) true _ rr.assign _ H .normal ta Ha h3 (hpc false _ rfl) (some e.blk) w0 β w { tmps := _, defers := [] } _ ⟨e, hbe, rfl⟩ hS hT fun β1 w1 a1 q1 q2 q3 l q4 => ?_).1
      obtain ⟨e1, ra, fa, k1, k2, k3, k4, k5, k6, k7⟩ := rec_get q4 h4
      obtain rfl : e = e1 := Option.some.inj ((q1.1.1 _ _ hbe).symm.trans k1)
      have hready : ra.state = .ready := by
        cases hs : ra.state <;> rw [hs] at k5 <;> first | rfl | (rw [hst1] at k5; simp [stOf] at k5)
      refine ⟨_, run_beginRound k2 hready, ?_⟩
      have hS2 := rec_put q4 k3 k1 (r := { ra with state := .busy }) (st := 2) (j := r1.j) k4 rfl k6 k7
      have hlen1 : H.length ≤ Ha.length := q1.2
      refine (evCode_ok (evCal_len m n) hor ih m (some (some b)) true _ rr.body _ _ y tz Hz h5 (hpc true _ rfl) (some e.blk) w0 β1 _ a1 _ ⟨e, k1, rfl⟩ hS2 q2 fun β2 w2 a2 s1 s2 s3 l2 s4 => ?_).1
      obtain ⟨e2, rz, fz, z1, z2, z3, z4, z5, z6, z7⟩ := rec_get s4 h6
      obtain rfl : e = e2 := Option.some.inj ((s1.1.1 _ _ k1).symm.trans z1)
      have hk2 : Keep H none β β2 := ⟨q1.1.1.trans s1.1.1, fun u hu hn _ => s1.1.2 u (by simp; omega) (q1.1.2 u hu hn (by simp)) (by simp)⟩
      have fin : ∀ (jump : Option Code) (nb : Bool), jump.isNone = nb → jmpOf jump = some (jOf y) → isNorm y = nb →
          ∃ v1 w3, (Instr.endRound e.blk jump).run P w2 = .ok v1 w3 ∧ ∃ v' β', Ending.returned v1 = .returned v' ∧ Keep H none β β' ∧ Rel ρ β' v v' ∧ Sim ρ P w0 β' H1 w3 := by
        intro jump nb j1 j2 j3
        refine ⟨_, _, run_endRound jump z2, ?_⟩
        rw [j1]
        have hS3 := rec_put s4 z3 z1 (r := { rz with state := if nb then .ready else .done, pending := jump }) (st := if nb then 0 else 1) (j := jOf y) z4 (by cases nb <;> rfl) j2 z7
        rw [j3] at h7
        obtain ⟨β4, t1, t2, t3, _⟩ := gc_ok hS hk2 hS3 (Rel.flat (β := β2) (v := .bool nb) rfl) h7
        exact ⟨_, β4, rfl, t1, t2, t3⟩
      cases y with
      | normal => exact fin none true rfl rfl rfl
      | ret => exact fin (some .ret) false rfl rfl rfl
      | exit id => exact fin (some (.exit id)) false rfl rfl rfl
theorem evCall_len (m n : Nat) : CallLen (evCall P orc m n) := (evCal_len m n).1
theorem evCall_ok (hor : OrcOK ρ P orc) (m n : Nat) : CallOK ρ P (evCall P orc m n) := (evCal_ok hor m n).1
/-- A CALL THAT THE EVALUATOR RUNS THROUGH, in every world: for all numbers of which what the oracle says is so. -/
theorem run_sym (hor : OrcOK ρ P orc) (m n : Nat) (f : FuncId) (args : List Value) (v : Value) (H1 : Heap) (h : evCall P orc m n f args [] = some (v, H1)) (ha : args.all af = true) (hv : af v = true) (w : World) (hw : Below ρ.w.heap.size ρ.w w) :
    Calls P f (args.map (inst ρ)).toArray w fun e w' => e = .returned (inst ρ v) ∧ Below w.heap.size w w' := by
  have hA : RelL ρ (fun _ => none) args (args.map (inst ρ)) := ⟨by simp, fun i a b qa qb => by
    rw [List.getElem?_map, qa] at qb
    cases qb
    exact rel_inst (List.all_eq_true.1 ha a (List.mem_of_getElem? qa))⟩
  refine (evCall_ok hor m n ⟨w, []⟩ f args [] v H1 h (fun _ => none) w _ (Sim.start ρ P w hw) hA).mono ?_
  rintro e w' ⟨v', β', rfl, _, q2, q3⟩
  rw [q2.af_eq hv]
  exact ⟨rfl, q3.below.toBelow⟩
def result (r : Option (Value × Heap)) (v : Value) : Bool :=
  match r with
  | some (u, _) => sameV 4 u v
  | none => false
/-- the same, as one test that the kernel can run -/
theorem run_test (hor : OrcOK ρ P orc) (m n : Nat) (f : FuncId) (args : List Value) (v : Value) (h : (result (evCall P orc m n f args []) v && (args.all af && af v)) = true) (w : World) (hw : Below ρ.w.heap.size ρ.w w) :
    Calls P f (args.map (inst ρ)).toArray w fun e w' => e = .returned (inst ρ v) ∧ Below w.heap.size w w' := by
  simp only [Bool.and_eq_true] at h
  obtain ⟨h1, h2, h3⟩ := h
  unfold result at h1
  split at h1
  · rename_i u H1 hu
    rw [sameV_eq _ _ _ h1] at hu
    exact run_sym hor m n f args v H1 hu h2 h3 w hw
  · cases h1
end
end
end Go.Proofs.Ytapcooolainmdaa.Ev
