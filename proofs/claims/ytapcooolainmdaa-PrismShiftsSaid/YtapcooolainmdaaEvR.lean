/- The evaluator: names of blocks are changed. -/
import Derived.Test.YtapcooolainmdaaEvC
namespace Go.Proofs.Ytapcooolainmdaa.Ev
noncomputable section
open Go.RowKit
set_option linter.unusedVariables false
set_option linter.unusedSimpArgs false
variable {ρ : Env}

def ren0 (f : Nat → Option Nat) (v : Value) : Option Value :=
  match v with
  | .pointer (some ⟨b, o, none⟩) => (f b).map fun c => .pointer (some ⟨c, o, none⟩)
  | .pointer (some ⟨b, o, some j⟩) => (f b).map fun c => .pointer (some ⟨c, o, some j⟩)
  | .slice (some ⟨b, o, none⟩) n c => (f b).map fun d => .slice (some ⟨d, o, none⟩) n c
  | .slice (some ⟨0, 0, some 0⟩) 0 0 => some empV
  | .slice (some ⟨0, 1, some 0⟩) 0 0 => some emp0V
  | .complex .f32 0 1 => some (.complex .f32 0 1)
  | .complex .f32 b t => if Nat.blt t 10 then none else (f b).map fun c => .complex .f32 c t
  | .tuple vs => match vs.toList with | [] => some (.tuple #[]) | [.complex .f32 0 0] => some anyV | _ => none
  | .func (.yield b) p q => if p.toList.isEmpty && q.toList.isEmpty then (f b).map fun c => .func (.yield c) #[] #[] else none
  | v => if af0 v then some v else none
def ren0s (f : Nat → Option Nat) : List Value → Option (List Value)
  | [] => some []
  | v :: r => (ren0 f v).bind fun u => (ren0s f r).bind fun us => some (u :: us)
def ren1 (f : Nat → Option Nat) (v : Value) : Option Value :=
  if af1 v then some v else
    match v with
    | .func (.func g) fs cs => if fs.toList.isEmpty then (ren0s f cs.toList).map fun l => .func (.func g) #[] l.toArray else none
    | .agg cs => (ren0s f cs.toList).map fun l => .agg l.toArray
    | v => ren0 f v
def ren1s (f : Nat → Option Nat) : List Value → Option (List Value)
  | [] => some []
  | v :: r => (ren1 f v).bind fun u => (ren1s f r).bind fun us => some (u :: us)
def ren2 (f : Nat → Option Nat) (v : Value) : Option Value :=
  match v with
  | .tuple vs => (ren1s f vs.toList).map fun l => .tuple l.toArray
  | v => ren1 f v
def renB (f : Nat → Option Nat) : Option Blk → Option (Option Blk)
  | none => some none
  | some k => (ren1s f k.cells).map fun cs => some ⟨cs, k.ty⟩
def renH (f : Nat → Option Nat) : Heap → Option Heap
  | [] => some []
  | b :: r => (renB f b).bind fun c => (renH f r).bind fun cs => some (c :: cs)

theorem rel_lst {β : Names} {b t : Nat} {v' : Value} (h : Rel ρ β (.complex .f32 b t) v') (ht : Nat.blt t 10 = false) :
    ∃ e n c, β b = some e ∧ v' = .slice (some ⟨e.blk, 0, none⟩) n c ∧ (0 < e.sz ∧ e.sz = (t - 10) % 1024) ∧ n * e.sz = (ρ.lst (t - 10)).length ∧ n ≤ c ∧ c ≤ maxLen ∧ c * e.sz ≤ e.cnt := by
  generalize hq : Value.complex FloatKind.f32 b t = q at h
  cases h with
  | lst h1 h2 h3 h4 =>
    rename_i b' s n c e
    simp only [Value.complex.injEq] at hq
    obtain ⟨_, rfl, rfl⟩ := hq
    exact ⟨e, n, c, h1, rfl, by rw [Nat.add_sub_cancel_left]; exact h2, by rw [Nat.add_sub_cancel_left]; exact h3, h4.1, h4.2.1, h4.2.2⟩
  | sym _ => cases hq
  | opq => cases hq
  | any => cases hq
  | flat hf => subst hq; simp [flat, flat1, flat0] at hf
  | ptr _ => cases hq
  | lpt _ _ _ => cases hq
  | slc _ _ => cases hq
  | emp => cases hq
  | emp0 => cases hq
  | yld _ => cases hq
  | nni => cases hq; simp [Nat.blt] at ht
  | fn _ _ => cases hq
  | agg _ _ => cases hq
  | tup _ _ => cases hq
theorem rel_lpt {β : Names} {b sz j : Nat} {v' : Value} (h : Rel ρ β (.pointer (some ⟨b, sz, some j⟩)) v') :
    ∃ (e : Ent) (i : Nat), β b = some e ∧ v' = .pointer (some ⟨e.blk, i * sz, none⟩) ∧ isSym (.ofNat j) = true ∧ ρ.num (.ofNat j) = (i : Int) := by
  generalize hq : Value.pointer (some ⟨b, sz, some j⟩) = q at h
  cases h with
  | lpt h1 h2 h3 =>
    simp only [Value.pointer.injEq, Option.some.injEq, Addr.mk.injEq] at hq
    obtain ⟨rfl, rfl, rfl⟩ := hq
    exact ⟨_, _, h1, rfl, h2, h3⟩
  | flat hf => subst hq; simp [flat, flat1, flat0] at hf
  | ptr _ => simp at hq
  | _ => cases hq
theorem flat_af1 {v : Value} (h : flat v = true) (hn : ∀ a, v ≠ .tuple a) : af1 v = true := by
  have h0 : ∀ u : Value, flat0 u = true → af0 u = true := by intro u hu; cases u <;> first | rfl | exact hu | (simp [flat0] at hu)
  cases v <;> first | rfl | exact h | (simp [Ev.flat, flat1, flat0] at h; done) | skip
  · rename_i cs
    simp only [Ev.flat, flat1, List.all_eq_true] at h
    simp only [af1, List.all_eq_true]
    exact fun x hx => h0 x (h x hx)
  · rename_i vs; exact absurd rfl (hn vs)
section
variable {f : Nat → Option Nat} {β γ : Names}
def Moves (f : Nat → Option Nat) (β γ : Names) : Prop := ∀ (b c : Nat) (e : Ent), f b = some c → β b = some e → γ c = some e
theorem ren0_ok (hf : Moves f β γ) {v u v' : Value} (h : ren0 f v = some u) (hv : Rel ρ β v v') : Rel ρ γ u v' := by
  unfold ren0 at h
  split at h
  · simp only [Option.map_eq_some_iff] at h
    obtain ⟨c, h1, rfl⟩ := h
    obtain ⟨e, he, rfl⟩ := hv.ptr_inv
    exact .ptr (hf _ _ _ h1 he)
  · simp only [Option.map_eq_some_iff] at h
    obtain ⟨c, h1, rfl⟩ := h
    obtain ⟨e, i, he, rfl, hj, hi⟩ := rel_lpt hv
    exact .lpt (hf _ _ _ h1 he) hj hi
  · simp only [Option.map_eq_some_iff] at h
    obtain ⟨c, h1, rfl⟩ := h
    obtain ⟨e, c', he, rfl, hc⟩ := hv.slc_inv
    exact .slc (hf _ _ _ h1 he) hc
  · cases h
    cases hv with
    | flat h => simp [Ev.flat, flat1, flat0] at h
    | emp => exact .emp
  · cases h
    cases hv with
    | flat h => simp [Ev.flat, flat1, flat0] at h
    | emp0 => exact .emp0
  · cases h
    generalize hq : Value.complex .f32 0 1 = q at hv
    cases hv with
    | nni => exact .nni
    | flat hf => subst hq; simp [Ev.flat, flat1, flat0] at hf
    | lst _ _ _ _ => simp only [Value.complex.injEq] at hq; omega
    | _ => simp [anyV] at hq
  · rw [Option.ite_none_left_eq_some] at h
    obtain ⟨ht, h⟩ := h
    simp only [Bool.not_eq_true] at ht
    simp only [Option.map_eq_some_iff] at h
    obtain ⟨c, h1, rfl⟩ := h
    obtain ⟨e, n, cp, he, rfl, hz, hn, hc⟩ := rel_lst hv ht
    rename_i t _
    have h10 : 10 + (t - 10) = t := by
      have : ¬ t < 10 := by intro q; rw [show Nat.blt t 10 = true from by simp only [Nat.blt, Nat.ble_eq]; exact q] at ht; cases ht
      omega
    rw [← h10]
    exact .lst (hf _ _ _ h1 he) hz hn hc
  · rename_i vs
    split at h
    · rename_i hvs
      cases h
      have hv2 : (.tuple vs : Value) = .tuple #[] := by rw [Array.toList_eq_nil_iff.1 hvs]
      rw [hv2] at hv
      exact hv.names rfl
    · cases h; exact .any
    · cases h
  · rw [Option.ite_none_right_eq_some, Bool.and_eq_true, List.isEmpty_iff, List.isEmpty_iff, Array.toList_eq_nil_iff, Array.toList_eq_nil_iff] at h
    obtain ⟨⟨rfl, rfl⟩, h⟩ := h
    simp only [Option.map_eq_some_iff] at h
    obtain ⟨c, h1, rfl⟩ := h
    cases hv with
    | flat h => simp [Ev.flat, flat1, flat0] at h
    | yld he => exact .yld (hf _ _ _ h1 he)
  · rw [Option.ite_none_right_eq_some, Option.some.injEq] at h
    obtain ⟨h1, rfl⟩ := h
    exact hv.names (af1_af (af0_af1 h1))
theorem ren0s_ok (hf : Moves f β γ) : ∀ (l u l' : List Value), ren0s f l = some u → RelL ρ β l l' → RelL ρ γ u l' := by
  intro l
  induction l with
  | nil =>
    intro u l' h hl
    cases h
    exact ⟨hl.1, fun i v v' q => by simp at q⟩
  | cons v r ih =>
    intro u l' h hl
    simp only [ren0s, Option.bind_eq_some_iff, Option.some.injEq] at h
    obtain ⟨x, h1, us, h2, rfl⟩ := h
    match l', hl with
    | v' :: r', hl =>
      have h3 := ih us r' h2 ⟨by simpa using hl.1, fun i a b qa qb => hl.2 (i + 1) a b (by simpa using qa) (by simpa using qb)⟩
      refine ⟨by simpa using h3.1, fun i a b qa qb => ?_⟩
      cases i with
      | zero => simp at qa qb; subst qa; subst qb; exact ren0_ok hf h1 (hl.2 0 _ _ rfl rfl)
      | succ i => simp only [List.getElem?_cons_succ] at qa qb; exact h3.2 i a b qa qb
    | [], hl => exact absurd hl.1 (by simp)
theorem ren1_ok (hf : Moves f β γ) {v u v' : Value} (h : ren1 f v = some u) (hv : Rel ρ β v v') : Rel ρ γ u v' := by
  unfold ren1 at h
  split at h
  · rename_i hfl
    cases h
    exact hv.names (af1_af hfl)
  · rename_i hnf
    split at h
    · rename_i g fs cs
      rw [Option.ite_none_right_eq_some] at h
      obtain ⟨h0, h⟩ := h
      simp only [Option.map_eq_some_iff] at h
      obtain ⟨l, h1, rfl⟩ := h
      cases hv with
      | flat h =>
        exact absurd (flat_af1 h (by intro a q; cases q)) (by simpa using hnf)
      | fn hs hh =>
        have := ren0s_ok hf _ _ _ h1 ⟨hs, hh⟩
        exact .fn this.1 this.2
    · rename_i cs
      simp only [Option.map_eq_some_iff] at h
      obtain ⟨l, h1, rfl⟩ := h
      cases hv with
      | flat h => exact absurd (flat_af1 h (by intro a q; cases q)) (by simpa using hnf)
      | agg hs hh =>
        have := ren0s_ok hf _ _ _ h1 ⟨hs, hh⟩
        exact .agg this.1 this.2
    · exact ren0_ok hf h hv
theorem ren1s_ok (hf : Moves f β γ) : ∀ (l u : List Value), ren1s f l = some u → ∀ l', RelL ρ β l l' → RelL ρ γ u l' := by
  intro l
  induction l with
  | nil =>
    intro u h l' hl
    cases h
    exact ⟨hl.1, fun i v v' q => by simp at q⟩
  | cons v r ih =>
    intro u h l' hl
    simp only [ren1s, Option.bind_eq_some_iff, Option.some.injEq] at h
    obtain ⟨x, h1, us, h2, rfl⟩ := h
    match l', hl with
    | v' :: r', hl =>
      have h3 := ih us h2 r' ⟨by simpa using hl.1, fun i a b qa qb => hl.2 (i + 1) a b (by simpa using qa) (by simpa using qb)⟩
      refine ⟨by simpa using h3.1, fun i a b qa qb => ?_⟩
      cases i with
      | zero => simp at qa qb; subst qa; subst qb; exact ren1_ok hf h1 (hl.2 0 _ _ rfl rfl)
      | succ i => simp only [List.getElem?_cons_succ] at qa qb; exact h3.2 i a b qa qb
    | [], hl => exact absurd hl.1 (by simp)
theorem ren2_ok (hf : Moves f β γ) {v u v' : Value} (h : ren2 f v = some u) (hv : Rel ρ β v v') : Rel ρ γ u v' := by
  unfold ren2 at h
  split at h
  · rename_i vs
    simp only [Option.map_eq_some_iff] at h
    obtain ⟨l, h1, rfl⟩ := h
    cases hv with
    | any => simp [ren1s, ren1, ren0, af1, af0, flat1, flat0] at h1
    | flat h =>
      have := ren1s_ok (ρ := ρ) hf _ _ h1 vs.toList ⟨rfl, fun i a b qa qb => by
        obtain rfl : a = b := Option.some.inj (qa.symm.trans qb)
        simp only [Ev.flat, List.all_eq_true] at h
        exact .flat (flat1_flat (h a (List.mem_of_getElem? qa)))⟩
      exact .tup this.1 this.2
    | tup hs hh =>
      have := ren1s_ok hf _ _ h1 _ ⟨hs, hh⟩
      exact .tup this.1 this.2
  · exact ren1_ok hf h hv
theorem ren1s_get (hf : Moves f β γ) {l u : List Value} (h : ren1s f l = some u) : u.length = l.length ∧ ∀ (cs' : Array Value), (∀ (j : Nat) (v : Value), l[j]? = some v → ∃ v', cs'[j]? = some v' ∧ Rel ρ β v v') →
    ∀ (j : Nat) (v : Value), u[j]? = some v → ∃ v', cs'[j]? = some v' ∧ Rel ρ γ v v' := by
  have key : ∀ (l u : List Value), ren1s f l = some u → u.length = l.length ∧ ∀ (j : Nat) (v : Value), u[j]? = some v → ∃ x, l[j]? = some x ∧ ren1 f x = some v := by
    intro l
    induction l with
    | nil => intro u h; cases h; exact ⟨rfl, fun j v q => by simp at q⟩
    | cons a r ih =>
      intro u h
      simp only [ren1s, Option.bind_eq_some_iff, Option.some.injEq] at h
      obtain ⟨x, h1, us, h2, rfl⟩ := h
      obtain ⟨h3, h4⟩ := ih us h2
      refine ⟨by simp [h3], fun j v q => ?_⟩
      cases j with
      | zero => simp at q; subst q; exact ⟨a, rfl, h1⟩
      | succ j => simp only [List.getElem?_cons_succ] at q ⊢; exact h4 j v q
  obtain ⟨h1, h2⟩ := key l u h
  refine ⟨h1, fun cs' hc j v q => ?_⟩
  obtain ⟨x, h3, h4⟩ := h2 j v q
  obtain ⟨v', h5, h6⟩ := hc j x h3
  exact ⟨v', h5, ren1_ok hf h4 h6⟩
theorem renH_get {H H' : Heap} (h : renH f H = some H') : H'.length = H.length ∧ ∀ (i : Nat) (k : Blk), H'[i]? = some (some k) → ∃ k0, H[i]? = some (some k0) ∧ k0.ty = k.ty ∧ ren1s f k0.cells = some k.cells := by
  have key : ∀ (H H' : Heap), renH f H = some H' → H'.length = H.length ∧ ∀ (i : Nat) (k : Blk), H'[i]? = some (some k) → ∃ k0, H[i]? = some (some k0) ∧ k0.ty = k.ty ∧ ren1s f k0.cells = some k.cells := by
    intro H
    induction H with
    | nil => intro H' h; cases h; exact ⟨rfl, fun i k q => by simp at q⟩
    | cons b r ih =>
      intro H' h
      simp only [renH, Option.bind_eq_some_iff, Option.some.injEq] at h
      obtain ⟨c, h1, cs, h2, rfl⟩ := h
      obtain ⟨h3, h4⟩ := ih cs h2
      refine ⟨by simp [h3], fun i k q => ?_⟩
      cases i with
      | zero =>
        simp only [List.getElem?_cons_zero, Option.some.injEq] at q
        subst q
        cases b with
        | none => cases h1
        | some k0 =>
          simp only [renB, Option.map_eq_some_iff, Option.some.injEq] at h1
          obtain ⟨cs0, h5, rfl⟩ := h1
          exact ⟨k0, rfl, rfl, h5⟩
      | succ i => simp only [List.getElem?_cons_succ] at q ⊢; exact h4 i k q
  exact key H H' h
end

theorem ren1_flat {f : Nat → Option Nat} {v u : Value} (hf : af1 v = true) (h : ren1 f v = some u) : u = v := by
  unfold ren1 at h; rw [if_pos hf] at h; exact (Option.some.inj h).symm
/-- what is no row of cells, under other names -/
theorem ObjOK.moves {P : Program} {f : Nat → Option Nat} {β γ : Names} (hf : Moves f β γ) {b c : Blk} (ht : b.ty = c.ty) (h : ren1s f b.cells = some c.cells) {o : Obj} (ho : ObjOK ρ P β b o) : ObjOK ρ P γ c o := by
  cases ho with
  | loop g p j tl fo r hty hc hob hp hj htl =>
    rw [hc] at h
    simp only [ren1s, Option.bind_eq_some_iff, Option.some.injEq] at h
    obtain ⟨x1, h1, u1, ⟨x2, h2, u2, ⟨x3, h3, u3, ⟨x4, h4, u4, h5, rfl⟩, rfl⟩, rfl⟩, e⟩ := h
    have e1 := ren1_flat (by rfl) h1
    have e2 := ren1_flat (by simp [af1, af0, flat0]) h2
    have e3 := ren1_flat (by rfl) h3
    have e4 := ren1_flat (by rfl) h4
    subst e1 e2 e3 e4
    exact .loop g p j u4 fo r (ht ▸ hty) e.symm hob hp hj (ren1s_ok hf _ _ h5 _ htl)
/-! a result with its own blocks is laid behind a heap -/
def shift (H : Heap) (v : Value) (H1 : Heap) : Option (Value × Heap) :=
  let n := H.length
  (ren2 (fun i => some (i + n)) v).bind fun u => (renH (fun i => some (i + n)) H1).bind fun H2 => some (u, H ++ H2)
section
variable {P : Program} {w0 : Base} {w w' : World} {β β1 : Names} {H H1 : Heap}
theorem shift_ok (hS : Sim ρ P w0 β H w) (hS1 : Sim ρ P ⟨w, []⟩ β1 H1 w') {v v' : Value} (hv : Rel ρ β1 v v') {r : Value × Heap} (h : shift H v H1 = some r) :
    ∃ γ, Keep H none β γ ∧ Rel ρ γ r.1 v' ∧ Sim ρ P w0 γ r.2 w' := by
  simp only [shift, Option.bind_eq_some_iff, Option.some.injEq] at h
  obtain ⟨u, h1, H2, h2, rfl⟩ := h
  let γ : Names := fun j => if j < H.length then β j else β1 (j - H.length)
  have hm : Moves (fun i => some (i + H.length)) β1 γ := by
    intro b c e q he
    simp only [Option.some.injEq] at q
    subst q
    show (if b + H.length < H.length then _ else _) = _
    rw [if_neg (by omega), Nat.add_sub_cancel]
    exact he
  have hlow : ∀ j, j < H.length → γ j = β j := fun j hj => if_pos hj
  have hhigh : ∀ j, ¬ j < H.length → γ j = β1 (j - H.length) := fun j hj => if_neg hj
  have hx : Ext β γ := fun i e q => by rw [hlow i (hS.dom i e q)]; exact q
  have hbel := hS1.below.toBelow
  have hO := hS.onto hbel
  obtain ⟨hlen, hget⟩ := renH_get h2
  have hblk : ∀ (i : Nat) (k : Blk), (H ++ H2)[i]? = some (some k) → (i < H.length ∧ H[i]? = some (some k)) ∨ (¬ i < H.length ∧ H2[i - H.length]? = some (some k)) := by
    intro i k q
    rcases Nat.lt_or_ge i H.length with hi | hi
    · rw [List.getElem?_append_left hi] at q; exact .inl ⟨hi, q⟩
    · rw [List.getElem?_append_right hi] at q; exact .inr ⟨by omega, q⟩
  have hold : ∀ (i : Nat) (b : Blk) (e : Ent), H[i]? = some (some b) → β i = some e → e.blk < w.heap.size := by
    intro i b e hb he
    exact hS.cap i e he
  refine ⟨γ, ⟨hx, fun x h1 h2 _ => by rw [hlow x h1]; exact h2⟩, ren2_ok hm h1 hv, ?_, hO.below, ?_, ?_, ?_, hS1.far, ?_, ?_, ?_, ?_⟩
  · intro i e q
    simp only [List.length_append, hlen]
    by_cases hi : i < H.length
    · omega
    · rw [hhigh i hi] at q; have := hS1.dom _ _ q; omega
  · intro i e q
    by_cases hi : i < H.length
    · rw [hlow i hi] at q; exact hS.bound i e q
    · rw [hhigh i hi] at q
      rcases hS1.bound _ _ q with h | h
      · exact .inl (Nat.le_trans hS.below.size h)
      · cases h
  · intro i k q qo
    rcases hblk i k q with ⟨hi, q⟩ | ⟨hi, q⟩
    · obtain ⟨e, cs0, h1, h2, h3, h4, h5, h6⟩ := hO.cells i k q qo
      exact ⟨e, cs0, hx _ _ h1, h2, h3, h4, h5, fun j v hj => by obtain ⟨u, hu, hr⟩ := h6 j v hj; exact ⟨u, hu, hr.mono hx⟩⟩
    · obtain ⟨k0, g1, g2, g3⟩ := hget _ _ q
      obtain ⟨e, cs0, h1, h2, h3, h4, h5, h6⟩ := hS1.cells _ k0 g1 (by rw [g2]; exact qo)
      obtain ⟨g4, g5⟩ := ren1s_get hm g3
      exact ⟨e, cs0, by rw [hhigh i hi]; exact h1, by rw [← g2]; exact h2, h3, by rw [← g2]; exact h4, by rw [g4]; exact h5, g5 cs0 h6⟩
  · intro i j e d b c qb qc he hd hed
    rcases hblk i b qb with ⟨hi, q⟩ | ⟨hi, q⟩ <;> rcases hblk j c qc with ⟨hj, r⟩ | ⟨hj, r⟩
    · rw [hlow i hi] at he; rw [hlow j hj] at hd
      exact hS.inj i j e d b c q r he hd hed
    · rw [hlow i hi] at he; rw [hhigh j hj] at hd
      have := hold i b e q he
      rcases hS1.bound _ _ hd with h | h
      · simp only at h; omega
      · cases h
    · rw [hhigh i hi] at he; rw [hlow j hj] at hd
      have := hold j c d r hd
      rcases hS1.bound _ _ he with h | h
      · simp only at h; omega
      · cases h
    · rw [hhigh i hi] at he; rw [hhigh j hj] at hd
      obtain ⟨b0, g1, _⟩ := hget _ _ q
      obtain ⟨c0, g2, _⟩ := hget _ _ r
      have := hS1.inj _ _ e d b0 c0 g1 g2 he hd hed
      omega
  · intro i k s q hm'
    rcases hblk i k q with ⟨hi, q⟩ | ⟨hi, q⟩
    · obtain ⟨e, cs0, h1, h2, h3⟩ := hO.lists i k s q hm'
      exact ⟨e, cs0, hx _ _ h1, h2, h3⟩
    · obtain ⟨k0, g1, g2, g3⟩ := hget _ _ q
      obtain ⟨e, cs0, h1, h2, h3⟩ := hS1.lists _ k0 s g1 (by rw [g2]; exact hm')
      exact ⟨e, cs0, by rw [hhigh i hi]; exact h1, by rw [← g2]; exact h2, h3⟩
  · intro i e q
    by_cases hi : i < H.length
    · rw [hlow i hi] at q; exact hS.new i e q
    · rw [hhigh i hi] at q; exact hS1.new _ e q
  · intro i e q
    by_cases hi : i < H.length
    · rw [hlow i hi] at q; exact hO.cap i e q
    · rw [hhigh i hi] at q; exact hS1.cap _ e q
  · intro i k q qo
    rcases hblk i k q with ⟨hi, q⟩ | ⟨hi, q⟩
    · obtain ⟨e, o, h1, h2, h3⟩ := hO.objs i k q qo
      exact ⟨e, o, hx _ _ h1, h2, h3.mono hx⟩
    · obtain ⟨k0, g1, g2, g3⟩ := hget _ _ q
      obtain ⟨e, o, h1, h2, h3⟩ := hS1.objs _ k0 g1 (by rw [g2]; exact qo)
      exact ⟨e, o, by rw [hhigh i hi]; exact h1, h2, h3.moves hm g2 g3⟩
end

/-! what nothing points to is forgotten -/
def ids0 : Value → List Nat
  | .pointer (some ⟨b, _, none⟩) => [b]
  | .pointer (some ⟨b, _, some _⟩) => [b]
  | .slice (some ⟨b, _, none⟩) _ _ => [b]
  | .complex .f32 b t => if Nat.blt t 10 then [] else [b]
  | .func (.yield b) _ _ => [b]
  | _ => []
def ids1 : Value → List Nat
  | .func (.yield b) _ _ => [b]
  | .func _ _ cs => cs.toList.flatMap ids0
  | .agg cs => cs.toList.flatMap ids0
  | v => ids0 v
def ids2 : Value → List Nat
  | .tuple vs => vs.toList.flatMap ids1
  | v => ids1 v
def memN (i : Nat) : List Nat → Bool
  | [] => false
  | k :: r => if i == k then true else memN i r
/-- the names from n on that can be reached -/
def reach (n : Nat) (H : Heap) : Nat → List Nat → List Nat → List Nat
  | 0, _, acc => acc
  | _, [], acc => acc
  | f + 1, i :: r, acc => if i < n || memN i acc then reach n H f r acc else
    match H[i]? with
    | some (some k) => reach n H f (k.cells.flatMap ids1 ++ r) (acc ++ [i])
    | _ => reach n H f r acc
def idx (i : Nat) : List Nat → Option Nat
  | [] => none
  | k :: r => if i == k then some 0 else (idx i r).map fun j => j + 1
def nodupB : List Nat → Bool
  | [] => true
  | k :: r => !memN k r && nodupB r
def pickH (H : Heap) : List Nat → Heap
  | [] => []
  | k :: r => (match H[k]? with | some b => b | none => none) :: pickH H r
def blkIds : Option Blk → List Nat
  | none => []
  | some k => k.cells.flatMap ids1
def gc (H : Heap) (v : Value) (H1 : Heap) : Option (Value × Heap) :=
  let n := H.length
  let ks := reach n H1 1000 (ids2 v ++ (H1.take n).flatMap blkIds) []
  let f := fun i => if i < n then some i else (idx i ks).map fun j => n + j
  if (nodupB ks && ks.all fun k => decide (n ≤ k)) && decide (n ≤ H1.length) then
    (ren2 f v).bind fun u => (renH f (H1.take n)).bind fun A => (renH f (pickH H1 ks)).bind fun B => some (u, A ++ B)
  else none

theorem memN_iff {i : Nat} {l : List Nat} : memN i l = true ↔ i ∈ l := by
  induction l with
  | nil => simp [memN]
  | cons k r ih =>
    simp only [memN, List.mem_cons]
    by_cases h : i = k
    · simp [h]
    · simp [h, ih]
theorem nodupB_get {l : List Nat} (h : nodupB l = true) : ∀ (i j : Nat) (k : Nat), l[i]? = some k → l[j]? = some k → i = j := by
  induction l with
  | nil => intro i j k q; simp at q
  | cons a r ih =>
    simp only [nodupB, Bool.and_eq_true, Bool.not_eq_true'] at h
    have hn : a ∉ r := fun q => by have := memN_iff.2 q; rw [h.1] at this; cases this
    intro i j k q q'
    cases i with
    | zero =>
      cases j with
      | zero => rfl
      | succ j =>
        simp only [List.getElem?_cons_zero, Option.some.injEq, List.getElem?_cons_succ] at q q'
        subst q
        exact absurd (List.mem_of_getElem? q') hn
    | succ i =>
      cases j with
      | zero =>
        simp only [List.getElem?_cons_zero, Option.some.injEq, List.getElem?_cons_succ] at q q'
        subst q'
        exact absurd (List.mem_of_getElem? q) hn
      | succ j => simp only [List.getElem?_cons_succ] at q q'; rw [ih h.2 i j k q q']
theorem idx_get {i j : Nat} : ∀ {l : List Nat}, idx i l = some j → l[j]? = some i := by
  intro l
  induction l generalizing j with
  | nil => intro h; simp [idx] at h
  | cons k r ih =>
    intro h
    simp only [idx] at h
    split at h
    · rename_i hk
      cases h
      simpa using (beq_iff_eq.1 hk).symm
    · simp only [Option.map_eq_some_iff] at h
      obtain ⟨x, h1, rfl⟩ := h
      simpa using ih h1
theorem pickH_get {H : Heap} : ∀ (ks : List Nat), (pickH H ks).length = ks.length ∧ ∀ (i : Nat) (k : Blk), (pickH H ks)[i]? = some (some k) → ∃ b, ks[i]? = some b ∧ H[b]? = some (some k) := by
  intro ks
  induction ks with
  | nil => exact ⟨rfl, fun i k q => by simp [pickH] at q⟩
  | cons a r ih =>
    refine ⟨by simp [pickH, ih.1], fun i k q => ?_⟩
    cases i with
    | zero =>
      simp only [pickH, List.getElem?_cons_zero, Option.some.injEq] at q
      refine ⟨a, rfl, ?_⟩
      split at q
      · rename_i b hb; rw [hb, q]
      · cases q
    | succ i => simp only [pickH, List.getElem?_cons_succ] at q ⊢; exact ih.2 i k q

theorem gc_ok {P : Program} {w0 : Base} {w w1 : World} {β β' : Names} {H H1 : Heap} {v v' : Value} (hS0 : Sim ρ P w0 β H w) (hx : Keep H none β β') (hS : Sim ρ P w0 β' H1 w1) (hv : Rel ρ β' v v') {r : Value × Heap}
    (h : gc H v H1 = some r) : ∃ γ, Keep H none β γ ∧ Rel ρ γ r.1 v' ∧ Sim ρ P w0 γ r.2 w1 ∧ H.length ≤ r.2.length := by
  unfold gc at h
  simp only at h
  generalize hks : reach H.length H1 1000 (ids2 v ++ (H1.take H.length).flatMap blkIds) [] = ks at h
  rw [Option.ite_none_right_eq_some] at h
  obtain ⟨h0, h⟩ := h
  rw [Bool.and_eq_true, Bool.and_eq_true, decide_eq_true_eq, List.all_eq_true] at h0
  obtain ⟨⟨hnd, hge⟩, hle⟩ := h0
  simp only [Option.bind_eq_some_iff, Option.some.injEq] at h
  obtain ⟨u, g1, A, g2, B, g3, rfl⟩ := h
  let γ : Names := fun j => if j < H.length then β j else (ks[j - H.length]?).bind β'
  have hlow : ∀ j, j < H.length → γ j = β j := fun j hj => if_pos hj
  have hhigh : ∀ j, ¬ j < H.length → γ j = (ks[j - H.length]?).bind β' := fun j hj => if_neg hj
  have back : ∀ (b : Nat) (e : Ent), b < H.length → β' b = some e → β b = some e := by
    intro b e hlt he
    cases q : β b with
    | none => rw [hx.2 b hlt q (by simp)] at he; cases he
    | some d => rw [hx.1 b d q] at he; exact he
  have hm : Moves (fun i => if i < H.length then some i else (idx i ks).map fun j => H.length + j) β' γ := by
    intro b c e q he
    dsimp only at q
    split at q
    · rename_i hb
      cases q
      rw [hlow b hb]
      exact back b e hb he
    · simp only [Option.map_eq_some_iff] at q
      obtain ⟨j, q1, rfl⟩ := q
      rw [hhigh _ (by omega), Nat.add_sub_cancel_left, idx_get q1]
      exact he
  have hxx : Ext β γ := fun i e q => by rw [hlow i (hS0.dom i e q)]; exact q
  obtain ⟨lA, gA⟩ := renH_get g2
  obtain ⟨lB, gB⟩ := renH_get g3
  obtain ⟨lK, gK⟩ := pickH_get (H := H1) ks
  have lA' : A.length = H.length := by rw [lA, List.length_take]; omega
  have hblk : ∀ (i : Nat) (k : Blk), (A ++ B)[i]? = some (some k) → ∃ (b : Nat) (k0 : Blk), H1[b]? = some (some k0) ∧ k0.ty = k.ty ∧ ren1s (fun i => if i < H.length then some i else (idx i ks).map fun j => H.length + j) k0.cells = some k.cells ∧
      (i < H.length ∧ b = i ∨ ¬ i < H.length ∧ ks[i - H.length]? = some b) := by
    intro i k q
    rcases Nat.lt_or_ge i A.length with hi | hi
    · rw [List.getElem?_append_left hi] at q
      obtain ⟨k0, r1, r2, r3⟩ := gA i k q
      rw [List.getElem?_take] at r1
      split at r1
      · exact ⟨i, k0, r1, r2, r3, .inl ⟨by omega, rfl⟩⟩
      · cases r1
    · rw [List.getElem?_append_right hi] at q
      obtain ⟨k0, r1, r2, r3⟩ := gB _ k q
      obtain ⟨b, s1, s2⟩ := gK _ k0 r1
      rw [lA'] at s1
      exact ⟨b, k0, s2, r2, r3, .inr ⟨by omega, s1⟩⟩
  have hent : ∀ (i b : Nat) (e : Ent), (i < H.length ∧ b = i ∨ ¬ i < H.length ∧ ks[i - H.length]? = some b) → γ i = some e → β' b = some e := by
    intro i b e hc he
    rcases hc with ⟨h1, rfl⟩ | ⟨h1, h2⟩
    · rw [hlow _ h1] at he; exact hx.1 _ _ he
    · rw [hhigh _ h1, h2] at he; exact he
  refine ⟨γ, ⟨hxx, fun x h1 h2 _ => by rw [hlow x h1]; exact h2⟩, ren2_ok hm g1 hv, ⟨?_, hS.below, ?_, ?_, ?_, hS.far, ?_, ?_, ?_, ?_⟩, by simp only [List.length_append]; omega⟩
  · intro i e q
    simp only [List.length_append, lA', lB, lK]
    by_cases hi : i < H.length
    · omega
    · rw [hhigh i hi, Option.bind_eq_some_iff] at q
      obtain ⟨b, q1, _⟩ := q
      have := (List.getElem?_eq_some_iff.1 q1).1
      omega
  · intro i e q
    by_cases hi : i < H.length
    · rw [hlow i hi] at q; exact hS0.bound i e q
    · rw [hhigh i hi, Option.bind_eq_some_iff] at q
      obtain ⟨b, _, q2⟩ := q
      exact hS.bound b e q2
  · intro i k q qo
    obtain ⟨b, k0, r1, r2, r3, r4⟩ := hblk i k q
    obtain ⟨e, cs0, h1, h2, h3, h4, h5, h6⟩ := hS.cells b k0 r1 (by rw [r2]; exact qo)
    obtain ⟨g4, g5⟩ := ren1s_get hm r3
    refine ⟨e, cs0, ?_, by rw [← r2]; exact h2, h3, by rw [← r2]; exact h4, by rw [g4]; exact h5, g5 cs0 h6⟩
    rcases r4 with ⟨s1, rfl⟩ | ⟨s1, s2⟩
    · rw [hlow _ s1]; exact back _ _ s1 h1
    · rw [hhigh _ s1, s2]; exact h1
  · intro i j e d b c qb qc he hd hed
    obtain ⟨b', k0, r1, _, _, r4⟩ := hblk i b qb
    obtain ⟨c', k1, s1, _, _, s4⟩ := hblk j c qc
    have e1 := hent i b' e r4 he
    have e2 := hent j c' d s4 hd
    have := hS.inj b' c' e d k0 k1 r1 s1 e1 e2 hed
    subst this
    have kb : ∀ (x : Nat), ks[x]? = some b' → ¬ b' < H.length := by
      intro x hx2
      have := hge b' (List.mem_of_getElem? hx2)
      simp only [decide_eq_true_eq] at this
      omega
    rcases r4 with ⟨a1, rfl⟩ | ⟨a1, a2⟩ <;> rcases s4 with ⟨b1, b2⟩ | ⟨b1, b2⟩
    · omega
    · exact absurd a1 (kb _ b2)
    · subst b2; exact absurd b1 (kb _ a2)
    · have := nodupB_get hnd _ _ _ a2 b2
      omega
  · intro i k s q hm'
    obtain ⟨b, k0, r1, r2, r3, r4⟩ := hblk i k q
    obtain ⟨e, cs0, h1, h2, h3⟩ := hS.lists b k0 s r1 (by rw [r2]; exact hm')
    refine ⟨e, cs0, ?_, by rw [← r2]; exact h2, h3⟩
    rcases r4 with ⟨s1, rfl⟩ | ⟨s1, s2⟩
    · rw [hlow _ s1]; exact back _ _ s1 h1
    · rw [hhigh _ s1, s2]; exact h1
  · intro i e q
    by_cases hi : i < H.length
    · rw [hlow i hi] at q; exact hS0.new i e q
    · rw [hhigh i hi, Option.bind_eq_some_iff] at q
      obtain ⟨b, _, q2⟩ := q
      exact hS.new b e q2
  · intro i e q
    by_cases hi : i < H.length
    · rw [hlow i hi] at q; exact hS.cap i e (hx.1 _ _ q)
    · rw [hhigh i hi, Option.bind_eq_some_iff] at q
      obtain ⟨b, _, q2⟩ := q
      exact hS.cap b e q2
  · intro i k q qo
    obtain ⟨b, k0, r1, r2, r3, r4⟩ := hblk i k q
    obtain ⟨e, o, h1, h2, h3⟩ := hS.objs b k0 r1 (by rw [r2]; exact qo)
    refine ⟨e, o, ?_, h2, h3.moves hm r2 r3⟩
    rcases r4 with ⟨s1, rfl⟩ | ⟨s1, s2⟩
    · rw [hlow _ s1]; exact back _ _ s1 h1
    · rw [hhigh _ s1, s2]; exact h1
theorem gc_len {H H1 : Heap} {v : Value} {r : Value × Heap} (h : gc H v H1 = some r) : H.length ≤ r.2.length := by
  unfold gc at h
  simp only at h
  rw [Option.ite_none_right_eq_some] at h
  obtain ⟨h0, h⟩ := h
  rw [Bool.and_eq_true, decide_eq_true_eq] at h0
  simp only [Option.bind_eq_some_iff, Option.some.injEq] at h
  obtain ⟨u, g1, A, g2, B, g3, rfl⟩ := h
  have := (renH_get g2).1
  rw [List.length_take] at this
  simp only [List.length_append]
  omega

/-! a call sees the blocks that its arguments reach, and no others -/
def ren2s (f : Nat → Option Nat) : List Value → Option (List Value)
  | [] => some []
  | v :: r => (ren2 f v).bind fun u => (ren2s f r).bind fun us => some (u :: us)
def wbGo (ks : List Nat) (bs : Heap) : Nat → Heap → Heap
  | _, [] => []
  | j, b :: r => (match idx j ks with | some i => (match getN bs i with | some c => c | none => none) | none => b) :: wbGo ks bs (j + 1) r
def alive (H : Heap) (k : Nat) : Bool :=
  match getN H k with
  | some (some _) => true
  | _ => false
def herm (call : FuncId → List Value → Heap → Option (Value × Heap)) (g : FuncId) (args : List Value) (H : Heap) : Option (Value × Heap) :=
  let ks := reach 0 H 1000 (args.flatMap ids2) []
  let k := ks.length
  if nodupB ks && ks.all (alive H) then
    (ren2s (fun i => idx i ks) args).bind fun as => (renH (fun i => idx i ks) (pickH H ks)).bind fun Hs => (call g as Hs).bind fun r =>
      let b := fun i => if i < k then getN ks i else some (H.length + (i - k))
      if k ≤ r.2.length then
        (ren2 b r.1).bind fun v => (renH b r.2).bind fun H2 => some (v, wbGo ks (H2.take k) 0 H ++ H2.drop k)
      else none
  else none
theorem ren2s_ok {f : Nat → Option Nat} {β γ : Names} (hf : Moves f β γ) : ∀ (l u l' : List Value), ren2s f l = some u → RelL ρ β l l' → RelL ρ γ u l' := by
  intro l
  induction l with
  | nil =>
    intro u l' h hl
    cases h
    exact ⟨hl.1, fun i v v' q => by simp at q⟩
  | cons v r ih =>
    intro u l' h hl
    simp only [ren2s, Option.bind_eq_some_iff, Option.some.injEq] at h
    obtain ⟨x, h1, us, h2, rfl⟩ := h
    match l', hl with
    | v' :: r', hl =>
      have h3 := ih us r' h2 ⟨by simpa using hl.1, fun i a b qa qb => hl.2 (i + 1) a b (by simpa using qa) (by simpa using qb)⟩
      refine ⟨by simpa using h3.1, fun i a b qa qb => ?_⟩
      cases i with
      | zero => simp at qa qb; subst qa; subst qb; exact ren2_ok hf h1 (hl.2 0 _ _ rfl rfl)
      | succ i => simp only [List.getElem?_cons_succ] at qa qb; exact h3.2 i a b qa qb
    | [], hl => exact absurd hl.1 (by simp)
theorem wbGo_get (ks : List Nat) (bs : Heap) : ∀ (H : Heap) (s j : Nat), (wbGo ks bs s H).length = H.length ∧
    (wbGo ks bs s H)[j]? = (H[j]?).map fun b => (match idx (s + j) ks with | some i => (match getN bs i with | some c => c | none => none) | none => b) := by
  intro H
  induction H with
  | nil => intro s j; simp [wbGo]
  | cons b r ih =>
    intro s j
    refine ⟨by simp [wbGo, (ih (s + 1) 0).1], ?_⟩
    cases j with
    | zero => simp [wbGo]
    | succ j =>
      simp only [wbGo, List.getElem?_cons_succ]
      rw [(ih (s + 1) j).2, show s + 1 + j = s + (j + 1) by omega]
theorem idx_some {i : Nat} : ∀ {l : List Nat}, i ∈ l → ∃ j, idx i l = some j := by
  intro l
  induction l with
  | nil => intro h; cases h
  | cons k r ih =>
    intro h
    simp only [idx]
    split
    · exact ⟨0, rfl⟩
    · rename_i hk
      rcases List.mem_cons.1 h with rfl | h
      · simp at hk
      · obtain ⟨j, hj⟩ := ih h; exact ⟨j + 1, by rw [hj]; rfl⟩
theorem alive_eq {H : Heap} {k : Nat} (h : alive H k = true) : ∃ b, H[k]? = some (some b) := by
  unfold alive at h
  split at h
  · rename_i b hb; rw [getN_eq] at hb; exact ⟨b, hb⟩
  · cases h
theorem herm_ok {P : Program} {w0 : Base} {w : World} {β : Names} {H : Heap} {call : FuncId → List Value → Heap → Option (Value × Heap)} {g : FuncId} {args args' : List Value} {r : Value × Heap}
    (hc : ∀ (w0 : Base) (f : FuncId) (args : List Value) (H : Heap) (v : Value) (H1 : Heap), call f args H = some (v, H1) → ∀ (β : Names) (w : World) (args' : List Value), Sim ρ P w0 β H w → RelL ρ β args args' →
      Calls P f args'.toArray w fun e w' => ∃ v' β', e = .returned v' ∧ Keep H none β β' ∧ Rel ρ β' v v' ∧ Sim ρ P w0 β' H1 w')
    (hS : Sim ρ P w0 β H w) (hA : RelL ρ β args args') (h : herm call g args H = some r) :
    Calls P g args'.toArray w fun e w' => ∃ v' β', e = .returned v' ∧ Keep H none β β' ∧ Rel ρ β' r.1 v' ∧ Sim ρ P w0 β' r.2 w' := by
  unfold herm at h
  simp only at h
  generalize reach 0 H 1000 (args.flatMap ids2) [] = ks at h
  rw [Option.ite_none_right_eq_some, Bool.and_eq_true, List.all_eq_true] at h
  obtain ⟨⟨hnd, hal⟩, h⟩ := h
  simp only [Option.bind_eq_some_iff, Option.ite_none_right_eq_some, Option.some.injEq] at h
  obtain ⟨as, g1, Hs, g2, ⟨v1, H1⟩, g3, g4, v, g5, H2, g6, rfl⟩ := h
  simp only at g4 g5 g6
  let βs : Names := fun i => (ks[i]?).bind β
  let D : List Nat := ks.filterMap fun k => (β k).map (·.blk)
  have hm : Moves (fun i => idx i ks) β βs := by
    intro b c e q he
    show (ks[c]?).bind β = some e
    rw [idx_get q]; exact he
  obtain ⟨l2, q2⟩ := renH_get g2
  obtain ⟨lK, gK⟩ := pickH_get (H := H) ks
  have memD : ∀ (i : Nat) (e : Ent), βs i = some e → e.blk ∈ D := by
    intro i e q
    obtain ⟨k, h1, h2⟩ := Option.bind_eq_some_iff.1 q
    exact List.mem_filterMap.2 ⟨k, List.mem_of_getElem? h1, by rw [h2]; rfl⟩
  have ofD : ∀ (x : Nat), x ∈ D → ∃ (k : Nat) (e : Ent) (b : Blk), k ∈ ks ∧ β k = some e ∧ e.blk = x ∧ H[k]? = some (some b) := by
    intro x hx
    obtain ⟨k, h1, h2⟩ := List.mem_filterMap.1 hx
    obtain ⟨e, h3, rfl⟩ := Option.map_eq_some_iff.1 h2
    obtain ⟨b, hb⟩ := alive_eq (hal k h1)
    exact ⟨k, e, b, h1, h3, rfl, hb⟩
  have hSs : Sim ρ P ⟨w, D⟩ βs Hs w := by
    refine ⟨fun i e q => ?_, Fr.refl _ _, fun i e q => .inr (memD i e q), fun i k q qo => ?_, fun i j e d b c qb qc he hd hed => ?_, hS.far, fun i k s q hm' => ?_, fun i e q => ?_, fun i e q => ?_, fun i k q qo => ?_⟩
    · obtain ⟨k, h1, _⟩ := Option.bind_eq_some_iff.1 q
      have := (List.getElem?_eq_some_iff.1 h1).1
      omega
    · obtain ⟨k0, r1, r2, r3⟩ := q2 i k q
      obtain ⟨b, s1, s2⟩ := gK i k0 r1
      obtain ⟨e, cs0, t1, t2, t3, t4, t5, t6⟩ := hS.cells b k0 s2 (by rw [r2]; exact qo)
      obtain ⟨g7, g8⟩ := ren1s_get (ρ := ρ) hm r3
      exact ⟨e, cs0, by show (ks[i]?).bind β = some e; rw [s1]; exact t1, by rw [← r2]; exact t2, t3, by rw [← r2]; exact t4, by rw [g7]; exact t5, g8 cs0 t6⟩
    · obtain ⟨k0, r1, _, _⟩ := q2 i b qb
      obtain ⟨x, s1, s2⟩ := gK i k0 r1
      obtain ⟨k1, r1', _, _⟩ := q2 j c qc
      obtain ⟨y, s1', s2'⟩ := gK j k1 r1'
      have e1 : β x = some e := by have : (ks[i]?).bind β = some e := he; rwa [s1] at this
      have e2 : β y = some d := by have : (ks[j]?).bind β = some d := hd; rwa [s1'] at this
      have := hS.inj x y e d k0 k1 s2 s2' e1 e2 hed
      subst this
      exact nodupB_get hnd _ _ _ s1 s1'
    · obtain ⟨k0, r1, r2, r3⟩ := q2 i k q
      obtain ⟨b, s1, s2⟩ := gK i k0 r1
      obtain ⟨e, cs0, t1, t2, t3⟩ := hS.lists b k0 s s2 (by rw [r2]; exact hm')
      exact ⟨e, cs0, by show (ks[i]?).bind β = some e; rw [s1]; exact t1, by rw [← r2]; exact t2, t3⟩
    · obtain ⟨k, _, h2⟩ := Option.bind_eq_some_iff.1 q
      exact hS.new k e h2
    · obtain ⟨k, _, h2⟩ := Option.bind_eq_some_iff.1 q
      exact hS.cap k e h2
    · obtain ⟨k0, r1, r2, r3⟩ := q2 i k q
      obtain ⟨b, s1, s2⟩ := gK i k0 r1
      obtain ⟨e, o, t1, t2, t3⟩ := hS.objs b k0 s2 (by rw [r2]; exact qo)
      exact ⟨e, o, by show (ks[i]?).bind β = some e; rw [s1]; exact t1, t2, t3.moves hm r2 r3⟩
  have hAs := ren2s_ok hm _ _ _ g1 hA
  refine (hc ⟨w, D⟩ g as Hs v1 H1 g3 βs w args' hSs hAs).mono ?_
  rintro e w' ⟨v', β2, rfl, k1, k2, k3⟩
  let γ : Names := fun j => if j < H.length then β j else β2 (j - H.length + ks.length)
  have hlow : ∀ j, j < H.length → γ j = β j := fun j hj => if_pos hj
  have hhigh : ∀ j, ¬ j < H.length → γ j = β2 (j - H.length + ks.length) := fun j hj => if_neg hj
  have hxx : Ext β γ := fun i e q => by rw [hlow i (hS.dom i e q)]; exact q
  have hb0 : ∀ (i c : Nat) (e : Ent), ks[i]? = some c → β2 i = some e → β c = some e := by
    intro i c e hi he
    have hlt : i < Hs.length := by have := (List.getElem?_eq_some_iff.1 hi).1; omega
    have hbs : βs i = β c := by show (ks[i]?).bind β = β c; rw [hi]; rfl
    cases q : β c with
    | none => rw [k1.2 i hlt (by rw [hbs]; exact q) (by simp)] at he; cases he
    | some d => rw [k1.1 i d (by rw [hbs]; exact q)] at he; exact he
  have hmb : Moves (fun i => if i < ks.length then getN ks i else some (H.length + (i - ks.length))) β2 γ := by
    intro i c e q he
    dsimp only at q
    split at q
    · rw [getN_eq] at q
      have := hb0 i c e q he
      rw [hlow c (hS.dom c e this)]
      exact this
    · cases q
      rw [hhigh _ (by omega), show H.length + (i - ks.length) - H.length + ks.length = i by omega]
      exact he
  obtain ⟨l6, q6⟩ := renH_get g6
  have origin : ∀ (j : Nat) (b : Blk), (wbGo ks (H2.take ks.length) 0 H ++ H2.drop ks.length)[j]? = some (some b) →
      (j < H.length ∧ j ∉ ks ∧ H[j]? = some (some b)) ∨ (∃ i, H2[i]? = some (some b) ∧ ((j < H.length ∧ ks[i]? = some j) ∨ (¬ j < H.length ∧ i = j - H.length + ks.length))) := by
    intro j b q
    have hwl := (wbGo_get ks (H2.take ks.length) H 0 0).1
    rcases Nat.lt_or_ge j H.length with hj | hj
    · rw [List.getElem?_append_left (by rw [hwl]; exact hj), (wbGo_get ks _ H 0 j).2, Nat.zero_add] at q
      cases hi : idx j ks with
      | none =>
        rw [hi] at q
        simp only [Option.map_eq_some_iff] at q
        obtain ⟨b0, q1, rfl⟩ := q
        refine .inl ⟨hj, fun hm => ?_, q1⟩
        obtain ⟨x, hx⟩ := idx_some hm
        rw [hi] at hx; cases hx
      | some i =>
        rw [hi] at q
        simp only [Option.map_eq_some_iff] at q
        obtain ⟨b0, q1, q2⟩ := q
        have hki := idx_get hi
        have hik := (List.getElem?_eq_some_iff.1 hki).1
        refine .inr ⟨i, ?_, .inl ⟨hj, hki⟩⟩
        rw [getN_eq, List.getElem?_take, if_pos hik] at q2
        split at q2
        · rename_i c hc2; rw [hc2, q2]
        · cases q2
    · rw [List.getElem?_append_right (by rw [hwl]; exact hj), hwl, List.getElem?_drop] at q
      exact .inr ⟨_, q, .inr ⟨by omega, by omega⟩⟩
  have ent : ∀ (j i : Nat) (e : Ent), ((j < H.length ∧ ks[i]? = some j) ∨ (¬ j < H.length ∧ i = j - H.length + ks.length)) → β2 i = some e → γ j = some e := by
    intro j i e hc he
    rcases hc with ⟨h1, h2⟩ | ⟨h1, h2⟩
    · rw [hlow j h1]; exact hb0 i j e h2 he
    · rw [hhigh j h1, ← h2]; exact he
  have far : ∀ (j : Nat) (b : Blk) (e : Ent), j ∉ ks → H[j]? = some (some b) → β j = some e → e.blk ∉ D ∧ e.blk < w.heap.size := by
    intro j b e hj hb he
    refine ⟨fun hx => ?_, ?_⟩
    · obtain ⟨k, d, c, h1, h2, h3, h4⟩ := ofD _ hx
      have := hS.inj j k e d b c hb h4 he h2 h3.symm
      subst this
      exact hj h1
    · exact hS.cap j e he
  have own : ∀ (i : Nat) (e : Ent), β2 i = some e → w0.w.heap.size ≤ e.blk ∨ e.blk ∈ w0.D := by
    intro i e he
    rcases k3.bound i e he with hh | hh
    · exact .inl (Nat.le_trans hS.below.size hh)
    · obtain ⟨k, d, c, h1, h2, h3, h4⟩ := ofD _ hh
      rw [← h3]; exact hS.bound k d h2
  refine ⟨v', γ, rfl, ⟨hxx, fun x h1 h2 _ => by rw [hlow x h1]; exact h2⟩, ren2_ok hmb g5 k2, ?_, ?_, ?_, ?_, ?_, k3.far, ?_, ?_, ?_, ?_⟩
  · intro j e q
    have hwl := (wbGo_get ks (H2.take ks.length) H 0 0).1
    simp only [List.length_append, hwl, List.length_drop, l6]
    by_cases hj : j < H.length
    · omega
    · rw [hhigh j hj] at q
      have := k3.dom _ _ q
      omega
  · have hf := hS.below
    have hf2 := k3.below
    refine ⟨hf2.os.trans hf.os, hf2.tape.trans hf.tape, hf2.output.trans hf.output, Nat.le_trans hf.size hf2.size, fun k h1 h2 => ?_⟩
    refine (hf2.block k (Nat.lt_of_lt_of_le h1 hf.size) fun hx => ?_).trans (hf.block k h1 h2)
    obtain ⟨x, d, c, y1, y2, y3, y4⟩ := ofD _ hx
    rcases hS.bound x d y2 with y | y
    · omega
    · rw [y3] at y; exact h2 y
  · intro j e q
    by_cases hj : j < H.length
    · rw [hlow j hj] at q; exact hS.bound j e q
    · rw [hhigh j hj] at q; exact own _ e q
  · intro j b q qo
    rcases origin j b q with ⟨h1, h2, h3⟩ | ⟨i, h1, h2⟩
    · obtain ⟨e, cs0, t1, t2, t3, t4, t5, t6⟩ := hS.cells j b h3 qo
      obtain ⟨f1, f2⟩ := far j b e h2 h3 t1
      exact ⟨e, cs0, hxx _ _ t1, (k3.below.block e.blk f2 f1).trans t2, t3, t4, t5, fun k v hk => by obtain ⟨u, hu, hr⟩ := t6 k v hk; exact ⟨u, hu, hr.mono hxx⟩⟩
    · obtain ⟨b0, r1, r2, r3⟩ := q6 i b h1
      obtain ⟨e, cs0, t1, t2, t3, t4, t5, t6⟩ := k3.cells i b0 r1 (by rw [r2]; exact qo)
      obtain ⟨g7, g8⟩ := ren1s_get (ρ := ρ) hmb r3
      exact ⟨e, cs0, ent j i e h2 t1, by rw [← r2]; exact t2, t3, by rw [← r2]; exact t4, by rw [g7]; exact t5, g8 cs0 t6⟩
  · intro j k e d b c qb qc he hd hed
    have ent2 : ∀ (j i : Nat) (b : Blk) (e : Ent), ((j < H.length ∧ ks[i]? = some j) ∨ (¬ j < H.length ∧ i = j - H.length + ks.length)) → H2[i]? = some (some b) → γ j = some e → ∃ b0, H1[i]? = some (some b0) ∧ β2 i = some e := by
      intro j i b e hc hb he
      obtain ⟨b0, r1, _, _⟩ := q6 i b hb
      obtain ⟨e', t1⟩ := k3.named i b0 r1
      have := ent j i e' hc t1
      rw [he] at this
      cases this
      exact ⟨b0, r1, t1⟩
    rcases origin j b qb with ⟨h1, h2, h3⟩ | ⟨i, h1, h2⟩ <;> rcases origin k c qc with ⟨m1, m2, m3⟩ | ⟨i', m1, m2⟩
    · rw [hlow j h1] at he; rw [hlow k m1] at hd
      exact hS.inj j k e d b c h3 m3 he hd hed
    · rw [hlow j h1] at he
      obtain ⟨f1, f2⟩ := far j b e h2 h3 he
      obtain ⟨_, _, n2⟩ := ent2 k i' c d m2 m1 hd
      rcases k3.bound i' d n2 with y | y
      · simp only at y; omega
      · exact absurd (hed ▸ y) f1
    · rw [hlow k m1] at hd
      obtain ⟨f1, f2⟩ := far k c d m2 m3 hd
      obtain ⟨_, _, n2⟩ := ent2 j i b e h2 h1 he
      rcases k3.bound i e n2 with y | y
      · simp only at y; omega
      · exact absurd (hed ▸ y) f1
    · obtain ⟨b0, n1, n2⟩ := ent2 j i b e h2 h1 he
      obtain ⟨c0, n3, n4⟩ := ent2 k i' c d m2 m1 hd
      have := k3.inj i i' e d b0 c0 n1 n3 n2 n4 hed
      subst this
      rcases h2 with ⟨x1, x2⟩ | ⟨x1, x2⟩ <;> rcases m2 with ⟨y1, y2⟩ | ⟨y1, y2⟩
      · rw [x2] at y2; exact Option.some.inj y2
      · have := (List.getElem?_eq_some_iff.1 x2).1; omega
      · have := (List.getElem?_eq_some_iff.1 y2).1; omega
      · omega
  · intro j b s q hm'
    rcases origin j b q with ⟨h1, h2, h3⟩ | ⟨i, h1, h2⟩
    · obtain ⟨e, cs0, t1, t2, t3⟩ := hS.lists j b s h3 hm'
      obtain ⟨f1, f2⟩ := far j b e h2 h3 t1
      exact ⟨e, cs0, hxx _ _ t1, (k3.below.block e.blk f2 f1).trans t2, t3⟩
    · obtain ⟨b0, r1, r2, r3⟩ := q6 i b h1
      obtain ⟨e, cs0, t1, t2, t3⟩ := k3.lists i b0 s r1 (by rw [r2]; exact hm')
      exact ⟨e, cs0, ent j i e h2 t1, by rw [← r2]; exact t2, t3⟩
  · intro j e q
    by_cases hj : j < H.length
    · rw [hlow j hj] at q; exact hS.new j e q
    · rw [hhigh j hj] at q; exact k3.new _ e q
  · intro j e q
    by_cases hj : j < H.length
    · rw [hlow j hj] at q; exact Nat.lt_of_lt_of_le (hS.cap j e q) k3.below.size
    · rw [hhigh j hj] at q; exact k3.cap _ e q
  · intro j b q qo
    rcases origin j b q with ⟨h1, h2, h3⟩ | ⟨i, h1, h2⟩
    · obtain ⟨e, o, t1, t2, t3⟩ := hS.objs j b h3 qo
      obtain ⟨f1, f2⟩ := far j b e h2 h3 t1
      exact ⟨e, o, hxx _ _ t1, (k3.below.block e.blk f2 f1).trans t2, t3.mono hxx⟩
    · obtain ⟨b0, r1, r2, r3⟩ := q6 i b h1
      obtain ⟨e, o, t1, t2, t3⟩ := k3.objs i b0 r1 (by rw [r2]; exact qo)
      exact ⟨e, o, ent j i e h2 t1, t2, t3.moves hmb r2 r3⟩
theorem herm_len {call : FuncId → List Value → Heap → Option (Value × Heap)} {g : FuncId} {args : List Value} {H : Heap} {r : Value × Heap} (h : herm call g args H = some r) : H.length ≤ r.2.length := by
  unfold herm at h
  simp only at h
  rw [Option.ite_none_right_eq_some] at h
  obtain ⟨_, h⟩ := h
  simp only [Option.bind_eq_some_iff, Option.ite_none_right_eq_some, Option.some.injEq] at h
  obtain ⟨as, _, Hs, _, r1, _, _, v, _, H2, _, rfl⟩ := h
  simp only [List.length_append]
  rw [(wbGo_get _ _ H 0 0).1]
  omega
end
end Go.Proofs.Ytapcooolainmdaa.Ev
