/- Calls that are handed a list of points of a run's own. -/
import Derived.Test.YtapcooolainmdaaSlK
namespace Go.Proofs.Ytapcooolainmdaa.Ev
open Go.RowKit
set_option linter.unusedVariables false
set_option linter.unusedSimpArgs false
variable {ρ : Env} {P : Program}
theorem relL_app {β : Names} {l1 : List Value} {s : Value} {l2 args' : List Value} (h1 : l1.all af = true) (h2 : l2.all af = true) (h : RelL ρ β (l1 ++ s :: l2) args') : ∃ s', Rel ρ β s s' ∧ args' = l1.map (inst ρ) ++ s' :: l2.map (inst ρ) := by
  obtain ⟨hl, hr⟩ := h
  induction l1 generalizing args' with
  | nil =>
    cases args' with
    | nil => simp at hl
    | cons s' r =>
      refine ⟨s', hr 0 s s' rfl rfl, ?_⟩
      have hl2 : r.length = l2.length := by simpa using hl.symm
      have : r = l2.map (inst ρ) := by
        apply List.ext_getElem?
        intro i
        rw [List.getElem?_map]
        cases g : l2[i]? with
        | none =>
          rw [List.getElem?_eq_none_iff] at g
          rw [Option.map_none, List.getElem?_eq_none_iff]; omega
        | some u =>
          have hi : i < r.length := by have := (List.getElem?_eq_some_iff.1 g).1; omega
          have e := hr (i + 1) u (r[i]) (by simpa using g) (by simp [List.getElem?_eq_getElem hi])
          rw [Option.map_some, List.getElem?_eq_getElem hi, e.af_eq (List.all_eq_true.1 h2 u (List.mem_of_getElem? g))]
      rw [this]; rfl
  | cons x l1 ih =>
    cases args' with
    | nil => simp at hl
    | cons y r =>
      simp only [List.all_cons, Bool.and_eq_true] at h1
      obtain ⟨s', q1, q2⟩ := ih (args' := r) h1.2 (by simpa using hl) (fun i v v' a b => hr (i + 1) v v' (by simpa using a) (by simpa using b))
      have e := hr 0 x y rfl rfl
      refine ⟨s', q1, ?_⟩
      rw [q2, e.af_eq h1.1]; rfl
/-- a call with a slice of the run's own among its arguments -/
theorem memo_own {f : FuncId} {b n cap e t t2 : Nat} {fs : Array Field} {cells : List Value} {H : Heap} {X Y : Nat → Int} {l1 l2 : List Value} {v v' : Value} {R : Option Addr → Nat → Array Value}
    (hb : H[b]? = some (some ⟨cells, e⟩)) (hno : isObj e = false) (haf : cells.all af = true) (hX : ∀ i, i < n → (cells[i * 2]?).map (inst ρ) = some (.int .i64 (X i)) ∧ (cells[i * 2 + 1]?).map (inst ρ) = some (.int .i64 (Y i)))
    (ht : P.underlying t = some (.slice e)) (ht2 : P.underlying t2 = some (.slice e)) (he : P.underlying e = some (.struct fs)) (hinf : (P.info? e).map TypeInfo.size = some 2)
    (h1 : l1.all af = true) (h2 : l2.all af = true) (hv : af v = true) (hv' : inst ρ v = v') (hR : ∀ A c', (l1.map (inst ρ) ++ .slice A n c' :: l2.map (inst ρ)).toArray = R A c')
    (h : ∀ (w : World) (A : Option Addr) (c' : Nat) (ptr : Nat → Addr), Below ρ.w.heap.size ρ.w w → Sl P w (.slice A n c') n t2 e (fun k => .agg #[.int .i64 (X k), .int .i64 (Y k)]) ptr → Sl P w (.slice A n c') n t e (fun k => .agg #[.int .i64 (X k), .int .i64 (Y k)]) ptr → Cl w n X Y ptr →
      Calls P f (R A c') w fun en w' => en = .returned v' ∧ Below w.heap.size w w') : MemoE ρ P (f, l1 ++ .slice (some ⟨b, 0, none⟩) n cap :: l2, H, v, H) :=
  memo_below hv fun w0 β w args' hS hA => by
    obtain ⟨s', q1, rfl⟩ := relL_app h1 h2 hA
    obtain ⟨A, c', ptr, rfl, g1, g2, g3⟩ := own_sl hS hb hno haf hX ht ht2 he hinf q1
    rw [hR, hv']
    exact h w A c' ptr hS.far g1 g2 g3
/-- .. or in the first field of a struct -/
theorem memo_ownA {f : FuncId} {b n cap e t t2 : Nat} {fs : Array Field} {cells : List Value} {H : Heap} {X Y : Nat → Int} {l1 l2 ls : List Value} {v v' : Value} {R : Option Addr → Nat → Array Value}
    (hb : H[b]? = some (some ⟨cells, e⟩)) (hno : isObj e = false) (haf : cells.all af = true) (hX : ∀ i, i < n → (cells[i * 2]?).map (inst ρ) = some (.int .i64 (X i)) ∧ (cells[i * 2 + 1]?).map (inst ρ) = some (.int .i64 (Y i)))
    (ht : P.underlying t = some (.slice e)) (ht2 : P.underlying t2 = some (.slice e)) (he : P.underlying e = some (.struct fs)) (hinf : (P.info? e).map TypeInfo.size = some 2)
    (h1 : l1.all af = true) (h2 : l2.all af = true) (h3 : ls.all af = true) (hv : af v = true) (hv' : inst ρ v = v') (hR : ∀ A c', (l1.map (inst ρ) ++ .agg (.slice A n c' :: ls.map (inst ρ)).toArray :: l2.map (inst ρ)).toArray = R A c')
    (h : ∀ (w : World) (A : Option Addr) (c' : Nat) (ptr : Nat → Addr), Below ρ.w.heap.size ρ.w w → Sl P w (.slice A n c') n t2 e (fun k => .agg #[.int .i64 (X k), .int .i64 (Y k)]) ptr → Sl P w (.slice A n c') n t e (fun k => .agg #[.int .i64 (X k), .int .i64 (Y k)]) ptr → Cl w n X Y ptr →
      Calls P f (R A c') w fun en w' => en = .returned v' ∧ Below w.heap.size w w') : MemoE ρ P (f, l1 ++ .agg (.slice (some ⟨b, 0, none⟩) n cap :: ls).toArray :: l2, H, v, H) :=
  memo_below hv fun w0 β w args' hS hA => by
    obtain ⟨s', q1, rfl⟩ := relL_app h1 h2 hA
    obtain ⟨cs', rfl, hc⟩ := q1.agg_inv (cs := .slice (some ⟨b, 0, none⟩) n cap :: ls) rfl
    have hA' : RelL ρ β ([] ++ .slice (some ⟨b, 0, none⟩) n cap :: ls) cs'.toList := hc
    obtain ⟨u, q2, e2⟩ := relL_app rfl h3 hA'
    obtain ⟨lc⟩ := cs'
    simp only at e2
    subst e2
    obtain ⟨A, c', ptr, rfl, g1, g2, g3⟩ := own_sl hS hb hno haf hX ht ht2 he hinf q2
    have e := hR A c'
    simp only [List.map_nil, List.nil_append] at e ⊢
    rw [e, hv']
    exact h w A c' ptr hS.far g1 g2 g3
end Go.Proofs.Ytapcooolainmdaa.Ev
