/- A list of points of unknown length that a run has built itself is a slice that can be read, for the functions that it is handed to. -/
import Derived.Test.YtapcooolainmdaaSlM
namespace Go.Proofs.Ytapcooolainmdaa.Ev
open Go.RowKit
set_option linter.unusedVariables false
set_option linter.unusedSimpArgs false
variable {ρ : Env} {P : Program}
/-- the cells of the first points -/
def ptL (X Y : Nat → Int) : Nat → List Value
  | 0 => []
  | n + 1 => ptL X Y n ++ [.int .i64 (X n), .int .i64 (Y n)]
theorem ptL_len (X Y : Nat → Int) : ∀ n, (ptL X Y n).length = 2 * n
  | 0 => rfl
  | n + 1 => by simp [ptL, ptL_len X Y n]; omega
theorem ptL_get (X Y : Nat → Int) (n i : Nat) (h : i < n) : (ptL X Y n)[i * 2]? = some (.int .i64 (X i)) ∧ (ptL X Y n)[i * 2 + 1]? = some (.int .i64 (Y i)) := by
  induction n with
  | zero => omega
  | succ n ih =>
    have hl := ptL_len X Y n
    rcases Nat.lt_or_ge i n with g | g
    · obtain ⟨h1, h2⟩ := ih g
      exact ⟨by show (ptL X Y n ++ _)[i * 2]? = _; rw [List.getElem?_append_left (by omega)]; exact h1, by show (ptL X Y n ++ _)[i * 2 + 1]? = _; rw [List.getElem?_append_left (by omega)]; exact h2⟩
    · have e : i = n := by omega
      subst e
      exact ⟨by show (ptL X Y i ++ _)[i * 2]? = _; rw [List.getElem?_append_right (by omega), show i * 2 - (ptL X Y i).length = 0 from by omega]; rfl, by show (ptL X Y i ++ _)[i * 2 + 1]? = _; rw [List.getElem?_append_right (by omega), show i * 2 + 1 - (ptL X Y i).length = 1 from by omega]; rfl⟩
theorem lst_sl {w0 : Base} {β : Names} {w : World} {H : Heap} (hS : Sim ρ P w0 β H w) {b n s e : Nat} {X Y : Nat → Int} (hb : H[b]? = some (some ⟨[], listTy s e⟩)) (he0 : e < 1048576) (hs0 : s < 1099511627776)
    (hl : ρ.lst s = ptL X Y n)
    {t t2 : TypeId} {fs : Array Field} (ht : P.underlying t = some (.slice e)) (ht2 : P.underlying t2 = some (.slice e)) (he : P.underlying e = some (.struct fs)) (hinf : (P.info? e).map TypeInfo.size = some 2)
    {v' : Value} (hr : Rel ρ β (.complex .f32 b (10 + s)) v') :
    ∃ A c', ∃ ptr : Nat → Addr, v' = .slice A n c' ∧ Sl P w (.slice A n c') n t2 e (fun k => .agg #[.int .i64 (X k), .int .i64 (Y k)]) ptr ∧ Sl P w (.slice A n c') n t e (fun k => .agg #[.int .i64 (X k), .int .i64 (Y k)]) ptr ∧ Cl w n X Y ptr := by
  have h10 : Nat.blt (10 + s) 10 = false := by
    cases q : Nat.blt (10 + s) 10 with
    | false => rfl
    | true => simp only [Nat.blt, Nat.ble_eq] at q; omega
  obtain ⟨en, m, c, hen, rfl, ⟨hz, hz2⟩, hn, hc, _, _⟩ := rel_lst hr h10
  rw [Nat.add_sub_cancel_left] at hn hz2
  obtain ⟨r1, r2⟩ := listTy_eq (s := s) he0 hs0
  obtain ⟨inf, hi, hsz⟩ := Option.map_eq_some_iff.1 hinf
  obtain ⟨e1, cs0, q1, q2, q3, q4, _⟩ := hS.cells b _ hb (mark_notObj r2)
  obtain rfl : en = e1 := Option.some.inj (hen.symm.trans q1)
  obtain ⟨e2, cs2, p1, p2, p3⟩ := hS.lists b _ s hb r2
  obtain rfl : en = e2 := Option.some.inj (hen.symm.trans p1)
  simp only [r1] at q2 q4 p2
  have hesz : en.sz = 2 := by rw [q4]; simp [Program.cellsOf, hi, hsz]
  rw [hesz, hl, ptL_len] at hn
  have hmn : m = n := by omega
  subst hmn
  have get : ∀ j u, (ptL X Y m)[j]? = some u → w.cell? ⟨en.blk, j, none⟩ = some u := by
    intro j u hu
    rw [cell_of_row w en.blk j cs2 e (0, 0) p2]
    exact p3 j u (by rw [hl]; exact hu)
  have hadd : ∀ j, (⟨en.blk, 0, none⟩ : Addr).add j = ⟨en.blk, j, none⟩ := fun j => by rw [add_none, Nat.zero_add]
  have hadd2 : ∀ j, (⟨en.blk, j, none⟩ : Addr).add 1 = ⟨en.blk, j + 1, none⟩ := fun j => by rw [add_none]
  have h0 : ∀ i, i < m → w.cell? ((⟨en.blk, 0, none⟩ : Addr).add (i * 2)) = some (.int .i64 (X i)) := fun i hi => by rw [hadd]; exact get _ _ (ptL_get X Y m i hi).1
  have h1 : ∀ i, i < m → w.cell? (((⟨en.blk, 0, none⟩ : Addr).add (i * 2)).add 1) = some (.int .i64 (Y i)) := fun i hi => by rw [hadd, hadd2]; exact get _ _ (ptL_get X Y m i hi).2
  obtain ⟨g1, g2⟩ := sl_of_cells (m := c) ht he hinf h0 h1
  obtain ⟨g3, _⟩ := sl_of_cells (m := c) ht2 he hinf h0 h1
  refine ⟨_, c, _, rfl, g3, g1, ⟨fun i hi w' hw => ?_, fun i hi w' hw => (g2 i hi w' hw).2⟩⟩
  have z : ((⟨en.blk, 0, none⟩ : Addr).add (i * 2)).add 0 = (⟨en.blk, 0, none⟩ : Addr).add (i * 2) := by rw [hadd, add_none, Nat.add_zero]
  show w'.cell? (((⟨en.blk, 0, none⟩ : Addr).add (i * 2)).add 0) = _
  rw [z]; exact (g2 i hi w' hw).1
/-- a call with such a list in the first field of a struct -/
theorem memo_lstA {f : FuncId} {b n s e t t2 : Nat} {fs : Array Field} {H : Heap} {X Y : Nat → Int} {l1 l2 ls : List Value} {v v' : Value} {R : Option Addr → Nat → Array Value}
    (hb : H[b]? = some (some ⟨[], listTy s e⟩)) (he0 : e < 1048576) (hs0 : s < 1099511627776) (hl : ρ.lst s = ptL X Y n)
    (ht : P.underlying t = some (.slice e)) (ht2 : P.underlying t2 = some (.slice e)) (he : P.underlying e = some (.struct fs)) (hinf : (P.info? e).map TypeInfo.size = some 2)
    (h1 : l1.all af = true) (h2 : l2.all af = true) (h3 : ls.all af = true) (hv : af v = true) (hv' : inst ρ v = v') (hR : ∀ A c', (l1.map (inst ρ) ++ .agg (.slice A n c' :: ls.map (inst ρ)).toArray :: l2.map (inst ρ)).toArray = R A c')
    (h : ∀ (w : World) (A : Option Addr) (c' : Nat) (ptr : Nat → Addr), Below ρ.w.heap.size ρ.w w → Sl P w (.slice A n c') n t2 e (fun k => .agg #[.int .i64 (X k), .int .i64 (Y k)]) ptr → Sl P w (.slice A n c') n t e (fun k => .agg #[.int .i64 (X k), .int .i64 (Y k)]) ptr → Cl w n X Y ptr →
      Calls P f (R A c') w fun en w' => en = .returned v' ∧ Below w.heap.size w w') : MemoE ρ P (f, l1 ++ .agg (.complex .f32 b (10 + s) :: ls).toArray :: l2, H, v, H) :=
  memo_below hv fun w0 β w args' hS hA => by
    obtain ⟨s', q1, rfl⟩ := relL_app h1 h2 hA
    obtain ⟨cs', rfl, hc⟩ := q1.agg_inv (cs := .complex .f32 b (10 + s) :: ls) rfl
    have hA' : RelL ρ β ([] ++ .complex .f32 b (10 + s) :: ls) cs'.toList := hc
    obtain ⟨u, q2, e2⟩ := relL_app rfl h3 hA'
    obtain ⟨lc⟩ := cs'
    simp only at e2
    subst e2
    obtain ⟨A, c', ptr, rfl, g1, g2, g3⟩ := lst_sl hS hb he0 hs0 hl ht ht2 he hinf q2
    have e := hR A c'
    simp only [List.map_nil, List.nil_append] at e ⊢
    rw [e, hv']
    exact h w A c' ptr hS.far g1 g2 g3
end Go.Proofs.Ytapcooolainmdaa.Ev
