/- The evaluator's append and copy. -/
import Derived.Test.YtapcooolainmdaaEvB
namespace Go.Proofs.Ytapcooolainmdaa.Ev
noncomputable section
open Go.RowKit
set_option linter.unusedVariables false
set_option linter.unusedSimpArgs false
variable {ρ : Env}
section
variable {P : Program} {w0 : Base} {w : World} {β : Names} {H : Heap}

theorem relL_append {β : Names} {a a' b b' : List Value} (h : RelL ρ β a a') (k : RelL ρ β b b') : RelL ρ β (a ++ b) (a' ++ b') := by
  refine ⟨by simp [h.1, k.1], fun i v v' q q' => ?_⟩
  rcases Nat.lt_or_ge i a.length with hi | hi
  · rw [List.getElem?_append_left hi] at q
    rw [List.getElem?_append_left (h.1 ▸ hi)] at q'
    exact h.2 i v v' q q'
  · rw [List.getElem?_append_right hi] at q
    rw [List.getElem?_append_right (h.1 ▸ hi), ← h.1] at q'
    exact k.2 _ v v' q q'
theorem rel_ones {β : Names} {l l' : List Value} (h : RelL ρ β l l') (h1 : ∀ c ∈ l, c.oneCell' = true) : ∀ c ∈ l', c.oneCell' = true := by
  intro v' hm
  obtain ⟨i, hi⟩ := List.getElem?_of_mem hm
  have hlt : i < l.length := h.1 ▸ (List.getElem?_eq_some_iff.1 hi).1
  exact (h.2 i _ _ (List.getElem?_eq_getElem hlt) hi).oneCell (h1 _ (List.getElem_mem hlt))
theorem splice_rel {b : Nat} {k : Blk} (hS : Sim ρ P w0 β H w) (hb : H[b]? = some (some k)) {e : Ent} (he : β b = some e) (cs' : Array Value)
    (hsm : realTy k.ty = k.ty ∧ markOf k.ty = none) (hno : isObj k.ty = false) (hw : w.heap[e.blk]? = some (.cells cs' k.ty (0, 0))) (o : Nat) (vs vs' : List Value) (hv : RelL ρ β vs vs') (cs : List Value)
    (hn : o + vs.length ≤ cs'.size) (hcs : ∀ (j : Nat) (v : Value), cs[j]? = some v → (splice k.cells o vs)[j]? = some v ∨ (j < o ∧ k.cells[j]? = some v) ∨ (o ≤ j ∧ vs[j - o]? = some v)) (hl : cs.length ≤ cs'.size)
    (hn2 : o + vs.length ≤ k.cells.length ∨ ∀ (j : Nat) (v : Value), cs[j]? = some v → (j < o ∧ k.cells[j]? = some v) ∨ (o ≤ j ∧ vs[j - o]? = some v)) :
    Sim ρ P w0 β (H.set b (some ⟨cs, k.ty⟩)) (w.setRow e.blk (cs'.toList.take o ++ vs' ++ cs'.toList.drop (o + vs'.length)).toArray) := by
  obtain ⟨e', cs0, q1, q2, q3, q4, q5, q6⟩ := hS.cells b k hb hno
  rw [hsm.1] at q2 q4
  obtain rfl : e = e' := Option.some.inj (he.symm.trans q1)
  have : cs0 = cs' := by
    have := q2.symm.trans hw
    simp only [Option.some.injEq, Obj.cells.injEq] at this
    exact this.1
  subst this
  have hlen' : o + vs'.length ≤ cs0.toList.length := by have := Array.length_toList (xs := cs0); rw [← hv.1]; omega
  have hsp : (cs0.toList.take o ++ vs' ++ cs0.toList.drop (o + vs'.length)) = splice cs0.toList o vs' := rfl
  rw [hsp]
  have low : ∀ (j : Nat) (v : Value), j < o → k.cells[j]? = some v → ∃ v', (splice cs0.toList o vs').toArray[j]? = some v' ∧ Rel ρ β v v' := by
    intro j v h1 h2
    obtain ⟨u, hu, hr⟩ := q6 j v h2
    refine ⟨u, ?_, hr⟩
    rw [List.getElem?_toArray, splice_get _ _ _ hlen', if_pos h1]
    simpa using hu
  have mid : ∀ (j : Nat) (v : Value), o ≤ j → vs[j - o]? = some v → ∃ v', (splice cs0.toList o vs').toArray[j]? = some v' ∧ Rel ρ β v v' := by
    intro j v h1 h2
    have h3 : j - o < vs.length := (List.getElem?_eq_some_iff.1 h2).1
    have h4 : j - o < vs'.length := hv.1 ▸ h3
    refine ⟨vs'[j - o], ?_, hv.2 _ _ _ h2 (List.getElem?_eq_getElem h4)⟩
    rw [List.getElem?_toArray, splice_get _ _ _ hlen', if_neg (by omega), if_pos (by omega), List.getElem?_eq_getElem h4]
  refine hS.setRow hb he _ _ ?_ (by omega) ?_ hsm.2 hno
  · rw [List.size_toArray, splice_length _ _ _ hlen', Array.length_toList]; exact q3
  · intro j v hj
    rcases hn2 with hn2 | hn2
    · rcases hcs j v hj with c | c | c
      · rw [splice_get _ _ _ hn2] at c
        by_cases c1 : j < o
        · rw [if_pos c1] at c; exact low j v c1 c
        · rw [if_neg c1] at c
          by_cases c2 : j < o + vs.length
          · rw [if_pos c2] at c; exact mid j v (by omega) c
          · rw [if_neg c2] at c
            obtain ⟨u, hu, hr⟩ := q6 j v c
            refine ⟨u, ?_, hr⟩
            rw [List.getElem?_toArray, splice_get _ _ _ hlen', if_neg c1, if_neg (by rw [← hv.1]; exact c2)]
            simpa using hu
      · exact low j v c.1 c.2
      · exact mid j v c.1 c.2
    · rcases hn2 j v hj with c | c
      · exact low j v c.1 c.2
      · exact mid j v c.1 c.2

theorem evAppend_ok (hS : Sim ρ P w0 β H w) {ty rt : TypeId} {s s' x x' : Value} {r : Value × Heap} (h : evAppend P H ty s x = some r) (hs : Rel ρ β s s') (hx : Rel ρ β x x') :
    ∃ v' β' w', (Builtin.append_ #[ty, ty] rt #[s', x']).run P w = .ok v' w' ∧ Keep H none β β' ∧ Rel ρ β' r.1 v' ∧ Sim ρ P w0 β' r.2 w' := by
  simp only [evAppend, Option.bind_eq_some_iff] at h
  obtain ⟨d, h1, h2⟩ := h
  cases d <;> first | cases h2 | skip
  rename_i el
  simp only [Option.bind_eq_some_iff, Option.ite_none_right_eq_some] at h2
  obtain ⟨i, h3, z, h4, ⟨bx, ox, n, cx⟩, h5, kx, h6, ⟨helS, h7, h8, h9, h10, h11⟩, h12⟩ := h2
  have hel := realTy_small helS
  rw [asSlc_eq h5] at hx
  obtain ⟨ex, cx', hex, rfl, _⟩ := hx.slc_inv
  dsimp only at *
  rw [List.all_eq_true] at h11
  obtain ⟨nw, n1, n2, n3, n4⟩ := hS.loadCells (blkAt_eq h6) (blkAt_notObj h6) hex ox (n * i.size) h10
  have hone := rel_ones n2 h11
  have hnl : (cut kx.cells ox (n * i.size)).length = n * i.size := cut_length _ _ _ h10
  have hcell : P.cellsOf el = i.size := by simp [Program.cellsOf, h3]
  have hfree := hS.free (Nat.le_refl H.length)
  split at h12
  · -- nil
    simp only [Option.ite_none_right_eq_some, Option.some.injEq] at h12
    obtain ⟨⟨g1, g2⟩, rfl⟩ := h12
    obtain rfl := hs.eq_of_flat rfl
    have hr := run_append_nil (P := P) w ty rt el i z h1 h3 h4 ⟨ex.blk, ox, none⟩ n cx' nw n3 n4 (by omega) (by omega) (by omega)
    have hge := grownCap_ge w n 0 el
    have hcm := grownCap_le_maxLen w n 0 el (by unfold maxLen; omega)
    have hsz : (nw.toArray ++ Builtin.zeroCells z.cells (grownCap w n 0 el - n)).size = grownCap w n 0 el * i.size := by
      simp only [Array.size_append, List.size_toArray, size_zeroCells, h7, n3, ← Nat.add_mul]
      congr 1; omega
    have hA0 := (hS.drawn (w.drawn + 1)).alloc hfree (cut kx.cells ox (n * i.size)) (nw.toArray ++ Builtin.zeroCells z.cells (grownCap w n 0 el - n)) el (Put.app _ _) (by rw [hsz, hnl]; exact Nat.mul_le_mul_right _ hge)
      (fun j v hj => by
        have hlt : j < nw.length := n2.1 ▸ (List.getElem?_eq_some_iff.1 hj).1
        refine ⟨nw[j], ?_, n2.2 j _ _ hj (List.getElem?_eq_getElem hlt)⟩
        rw [Array.getElem?_append_left (by simpa using hlt)]; simp [hlt])
    have hA := hA0 hel (small_notObj helS)
    refine ⟨_, _, _, hr, Keep.last hfree _, .slc (upd_self _ _ _) (.inr ⟨hge, hcm, ?_⟩), hA⟩
    simp only [hsz, hcell, Nat.zero_add, Nat.le_refl]
  · -- empty, without room
    simp only [Option.ite_none_right_eq_some, Option.some.injEq] at h12
    obtain ⟨⟨g1, g2⟩, rfl⟩ := h12
    have hs' : ∃ ad : Addr, s' = .slice (some ad) 0 0 := by
      cases hs with
      | flat hf => simp [Ev.flat, flat1, flat0] at hf
      | emp0 => exact ⟨_, rfl⟩
    obtain ⟨ad, rfl⟩ := hs'
    have hr := run_append_grow (P := P) w ty rt el i z h1 h3 h4 ad 0 0 [] (by simp) (by simp) ⟨ex.blk, ox, none⟩ n cx' nw n3 n4 (by omega) (by omega) (growslice_fits (by omega) (by rw [Nat.zero_add]; omega))
    simp only [Nat.zero_add] at hr
    have hge := grownCap_ge w n 0 el
    have hcm := grownCap_le_maxLen w n 0 el (by unfold maxLen; omega)
    have hsz : (([] : List Value).toArray ++ nw.toArray ++ Builtin.zeroCells z.cells (grownCap w n 0 el - n)).size = grownCap w n 0 el * i.size := by
      simp only [Array.size_append, List.size_toArray, size_zeroCells, h7, n3, ← Nat.add_mul, List.length_nil, Nat.zero_add]
      congr 1; omega
    have hA0 := (hS.drawn (w.drawn + 1)).alloc hfree (cut kx.cells ox (n * i.size)) (([] : List Value).toArray ++ nw.toArray ++ Builtin.zeroCells z.cells (grownCap w n 0 el - n)) el (Put.app _ _) (by rw [hsz, hnl]; exact Nat.mul_le_mul_right _ hge)
      (fun j v hj => by
        have hlt : j < nw.length := n2.1 ▸ (List.getElem?_eq_some_iff.1 hj).1
        refine ⟨nw[j], ?_, n2.2 j _ _ hj (List.getElem?_eq_getElem hlt)⟩
        have hap : (([] : List Value).toArray ++ nw.toArray : Array Value) = nw.toArray := by simp
        rw [hap, Array.getElem?_append_left (by simpa using hlt)]; simp [hlt])
    have hA := hA0 hel (small_notObj helS)
    refine ⟨_, _, _, hr, Keep.last hfree _, .slc (upd_self _ _ _) (.inr ⟨hge, hcm, ?_⟩), hA⟩
    simp only [hsz, hcell, Nat.zero_add, Nat.le_refl]
  · rename_i b m c
    simp only [Option.bind_eq_some_iff] at h12
    obtain ⟨k, h13, h14⟩ := h12
    obtain ⟨e, c', he, rfl, hc⟩ := hs.slc_inv
    have hb := blkAt_eq h13
    have hbl : b < H.length := (List.getElem?_eq_some_iff.1 hb).1
    have hno := blkAt_notObj h13
    obtain ⟨e', cs0, q1, q2, q3, q4, q5, q6⟩ := hS.cells b k hb hno
    have hsm := blkAt_small h13
    rw [hsm.1] at q2 q4
    obtain rfl : e = e' := Option.some.inj (he.symm.trans q1)
    have hcc : c ≤ c' := by rcases hc with rfl | hc <;> omega
    by_cases hroom : m + n ≤ c
    · rw [if_pos hroom, Option.ite_none_right_eq_some, Option.some.injEq] at h14
      obtain ⟨⟨g0, g1⟩, rfl⟩ := h14
      have hr := run_append_room (P := P) w ty rt el i h1 h3 e.blk m c' cs0 (g0 ▸ q2) ⟨ex.blk, ox, none⟩ n cx' nw n3 n4 hone (by omega) (by rw [n3]; omega)
      refine ⟨_, β, _, hr, Keep.refl _ _ _, .slc he (by rcases hc with rfl | hc; exact .inl rfl; exact .inr hc), ?_⟩
      exact splice_rel hS hb he cs0 hsm hno q2 (m * i.size) _ nw n2 _ (by rw [hnl]; omega) (fun j v hj => .inl hj) (by rw [splice_length _ _ _ (by rw [hnl]; exact g1)]; omega) (.inl (by rw [hnl]; exact g1))
    · rw [if_neg hroom, Option.ite_none_right_eq_some, Option.some.injEq] at h14
      obtain ⟨⟨g0, g1, g2, g3⟩, rfl⟩ := h14
      have hol : (cut k.cells 0 (m * i.size)).length = m * i.size := cut_length _ _ _ (by omega)
      have parts : ∀ (j : Nat) (v : Value), (cut k.cells 0 (m * i.size) ++ cut kx.cells ox (n * i.size))[j]? = some v → (j < m * i.size ∧ k.cells[j]? = some v) ∨ (m * i.size ≤ j ∧ (cut kx.cells ox (n * i.size))[j - m * i.size]? = some v) := by
        intro j v hj
        rcases Nat.lt_or_ge j (m * i.size) with c1 | c1
        · rw [List.getElem?_append_left (by omega), cut_get, if_pos c1, Nat.zero_add] at hj
          exact .inl ⟨c1, hj⟩
        · rw [List.getElem?_append_right (by omega), hol] at hj
          exact .inr ⟨c1, hj⟩
      have hsz : e.sz = i.size := by rw [q4, g0, hcell]
      have hnm : n * i.size + m * i.size = (m + n) * i.size := by rw [← Nat.add_mul]; congr 1; omega
      by_cases hin : m + n ≤ c'
      · rcases hc with rfl | ⟨_, hm, hcnt⟩
        · exact absurd hin hroom
        · rw [hsz, Nat.zero_add] at hcnt
          have hfit : (m + n) * i.size ≤ c' * i.size := Nat.mul_le_mul_right _ hin
          have hr := run_append_room (P := P) w ty rt el i h1 h3 e.blk m c' cs0 (g0 ▸ q2) ⟨ex.blk, ox, none⟩ n cx' nw n3 n4 hone hin (by rw [n3]; omega)
          have hS1 := splice_rel hS hb he cs0 hsm hno q2 (m * i.size) _ nw n2 (cut k.cells 0 (m * i.size) ++ cut kx.cells ox (n * i.size)) (by rw [hnl]; omega) (fun j v hj => .inr (parts j v hj)) (by rw [List.length_append, hol, hnl]; omega) (.inr parts)
          have hS2 := hS1.rename (b := b) (k := ⟨_, k.ty⟩) (List.getElem?_set_self hbl) he
          rw [List.set_set, g0, List.length_set] at hS2
          refine ⟨_, _, _, hr, Keep.last hfree _, .slc (e := e) (upd_self _ _ _) (.inr ⟨hin, hm, by rw [hsz]; omega⟩), hS2⟩
      · obtain ⟨od, o1, o2, o3, o4⟩ := hS.loadCells hb hno he 0 (m * i.size) (by omega)
        have hr := run_append_grow (P := P) w ty rt el i z h1 h3 h4 ⟨e.blk, 0, none⟩ m c' od o3 o4 ⟨ex.blk, ox, none⟩ n cx' nw n3 n4 (by omega) (by omega) (growslice_fits (by omega) (by omega))
        have hge := grownCap_ge w (m + n) c' el
        have hcm := grownCap_le_maxLen w (m + n) c' el (by unfold maxLen; omega)
        have hsz2 : (od.toArray ++ nw.toArray ++ Builtin.zeroCells z.cells (grownCap w (m + n) c' el - (m + n))).size = grownCap w (m + n) c' el * i.size := by
          simp only [Array.size_append, List.size_toArray, size_zeroCells, h7, n3, o3, ← Nat.add_mul]
          congr 1; omega
        have hall := relL_append o2 n2
        have hlen2 : (cut k.cells 0 (m * i.size) ++ cut kx.cells ox (n * i.size)).length = (m + n) * i.size := by rw [List.length_append, hol, hnl]; omega
        have hA0 := (hS.drawn (w.drawn + 1)).alloc hfree (cut k.cells 0 (m * i.size) ++ cut kx.cells ox (n * i.size)) (od.toArray ++ nw.toArray ++ Builtin.zeroCells z.cells (grownCap w (m + n) c' el - (m + n))) el (Put.app _ _)
          (by rw [hsz2, hlen2]; exact Nat.mul_le_mul_right _ hge)
          (fun j v hj => by
            have hlt : j < (od ++ nw).length := hall.1 ▸ (List.getElem?_eq_some_iff.1 hj).1
            refine ⟨(od ++ nw)[j], ?_, hall.2 j _ _ hj (List.getElem?_eq_getElem hlt)⟩
            have hap : (od.toArray ++ nw.toArray : Array Value) = (od ++ nw).toArray := by simp
            rw [hap, Array.getElem?_append_left (by simpa using hlt), List.getElem?_toArray, List.getElem?_eq_getElem hlt])
        have hA := hA0 hel (small_notObj helS)
        have hK := hA.kill b
        rw [List.set_append_left _ _ hbl] at hK
        refine ⟨_, _, _, hr, Keep.last hfree _, .slc (upd_self _ _ _) (.inr ⟨hge, hcm, ?_⟩), hK⟩
        simp only [hsz2, hcell, Nat.zero_add, Nat.le_refl]
  · cases h12

theorem lenV_ok {v v' : Value} {n : Nat} (h : lenV v = some n) (hv : Rel ρ β v v') : (Builtin.lenOf v').run P w = .ok n w ∧ lenV v' = some n ∧ ∃ a c, v' = .slice a n c := by
  unfold lenV at h; split at h
  · cases h
    obtain ⟨a', c', rfl⟩ := hv.slice_inv
    exact ⟨rfl, rfl, _, _, rfl⟩
  · cases h

theorem evCopy_ok (hS : Sim ρ P w0 β H w) {ty ty2 rt : TypeId} {s s' x x' : Value} {r : Value × Heap} (h : evCopy P H ty s x = some r) (hfl : flat r.1 = true) (hs : Rel ρ β s s') (hx : Rel ρ β x x') :
    ∃ v' β' w', (Builtin.copy_ #[ty, ty2] rt #[s', x']).run P w = .ok v' w' ∧ Keep H none β β' ∧ Rel ρ β' r.1 v' ∧ Sim ρ P w0 β' r.2 w' := by
  simp only [evCopy, Option.bind_eq_some_iff] at h
  obtain ⟨d, h1, h2⟩ := h
  cases d <;> first | cases h2 | skip
  rename_i el
  simp only [Option.bind_eq_some_iff] at h2
  obtain ⟨i, h3, n, h4, m, h5, h6⟩ := h2
  obtain ⟨ls, ls2, as, cs, rfl⟩ := lenV_ok (P := P) (w := w) h4 hs
  obtain ⟨lx, lx2, ax, cx, rfl⟩ := lenV_ok (P := P) (w := w) h5 hx
  by_cases h0 : min m n = 0
  · rw [if_pos h0] at h6
    obtain rfl := Option.some.inj h6
    refine ⟨_, β, w, ?_, Keep.refl _ _ _, .flat rfl, hS⟩
    have hm : m.min n = 0 := h0
    rcases as with _ | a <;> rcases ax with _ | ax' <;> simp [Builtin.copy_, run_underlying h1, Builtin.lenOf, run_sizeOf h3, Builtin.firstCells, loadCells, loadCellsFrom, storeCells, goInt, hm]
  · rw [if_neg h0] at h6
    simp only [Option.bind_eq_some_iff, Option.ite_none_right_eq_some, Option.some.injEq] at h6
    obtain ⟨⟨b, o, _, c⟩, g1, ⟨bx, ox, _, cx0⟩, g2, k, g3, kx, g4, ⟨g5, g6, g7⟩, rfl⟩ := h6
    rw [asSlc_eq g1] at hs
    rw [asSlc_eq g2] at hx
    obtain ⟨e, c', he, q1, _⟩ := hs.slc_inv
    obtain ⟨ex, cx', hex, q2, _⟩ := hx.slc_inv
    simp only [Value.slice.injEq] at q1 q2
    obtain ⟨rfl, _, _⟩ := q1
    obtain ⟨rfl, _, _⟩ := q2
    dsimp only at *
    rw [List.all_eq_true] at g7
    obtain ⟨nw, n1, n2, n3, n4⟩ := hS.loadCells (blkAt_eq g4) (blkAt_notObj g4) hex ox (min m n * i.size) g5
    obtain ⟨w', r1, r2⟩ := hS.storeCells (blkAt_eq g3) he o _ nw n2 (by rw [cut_length _ _ _ g5]; exact g6) g7 (blkAt_small g3).2 (blkAt_notObj g3)
    refine ⟨_, β, w', ?_, Keep.refl _ _ _, .flat hfl, r2⟩
    have hf := run_firstCells_some (P := P) w i.size (min m n) ⟨ex.blk, ox, none⟩ m cx nw n3 n4
    have hm : m.min n = min m n := rfl
    simp [Builtin.copy_, run_underlying h1, Builtin.lenOf, run_sizeOf h3, hm, hf, r1, goInt]
end
end
end Go.Proofs.Ytapcooolainmdaa.Ev
