/- Loops and memo entries in another environment: of more letters, of letters in another order. -/
import Derived.Test.YtapcooolainmdaaEvM
namespace Go.Proofs.Ytapcooolainmdaa.Ev
open Go.RowKit
set_option linter.unusedVariables false
set_option linter.unusedSimpArgs false
set_option maxRecDepth 8000
theorem Left.unpick {f : List Nat} {a b : Names} {w w' : World} (h : Left (pick f a) w b w') : Left a w b w' :=
  ⟨fun k hk hn => h.keep k hk fun i e q => by obtain ⟨c, _, q2⟩ := pick_get q; exact hn c e q2, fun i e q => by
    rcases h.names i e q with g | ⟨j, d, g1, g2⟩
    · exact .inl g
    · obtain ⟨c, _, q2⟩ := pick_get g1; exact .inr ⟨c, d, q2, g2⟩, h.size⟩
/-- a loop's theorem in another environment -/
theorem loop_move {P : Program} {ρ1 ρ2 : Env} (hw : ρ1.w = ρ2.w) {g : FuncId} {p : List Bool} {t tf : Tm} {H Hf : Heap} {x : X} (h : LoopE ρ1 P (g, p, t, H, x, tf, Hf)) {f f2 : List Nat} {es es2 : Eqs}
    (hi : passQ P f t H t H es = true) (hf : idPre 0 H.length f = true) (he : Holds ρ2 ρ1 es) (ho : passQ P f2 tf Hf tf Hf es2 = true) (hf2 : idPre 0 H.length f2 = true) (hl : H.length ≤ Hf.length) (he2 : Holds ρ1 ρ2 es2) : LoopE ρ2 P (g, p, t, H, x, tf, Hf) := by
  intro c hc w0 β w a Q hS hT hQ
  simp only at hc hS hT hQ
  have pre : ∀ (f : List Nat) (γ : Names), idPre 0 H.length f = true → ∀ i, i < H.length → pick f γ i = γ i := by
    intro f γ h i hi
    have := idPre_at H.length 0 h i hi
    rw [Nat.zero_add] at this
    unfold pick; rw [this]; rfl
  have p1 := passQ_ok hw.symm hi he
  refine h c hc w0 (pick f β) w a Q (p1.sim hS) (p1.rel hS hT) fun β' w' a' k1 k2 k3 k4 k5 => ?_
  have p2 := passQ_ok hw ho he2
  refine hQ (pick f2 β') w' a' ⟨⟨fun i e q => ?_, fun y hy hn _ => ?_⟩, hl⟩ (p2.rel k5 k2) (pickM k3) (pickL k4.unpick) (p2.sim k5)
  · have hi := hS.dom i e q
    rw [pre f2 β' hf2 i hi]
    exact k1.1.1 _ _ (by rw [pre f β hf i hi]; exact q)
  · rw [pre f2 β' hf2 y hy]
    exact k1.1.2 y hy (by rw [pre f β hf y hy]; exact hn) (by simp)
theorem at_row {l : List Value} (hl : l.length ≤ 16) (i : Nat) : Tm.at [l] i = l[i]? := by
  unfold Tm.at
  rw [getN_eq]
  rcases Nat.lt_or_ge i 16 with h | h
  · rw [show i / 16 = 0 by omega, show i % 16 = i by omega]
    show getN l i = _
    rw [getN_eq]
  · rw [List.getElem?_eq_none (show [l].length ≤ i / 16 by simp only [List.length_cons, List.length_nil]; omega), List.getElem?_eq_none (by omega)]
theorem relT_of {ρ : Env} {β : Names} {l l' : List Value} (hl : l.length ≤ 16) (h : RelL ρ β l l') : RelT ρ β [l] l'.toArray := by
  intro i
  rw [at_row hl]
  rcases q : l[i]? with _ | v
  · have : l'[i]? = none := by
      rw [List.getElem?_eq_none_iff] at q ⊢; rw [← h.1]; exact q
    exact .inl ⟨rfl, by simpa using this⟩
  · have hi : i < l'.length := by rw [← h.1]; exact (List.getElem?_eq_some_iff.1 q).1
    exact .inr ⟨v, l'[i], rfl, by simp [hi], h.2 i v _ q (List.getElem?_eq_getElem hi)⟩
theorem relL_of {ρ : Env} {β : Names} {l l' : List Value} (hl : l.length ≤ 16) (hn : l.length = l'.length) (h : RelT ρ β [l] l'.toArray) : RelL ρ β l l' := by
  refine ⟨hn, fun i v v' q q' => ?_⟩
  rcases h i with ⟨a, _⟩ | ⟨u, u', a, b, c⟩
  · rw [at_row hl, q] at a; cases a
  · rw [at_row hl, q] at a; cases a
    have b' : l'[i]? = some u' := by simpa using b
    rw [q'] at b'; cases b'; exact c
theorem memo_moveQ {P : Program} {ρ1 ρ2 : Env} (hw : ρ1.w = ρ2.w) {f : FuncId} {args args2 : List Value} {H Hf H2 Hf2 : Heap} {v v2 : Value} {es es2 : Eqs} {n n2 : List Nat} (h : MemoE ρ1 P (f, args, H, v, Hf))
    (ha : (args.length.ble 16 && (args.length == args2.length && H.length == H2.length)) = true) (hi : passQ P n [args2] H2 [args] H es = true) (hid : idPre 0 H.length n = true) (he : Holds ρ2 ρ1 es)
    (ho : passQ P n2 [[v]] Hf [[v2]] Hf2 es2 = true) (hid2 : idPre 0 H.length n2 = true) (he2 : Holds ρ1 ρ2 es2) : MemoE ρ2 P (f, args2, H2, v2, Hf2) := by
  simp only [Bool.and_eq_true, beq_iff_eq] at ha
  obtain ⟨ha, hl, hH⟩ := ha
  have ha := Nat.le_of_ble_eq_true ha
  intro w0 β w args' hS hA
  have pre : ∀ (f : List Nat) (γ : Names), idPre 0 H.length f = true → ∀ i, i < H.length → pick f γ i = γ i := by
    intro f γ h i hi
    have := idPre_at H.length 0 h i hi
    rw [Nat.zero_add] at this
    unfold pick; rw [this]; rfl
  have p1 := passQ_ok hw.symm hi he
  refine (h w0 (pick n β) w args' (p1.sim hS) (relL_of ha (hl.trans hA.1) (p1.rel hS (relT_of (by omega) hA)))).mono ?_
  rintro en w' ⟨v', β', q1, q2, q3, q4⟩
  have p2 := passQ_ok hw ho he2
  have r0 : RelL ρ1 β' [v] [v'] := ⟨rfl, fun i a b qa qb => by
    match i with
    | 0 => cases qa; cases qb; exact q3
    | i + 1 => have qa' : ([] : List Value)[i]? = some a := qa; rw [List.getElem?_nil] at qa'; cases qa'⟩
  have r1 := p2.rel q4 (relT_of (l := [v]) (Nat.le_of_ble_eq_true rfl) r0)
  have r2 := (relL_of (l := [v2]) (l' := [v']) (Nat.le_of_ble_eq_true rfl) rfl r1).2 0 v2 v' rfl rfl
  refine ⟨v', pick n2 β', q1, ⟨fun i e q => ?_, fun y hy hn hb => ?_⟩, r2, p2.sim q4⟩
  · have hi : i < H.length := hH ▸ hS.dom i e q
    rw [pre n2 β' hid2 i hi]
    exact q2.1 _ _ (by rw [pre n β hid i hi]; exact q)
  · have hy : y < H.length := hH ▸ hy
    rw [pre n2 β' hid2 y hy]
    exact q2.2 y hy (by rw [pre n β hid y hy]; exact hn) hb
end Go.Proofs.Ytapcooolainmdaa.Ev
