/- Union, Minus, Common. -/
import Derived.Test.YtofpiedhenephaaSpR
namespace Go.Proofs.Ytofpiedhenephaa.Sp
open Go.RowKit Go.Lib
set_option linter.unusedVariables false

theorem ok_sub {o l : List (Int × Int)} (h : NF o) (hs : ∀ n, inB o n = true → inB l n = true) (hok : Ok l) : Ok o := by
  have hin : ∀ n, inB l n = true → -1000000000000 ≤ n ∧ n ≤ 1000000000000 := fun n hn => by
    obtain ⟨p, hp, h1, h2⟩ := (inB_iff l n).1 hn
    have := hok p hp
    omega
  intro p hp
  have h0 := h.1 p hp
  have h1 := hin p.1 (hs _ ((inB_iff o _).2 ⟨p, hp, by omega, by omega⟩))
  have h2 := hin p.2 (hs _ ((inB_iff o _).2 ⟨p, hp, by omega, by omega⟩))
  omega
theorem ok_app {a b : List (Int × Int)} (h : allE (a ++ b) = 0) : Ok a ∧ Ok b :=
  ⟨fun p hp => allE_ok h p (by simp [hp]), fun p hp => allE_ok h p (by simp [hp])⟩
theorem allE_app {a b : List (Int × Int)} (ha : Ok a) (hb : Ok b) : allE (a ++ b) = 0 :=
  allE_of fun p hp => by
    rcases List.mem_append.1 hp with h | h
    · exact ha p h
    · exact hb p h
theorem cat_two (s r : Sl) : cat [s, r] = s.l ++ r.l := by simp [cat]

set_option maxHeartbeats 1600000 in
theorem union_any (A : Option Addr) (n c : Nat) (l : List (Int × Int)) (B : Option Addr) (m d : Nat) (r : List (Int × Int)) (w : World) (hl : l.length = n) (hA : A = none → c = 0) (hL : Lies w A (flat l)) (hn : n ≤ 1000) (hr : r.length = m) (hB : B = none → d = 0) (hR : Lies w B (flat r)) (hm : m ≤ 1000) :
    Calls Try.prog 31 #[.slice A n c, .slice B m d] w (SetPost w (allE (l ++ r)) (fun x => inB l x || inB r x) (n + m + 1)) := by
  have hs : (Sl.mk A c l).at_ w := ⟨hA, hL⟩
  have ht : (Sl.mk B d r).at_ w := ⟨hB, hR⟩
  have hE := listsE_two ⟨A, c, l⟩ ⟨B, d, r⟩ (by simp only; omega) (by simp only; omega)
  have hck := Lib.hid fun W C (h : LiesS W C [⟨A, c, l⟩, ⟨B, d, r⟩]) => checkLists_any C 2 2 [⟨A, c, l⟩, ⟨B, d, r⟩] W rfl h (by omega)
  rw [hE] at hck
  simp only at hck
  have HS := Lib.hid (And.intro hs ht)
  by_cases h0 : allE (l ++ r) = 0
  · obtain ⟨hok1, hok2⟩ := ok_app h0
    have HK := Lib.hid (And.intro hok1 hok2)
    rw [h0] at hck ⊢
    have hcc := Lib.hid fun W C (h : LiesS W C [⟨A, c, l⟩, ⟨B, d, r⟩]) => concat_any C 2 2 [⟨A, c, l⟩, ⟨B, d, r⟩] W rfl h (by omega) (by rw [cat_two]; simp; omega)
    rw [cat_two] at hcc
    simp only at hcc
    have hnm := Lib.hid fun W C cc hC hL => normal_any C (l.length + r.length) cc (l ++ r) W (by simp) hC hL (by omega) (allE_ok h0)
    subst hl
    subst hr
    clear hL hA hR hB hs ht hE h0 hok1 hok2
    go_enter Try.func31, Try.ntmps31
    go_wp2_with fail
    refine (hck.out _ _ (liesS_two rfl HS.out.1 HS.out.2)).mono ?_
    rintro e w1 ⟨rfl, hb1⟩
    have hb : Below w.heap.size w w1 := below_trans (below_alloc (Below.refl _ _) _) hb1
    clear hb1
    go_wp2_with fail
    refine (hcc.out _ _ (liesS_two rfl (HS.out.1.below hb) (HS.out.2.below hb))).mono ?_
    rintro e w2 ⟨v2, rfl, hown2⟩
    obtain ⟨A2, c2, rfl, hA2, hL2⟩ := hown2.sl
    have hnm2 := Lib.hid (hnm.out w2 A2 c2 hA2 hL2)
    have hb2 : Below w.heap.size w w2 := below_trans (below_alloc hb _) hown2.2
    clear hown2 hL2 hA2 hb
    go_wp2_with fail
    refine hnm2.out.mono ?_
    rintro e w3 ⟨v, o, rfl, hown, h1, h2, h3, h4⟩
    have H := Lib.hid (And.intro hown (And.intro h1 (And.intro h2 (And.intro h3 h4))))
    clear hown h1 h2 h3 h4
    go_wp2
    go_ret2
    have hb3 := below_trans hb2 H.out.1.2
    have hlen := H.out.2.2.2.2
    exact ⟨hb3, .inr ⟨rfl, v, o, rfl, ⟨own_base H.out.1.1 hb2.size, hb3⟩, H.out.2.1, fun x => by rw [H.out.2.2.1 x, inB_append], H.out.2.2.2.1, by omega⟩⟩
  · have hv : (allE (l ++ r) != 0) = true := by simp [h0]
    have H0 := Lib.hid h0
    subst hl
    subst hr
    clear hL hA hR hB hs ht hE h0
    generalize allE (l ++ r) = E at *
    go_enter Try.func31, Try.ntmps31
    go_wp2_with fail
    refine (hck.out _ _ (liesS_two rfl HS.out.1 HS.out.2)).mono ?_
    rintro e w1 ⟨rfl, hb1⟩
    have hb : Below w.heap.size w w1 := below_trans (below_alloc (Below.refl _ _) _) hb1
    clear hb1
    go_wp2
    go_ret2
    exact ⟨hb, .inl ⟨H0.out, rfl⟩⟩

set_option maxHeartbeats 1600000 in
theorem commons_any (A : Option Addr) (n c : Nat) (l : List (Int × Int)) (B : Option Addr) (m d : Nat) (r : List (Int × Int)) (w : World) (hl : l.length = n) (hA : A = none → c = 0) (hL : Lies w A (flat l)) (hn : n ≤ 1000) (hr : r.length = m) (hB : B = none → d = 0) (hR : Lies w B (flat r)) (hm : m ≤ 1000) :
    Calls Try.prog 33 #[.slice A n c, .slice B m d] w (SetPost w (allE (l ++ r)) (fun x => inB l x && inB r x) (n + m + 1)) := by
  have hs : (Sl.mk A c l).at_ w := ⟨hA, hL⟩
  have ht : (Sl.mk B d r).at_ w := ⟨hB, hR⟩
  have hE := listsE_two ⟨A, c, l⟩ ⟨B, d, r⟩ (by simp only; omega) (by simp only; omega)
  have hck := Lib.hid fun W C (h : LiesS W C [⟨A, c, l⟩, ⟨B, d, r⟩]) => checkLists_any C 2 2 [⟨A, c, l⟩, ⟨B, d, r⟩] W rfl h (by omega)
  rw [hE] at hck
  simp only at hck
  have HS := Lib.hid (And.intro hs ht)
  by_cases h0 : allE (l ++ r) = 0
  · obtain ⟨hok1, hok2⟩ := ok_app h0
    have HK := Lib.hid (And.intro hok1 hok2)
    rw [h0] at hck ⊢
    have hna := Lib.hid fun W h => normal_any A n c l W hl hA h (by omega) hok1
    have hnb := Lib.hid fun W h => normal_any B m d r W hr hB h (by omega) hok2
    subst hl
    subst hr
    clear hL hA hR hB hs ht hE h0 hok1 hok2
    go_enter Try.func33, Try.ntmps33
    go_wp2_with fail
    refine (hck.out _ _ (liesS_two rfl HS.out.1 HS.out.2)).mono ?_
    rintro e w1 ⟨rfl, hb1⟩
    have hb : Below w.heap.size w w1 := below_trans (below_alloc (Below.refl _ _) _) hb1
    clear hb1
    go_wp2_with fail
    refine (hna.out _ (HS.out.1.2.below (Nat.le_refl _) hb)).mono ?_
    rintro e w2 ⟨v2, oa, rfl, howna, ha1, ha2, ha3, ha4⟩
    obtain ⟨A2, c2, rfl, _, hL2⟩ := howna.sl
    have HA := Lib.hid (And.intro hL2 (And.intro ha1 (And.intro ha2 (And.intro ha3 ha4))))
    have hb2 : Below w.heap.size w w2 := below_trans hb howna.2
    clear howna ha1 ha2 ha3 ha4 hL2 hb
    go_wp2_with fail
    refine (hnb.out _ (HS.out.2.2.below (Nat.le_refl _) hb2)).mono ?_
    rintro e w3 ⟨v3, ob, rfl, hownb, hb1', hb2', hb3', hb4'⟩
    obtain ⟨A3, c3, rfl, _, hL3⟩ := hownb.sl
    have HB := Lib.hid (And.intro hL3 (And.intro hb1' (And.intro hb2' (And.intro hb3' hb4'))))
    have hb3 : Below w.heap.size w w3 := below_trans hb2 hownb.2
    have HL2 := Lib.hid (HA.out.1.below (Nat.le_refl _) hownb.2)
    clear hownb hb1' hb2' hb3' hb4' hL3 hb2
    have hcm := Lib.hid (common_any A2 A3 oa.length ob.length c2 c3 oa ob w3 rfl rfl HL2.out HB.out.1 (by have := HA.out.2.2.2.2; omega) (by have := HB.out.2.2.2.2; omega) HA.out.2.1 HB.out.2.1)
    go_wp2_with fail
    refine hcm.out.mono ?_
    rintro e w4 ⟨v, o, rfl, hown, h1, h2, h3⟩
    have H := Lib.hid (And.intro hown (And.intro h1 (And.intro h2 h3)))
    clear hown h1 h2 h3
    go_wp2
    go_ret2
    have hb4 := below_trans hb3 H.out.1.2
    have hmem : ∀ x, inB o x = (inB l x && inB r x) := fun x => by rw [H.out.2.2.1 x, HA.out.2.2.1 x, HB.out.2.2.1 x]
    exact ⟨hb4, .inr ⟨rfl, v, o, rfl, ⟨own_base H.out.1.1 hb3.size, hb4⟩, H.out.2.1, hmem, ok_sub H.out.2.1 (fun x hx => by rw [hmem x, Bool.and_eq_true] at hx; exact hx.1) HK.out.1, by have a1 := H.out.2.2.2; have a2 := HA.out.2.2.2.2; have a3 := HB.out.2.2.2.2; omega⟩⟩
  · have hv : (allE (l ++ r) != 0) = true := by simp [h0]
    have H0 := Lib.hid h0
    subst hl
    subst hr
    clear hL hA hR hB hs ht hE h0
    generalize allE (l ++ r) = E at *
    go_enter Try.func33, Try.ntmps33
    go_wp2_with fail
    refine (hck.out _ _ (liesS_two rfl HS.out.1 HS.out.2)).mono ?_
    rintro e w1 ⟨rfl, hb1⟩
    have hb : Below w.heap.size w w1 := below_trans (below_alloc (Below.refl _ _) _) hb1
    clear hb1
    go_wp2
    go_ret2
    exact ⟨hb, .inl ⟨H0.out, rfl⟩⟩

set_option maxHeartbeats 1600000 in
theorem minuss_any (A : Option Addr) (n c : Nat) (l : List (Int × Int)) (B : Option Addr) (m d : Nat) (r : List (Int × Int)) (w : World) (hl : l.length = n) (hA : A = none → c = 0) (hL : Lies w A (flat l)) (hn : n ≤ 1000) (hr : r.length = m) (hB : B = none → d = 0) (hR : Lies w B (flat r)) (hm : m ≤ 1000) :
    Calls Try.prog 32 #[.slice A n c, .slice B m d] w (SetPost w (allE (l ++ r)) (fun x => inB l x && !inB r x) (n + m + 1)) := by
  have hs : (Sl.mk A c l).at_ w := ⟨hA, hL⟩
  have ht : (Sl.mk B d r).at_ w := ⟨hB, hR⟩
  have hE := listsE_two ⟨A, c, l⟩ ⟨B, d, r⟩ (by simp only; omega) (by simp only; omega)
  have hck := Lib.hid fun W C (h : LiesS W C [⟨A, c, l⟩, ⟨B, d, r⟩]) => checkLists_any C 2 2 [⟨A, c, l⟩, ⟨B, d, r⟩] W rfl h (by omega)
  rw [hE] at hck
  simp only at hck
  have HS := Lib.hid (And.intro hs ht)
  by_cases h0 : allE (l ++ r) = 0
  · obtain ⟨hok1, hok2⟩ := ok_app h0
    have HK := Lib.hid (And.intro hok1 hok2)
    rw [h0] at hck ⊢
    have hna := Lib.hid fun W h => normal_any A n c l W hl hA h (by omega) hok1
    have hnb := Lib.hid fun W h => normal_any B m d r W hr hB h (by omega) hok2
    subst hl
    subst hr
    clear hL hA hR hB hs ht hE h0 hok1 hok2
    go_enter Try.func32, Try.ntmps32
    go_wp2_with fail
    refine (hck.out _ _ (liesS_two rfl HS.out.1 HS.out.2)).mono ?_
    rintro e w1 ⟨rfl, hb1⟩
    have hb : Below w.heap.size w w1 := below_trans (below_alloc (Below.refl _ _) _) hb1
    clear hb1
    go_wp2_with fail
    refine (hna.out _ (HS.out.1.2.below (Nat.le_refl _) hb)).mono ?_
    rintro e w2 ⟨v2, oa, rfl, howna, ha1, ha2, ha3, ha4⟩
    obtain ⟨A2, c2, rfl, _, hL2⟩ := howna.sl
    have HA := Lib.hid (And.intro hL2 (And.intro ha1 (And.intro ha2 (And.intro ha3 ha4))))
    have hb2 : Below w.heap.size w w2 := below_trans hb howna.2
    clear howna ha1 ha2 ha3 ha4 hL2 hb
    go_wp2_with fail
    refine (hnb.out _ (HS.out.2.2.below (Nat.le_refl _) hb2)).mono ?_
    rintro e w3 ⟨v3, ob, rfl, hownb, hb1', hb2', hb3', hb4'⟩
    obtain ⟨A3, c3, rfl, _, hL3⟩ := hownb.sl
    have HB := Lib.hid (And.intro hL3 (And.intro hb1' (And.intro hb2' (And.intro hb3' hb4'))))
    have hb3 : Below w.heap.size w w3 := below_trans hb2 hownb.2
    have HL2 := Lib.hid (HA.out.1.below (Nat.le_refl _) hownb.2)
    clear hownb hb1' hb2' hb3' hb4' hL3 hb2
    have hgp := Lib.hid (gaps_any A3 ob.length c3 ob w3 rfl HB.out.1 (by have := HB.out.2.2.2.2; omega) HB.out.2.1 HB.out.2.2.2.1)
    go_wp2_with fail
    refine hgp.out.mono ?_
    rintro e w4 ⟨v4, og, rfl, howng, hg1, hg2, hg3⟩
    obtain ⟨A4, c4, rfl, _, hL4⟩ := howng.sl
    have HG := Lib.hid (And.intro hL4 (And.intro hg1 (And.intro hg2 hg3)))
    have hb4 : Below w.heap.size w w4 := below_trans hb3 howng.2
    have HL4 := Lib.hid (HL2.out.below (Nat.le_refl _) howng.2)
    clear howng hg1 hg2 hg3 hL4 hb3
    have hcm := Lib.hid (common_any A2 A4 oa.length og.length c2 c4 oa og w4 rfl rfl HL4.out HG.out.1 (by have := HA.out.2.2.2.2; omega) (by have := HB.out.2.2.2.2; have := HG.out.2.2.2; omega) HA.out.2.1 HG.out.2.1)
    go_wp2_with fail
    refine hcm.out.mono ?_
    rintro e w5 ⟨v, o, rfl, hown, h1, h2, h3⟩
    have H := Lib.hid (And.intro hown (And.intro h1 (And.intro h2 h3)))
    clear hown h1 h2 h3
    go_wp2
    go_ret2
    have hb5 := below_trans hb4 H.out.1.2
    have hmem : ∀ x, inB o x = (inB l x && !inB r x) := fun x => by
      rw [H.out.2.2.1 x, HA.out.2.2.1 x, Bool.eq_iff_iff, Bool.and_eq_true, Bool.and_eq_true, HG.out.2.2.1 x, HB.out.2.2.1 x]
      constructor
      · rintro ⟨a, _, _, b⟩
        exact ⟨a, by simp [b]⟩
      · rintro ⟨a, b⟩
        obtain ⟨p, hp, h1, h2⟩ := (inB_iff l x).1 a
        have := HK.out.1 p hp
        exact ⟨a, by omega, by omega, by simpa using b⟩
    exact ⟨hb5, .inr ⟨rfl, v, o, rfl, ⟨own_base H.out.1.1 hb4.size, hb5⟩, H.out.2.1, hmem, ok_sub H.out.2.1 (fun x hx => by rw [hmem x, Bool.and_eq_true] at hx; exact hx.1) HK.out.1, by have a1 := H.out.2.2.2; have a2 := HA.out.2.2.2.2; have a3 := HB.out.2.2.2.2; have a4 := HG.out.2.2.2; omega⟩⟩
  · have hv : (allE (l ++ r) != 0) = true := by simp [h0]
    have H0 := Lib.hid h0
    subst hl
    subst hr
    clear hL hA hR hB hs ht hE h0
    generalize allE (l ++ r) = E at *
    go_enter Try.func32, Try.ntmps32
    go_wp2_with fail
    refine (hck.out _ _ (liesS_two rfl HS.out.1 HS.out.2)).mono ?_
    rintro e w1 ⟨rfl, hb1⟩
    have hb : Below w.heap.size w w1 := below_trans (below_alloc (Below.refl _ _) _) hb1
    clear hb1
    go_wp2
    go_ret2
    exact ⟨hb, .inl ⟨H0.out, rfl⟩⟩

end Go.Proofs.Ytofpiedhenephaa.Sp
