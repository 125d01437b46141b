/- The walk of SpanAlgebra. -/
import Derived.Test.YtofpiedhenephaaSpU
import Derived.Test.YtofpiedhenephaaSpCnt
namespace Go.Proofs.Ytofpiedhenephaa.Sp
open Go.RowKit Go.Lib
set_option linter.unusedVariables false

/-- the good end of CntPost -/
theorem CntPost.good {w w' : World} {l : List (Int × Int)} {e : Ending} (h : CntPost w l e w') (h0 : allE l = 0) :
    ∃ o, e = .returned (.tuple #[.int .i64 (cntL o), .int .i64 0]) ∧ Below w.heap.size w w' ∧ NF o ∧ (∀ x, inB o x = inB l x) ∧ Ok o := by
  obtain ⟨hb, ⟨h1, _⟩ | ⟨_, o, he, h2, h3, h4⟩⟩ := h
  · exact absurd h0 h1
  · exact ⟨o, he, hb, h2, h3, h4⟩

theorem allE_rev {l : List (Int × Int)} (h : allE l = 0) : allE l.reverse = 0 := allE_of fun p hp => allE_ok h p (by simpa using hp)
theorem drop_rev (l : List (Int × Int)) (k : Nat) (h : k < l.length) : (l.drop (k + 1)).reverse ++ [(l[k].1, l[k].2)] = (l.drop k).reverse := by
  rw [List.drop_eq_getElem_cons h, List.reverse_cons]
theorem inB_rev (l : List (Int × Int)) (x : Int) : inB l.reverse x = inB l x := inB_perm (List.reverse_perm l) x

set_option maxRecDepth 100000 in
set_option maxHeartbeats 6400000 in
theorem algebra_any (A : Option Addr) (n c : Nat) (l : List (Int × Int)) (B : Option Addr) (m d : Nat) (r : List (Int × Int)) (w : World) (hl : l.length = n) (hA : A = none → c = 0) (hL : Lies w A (flat l)) (hn : n ≤ 9223372036854775807) (hr : r.length = m) (hB : B = none → d = 0) (hR : Lies w B (flat r)) (hm : m ≤ 9223372036854775807) :
    Calls Try.prog 9 #[.slice A n c, .slice B m d] w fun e w' => e = .returned (.bool true) ∧ Below w.heap.size w w' := by
  obtain ⟨i0, hi, hz0, hz1, hz2⟩ := info_parts ivInfo
  have c0 := Lib.hid fun W => awake_any W
  subst hl
  subst hr
  have HL := Lib.hid hL
  have HR := Lib.hid hR
  by_cases hbig : 30 < l.length
  · have hbig' : (30 : Int) < (l.length : Int) := by omega
    clear hbig hA hL hR hB
    go_enter Try.func9, Try.ntmps9
    go_wp2_with fail
    refine (c0.out _).mono ?_
    rintro e w1 ⟨rfl, hb1⟩
    go_wp2
    go_ret
    exact ⟨rfl, hb1⟩
  · have hbig' : (l.length : Int) ≤ 30 := by omega
    by_cases hbig2 : 30 < r.length
    · have hbig2' : (30 : Int) < (r.length : Int) := by omega
      clear hbig hbig2 hA hL hR hB
      go_enter Try.func9, Try.ntmps9
      go_wp2_with fail
      refine (c0.out _).mono ?_
      rintro e w1 ⟨rfl, hb1⟩
      go_wp2
      go_ret
      exact ⟨rfl, hb1⟩
    · have hbig2' : (r.length : Int) ≤ 30 := by omega
      have d0 := Lib.hid fun W hL => normalize_any A l.length c l W rfl hA hL (by omega)
      have d1 := Lib.hid fun W hL hR => minuss_any A l.length c l B r.length d r W rfl hA hL (by omega) rfl hB hR (by omega)
      have d2 := Lib.hid fun W hL hR => commons_any A l.length c l B r.length d r W rfl hA hL (by omega) rfl hB hR (by omega)
      have d3 := Lib.hid fun W hL hR => union_any A l.length c l B r.length d r W rfl hA hL (by omega) rfl hB hR (by omega)
      by_cases h0 : allE (l ++ r) = 0
      · obtain ⟨hok1, hok2⟩ := ok_app h0
        have hz1' := allE_of hok1
        have hz2' := allE_of hok2
        have HZ := Lib.hid (And.intro hz1' (And.intro hz2' (And.intro hok1 hok2)))
        rw [h0] at d1 d2 d3
        rw [hz1'] at d0
        have k1 := Lib.hid fun W h => count_any A l.length c l W rfl hA h (by omega)
        have k2 := Lib.hid fun W h => count_any B r.length d r W rfl hB h (by omega)
        clear hbig hbig2 hA hB hL hR h0 hz1' hz2' hok1 hok2
        go_enter Try.func9, Try.ntmps9
        go_wp2_with fail
        refine (c0.out _).mono ?_
        rintro e w1 ⟨rfl, hb1⟩
        go_wp2_with fail
        refine (d0.out _ (HL.out.below (Nat.le_refl _) hb1)).mono ?_
        intro e w2 hp
        obtain ⟨A1, c1, o1, rfl, hb2, hA1, hL1, hN1, hm1, hO1, hq1⟩ := hp.good
        have H1 := Lib.hid (And.intro hA1 (And.intro hN1 (And.intro hm1 hO1)))
        have K1 := Lib.hid hL1
        have hw2 := below_trans hb1 hb2
        clear hp hA1 hL1 hN1 hm1 hO1 hb1 hb2
        go_wp2_with fail
        refine (d1.out _ (HL.out.below (Nat.le_refl _) hw2) (HR.out.below (Nat.le_refl _) hw2)).mono ?_
        intro e w3 hp
        obtain ⟨A2, c2, o2, rfl, hb3, hA2, hL2, hN2, hm2, hO2, hq2⟩ := hp.good
        have H2 := Lib.hid (And.intro hA2 (And.intro hN2 (And.intro hm2 hO2)))
        have K2 := Lib.hid hL2
        have K1 := Lib.hid (K1.out.below (Nat.le_refl _) hb3)
        have hw3 := below_trans hw2 hb3
        clear hp hA2 hL2 hN2 hm2 hO2 hb3 hw2
        go_wp2_with fail
        refine (d2.out _ (HL.out.below (Nat.le_refl _) hw3) (HR.out.below (Nat.le_refl _) hw3)).mono ?_
        intro e w4 hp
        obtain ⟨A3, c3, o3, rfl, hb4, hA3, hL3, hN3, hm3, hO3, hq3⟩ := hp.good
        have H3 := Lib.hid (And.intro hA3 (And.intro hN3 (And.intro hm3 hO3)))
        have K3 := Lib.hid hL3
        have K1 := Lib.hid (K1.out.below (Nat.le_refl _) hb4)
        have K2 := Lib.hid (K2.out.below (Nat.le_refl _) hb4)
        have hw4 := below_trans hw3 hb4
        clear hp hA3 hL3 hN3 hm3 hO3 hb4 hw3
        go_wp2_with fail
        refine (d3.out _ (HL.out.below (Nat.le_refl _) hw4) (HR.out.below (Nat.le_refl _) hw4)).mono ?_
        intro e w5 hp
        obtain ⟨A4, c4, o4, rfl, hb5, hA4, hL4, hN4, hm4, hO4, hq4⟩ := hp.good
        have H4 := Lib.hid (And.intro hA4 (And.intro hN4 (And.intro hm4 hO4)))
        have K4 := Lib.hid hL4
        have K1 := Lib.hid (K1.out.below (Nat.le_refl _) hb5)
        have K2 := Lib.hid (K2.out.below (Nat.le_refl _) hb5)
        have K3 := Lib.hid (K3.out.below (Nat.le_refl _) hb5)
        have HW := Lib.hid (below_trans hw4 hb5)
        clear hp hA4 hL4 hN4 hm4 hO4 hb5 hw4
        have e23 := allE_app H2.out.2.2.2 H3.out.2.2.2
        have e1 := allE_of H1.out.2.2.2
        have e3 := allE_of H3.out.2.2.2
        have e4 := allE_of H4.out.2.2.2
        have f1 := Lib.hid fun W hL hR => union_any A2 o2.length c2 o2 A3 o3.length c3 o3 W rfl H2.out.1 hL (by omega) rfl H3.out.1 hR (by omega)
        rw [e23] at f1
        have f2 := Lib.hid fun W hL => normalize_any A1 o1.length c1 o1 W rfl H1.out.1 hL (by omega)
        rw [e1] at f2
        have k3 := Lib.hid fun W h => count_any A3 o3.length c3 o3 W rfl H3.out.1 h (by omega)
        have k4 := Lib.hid fun W h => count_any A4 o4.length c4 o4 W rfl H4.out.1 h (by omega)
        have HE := Lib.hid (And.intro e3 e4)
        clear e23 e1 e3 e4
        go_wp2_with fail
        refine (f1.out _ K2.out K3.out).mono ?_
        intro e w6 hp
        obtain ⟨A5, c5, o5, rfl, hb6, _, hL5, hN5, hm5, hO5, hq5⟩ := hp.good
        have hs5 : o5 = o1 := nf_unique hN5 H1.out.2.1 fun x => by
          rw [hm5 x, H2.out.2.2.1 x, H3.out.2.2.1 x, H1.out.2.2.1 x]
          rcases inB l x with _ | _ <;> rcases inB r x with _ | _ <;> rfl
        subst hs5
        have K5 := Lib.hid hL5
        have K1 := Lib.hid (K1.out.below (Nat.le_refl _) hb6)
        have K3 := Lib.hid (K3.out.below (Nat.le_refl _) hb6)
        have K4 := Lib.hid (K4.out.below (Nat.le_refl _) hb6)
        have HW := Lib.hid (below_trans HW.out hb6)
        clear hp hL5 hN5 hm5 hO5 hb6 hq5
        go_wp2_with fail
        refine (f2.out _ K1.out).mono ?_
        intro e w7 hp
        obtain ⟨A6, c6, o6, rfl, hb7, _, hL6, hN6, hm6, hO6, hq6⟩ := hp.good
        have hs6 : o6 = o5 := nf_unique hN6 H1.out.2.1 hm6
        subst hs6
        have K6 := Lib.hid hL6
        have K1 := Lib.hid (K1.out.below (Nat.le_refl _) hb7)
        have K3 := Lib.hid (K3.out.below (Nat.le_refl _) hb7)
        have K4 := Lib.hid (K4.out.below (Nat.le_refl _) hb7)
        have K5 := Lib.hid (K5.out.below (Nat.le_refl _) hb7)
        have HW := Lib.hid (below_trans HW.out hb7)
        clear hp hL6 hN6 hm6 hO6 hb7 hq6
        go_wp2_with fail
        go_loopw [16, 15] (fun i v wr => ∃ k : Nat, k ≤ l.length ∧ i = .int .i64 ((k : Int) - 1) ∧ wr.ownsRow w7.heap.size 23 2 v (l.drop k).reverse.length (flat (l.drop k).reverse) ∧ Below w7.heap.size w7 wr) (fun i _ _ => (intOf i + 1).toNat)
        case atStart => exact ⟨l.length, Nat.le_refl _, rfl, by simpa [flat] using World.ownsRow_made w7 #[] 0 (Nat.le_refl _) (by unfold maxLen; omega) rfl, below_alloc (Below.refl _ _) _⟩
        case round =>
          obtain ⟨k, hk, rfl, hown, hb⟩ := hrel
          have HO := Lib.hid hown
          clear hown
          rcases Nat.eq_zero_or_pos k with h0 | hpos
          · subst h0
            have HO2 := HO.out
            rw [List.drop_zero] at HO2
            obtain ⟨A7, c7, rfl, hA7, hL7⟩ := own_lies HO2
            have f3 := Lib.hid (normalize_any A7 l.reverse.length c7 l.reverse _ rfl hA7 hL7 (by simp; omega))
            rw [allE_rev HZ.out.1, List.length_reverse] at f3
            have hb9 := Lib.hid (below_trans HW.out hb)
            have K1 := Lib.hid (K1.out.below (Nat.le_refl _) hb)
            have K3 := Lib.hid (K3.out.below (Nat.le_refl _) hb)
            have K4 := Lib.hid (K4.out.below (Nat.le_refl _) hb)
            have K5 := Lib.hid (K5.out.below (Nat.le_refl _) hb)
            have K6 := Lib.hid (K6.out.below (Nat.le_refl _) hb)
            rw [List.drop_zero, List.length_reverse] at *
            clear HO HO2 hA7 hL7 hb
            go_wp2_with fail
            refine f3.out.mono ?_
            intro e w9 hp
            obtain ⟨A8, c8, o8, rfl, hb10, _, hL8, hN8, hm8, hO8, hq8⟩ := hp.good
            have hs8 : o8 = o6 := nf_unique hN8 H1.out.2.1 fun x => by rw [hm8 x, inB_rev, H1.out.2.2.1 x]
            subst hs8
            have K8 := Lib.hid hL8
            have K1 := Lib.hid (K1.out.below (Nat.le_refl _) hb10)
            have K3 := Lib.hid (K3.out.below (Nat.le_refl _) hb10)
            have K4 := Lib.hid (K4.out.below (Nat.le_refl _) hb10)
            have K5 := Lib.hid (K5.out.below (Nat.le_refl _) hb10)
            have K6 := Lib.hid (K6.out.below (Nat.le_refl _) hb10)
            have HW := Lib.hid (below_trans hb9.out hb10)
            clear hp hL8 hN8 hm8 hO8 hb10 hq8
            go_wp2_with fail
            refine (k1.out _ (HL.out.below (Nat.le_refl _) HW.out)).mono ?_
            intro e w10 hp
            obtain ⟨p1, rfl, hg1, p1n, p1m, p1o⟩ := hp.good HZ.out.1
            have P1 := Lib.hid (And.intro p1n (And.intro p1m p1o))
            have G := Lib.hid hg1
            have HW2 := Lib.hid (below_trans HW.out hg1)
            clear hp hg1 p1n p1m p1o
            go_wp2_with fail
            refine (k2.out _ (HR.out.below (Nat.le_refl _) HW2.out)).mono ?_
            intro e w11 hp
            obtain ⟨p2, rfl, hg2, p2n, p2m, p2o⟩ := hp.good HZ.out.2.1
            have P2 := Lib.hid (And.intro p2n (And.intro p2m p2o))
            have G := Lib.hid (below_trans G.out hg2)
            clear hp hg2 p2n p2m p2o
            go_wp2_with fail
            refine (k3.out _ (K3.out.below (Nat.le_refl _) G.out)).mono ?_
            intro e w12 hp
            obtain ⟨p3, rfl, hg3, p3n, p3m, p3o⟩ := hp.good HE.out.1
            have P3 := Lib.hid (And.intro p3n (And.intro p3m p3o))
            have G := Lib.hid (below_trans G.out hg3)
            clear hp hg3 p3n p3m p3o
            go_wp2_with fail
            refine (k4.out _ (K4.out.below (Nat.le_refl _) G.out)).mono ?_
            intro e w13 hp
            obtain ⟨p4, rfl, hg4, p4n, p4m, p4o⟩ := hp.good HE.out.2
            have hsum : cntL p4 = cntL p1 + cntL p2 - cntL p3 := cntL_ie P1.out.1 P2.out.1 P3.out.1 p4n P1.out.2.2 P2.out.2.2 P3.out.2.2 p4o
              (fun x => by rw [P3.out.2.1 x, H3.out.2.2.1 x, P1.out.2.1 x, P2.out.2.1 x]) (fun x => by rw [p4m x, H4.out.2.2.1 x, P1.out.2.1 x, P2.out.2.1 x])
            have G := Lib.hid (below_trans G.out hg4)
            have b1 := cntF_ok P1.out.1 P1.out.2.2
            have b2 := cntF_ok P2.out.1 P2.out.2.2
            have b3 := cntF_ok P3.out.1 P3.out.2.2
            have b4 := cntF_ok p4n p4o
            clear hp hg4 p4n p4m p4o
            have S1 := Lib.hid fun W hL hR => same_any A5 A1 o8.length o8.length c5 c1 o8 o8 W rfl rfl hL hR (by omega) (by omega)
            have S2 := Lib.hid fun W hL hR => same_any A6 A1 o8.length o8.length c6 c1 o8 o8 W rfl rfl hL hR (by omega) (by omega)
            have S3 := Lib.hid fun W hL hR => same_any A8 A1 o8.length o8.length c8 c1 o8 o8 W rfl rfl hL hR (by omega) (by omega)
            have hdec : decide (o8 = o8) = true := by simp
            rw [hdec] at S1 S2 S3
            generalize cntL p1 = C1 at *
            generalize cntL p2 = C2 at *
            generalize cntL p3 = C3 at *
            generalize cntL p4 = C4 at *
            have hv : (C4 == C1 + C2 - C3) = true := by simp [hsum]
            have HS := Lib.hid hsum
            clear hdec hsum
            go_wp2_with fail
            refine (S1.out _ (K5.out.below (Nat.le_refl _) G.out) (K1.out.below (Nat.le_refl _) G.out)).mono ?_
            rintro e w14 ⟨rfl, hs1⟩
            have G := Lib.hid (below_trans G.out hs1)
            clear hs1
            go_wp2_with fail
            refine (S2.out _ (K6.out.below (Nat.le_refl _) G.out) (K1.out.below (Nat.le_refl _) G.out)).mono ?_
            rintro e w15 ⟨rfl, hs2⟩
            have G := Lib.hid (below_trans G.out hs2)
            clear hs2
            go_wp2_with fail
            refine (S3.out _ (K8.out.below (Nat.le_refl _) G.out) (K1.out.below (Nat.le_refl _) G.out)).mono ?_
            rintro e w16 ⟨rfl, hs3⟩
            have G := Lib.hid (below_trans G.out hs3)
            clear hs3
            go_wp2
            go_ret
            exact ⟨rfl, below_trans HW.out G.out⟩
          · have hlt : k - 1 < l.length := by omega
            obtain ⟨b, of, rfl, hbl, hc⟩ := HL.out.ivs (by omega)
            have hbw := HW.out.trans (hb.mono HW.out.size)
            have h1 := (hbw.cell (p := ⟨b, of + (k - 1) * 2, none⟩) hbl).trans (hc (k - 1) hlt).1
            have h2 := (hbw.cell (p := ⟨b, of + (k - 1) * 2 + 1, none⟩) hbl).trans (hc (k - 1) hlt).2
            have hD := drop_rev l (k - 1) hlt
            rw [show k - 1 + 1 = k from by omega] at hD
            have HD := Lib.hid hD
            have hbs := hb.size
            have hp0 : (0 : Int) ≤ (k : Int) - 1 := by omega
            have hp1 : (k : Int) - 1 < (l.length : Int) := by omega
            clear hc hD hbw
            generalize l[k - 1].1 = lo at *
            generalize l[k - 1].2 = hi' at *
            have hlen2 : (l.drop k).reverse.length ≤ 30 := by simp; omega
            go_wp2_with (at_builtin; refine wpList_app rfl _ _ _ rfl w7.heap.size 23 i0 _ 2 16 Try.underlying33 hi hz0 hz1 hz2 rfl (by decide) _ _ _ rfl (HO.out.alloc _) _ 1 1 (flat [(lo, hi')]) rfl (fun e => by cases e) rfl (lies_new [(lo, hi')] ?c2 rfl) (flat_oneCell _) ?c3 ?c4 ?c5 ?_)
            case c2 => simp
            case c3 => unfold maxLen; omega
            case c4 => omega
            case c5 => simp; omega
            intro v3 w8 hown3 hgr _
            have hb8 : Below w7.heap.size w7 w8 := (below_alloc hb _).grown hgr (by simp; omega) (fun k hk => (HO.out.lt k hk).1)
            rw [← flat_append, HD.out] at hown3
            have hln : l.length - k + 1 = (l.drop (k - 1)).reverse.length := by simp; omega
            rw [hln] at hown3
            have HO3 := Lib.hid hown3
            clear hown3 hgr HO hb hln
            go_wp2
            go_roundw
            case rel => exact ⟨k - 1, by omega, by (congr 1; omega), HO3.out, hb8⟩
            case measure => simp [intOf]; omega
      · have hv : (allE (l ++ r) != 0) = true := by simp [h0]
        have H0 := Lib.hid h0
        clear hbig hbig2 hA hB hL hR h0
        generalize allE (l ++ r) = E at *
        go_enter Try.func9, Try.ntmps9
        go_wp2_with fail
        refine (c0.out _).mono ?_
        rintro e w1 ⟨rfl, hb1⟩
        go_wp2_with fail
        refine (d0.out _ (HL.out.below (Nat.le_refl _) hb1)).mono ?_
        intro e w2 hp
        by_cases h1 : allE l = 0
        · rw [h1] at hp
          obtain ⟨A1, c1, o1, rfl, hb2, _⟩ := hp.good
          have hw2 := below_trans hb1 hb2
          clear hp hb1 hb2 h1
          go_wp2_with fail
          refine (d1.out _ (HL.out.below (Nat.le_refl _) hw2) (HR.out.below (Nat.le_refl _) hw2)).mono ?_
          intro e w3 hp
          obtain ⟨rfl, hb3⟩ := hp.bad H0.out
          have hw3 := below_trans hw2 hb3
          clear hp hb3 hw2
          go_wp2_with fail
          refine (d2.out _ (HL.out.below (Nat.le_refl _) hw3) (HR.out.below (Nat.le_refl _) hw3)).mono ?_
          intro e w4 hp
          obtain ⟨rfl, hb4⟩ := hp.bad H0.out
          have hw4 := below_trans hw3 hb4
          clear hp hb4 hw3
          go_wp2_with fail
          refine (d3.out _ (HL.out.below (Nat.le_refl _) hw4) (HR.out.below (Nat.le_refl _) hw4)).mono ?_
          intro e w5 hp
          obtain ⟨rfl, hb5⟩ := hp.bad H0.out
          have hw5 := below_trans hw4 hb5
          clear hp hb5 hw4
          go_wp2
          go_ret
          exact ⟨rfl, hw5⟩
        · obtain ⟨rfl, hb2⟩ := hp.bad h1
          have hw2 := below_trans hb1 hb2
          have hv1 : (allE l != 0) = true := by simp [h1]
          clear hp hb1 hb2 h1
          generalize allE l = E1 at *
          go_wp2_with fail
          refine (d1.out _ (HL.out.below (Nat.le_refl _) hw2) (HR.out.below (Nat.le_refl _) hw2)).mono ?_
          intro e w3 hp
          obtain ⟨rfl, hb3⟩ := hp.bad H0.out
          have hw3 := below_trans hw2 hb3
          clear hp hb3 hw2
          go_wp2_with fail
          refine (d2.out _ (HL.out.below (Nat.le_refl _) hw3) (HR.out.below (Nat.le_refl _) hw3)).mono ?_
          intro e w4 hp
          obtain ⟨rfl, hb4⟩ := hp.bad H0.out
          have hw4 := below_trans hw3 hb4
          clear hp hb4 hw3
          go_wp2_with fail
          refine (d3.out _ (HL.out.below (Nat.le_refl _) hw4) (HR.out.below (Nat.le_refl _) hw4)).mono ?_
          intro e w5 hp
          obtain ⟨rfl, hb5⟩ := hp.bad H0.out
          have hw5 := below_trans hw4 hb5
          clear hp hb5 hw4
          go_wp2
          go_ret
          exact ⟨rfl, hw5⟩
end Go.Proofs.Ytofpiedhenephaa.Sp
