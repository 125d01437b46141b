/- The law's normal; the walk of SpanMembers. -/
import Derived.Test.YtofpiedhenephaaSpS
namespace Go.Proofs.Ytofpiedhenephaa.Sp
open Go.RowKit Go.Lib
set_option linter.unusedVariables false

set_option maxHeartbeats 1600000 in
theorem lnormal_any (A : Option Addr) (n c : Nat) (l : List (Int × Int)) (w : World) (hl : l.length = n) (hL : Lies w A (flat l)) (hn : n ≤ 100000) (hnf : NF l) (hok : Ok l) :
    Calls Try.prog 39 #[.slice A n c] w fun e w' => e = .returned (.bool true) ∧ Below w.heap.size w w' := by
  subst hl
  have HL := Lib.hid hL
  have HK := Lib.hid (And.intro hnf hok)
  clear hL hnf hok
  go_enter Try.func39, Try.ntmps39
  go_wp2
  go_loopw [3] (fun i wr => ∃ k : Nat, k ≤ l.length ∧ i = .int .i64 k ∧ Below w.heap.size w wr) (fun i _ => l.length - (intOf i).toNat)
  case atStart => exact ⟨0, Nat.zero_le _, rfl, Below.refl _ _⟩
  case round =>
    obtain ⟨k, hk, rfl, hb⟩ := hrel
    by_cases hlt : k < l.length
    · obtain ⟨b, o, rfl, hbl, hc⟩ := HL.out.ivs (by omega)
      have h1 := (hb.cell (p := ⟨b, o + k * 2, none⟩) hbl).trans (hc k hlt).1
      have h2 := (hb.cell (p := ⟨b, o + k * 2 + 1, none⟩) hbl).trans (hc k hlt).2
      have hbd := HK.out.2 l[k] (List.getElem_mem hlt)
      have hk0 : (0 : Int) ≤ (k : Int) := by omega
      have hk1 : (k : Int) < (l.length : Int) := by omega
      rcases Nat.eq_zero_or_pos k with h0 | hpos
      · subst h0
        clear hc
        rw [Nat.zero_mul, Nat.add_zero] at h1 h2
        generalize l[0].1 = lo at *
        generalize l[0].2 = hi at *
        have hg1 : decide (hi < lo) = false := by simp; omega
        go_wp2_with fail
        go_quiet (fail)
        go_wp2
        go_roundw
        case rel => exact ⟨1, by omega, by go_num, below_drewN hb _⟩
        case measure => simp [intOf]; omega
      · have hj : k - 1 < l.length := by omega
        have h3 := (hb.cell (p := ⟨b, o + (k - 1) * 2 + 1, none⟩) hbl).trans (hc (k - 1) hj).2
        have hbj := HK.out.2 l[k - 1] (List.getElem_mem hj)
        have hnx : l[k - 1].2 + 2 ≤ l[k].1 := List.pairwise_iff_getElem.1 HK.out.1.2 (k - 1) k hj hlt (by omega)
        clear hc
        generalize l[k].1 = lo at *
        generalize l[k].2 = hi at *
        generalize l[k - 1].2 = pj at *
        have hg1 : decide (hi < lo) = false := by simp; omega
        have hg2 : decide (lo < pj + 2) = false := by simp; omega
        have hg3 : (0 : Int) < (k : Int) := by omega
        have hj0 : (0 : Int) ≤ (k : Int) - 1 := by omega
        have hj1 : (k : Int) - 1 < (l.length : Int) := by omega
        go_wp2_with fail
        go_quiet (fail)
        go_wp2
        go_roundw
        case rel => exact ⟨k + 1, by omega, by go_num, below_drewN hb _⟩
        case measure => simp [intOf]; omega
    · go_wp2
      go_ret
      exact ⟨rfl, hb⟩

/-- the good end of SetPost -/
theorem SetPost.good {w w' : World} {f : Int → Bool} {N : Nat} {e : Ending} (h : SetPost w 0 f N e w') :
    ∃ A c o, e = .returned (.tuple #[.slice A o.length c, .int .i64 0]) ∧ Below w.heap.size w w' ∧ (A = none → c = 0) ∧ Lies w' A (flat o) ∧ NF o ∧ (∀ x, inB o x = f x) ∧ Ok o ∧ o.length ≤ N := by
  obtain ⟨hb, ⟨h0, _⟩ | ⟨_, v, o, rfl, hown, h1, h2, h3, h4⟩⟩ := h
  · exact absurd rfl h0
  · obtain ⟨A, c, rfl, hA, hL⟩ := hown.sl
    exact ⟨A, c, o, rfl, hb, hA, hL, h1, h2, h3, h4⟩
theorem SetPost.bad {w w' : World} {E : Int} {f : Int → Bool} {N : Nat} {e : Ending} (h : SetPost w E f N e w') (h0 : E ≠ 0) : e = .returned (.tuple #[.slice none 0 0, .int .i64 E]) ∧ Below w.heap.size w w' := by
  obtain ⟨hb, ⟨_, he⟩ | ⟨h1, _⟩⟩ := h
  · exact ⟨he, hb⟩
  · exact absurd h1 h0

set_option maxHeartbeats 3200000 in
theorem members_any (A : Option Addr) (n c : Nat) (l : List (Int × Int)) (B : Option Addr) (m d : Nat) (r : List (Int × Int)) (x : Int) (w : World) (hl : l.length = n) (hA : A = none → c = 0) (hL : Lies w A (flat l)) (hn : n ≤ 9223372036854775807) (hr : r.length = m) (hB : B = none → d = 0) (hR : Lies w B (flat r)) (hm : m ≤ 9223372036854775807) :
    Calls Try.prog 8 #[.slice A n c, .slice B m d, .int .i64 x] w fun e w' => e = .returned (.bool true) ∧ Below w.heap.size w w' := by
  have c0 := Lib.hid fun W => awake_any W
  subst hl
  subst hr
  have HL := Lib.hid hL
  have HR := Lib.hid hR
  by_cases hbig : 30 < l.length
  · have hbig' : (30 : Int) < (l.length : Int) := by omega
    clear hbig hA hL hR hB
    go_enter Try.func8, Try.ntmps8
    go_wp2_with fail
    refine (c0.out _).mono ?_
    rintro e w1 ⟨rfl, hb1⟩
    go_wp2
    go_ret
    exact ⟨rfl, hb1⟩
  · have hbig' : (l.length : Int) ≤ 30 := by omega
    by_cases hbig2 : 30 < r.length
    · have hbig2' : (30 : Int) < (r.length : Int) := by omega
      clear hbig hbig2 hA hL hR hB
      go_enter Try.func8, Try.ntmps8
      go_wp2_with fail
      refine (c0.out _).mono ?_
      rintro e w1 ⟨rfl, hb1⟩
      go_wp2
      go_ret
      exact ⟨rfl, hb1⟩
    · have hbig2' : (r.length : Int) ≤ 30 := by omega
      have d0 := Lib.hid fun W hL hR => union_any A l.length c l B r.length d r W rfl hA hL (by omega) rfl hB hR (by omega)
      have d1 := Lib.hid fun W hL hR => minuss_any A l.length c l B r.length d r W rfl hA hL (by omega) rfl hB hR (by omega)
      have d2 := Lib.hid fun W hL hR => commons_any A l.length c l B r.length d r W rfl hA hL (by omega) rfl hB hR (by omega)
      by_cases h0 : allE (l ++ r) = 0
      · rw [h0] at d0 d1 d2
        have i1 := Lib.hid fun W h => in_any A l.length c l x W rfl h (by omega)
        have i2 := Lib.hid fun W h => in_any B r.length d r x W rfl h (by omega)
        clear hbig hbig2 hA hB hL hR h0
        go_enter Try.func8, Try.ntmps8
        go_wp2_with fail
        refine (c0.out _).mono ?_
        rintro e w1 ⟨rfl, hb1⟩
        go_wp2_with fail
        refine (d0.out _ (HL.out.below (Nat.le_refl _) hb1) (HR.out.below (Nat.le_refl _) hb1)).mono ?_
        intro e w2 hp
        obtain ⟨A2, c2, o2, rfl, hb2, _, hL2, hN2, hm2, hO2, hz2⟩ := hp.good
        have H2 := Lib.hid (And.intro hL2 (And.intro hN2 (And.intro hm2 hO2)))
        have hw2 := below_trans hb1 hb2
        clear hp hL2 hN2 hm2 hO2 hb1 hb2
        go_wp2_with fail
        refine (d1.out _ (HL.out.below (Nat.le_refl _) hw2) (HR.out.below (Nat.le_refl _) hw2)).mono ?_
        intro e w3 hp
        obtain ⟨A3, c3, o3, rfl, hb3, _, hL3, hN3, hm3, hO3, hz3⟩ := hp.good
        have H3 := Lib.hid (And.intro hL3 (And.intro hN3 (And.intro hm3 hO3)))
        have hw3 := below_trans hw2 hb3
        have L2 := Lib.hid (H2.out.1.below (Nat.le_refl _) hb3)
        clear hp hL3 hN3 hm3 hO3 hb3 hw2
        go_wp2_with fail
        refine (d2.out _ (HL.out.below (Nat.le_refl _) hw3) (HR.out.below (Nat.le_refl _) hw3)).mono ?_
        intro e w4 hp
        obtain ⟨A4, c4, o4, rfl, hb4, _, hL4, hN4, hm4, hO4, hz4⟩ := hp.good
        have H4 := Lib.hid (And.intro hL4 (And.intro hN4 (And.intro hm4 hO4)))
        have hw4 := below_trans hw3 hb4
        have L2 := Lib.hid (L2.out.below (Nat.le_refl _) hb4)
        have L3 := Lib.hid (H3.out.1.below (Nat.le_refl _) hb4)
        clear hp hL4 hN4 hm4 hO4 hb4 hw3
        have j2 := Lib.hid fun W h => in_any A2 o2.length c2 o2 x W rfl h (by omega)
        have j3 := Lib.hid fun W h => in_any A3 o3.length c3 o3 x W rfl h (by omega)
        have j4 := Lib.hid fun W h => in_any A4 o4.length c4 o4 x W rfl h (by omega)
        rw [H2.out.2.2.1 x] at j2
        rw [H3.out.2.2.1 x] at j3
        rw [H4.out.2.2.1 x] at j4
        have q2 := Lib.hid fun W h => lnormal_any A2 o2.length c2 o2 W rfl h (by omega) H2.out.2.1 H2.out.2.2.2
        have q3 := Lib.hid fun W h => lnormal_any A3 o3.length c3 o3 W rfl h (by omega) H3.out.2.1 H3.out.2.2.2
        have q4 := Lib.hid fun W h => lnormal_any A4 o4.length c4 o4 W rfl h (by omega) H4.out.2.1 H4.out.2.2.2
        have KL := Lib.hid (And.intro (HL.out.below (Nat.le_refl _) hw4) (And.intro (HR.out.below (Nat.le_refl _) hw4) (And.intro L2.out (And.intro L3.out H4.out.1))))
        have HW := Lib.hid hw4
        clear H2 H3 H4 L2 L3 hw4
        generalize inB l x = X at *
        generalize inB r x = Y at *
        rcases X with _ | _ <;> rcases Y with _ | _
        all_goals
          simp only [Bool.or_self, Bool.or_false, Bool.or_true, Bool.true_or, Bool.false_or, Bool.and_self, Bool.and_false, Bool.and_true, Bool.false_and, Bool.true_and, Bool.not_true, Bool.not_false] at j2 j3 j4
          go_wp2_with fail
          refine (i1.out _ KL.out.1).mono ?_
          rintro e w5 ⟨rfl, hb5⟩
          go_wp2_with fail
          refine (i2.out _ (KL.out.2.1.below (Nat.le_refl _) hb5)).mono ?_
          rintro e w6 ⟨rfl, hb6⟩
          have g6 := below_trans hb5 hb6
          clear hb5 hb6
          go_wp2_with fail
          refine (j2.out _ (KL.out.2.2.1.below (Nat.le_refl _) g6)).mono ?_
          rintro e w7 ⟨rfl, hb7⟩
          have g7 := below_trans g6 hb7
          clear g6 hb7
          go_wp2_with fail
          refine (j3.out _ (KL.out.2.2.2.1.below (Nat.le_refl _) g7)).mono ?_
          rintro e w8 ⟨rfl, hb8⟩
          have g8 := below_trans g7 hb8
          clear g7 hb8
          go_wp2_with fail
          refine (j4.out _ (KL.out.2.2.2.2.below (Nat.le_refl _) g8)).mono ?_
          rintro e w9 ⟨rfl, hb9⟩
          have g9 := below_trans g8 hb9
          clear g8 hb9
          go_wp2_with fail
          refine (q2.out _ (KL.out.2.2.1.below (Nat.le_refl _) g9)).mono ?_
          rintro e w10 ⟨rfl, hb10⟩
          have g10 := below_trans g9 hb10
          clear g9 hb10
          go_wp2_with fail
          refine (q3.out _ (KL.out.2.2.2.1.below (Nat.le_refl _) g10)).mono ?_
          rintro e w11 ⟨rfl, hb11⟩
          have g11 := below_trans g10 hb11
          clear g10 hb11
          go_wp2_with fail
          refine (q4.out _ (KL.out.2.2.2.2.below (Nat.le_refl _) g11)).mono ?_
          rintro e w12 ⟨rfl, hb12⟩
          have g12 := below_trans g11 hb12
          clear g11 hb12
          go_wp2
          go_ret
          exact ⟨rfl, below_trans HW.out g12⟩
      · have hv : (allE (l ++ r) != 0) = true := by simp [h0]
        have H0 := Lib.hid h0
        clear hbig hbig2 hA hB hL hR h0
        generalize allE (l ++ r) = E at *
        go_enter Try.func8, Try.ntmps8
        go_wp2_with fail
        refine (c0.out _).mono ?_
        rintro e w1 ⟨rfl, hb1⟩
        go_wp2_with fail
        refine (d0.out _ (HL.out.below (Nat.le_refl _) hb1) (HR.out.below (Nat.le_refl _) hb1)).mono ?_
        intro e w2 hp
        obtain ⟨rfl, hb2⟩ := hp.bad H0.out
        have hw2 := below_trans hb1 hb2
        clear hp hb1 hb2
        go_wp2_with fail
        refine (d1.out _ (HL.out.below (Nat.le_refl _) hw2) (HR.out.below (Nat.le_refl _) hw2)).mono ?_
        intro e w3 hp
        obtain ⟨rfl, hb3⟩ := hp.bad H0.out
        have hw3 := below_trans hw2 hb3
        clear hp hb3 hw2
        go_wp2_with fail
        refine (d2.out _ (HL.out.below (Nat.le_refl _) hw3) (HR.out.below (Nat.le_refl _) hw3)).mono ?_
        intro e w4 hp
        obtain ⟨rfl, hb4⟩ := hp.bad H0.out
        have hw4 := below_trans hw3 hb4
        clear hp hb4 hw3
        go_wp2
        go_ret
        exact ⟨rfl, hw4⟩
end Go.Proofs.Ytofpiedhenephaa.Sp
