/- Normalize, Count; the law's awake. -/
import Derived.Test.YtofpiedhenephaaSpH
namespace Go.Proofs.Ytofpiedhenephaa.Sp
open Go.RowKit Go.Lib
set_option linter.unusedVariables false

theorem lies_cells {w : World} {n : Nat} {xs : List Value} {cs : Array Value} {t : TypeId} (hn : n = w.heap.size) (hcs : cs.toList = xs) : Lies (w.alloc (.cells cs t)) (some ⟨n, 0, none⟩) xs := by
  intro _
  subst hn
  refine ⟨_, _, rfl, by simp, fun j u hu => ?_⟩
  rw [← hcs] at hu
  rw [cell_of_row (w.alloc (.cells cs t)) w.heap.size (0 + j) cs t (0, 0) (heap_alloc_new w _), Nat.zero_add, ← Array.getElem?_toList]
  exact hu
theorem liesS_one {w : World} {n : Nat} {s : Sl} {t : TypeId} (hn : n = w.heap.size) (h : s.at_ w) : LiesS (w.alloc (.cells #[.slice s.A s.l.length s.c] t)) (some ⟨n, 0, none⟩) [s] :=
  ⟨lies_cells hn rfl, fun r hr => by simp at hr; subst hr; exact h.below (below_alloc (Below.refl _ _) _)⟩
theorem liesS_two {w : World} {n : Nat} {s r : Sl} {t : TypeId} (hn : n = w.heap.size) (h : s.at_ w) (h' : r.at_ w) : LiesS (w.alloc (.cells #[.slice s.A s.l.length s.c, .slice r.A r.l.length r.c] t)) (some ⟨n, 0, none⟩) [s, r] :=
  ⟨lies_cells hn rfl, fun q hq => by
    simp at hq
    rcases hq with rfl | rfl
    · exact h.below (below_alloc (Below.refl _ _) _)
    · exact h'.below (below_alloc (Below.refl _ _) _)⟩

theorem listsE_one (s : Sl) (h : s.l.length ≤ 10000) : listsE [s] = allE s.l := by
  rw [listsE, if_neg (by simp; omega)]; simp [cat]
theorem listsE_two (s r : Sl) (h : s.l.length ≤ 10000) (h' : r.l.length ≤ 10000) : listsE [s, r] = allE (s.l ++ r.l) := by
  rw [listsE, if_neg (by simp; omega)]; simp [cat]

/-- what a set function answers -/
def SetPost (w : World) (E : Int) (f : Int → Bool) (N : Nat) (e : Ending) (w' : World) : Prop :=
  Below w.heap.size w w' ∧ ((E ≠ 0 ∧ e = .returned (.tuple #[.slice none 0 0, .int .i64 E])) ∨ (E = 0 ∧ ∃ v o, e = .returned (.tuple #[v, .int .i64 0]) ∧ Own w w' v o ∧ NF o ∧ (∀ x, inB o x = f x) ∧ Ok o ∧ o.length ≤ N))

set_option maxHeartbeats 800000 in
theorem normalize_any (A : Option Addr) (n c : Nat) (l : List (Int × Int)) (w : World) (hl : l.length = n) (hA : A = none → c = 0) (hL : Lies w A (flat l)) (hn : n ≤ 10000) :
    Calls Try.prog 30 #[.slice A n c] w (SetPost w (allE l) (inB l) n) := by
  have hs : (Sl.mk A c l).at_ w := ⟨hA, hL⟩
  have hE := listsE_one ⟨A, c, l⟩ (by simp only; omega)
  have hck := Lib.hid fun W B (h : LiesS W B [⟨A, c, l⟩]) => checkLists_any B 1 1 [⟨A, c, l⟩] W rfl h (by omega)
  rw [hE] at hck
  have HS := Lib.hid hs
  by_cases h0 : allE l = 0
  · have hnm := Lib.hid fun W hL => normal_any A n c l W hl hA hL (by omega) (allE_ok h0)
    rw [h0] at hck ⊢
    subst hl
    clear hL hA hs hE h0
    go_enter Try.func30, Try.ntmps30
    go_wp2_with fail
    refine (hck.out _ _ (liesS_one rfl HS.out)).mono ?_
    rintro e w1 ⟨rfl, hb1⟩
    have hb : Below w.heap.size w w1 := below_trans (below_alloc (Below.refl _ _) _) hb1
    clear hb1
    go_wp2_with fail
    refine (hnm.out _ (HS.out.2.below (Nat.le_refl _) hb)).mono ?_
    rintro e w2 ⟨v, o, rfl, hown, h1, h2, h3, h4⟩
    have H := Lib.hid (And.intro hown (And.intro h1 (And.intro h2 (And.intro h3 h4))))
    clear hown h1 h2 h3 h4
    go_wp2
    go_ret2
    have hb2 := below_trans hb H.out.1.2
    exact ⟨hb2, .inr ⟨rfl, v, o, rfl, ⟨own_base H.out.1.1 hb.size, hb2⟩, H.out.2.1, H.out.2.2.1, H.out.2.2.2.1, H.out.2.2.2.2⟩⟩
  · have hv : (allE l != 0) = true := by simp [h0]
    have H0 := Lib.hid h0
    subst hl
    clear hL hA hs hE h0
    generalize allE l = E at *
    go_enter Try.func30, Try.ntmps30
    go_wp2_with fail
    refine (hck.out _ _ (liesS_one rfl HS.out)).mono ?_
    rintro e w1 ⟨rfl, hb1⟩
    have hb : Below w.heap.size w w1 := below_trans (below_alloc (Below.refl _ _) _) hb1
    clear hb1
    go_wp2
    go_ret2
    exact ⟨hb, .inl ⟨H0.out, rfl⟩⟩

theorem ok_len {p : Int × Int} (h : -1000000000000 ≤ p.1 ∧ p.1 ≤ p.2 ∧ p.2 ≤ 1000000000000) : lenE p.1 p.2 = p.2 - p.1 + 1 := by
  have : allE [(p.1, p.2)] = 0 := allE_of (by intro q hq; simp at hq; subst hq; exact h)
  rw [lenE, if_pos this]

/-- what Count answers -/
def CntPost (w : World) (l : List (Int × Int)) (e : Ending) (w' : World) : Prop :=
  Below w.heap.size w w' ∧ ((allE l ≠ 0 ∧ e = .returned (.tuple #[.int .i64 0, .int .i64 (allE l)])) ∨ (allE l = 0 ∧ ∃ o, e = .returned (.tuple #[.int .i64 (cntL o), .int .i64 0]) ∧ NF o ∧ (∀ x, inB o x = inB l x) ∧ Ok o))

set_option maxHeartbeats 800000 in
theorem count_any (A : Option Addr) (n c : Nat) (l : List (Int × Int)) (w : World) (hl : l.length = n) (hA : A = none → c = 0) (hL : Lies w A (flat l)) (hn : n ≤ 1000) :
    Calls Try.prog 34 #[.slice A n c] w (CntPost w l) := by
  have hs : (Sl.mk A c l).at_ w := ⟨hA, hL⟩
  have hE := listsE_one ⟨A, c, l⟩ (by simp only; omega)
  have hck := Lib.hid fun W B (h : LiesS W B [⟨A, c, l⟩]) => checkLists_any B 1 1 [⟨A, c, l⟩] W rfl h (by omega)
  rw [hE] at hck
  have HS := Lib.hid hs
  by_cases h0 : allE l = 0
  · have hnm := Lib.hid fun W hL => normal_any A n c l W hl hA hL (by omega) (allE_ok h0)
    rw [h0] at hck
    have H0 := Lib.hid h0
    subst hl
    clear hL hA hs hE h0
    go_enter Try.func34, Try.ntmps34
    go_wp2_with fail
    refine (hck.out _ _ (liesS_one rfl HS.out)).mono ?_
    rintro e w1 ⟨rfl, hb1⟩
    have hb : Below w.heap.size w w1 := below_trans (below_alloc (Below.refl _ _) _) hb1
    clear hb1
    go_wp2_with fail
    refine (hnm.out _ (HS.out.2.below (Nat.le_refl _) hb)).mono ?_
    rintro e w2 ⟨v, o, rfl, hown, h1, h2, h3, h4⟩
    have H := Lib.hid (And.intro h1 (And.intro h2 h3))
    obtain ⟨A2, c2, rfl, _, hL2⟩ := hown.sl
    have HL := Lib.hid hL2
    have hb2 := below_trans hb hown.2
    clear hown h1 h2 h3 hL2 hb
    go_wp2_with fail
    go_loopw [17, 5] (fun i t wr => ∃ k : Nat, k ≤ o.length ∧ i = .int .i64 k ∧ t = .int .i64 (cntL (o.take k)) ∧ Below w2.heap.size w2 wr) (fun i _ _ => o.length - (intOf i).toNat)
    case atStart => exact ⟨0, Nat.zero_le _, rfl, rfl, Below.refl _ _⟩
    case round =>
      obtain ⟨k, hk, rfl, rfl, hbw⟩ := hrel
      have hcb := cntL_bd (o.take k) 1000 (by rw [List.length_take]; omega) (fun p hp => H.out.2.2 p (List.mem_of_mem_take hp))
      by_cases hlt : k < o.length
      · obtain ⟨b, of, rfl, hbl, hc⟩ := HL.out.ivs (by omega)
        have h1 := (hbw.cell (p := ⟨b, of + k * 2, none⟩) hbl).trans (hc k hlt).1
        have h2 := (hbw.cell (p := ⟨b, of + k * 2 + 1, none⟩) hbl).trans (hc k hlt).2
        have hbd := H.out.2.2 o[k] (List.getElem_mem hlt)
        have HC : Hid (cntL (o.take (k + 1)) = cntL (o.take k) + (o[k].2 - o[k].1 + 1)) := Lib.hid (cntL_take o k hlt)
        have hlen := Lib.hid fun W => length_any o[k].1 o[k].2 W
        rw [ok_len hbd] at hlen
        clear hc
        generalize o[k].1 = lo at *
        generalize o[k].2 = hi at *
        generalize cntL (o.take k) = C at *
        go_wp2_with (go_at_call 17; refine (hlen.out _).mono ?_; rintro e w3 ⟨rfl, hb3⟩)
        go_roundw
        case rel => exact ⟨k + 1, by omega, by go_num, by rw [HC.out], below_trans (below_alloc hbw _) hb3⟩
        case measure => simp [intOf]; omega
      · have e : k = o.length := by omega
        subst e
        rw [List.take_length] at *
        go_wp2
        go_ret2
        exact ⟨below_trans hb2 hbw, .inr ⟨H0.out, o, rfl, H.out.1, H.out.2.1, H.out.2.2⟩⟩
  · have hv : (allE l != 0) = true := by simp [h0]
    have H0 := Lib.hid h0
    have hpost : ∀ e w', Below w.heap.size w w' → e = Ending.returned (.tuple #[.int .i64 0, .int .i64 (allE l)]) → CntPost w l e w' := fun e w' hb he => ⟨hb, .inl ⟨h0, he⟩⟩
    have HP := Lib.hid hpost
    subst hl
    clear hL hA hs hE h0 hpost
    generalize allE l = E at *
    go_enter Try.func34, Try.ntmps34
    go_wp2_with fail
    refine (hck.out _ _ (liesS_one rfl HS.out)).mono ?_
    rintro e w1 ⟨rfl, hb1⟩
    have hb : Below w.heap.size w w1 := below_trans (below_alloc (Below.refl _ _) _) hb1
    clear hb1
    go_wp2
    go_ret2
    exact HP.out _ _ hb rfl

theorem awake_norm {o : List (Int × Int)} (h : NF o) (hm : ∀ x, inB o x = inB [(5, 7), (1, 2), (3, 3)] x) : o = [(1, 3), (5, 7)] :=
  nf_unique h ⟨by simp, by simp⟩ fun x => by
    rw [hm x, Bool.eq_iff_iff, inB_iff, inB_iff]
    simp
    omega
theorem awake_cnt {o : List (Int × Int)} (h : NF o) (hm : ∀ x, inB o x = inB [(1, 5), (4, 9)] x) : o = [(1, 9)] :=
  nf_unique h ⟨by simp, by simp⟩ fun x => by
    rw [hm x, Bool.eq_iff_iff, inB_iff, inB_iff]
    simp
    omega

set_option maxHeartbeats 800000 in
theorem awake_any (w : World) : Calls Try.prog 10 #[] w fun e w' => e = .returned (.bool true) ∧ Below w.heap.size w w' := by
  have hadd := Lib.hid fun W => add_any 1 3 10 20 W
  have e1 : sumA [(1, 3), (10, 20)] = (11, 23) := by decide +kernel
  have e2 : sumE [(1, 3), (10, 20)] = 0 := by decide +kernel
  rw [e1, e2] at hadd
  have e3 : allE [(5, 7), (1, 2), (3, 3)] = 0 := by decide +kernel
  have e4 : allE [(1, 5), (4, 9)] = 0 := by decide +kernel
  have hnorm := Lib.hid fun W A (hA : A = none → 3 = 0) hL => normalize_any A 3 3 [(5, 7), (1, 2), (3, 3)] W rfl hA hL (by omega)
  have hcnt := Lib.hid fun W A (hA : A = none → 2 = 0) hL => count_any A 2 2 [(1, 5), (4, 9)] W rfl hA hL (by omega)
  rw [e3] at hnorm
  have E4 := Lib.hid e4
  clear e1 e2 e3 e4
  have heq := fun a b c d W => iv_eql a b c d W
  have hgd := fun x y xs ys W => iv_guard .eql x y xs ys W
  go_enter Try.func10, Try.ntmps10
  go_wp2_with fail
  refine (hadd.out _).mono ?_
  rintro e w1 ⟨rfl, hb1⟩
  go_wp2_with fail
  refine (hnorm.out _ _ (fun e => by cases e) (lies_new [(5, 7), (1, 2), (3, 3)] (by simp) rfl)).mono ?_
  rintro e w2 ⟨hb2, ⟨h0, _⟩ | ⟨_, v, o, rfl, hown, hnf, hmem, _, _⟩⟩
  · exact absurd rfl h0
  have ho := awake_norm hnf hmem
  subst ho
  obtain ⟨A2, c2, rfl, _, hL2⟩ := hown.sl
  have HL2 := Lib.hid hL2
  have hB2 := ((Blk.new w1 23 #[.int .i64 11, .int .i64 23]).alloc (.cells #[.int .i64 5, .int .i64 7, .int .i64 1, .int .i64 2, .int .i64 3, .int .i64 3] 23)).below hb2 (by simp <;> omega)
  have HB2 := Lib.hid hB2
  have hbw2 : Below w.heap.size w w2 := below_trans (below_alloc (below_alloc hb1 _) _) hb2
  clear hown hnf hmem hL2 hB2 hb1 hb2
  go_wp2_with fail
  refine (hcnt.out _ _ (fun e => by cases e) (lies_new [(1, 5), (4, 9)] (by simp) rfl)).mono ?_
  rintro e w3 ⟨hb3, ⟨h0, _⟩ | ⟨_, o, rfl, hnf, hmem, _⟩⟩
  · exact absurd E4.out h0
  have ho := awake_cnt hnf hmem
  subst ho
  have hc9 : cntL [(1, 9)] = 9 := by decide +kernel
  rw [hc9]
  have hB3 := (HB2.out.alloc (.cells #[.int .i64 1, .int .i64 5, .int .i64 4, .int .i64 9] 23)).below hb3 (by have := HB2.out.lt; simp; omega)
  have hk0 : w3.cell? ⟨w1.heap.size, 0, none⟩ = some (.int .i64 11) := by simpa using hB3.cell 0
  have hk1 : w3.cell? ⟨w1.heap.size, 1, none⟩ = some (.int .i64 23) := by simpa using hB3.cell 1
  have HL3 := Lib.hid ((HL2.out.below (Nat.le_refl _) (below_alloc (Below.refl w2.heap.size w2) (.cells #[.int .i64 1, .int .i64 5, .int .i64 4, .int .i64 9] 23))).below (Nat.le_refl _) hb3)
  have hbw3 : Below w.heap.size w w3 := below_trans (below_alloc hbw2 _) hb3
  have hsame := Lib.hid fun W B (hL : Lies W A2 (flat [(1, 3), (5, 7)])) (hR : Lies W B (flat [(1, 3), (5, 7)])) => same_any A2 B 2 2 c2 2 [(1, 3), (5, 7)] [(1, 3), (5, 7)] W rfl rfl hL hR (by omega) (by omega)
  have hdec : decide (([(1, 3), (5, 7)] : List (Int × Int)) = [(1, 3), (5, 7)]) = true := by simp
  rw [hdec] at hsame
  have heq1 := fun W => iv_eql 11 23 11 23 W
  have hv : ((11 : Int) == 11 && (23 : Int) == 23) = true := by decide
  rw [hv] at heq1
  clear hdec hv heq hb3 hB3 HB2 hnf hmem hc9 hbw2 HL2
  go_wp2_with (go_at_call 36; refine (hsame.out _ _ (HL3.out.below (Nat.le_refl _) (below_alloc (Below.refl _ _) _)) (lies_new [(1, 3), (5, 7)] (by simp) rfl)).mono ?_; rintro e w4 ⟨rfl, hb4⟩)
  go_ret
  exact ⟨rfl, below_trans (below_alloc hbw3 _) hb4⟩
end Go.Proofs.Ytofpiedhenephaa.Sp
