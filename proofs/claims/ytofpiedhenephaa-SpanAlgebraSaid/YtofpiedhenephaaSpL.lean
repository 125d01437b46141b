/- Lists and Sum of the reference; Sum of the program. -/
import Derived.Test.YtofpiedhenephaaSpK
namespace Go.Proofs.Ytofpiedhenephaa.Sp
open Go.RowKit Go.Lib
set_option linter.unusedVariables false

/-- the first error of two lists -/
def listsR (l r : List (Int × Int)) : Int := if 10000 < l.length ∨ 10000 < r.length then 7 else allE (l ++ r)

set_option maxHeartbeats 800000 in
theorem rlists_any (A B : Option Addr) (n m c d : Nat) (l r : List (Int × Int)) (w : World) (hl : l.length = n) (hr : r.length = m) (hA : A = none → c = 0) (hB : B = none → d = 0) (hL : Lies w A (flat l)) (hR : Lies w B (flat r)) (hn : n ≤ 9223372036854775807) (hm : m ≤ 9223372036854775807) :
    Calls Try.prog 29 #[.slice A n c, .slice B m d] w fun e w' => e = .returned (.int .i64 (listsR l r)) ∧ Below w.heap.size w w' := by
  subst hl
  subst hr
  obtain ⟨i0, hi, hz0, hz1, hz2⟩ := info_parts ivInfo
  by_cases h1 : 10000 < l.length
  · have h1' : (10000 : Int) < (l.length : Int) := by omega
    have e : listsR l r = 7 := by rw [listsR, if_pos (.inl h1)]
    rw [e]
    clear e h1 hA hB hL hR
    go_enter Try.func29, Try.ntmps29
    go_wp2
    go_ret
    exact ⟨rfl, Below.refl _ _⟩
  · have h1' : (l.length : Int) ≤ 10000 := by omega
    by_cases h2 : 10000 < r.length
    · have h2' : (10000 : Int) < (r.length : Int) := by omega
      have e : listsR l r = 7 := by rw [listsR, if_pos (.inr h2)]
      rw [e]
      clear e h1 h2 hA hB hL hR
      go_enter Try.func29, Try.ntmps29
      go_wp2
      go_ret
      exact ⟨rfl, Below.refl _ _⟩
    · have h2' : (r.length : Int) ≤ 10000 := by omega
      have e : listsR l r = allE (l ++ r) := by rw [listsR, if_neg (by omega)]
      rw [e]
      have H1 := Lib.hid (flat_oneCell l)
      have H2 : Hid ((flat l).length = l.length * 2) := Lib.hid (by rw [flat_length]; omega)
      have H3 := Lib.hid (flat_oneCell r)
      have H4 : Hid ((flat r).length = r.length * 2) := Lib.hid (by rw [flat_length]; omega)
      have HA := Lib.hid (And.intro hA hL)
      have HB := Lib.hid (And.intro hB hR)
      clear e h1 h2 hA hB hL hR
      go_enter Try.func29, Try.ntmps29
      go_wp2_with (at_builtin; refine wpList_app rfl (.tmp 13) (.tmp 14) _ rfl w.heap.size 23 i0 _ 2 16 Try.underlying33 hi hz0 hz1 hz2 rfl (by decide) _ 0 [] rfl ?a1 A l.length c (flat l) rfl HA.out.1 H2.out ?a2 H1.out ?a3 ?a4 ?a5 ?_)
      case a1 => exact World.ownsRow_made w #[] 0 (Nat.le_refl _) (by unfold maxLen; omega) rfl
      case a2 => exact HA.out.2.below (Nat.le_refl _) (below_alloc (Below.refl _ _) _)
      case a3 => unfold maxLen; omega
      case a4 => omega
      case a5 => simp
      intro v1 w1 hown1 hg1 _
      have hb1 : Below w.heap.size w w1 := (below_alloc (Below.refl w.heap.size w) _).grown hg1 (by simp) (fun k hk => by simp [Value.ownBlock] at hk; omega)
      have HO1 := Lib.hid hown1
      clear hown1 hg1
      go_wp2_with (at_builtin; refine wpList_app rfl (.tmp 15) (.tmp 16) _ rfl w.heap.size 23 i0 _ 2 16 Try.underlying33 hi hz0 hz1 hz2 rfl (by decide) _ _ _ rfl HO1.out B r.length d (flat r) rfl HB.out.1 H4.out ?a2 H3.out ?a3 ?a4 ?a5 ?_)
      case a2 => exact HB.out.2.below (Nat.le_refl _) hb1
      case a3 => unfold maxLen; omega
      case a4 => omega
      case a5 => exact hb1.size
      intro v2 w2 hown2 hg2 _
      have hb2 : Below w.heap.size w w2 := hb1.grown hg2 hb1.size (fun k hk => (HO1.out.lt k hk).1)
      obtain ⟨A2, c2, rfl, _, hL2⟩ := own_lies hown2
      rw [← flat_append] at hL2
      have hall := Lib.hid (rall_any A2 (l.length + r.length) c2 (l ++ r) w2 (by simp) hL2 (by omega))
      clear hown2 hg2 hL2 HO1
      go_wp2_with (go_at_call 41; refine hall.out.mono ?_; rintro e w3 ⟨rfl, hb3⟩)
      go_ret
      exact ⟨rfl, below_trans hb2 hb3⟩

theorem listsR_nil (l : List (Int × Int)) (h : l.length ≤ 10000) : listsR l [] = allE l := by
  rw [listsR, if_neg (by simp; omega), List.append_nil]

set_option maxHeartbeats 1600000 in
theorem rsum_any (A : Option Addr) (n c : Nat) (l : List (Int × Int)) (w : World) (hl : l.length = n) (hA : A = none → c = 0) (hL : Lies w A (flat l)) (hn : n ≤ 10000) :
    Calls Try.prog 28 #[.slice A n c] w fun e w' => e = .returned (.tuple #[.agg #[.int .i64 (sumA l).1, .int .i64 (sumA l).2], .int .i64 (sumE l)]) ∧ Below w.heap.size w w' := by
  have hlist := Lib.hid fun W h => rlists_any A none n 0 c 0 l [] W hl rfl hA (fun _ => rfl) h Lies.nil_ (by omega) (by omega)
  rw [listsR_nil l (by omega)] at hlist
  subst hl
  have HL := Lib.hid hL
  clear hA
  by_cases h0 : allE l = 0
  · have hok := allE_ok h0
    have Hok := Lib.hid hok
    have he : sumE l = resE (sumP l).1 (sumP l).2 := by rw [sumE, if_pos h0]
    have ha : sumA l = okA (sumP l).1 (sumP l).2 (resE (sumP l).1 (sumP l).2) := by rw [sumA, he]
    rw [ha, he]
    have c3 := Lib.hid fun W => result_any (sumP l).1 (sumP l).2 W
    rw [h0] at hlist
    generalize resE (sumP l).1 (sumP l).2 = E at *
    generalize okA (sumP l).1 (sumP l).2 E = O at *
    obtain ⟨o1, o2⟩ := O
    simp only at c3 ⊢
    clear ha he h0 hok hL
    go_enter Try.func28, Try.ntmps28
    go_wp2_with fail
    refine (hlist.out _ (HL.out.below (Nat.le_refl _) (below_alloc (Below.refl _ _) _))).mono ?_
    rintro e w1 ⟨rfl, hb1⟩
    have hB1 := (Blk.new w 23 #[.int .i64 0, .int .i64 0]).below hb1 (by simp)
    have HB1 := Lib.hid hB1
    have hw1 : Below w.heap.size w w1 := below_trans (below_alloc (Below.refl _ _) _) hb1
    have Hw1 := Lib.hid hw1
    clear hb1 hB1 hw1
    go_wp2
    go_loopw [6] (fun i wr => ∃ k : Nat, k ≤ l.length ∧ i = .int .i64 k ∧ Blk wr w.heap.size 23 #[.int .i64 0, .int .i64 0] ∧ Blk wr w1.heap.size 23 #[.int .i64 (sumP (l.take k)).1, .int .i64 (sumP (l.take k)).2] ∧ Below w.heap.size w wr) (fun i _ => l.length - (intOf i).toNat)
    case atStart =>
      refine ⟨0, Nat.zero_le _, rfl, HB1.out.alloc _, ?_, below_alloc Hw1.out _⟩
      simpa [sumP] using Blk.new w1 23 #[.int .i64 0, .int .i64 0]
    case round =>
      obtain ⟨k, hk, rfl, hB0, hB2, hb⟩ := hrel
      have hs := sumP_bd (l.take k) 10000 (by rw [List.length_take]; omega) (fun p hp => Hok.out p (List.mem_of_mem_take hp))
      have hw01 : w.heap.size < w1.heap.size := HB1.out.lt
      have HB0 := Lib.hid hB0
      have HB2 := Lib.hid hB2
      by_cases hlt : k < l.length
      · obtain ⟨b, o, rfl, hbl, hc⟩ := HL.out.ivs (by omega)
        have h1 := (hb.cell (p := ⟨b, o + k * 2, none⟩) hbl).trans (hc k hlt).1
        have h2 := (hb.cell (p := ⟨b, o + k * 2 + 1, none⟩) hbl).trans (hc k hlt).2
        have hbd := Hok.out l[k] (List.getElem_mem hlt)
        have HS : Hid (sumP (l.take (k + 1)) = ((sumP (l.take k)).1 + l[k].1, (sumP (l.take k)).2 + l[k].2)) := Lib.hid (sumP_take l k hlt)
        have hc0 := hB2.cell 0
        have hc1 := hB2.cell 1
        have hf0 := hB2.frozen 0
        have hf1 := hB2.frozen 1
        simp at hc0 hc1
        have hk0 : (0 : Int) ≤ (k : Int) := by omega
        have hk1 : (k : Int) < (l.length : Int) := by omega
        have n1 : w1.heap.size ≠ b := by omega
        clear hc hB0 hB2
        generalize l[k].1 = lo at *
        generalize l[k].2 = hi at *
        generalize (sumP (l.take k)).1 = s1 at *
        generalize (sumP (l.take k)).2 = s2 at *
        go_wp2_with fail
        go_region
        go_wp2_with fail
        go_region
        go_wp2
        go_roundw
        case rel =>
          refine ⟨k + 1, by omega, by go_num, ?_, ?_, ?_⟩
          · exact ((HB0.out.far (p := ⟨w1.heap.size, 0, none⟩) (by simp; omega) (.int .i64 (s1 + lo))).far (p := ⟨w1.heap.size, 1, none⟩) (by simp; omega) (.int .i64 (s2 + hi))).drewN 2
          · rw [HS.out]
            have X : Blk ((wr.setCell ⟨w1.heap.size, 0, none⟩ (.int .i64 (s1 + lo))).setCell ⟨w1.heap.size, 1, none⟩ (.int .i64 (s2 + hi))) w1.heap.size 23 #[.int .i64 (s1 + lo), .int .i64 (s2 + hi)] := by
              simpa using ((HB2.out.set_ 0 (.int .i64 (s1 + lo))).set_ 1 (.int .i64 (s2 + hi)))
            exact X.drewN 2
          · exact below_drewN (below_set (below_set hb (by simp; omega) (.int .i64 (s1 + lo))) (by simp; omega) (.int .i64 (s2 + hi))) 2
        case measure => simp [intOf]; omega
      · have e : k = l.length := by omega
        subst e
        rw [List.take_length] at hB2
        have hc0 := hB2.cell 0
        have hc1 := hB2.cell 1
        have hd0 := hB0.cell 0
        have hd1 := hB0.cell 1
        have hf0 := hB0.frozen 0
        have hf1 := hB0.frozen 1
        have hzz : w.heap.size < wr.heap.size := hB0.lt
        simp at hc0 hc1 hd0 hd1
        have hbw := Lib.hid hb
        clear hB0 hB2 HB0 HB2 hb
        generalize (sumP l).1 = s1 at *
        generalize (sumP l).2 = s2 at *
        go_wp2_with fail
        refine (c3.out _).mono ?_
        rintro e w3 ⟨rfl, hb3⟩
        obtain ⟨hc3, hf3⟩ := bcell hb3
        have hz3 : w.heap.size < w3.heap.size := Nat.lt_of_lt_of_le hzz hb3.size
        go_wp2
        refine bodyPost_ret (v := .tuple #[.agg #[.int .i64 o1, .int .i64 o2], .int .i64 E]) ?_ rfl ⟨rfl, ?_⟩
        · simp [results, Try.results28, go_sem, *]
        · repeat (first | exact hbw.out | refine below_set ?_ (by simp <;> omega) _ | refine below_alloc ?_ _ | refine below_trans ?_ hb3)
  · have he : sumE l = allE l := by rw [sumE, if_neg h0]
    have ha : sumA l = (0, 0) := by rw [sumA, he]; exact okA_no _ _ h0
    have hv : (allE l != 0) = true := by simp [h0]
    rw [ha, he]
    clear ha he h0 hL
    generalize allE l = E at *
    go_enter Try.func28, Try.ntmps28
    go_wp2_with fail
    refine (hlist.out _ (HL.out.below (Nat.le_refl _) (below_alloc (Below.refl _ _) _))).mono ?_
    rintro e w1 ⟨rfl, hb1⟩
    obtain ⟨hc1, hf1⟩ := bcell hb1
    have hz1 := hb1.size
    simp at hz1
    have q0 : w.heap.size < w1.heap.size := by omega
    go_wp2
    refine bodyPost_ret (v := .tuple #[.agg #[.int .i64 0, .int .i64 0], .int .i64 E]) ?_ rfl ⟨rfl, ?_⟩
    · simp [results, Try.results28, go_sem, *]
    · repeat (first | exact Below.refl _ _ | refine below_set ?_ (by simp <;> omega) _ | refine below_alloc ?_ _ | refine below_trans ?_ hb1)

/-- the reference's Add -/
theorem radd_any (al ah bl bh : Int) (w : World) : Calls Try.prog 23 #[.agg #[.int .i64 al, .int .i64 ah], .agg #[.int .i64 bl, .int .i64 bh]] w fun e w' =>
    e = .returned (.tuple #[.agg #[.int .i64 (sumA [(al, ah), (bl, bh)]).1, .int .i64 (sumA [(al, ah), (bl, bh)]).2], .int .i64 (sumE [(al, ah), (bl, bh)])]) ∧ Below w.heap.size w w' := by
  have c1 := Lib.hid fun W A (hA : A = none → 2 = 0) hL => rsum_any A 2 2 [(al, ah), (bl, bh)] W rfl hA hL (by omega)
  generalize sumE [(al, ah), (bl, bh)] = E at *
  generalize sumA [(al, ah), (bl, bh)] = O at *
  obtain ⟨o1, o2⟩ := O
  simp only at c1 ⊢
  go_enter Try.func23, Try.ntmps23
  go_wp2_with fail
  refine (c1.out _ _ (fun e => by cases e) (lies_new [(al, ah), (bl, bh)] (by simp) rfl)).mono ?_
  rintro e w1 ⟨rfl, hb1⟩
  obtain ⟨hc1, hf1⟩ := bcell hb1
  have hz1 := hb1.size
  simp at hz1
  have q12 : w.heap.size + 1 + 1 < w1.heap.size := by omega
  go_wp2
  refine bodyPost_ret (v := .tuple #[.agg #[.int .i64 o1, .int .i64 o2], .int .i64 E]) ?_ rfl ⟨rfl, ?_⟩
  · simp [results, Try.results23, go_sem, *]
  · repeat (first | exact Below.refl _ _ | refine below_set ?_ (by simp <;> omega) _ | refine below_alloc ?_ _ | refine below_trans ?_ hb1)

set_option maxHeartbeats 800000 in
theorem sum_any (A : Option Addr) (n c : Nat) (l : List (Int × Int)) (w : World) (hl : l.length = n) (hA : A = none → c = 0) (hL : Lies w A (flat l)) (hn : n ≤ 10000) :
    Calls Try.prog 27 #[.slice A n c] w fun e w' => e = .returned (.tuple #[.agg #[.int .i64 (sumA l).1, .int .i64 (sumA l).2], .int .i64 (sumE l)]) ∧ Below w.heap.size w w' := by
  have hs : (Sl.mk A c l).at_ w := ⟨hA, hL⟩
  have hE := listsE_one ⟨A, c, l⟩ (by simp only; omega)
  have hck := Lib.hid fun W B (h : LiesS W B [⟨A, c, l⟩]) => checkLists_any B 1 1 [⟨A, c, l⟩] W rfl h (by omega)
  rw [hE] at hck
  have HS := Lib.hid hs
  by_cases h0 : allE l = 0
  · have hok := allE_ok h0
    have hbd := sumP_bd l 10000 (by omega) hok
    have he : sumE l = resE (sumP l).1 (sumP l).2 := by rw [sumE, if_pos h0]
    have ha : sumA l = okA (sumP l).1 (sumP l).2 (resE (sumP l).1 (sumP l).2) := by rw [sumA, he]
    rw [ha, he]
    have c2 := Lib.hid fun W hL => total_any A n c l W hl hL (by omega) hok
    have c3 := Lib.hid fun W => inRange_any (sumP l).1 (sumP l).2 W
    rw [allE_res hbd.2.1] at c3
    rw [h0] at hck
    subst hl
    generalize resE (sumP l).1 (sumP l).2 = E at *
    generalize okA (sumP l).1 (sumP l).2 E = O at *
    generalize (sumP l).1 = s1 at *
    generalize (sumP l).2 = s2 at *
    obtain ⟨o1, o2⟩ := O
    simp only at c3 ⊢
    clear ha he h0 hok hL hA hs hE hbd
    go_enter Try.func27, Try.ntmps27
    go_wp2_with fail
    refine (hck.out _ _ (liesS_one (by simp) (HS.out.below (below_alloc (Below.refl _ _) _)))).mono ?_
    rintro e w1 ⟨rfl, hb1⟩
    have hb : Below w.heap.size w w1 := below_trans (below_alloc (below_alloc (Below.refl _ _) _) _) hb1
    have hB1 := Lib.hid (((Blk.new w 23 #[.int .i64 0, .int .i64 0]).alloc _).below hb1 (by simp <;> omega))
    clear hb1
    go_wp2_with fail
    refine (c2.out _ (HS.out.2.below (Nat.le_refl _) hb)).mono ?_
    rintro e w2 ⟨rfl, hb2⟩
    have hB2 := Lib.hid (hB1.out.below hb2 hB1.out.lt)
    go_wp2_with fail
    refine (c3.out _).mono ?_
    rintro e w3 ⟨rfl, hb3⟩
    have hB3 := hB2.out.below hb3 hB2.out.lt
    have hk0 := hB3.cell 0
    have hk1 := hB3.cell 1
    have hf0 := hB3.frozen 0
    have hf1 := hB3.frozen 1
    simp at hk0 hk1
    clear hB3
    go_wp2
    refine bodyPost_ret (v := .tuple #[.agg #[.int .i64 o1, .int .i64 o2], .int .i64 E]) ?_ rfl ⟨rfl, ?_⟩
    · simp [results, Try.results27, go_sem, *]
    · repeat (first | exact hb | refine below_set ?_ (by simp <;> omega) _ | refine below_alloc ?_ _ | refine below_trans ?_ hb3 | refine below_trans ?_ hb2)
  · have he : sumE l = allE l := by rw [sumE, if_neg h0]
    have ha : sumA l = (0, 0) := by rw [sumA, he]; exact okA_no _ _ h0
    have hv : (allE l != 0) = true := by simp [h0]
    rw [ha, he]
    subst hl
    clear ha he h0 hL hA hs hE
    generalize allE l = E at *
    go_enter Try.func27, Try.ntmps27
    go_wp2_with fail
    refine (hck.out _ _ (liesS_one (by simp) (HS.out.below (below_alloc (Below.refl _ _) _)))).mono ?_
    rintro e w1 ⟨rfl, hb1⟩
    have hb : Below w.heap.size w w1 := below_trans (below_alloc (below_alloc (Below.refl _ _) _) _) hb1
    have hB3 := ((Blk.new w 23 #[.int .i64 0, .int .i64 0]).alloc _).below hb1 (by simp <;> omega)
    have hk0 := hB3.cell 0
    have hk1 := hB3.cell 1
    have hf0 := hB3.frozen 0
    have hf1 := hB3.frozen 1
    simp at hk0 hk1
    clear hB3 hb1
    go_wp2
    refine bodyPost_ret (v := .tuple #[.agg #[.int .i64 0, .int .i64 0], .int .i64 E]) ?_ rfl ⟨rfl, ?_⟩
    · simp [results, Try.results27, go_sem, *]
    · repeat (first | exact hb | refine below_set ?_ (by simp <;> omega) _ | refine below_alloc ?_ _)
end Go.Proofs.Ytofpiedhenephaa.Sp
