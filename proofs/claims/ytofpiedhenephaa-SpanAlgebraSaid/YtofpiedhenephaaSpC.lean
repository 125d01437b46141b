/- Contracts of the sums. -/
import Derived.Test.YtofpiedhenephaaSpB
import Derived.StillTailTactics
import Derived.RegionTactic
import Derived.BigRegion
namespace Go.Proofs.Ytofpiedhenephaa.Sp
open Go.RowKit
set_option linter.unusedVariables false

theorem rcheck_any (lo hi : Int) (w : World) : Calls Try.prog 12 #[.agg #[.int .i64 lo, .int .i64 hi]] w fun e w' => e = .returned (.int .i64 (allE [(lo, hi)])) ∧ Below w.heap.size w w' := by
  go_enter Try.func12, Try.ntmps12
  go_wp2_with (go_at_call 41; refine (rall_any _ 1 _ [(lo, hi)] _ rfl (lies_new _ (by simp) rfl) (by omega)).mono ?_; rintro e w1 ⟨rfl, hb⟩)
  go_ret
  exact ⟨rfl, below_trans (below_alloc (below_alloc (Below.refl _ _) _) _) hb⟩

theorem rlength_any (lo hi : Int) (w : World) : Calls Try.prog 18 #[.agg #[.int .i64 lo, .int .i64 hi]] w fun e w' => e = .returned (.int .i64 (lenE lo hi)) ∧ Below w.heap.size w w' := by
  by_cases h0 : allE [(lo, hi)] = 0
  · have hb0 := allE_ok h0 (lo, hi) (by simp)
    have hv : (allE [(lo, hi)] != 0) = false := by simp [h0]
    have H0 := Lib.hid h0
    clear h0
    simp only at hb0
    go_enter Try.func18, Try.ntmps18
    go_wp2_with (go_at_call 12; refine (rcheck_any _ _ _).mono ?_; rintro e w1 ⟨rfl, hb⟩; obtain ⟨hc, hf⟩ := bcell hb)
    go_ret
    exact ⟨ret_int (by rw [lenE, if_pos H0.out]), below_trans (below_alloc (Below.refl _ _) _) hb⟩
  · have hv : (allE [(lo, hi)] != 0) = true := by simp [h0]
    have H0 := Lib.hid h0
    clear h0
    go_enter Try.func18, Try.ntmps18
    go_wp2_with (go_at_call 12; refine (rcheck_any _ _ _).mono ?_; rintro e w1 ⟨rfl, hb⟩; obtain ⟨hc, hf⟩ := bcell hb)
    go_ret
    exact ⟨ret_int (by rw [lenE, if_neg H0.out]), below_trans (below_alloc (Below.refl _ _) _) hb⟩

set_option maxHeartbeats 400000 in
theorem total_any (A : Option Addr) (n c : Nat) (l : List (Int × Int)) (w : World) (hl : l.length = n) (hL : Lies w A (flat l)) (hn : n ≤ 20000) (hok : ∀ p ∈ l, -1000000000000 ≤ p.1 ∧ p.1 ≤ p.2 ∧ p.2 ≤ 1000000000000) :
    Calls Try.prog 44 #[.slice A n c] w fun e w' => e = .returned (.agg #[.int .i64 (sumP l).1, .int .i64 (sumP l).2]) ∧ Below w.heap.size w w' := by
  subst hl
  have HL := Lib.hid hL
  have Hok := Lib.hid hok
  clear hL hok
  go_enter Try.func44, Try.ntmps44
  go_wp2
  go_loopw [8] (fun i wr => ∃ k : Nat, k ≤ l.length ∧ i = .int .i64 k ∧ Blk wr w.heap.size 23 #[.int .i64 0, .int .i64 0] ∧ Blk wr (w.heap.size + 1) 23 #[.int .i64 (sumP (l.take k)).1, .int .i64 (sumP (l.take k)).2] ∧ Below w.heap.size w wr) (fun i _ => l.length - (intOf i).toNat)
  case atStart =>
    refine ⟨0, Nat.zero_le _, rfl, ?_, ?_, below_alloc (below_alloc (Below.refl _ _) _) _⟩
    · exact (Blk.new w _ _).alloc _
    · have := Blk.new (w.alloc (.cells #[.int .i64 0, .int .i64 0] 23)) 23 #[.int .i64 0, .int .i64 0]
      simpa [sumP] using this
  case round =>
    obtain ⟨k, hk, rfl, hB0, hB1, hb⟩ := hrel
    have hs := sumP_bd (l.take k) 20000 (by rw [List.length_take]; omega) (fun p hp => Hok.out p (List.mem_of_mem_take hp))
    have hz : w.heap.size + 1 < wr.heap.size := hB1.lt
    have HB0 := Lib.hid hB0
    have HB1 := Lib.hid hB1
    by_cases hlt : k < l.length
    · obtain ⟨b, o, rfl, hbl, hc⟩ := HL.out.ivs (by omega)
      have h1 := (hb.cell (p := ⟨b, o + k * 2, none⟩) hbl).trans (hc k hlt).1
      have h2 := (hb.cell (p := ⟨b, o + k * 2 + 1, none⟩) hbl).trans (hc k hlt).2
      have hbd := Hok.out l[k] (List.getElem_mem hlt)
      have HS : Hid (sumP (l.take (k + 1)) = ((sumP (l.take k)).1 + l[k].1, (sumP (l.take k)).2 + l[k].2)) := sumP_take l k hlt
      clear hc
      have hc0 := hB1.cell 0
      have hc1 := hB1.cell 1
      have hf0 := hB1.frozen 0
      have hf1 := hB1.frozen 1
      simp at hc0 hc1
      clear hB0 hB1
      generalize hp1 : l[k].1 = lo at *
      generalize hp2 : l[k].2 = hi at *
      clear hp1 hp2
      generalize (sumP (l.take k)).1 = s1 at *
      generalize (sumP (l.take k)).2 = s2 at *
      go_wp2
      go_roundw
      case rel =>
        refine ⟨k + 1, by omega, by go_num, ?_, ?_, ?_⟩
        · repeat (first | exact HB0.out | refine Blk.alloc ?_ _ | refine Blk.far ?_ (by simp) _)
        · rw [HS.out]
          refine Blk.alloc ?_ _
          simpa using ((HB1.out.set_ 0 (.int .i64 (s1 + lo))).set_ 1 (.int .i64 (s2 + hi)))
        · repeat (first | assumption | refine below_set ?_ (by simp <;> omega) _ | refine below_alloc ?_ _)
      case measure => simp [intOf]; omega
    · have e : k = l.length := by omega
      subst e
      have hc0 := hB1.cell 0
      have hc1 := hB1.cell 1
      have hd0 := hB0.cell 0
      have hd1 := hB0.cell 1
      have hf0 := hB0.frozen 0
      have hf1 := hB0.frozen 1
      simp at hc0 hc1 hd0 hd1
      clear hB0 hB1
      go_wp2
      refine bodyPost_ret (v := .agg #[.int .i64 (sumP l).1, .int .i64 (sumP l).2]) ?_ rfl ⟨rfl, ?_⟩
      · simp [results, Try.results44, go_sem, *]
      · repeat (first | assumption | refine below_set ?_ (by simp <;> omega) _ | refine below_alloc ?_ _)

theorem inRange_any (lo hi : Int) (w : World) : Calls Try.prog 43 #[.agg #[.int .i64 lo, .int .i64 hi]] w fun e w' =>
    e = .returned (.tuple #[.agg #[.int .i64 (okA lo hi (allE [(lo, hi)])).1, .int .i64 (okA lo hi (allE [(lo, hi)])).2], .int .i64 (allE [(lo, hi)])]) ∧ Below w.heap.size w w' := by
  by_cases h0 : allE [(lo, hi)] = 0
  · rw [okA_ok lo hi h0, h0]
    have hcall : ∀ W, Calls Try.prog 11 #[.agg #[.int .i64 lo, .int .i64 hi]] W fun e w' => e = .returned (.int .i64 0) ∧ Below W.heap.size W w' := fun W => by have := check_any lo hi W; rwa [h0] at this
    clear h0
    go_enter Try.func43, Try.ntmps43
    go_wp2_with (go_at_call 11; refine (hcall _).mono ?_; rintro e w1 ⟨rfl, hb⟩; obtain ⟨hc, hf⟩ := bcell hb; have hz := hb.size; simp at hz)
    refine bodyPost_ret (v := .tuple #[.agg #[.int .i64 lo, .int .i64 hi], .int .i64 0]) ?_ rfl ⟨rfl, ?_⟩
    · simp [results, Try.results43, go_sem, *]
    · repeat (first | exact Below.refl _ _ | assumption | refine below_set ?_ (by simp <;> omega) _ | refine below_alloc ?_ _ | refine below_trans ?_ hb)
  · rw [okA_no lo hi h0]
    have hv : (allE [(lo, hi)] != 0) = true := by simp [h0]
    generalize he : allE [(lo, hi)] = E at *
    have hcall : ∀ W, Calls Try.prog 11 #[.agg #[.int .i64 lo, .int .i64 hi]] W fun e w' => e = .returned (.int .i64 E) ∧ Below W.heap.size W w' := fun W => by have := check_any lo hi W; rwa [he] at this
    clear h0 he
    go_enter Try.func43, Try.ntmps43
    go_wp2_with (go_at_call 11; refine (hcall _).mono ?_; rintro e w1 ⟨rfl, hb⟩; obtain ⟨hc, hf⟩ := bcell hb; have hz := hb.size; simp at hz)
    refine bodyPost_ret (v := .tuple #[.agg #[.int .i64 0, .int .i64 0], .int .i64 E]) ?_ rfl ⟨rfl, ?_⟩
    · simp [results, Try.results43, go_sem, *]
    · repeat (first | exact Below.refl _ _ | assumption | refine below_set ?_ (by simp <;> omega) _ | refine below_alloc ?_ _ | refine below_trans ?_ hb)

theorem result_any (lo hi : Int) (w : World) : Calls Try.prog 46 #[.agg #[.int .i64 lo, .int .i64 hi]] w fun e w' =>
    e = .returned (.tuple #[.agg #[.int .i64 (okA lo hi (resE lo hi)).1, .int .i64 (okA lo hi (resE lo hi)).2], .int .i64 (resE lo hi)]) ∧ Below w.heap.size w w' := by
  by_cases h0 : outP (lo, hi) = true
  · have hr : resE lo hi = 6 := by rw [resE, if_pos h0]
    rw [okA_no lo hi (by omega), hr]
    go_enter Try.func46, Try.ntmps46
    go_wp2_with (go_at_call 54; refine (routside_any _ _ _).mono ?_; rintro e w1 ⟨rfl, hb⟩; obtain ⟨hc, hf⟩ := bcell hb; have hz := hb.size; simp at hz)
    refine bodyPost_ret (v := .tuple #[.agg #[.int .i64 0, .int .i64 0], .int .i64 6]) ?_ rfl ⟨rfl, ?_⟩
    · simp [results, Try.results46, go_sem, *]
    · repeat (first | exact Below.refl _ _ | assumption | refine below_set ?_ (by simp <;> omega) _ | refine below_alloc ?_ _ | refine below_trans ?_ hb)
  · have h1 : outP (lo, hi) = false := by simpa using h0
    have hr : resE lo hi = 0 := by rw [resE, if_neg h0]
    rw [okA_ok lo hi hr, hr]
    clear hr h0
    go_enter Try.func46, Try.ntmps46
    go_wp2_with (go_at_call 54; refine (routside_any _ _ _).mono ?_; rintro e w1 ⟨rfl, hb⟩; obtain ⟨hc, hf⟩ := bcell hb; have hz := hb.size; simp at hz)
    refine bodyPost_ret (v := .tuple #[.agg #[.int .i64 lo, .int .i64 hi], .int .i64 0]) ?_ rfl ⟨rfl, ?_⟩
    · simp [results, Try.results46, go_sem, *]
    · repeat (first | exact Below.refl _ _ | assumption | refine below_set ?_ (by simp <;> omega) _ | refine below_alloc ?_ _ | refine below_trans ?_ hb)

/-- what Add answers -/
theorem add_any (al ah bl bh : Int) (w : World) : Calls Try.prog 19 #[.agg #[.int .i64 al, .int .i64 ah], .agg #[.int .i64 bl, .int .i64 bh]] w fun e w' =>
    e = .returned (.tuple #[.agg #[.int .i64 (sumA [(al, ah), (bl, bh)]).1, .int .i64 (sumA [(al, ah), (bl, bh)]).2], .int .i64 (sumE [(al, ah), (bl, bh)])]) ∧ Below w.heap.size w w' := by
  have hlen : ([(al, ah), (bl, bh)] : List (Int × Int)).length = 2 := rfl
  by_cases h0 : allE [(al, ah), (bl, bh)] = 0
  · have hok := allE_ok h0
    have hs := sumP_bd _ 2 (by simp) hok
    have he : sumE [(al, ah), (bl, bh)] = allE [sumP [(al, ah), (bl, bh)]] := by rw [sumE, if_pos h0, allE_res hs.2.1]
    have ha : sumA [(al, ah), (bl, bh)] = okA (sumP [(al, ah), (bl, bh)]).1 (sumP [(al, ah), (bl, bh)]).2 (allE [sumP [(al, ah), (bl, bh)]]) := by rw [sumA, he]
    rw [ha, he]
    have c1 : ∀ W A (hA : Lies W A (flat [(al, ah), (bl, bh)])), Calls Try.prog 40 #[.slice A 2 2] W fun e w' => e = .returned (.int .i64 0) ∧ Below W.heap.size W w' := fun W A hA => by have := checkEach_any A 2 2 _ W rfl hA (by omega); rwa [h0] at this
    have c2 := fun W A (hA : Lies W A (flat [(al, ah), (bl, bh)])) => total_any A 2 2 _ W rfl hA (by omega) hok
    clear ha he h0 hok hs hlen
    generalize sumP [(al, ah), (bl, bh)] = S at *
    obtain ⟨s1, s2⟩ := S
    have c3 := inRange_any s1 s2
    generalize allE [(s1, s2)] = E at *
    generalize okA s1 s2 E = O at *
    obtain ⟨o1, o2⟩ := O
    simp only at c2 c3 ⊢
    have C1 := Lib.hid c1
    have C2 := Lib.hid c2
    have C3 := Lib.hid c3
    clear c1 c2 c3
    go_enter Try.func19, Try.ntmps19
    go_wp2_with fail
    refine (C1.out _ _ (lies_new [(al, ah), (bl, bh)] (by simp) rfl)).mono ?_
    rintro e w1 ⟨rfl, hb1⟩
    obtain ⟨hc1, hf1⟩ := bcell hb1
    have hz1 := hb1.size
    simp at hz1
    have q10 : w.heap.size < w1.heap.size := by omega
    have q11 : w.heap.size + 1 < w1.heap.size := by omega
    have q12 : w.heap.size + 1 + 1 < w1.heap.size := by omega
    go_wp2_with fail
    refine (C2.out _ _ (lies_new [(al, ah), (bl, bh)] (by simp) rfl)).mono ?_
    rintro e w2 ⟨rfl, hb2⟩
    obtain ⟨hc2, hf2⟩ := bcell hb2
    have hz2 := hb2.size
    simp at hz2
    have q22 : w.heap.size + 1 + 1 < w2.heap.size := by omega
    go_wp2_with fail
    refine (C3.out _).mono ?_
    rintro e w3 ⟨rfl, hb3⟩
    obtain ⟨hc3, hf3⟩ := bcell hb3
    have hz3 := hb3.size
    have q32 : w.heap.size + 1 + 1 < w3.heap.size := by omega
    go_wp2
    refine bodyPost_ret (v := .tuple #[.agg #[.int .i64 o1, .int .i64 o2], .int .i64 E]) ?_ rfl ⟨rfl, ?_⟩
    · simp [results, Try.results19, go_sem, *]
    · repeat (first | exact Below.refl _ _ | assumption | refine below_set ?_ (by simp <;> omega) _ | refine below_alloc ?_ _ | refine below_trans ?_ hb3 | refine below_trans ?_ hb2 | refine below_trans ?_ hb1)
  · have he : sumE [(al, ah), (bl, bh)] = allE [(al, ah), (bl, bh)] := by rw [sumE, if_neg h0]
    have ha : sumA [(al, ah), (bl, bh)] = (0, 0) := by rw [sumA, he]; exact okA_no _ _ h0
    rw [ha, he]
    have c1 := fun W A (hA : Lies W A (flat [(al, ah), (bl, bh)])) => checkEach_any A 2 2 _ W rfl hA (by omega)
    have hv : (allE [(al, ah), (bl, bh)] != 0) = true := by simp [h0]
    clear ha he h0 hlen
    generalize allE [(al, ah), (bl, bh)] = E at *
    have C1 := Lib.hid c1
    clear c1
    go_enter Try.func19, Try.ntmps19
    go_wp2_with fail
    refine (C1.out _ _ (lies_new [(al, ah), (bl, bh)] (by simp) rfl)).mono ?_
    rintro e w1 ⟨rfl, hb1⟩
    obtain ⟨hc1, hf1⟩ := bcell hb1
    have hz1 := hb1.size
    simp at hz1
    have q12 : w.heap.size + 1 + 1 < w1.heap.size := by omega
    go_wp2
    refine bodyPost_ret (v := .tuple #[.agg #[.int .i64 0, .int .i64 0], .int .i64 E]) ?_ rfl ⟨rfl, ?_⟩
    · simp [results, Try.results19, go_sem, *]
    · repeat (first | exact Below.refl _ _ | assumption | refine below_set ?_ (by simp <;> omega) _ | refine below_alloc ?_ _ | refine below_trans ?_ hb1)
end Go.Proofs.Ytofpiedhenephaa.Sp
