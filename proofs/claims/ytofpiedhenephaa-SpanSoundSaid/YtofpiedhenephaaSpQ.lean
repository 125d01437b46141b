/- The walk of the law SpanSound. -/
import Derived.Test.YtofpiedhenephaaSpP
import Derived.Test.YtofpiedhenephaaSpOpenB
namespace Go.Proofs.Ytofpiedhenephaa.Sp
open Go.RowKit Go.Lib
set_option linter.unusedVariables false

theorem u64_wrap_nonneg (c : Int) : 0 ≤ IntKind.u64.wrap c := by
  simp [IntKind.wrap, IntKind.bits, IntKind.signed]; omega

theorem i64_id {x : Int} (h1 : -9223372036854775808 ≤ x) (h2 : x ≤ 9223372036854775807) : IntKind.i64.wrap x = x := by rw [IntKind.wrap_i64]; omega
theorem tmod_bd {a b : Int} (ha : 0 ≤ a) (hb : 1 ≤ b) : 0 ≤ a.tmod b ∧ a.tmod b < b := by
  rw [Int.tmod_eq_emod_of_nonneg ha]
  exact ⟨Int.emod_nonneg _ (by omega), Int.emod_lt_of_pos _ (by omega)⟩
theorem sumE_zero {l : List (Int × Int)} (h : sumE l = 0) : allE l = 0 ∧ sumA l = sumP l ∧ outP (sumP l) = false := by
  by_cases h0 : allE l = 0
  · rw [sumE, if_pos h0] at h
    have hr : outP ((sumP l).1, (sumP l).2) = false := by
      rcases hx : outP ((sumP l).1, (sumP l).2) with _ | _
      · rfl
      · rw [resE, if_pos hx] at h; omega
    refine ⟨h0, ?_, hr⟩
    rw [sumA, sumE, if_pos h0, resE, hr]
    rfl
  · rw [sumE, if_neg h0] at h
    exact absurd h h0
theorem sumA_err {l : List (Int × Int)} (h : sumE l ≠ 0) : sumA l = (0, 0) := by rw [sumA]; exact okA_no _ _ h

set_option maxHeartbeats 3200000 in
theorem sound_any (A : Option Addr) (n c : Nat) (l : List (Int × Int)) (B : Option Addr) (m d : Nat) (r : List Int) (w : World) (hl : l.length = n) (hA : A = none → c = 0) (hL : Lies w A (flat l)) (hn : n ≤ 9223372036854775807) (hr : r.length = m) (hR : Lies w B (nums r)) (hm : m ≤ 9223372036854775807) :
    Calls Try.prog 6 #[.slice A n c, .slice B m d] w fun e w' => e = .returned (.bool true) ∧ Below w.heap.size w w' := by
  have c0 := Lib.hid fun W => awake_any W
  subst hl
  subst hr
  have HL := Lib.hid hL
  have HR := Lib.hid hR
  by_cases hbig : 30 < l.length
  · have hbig' : (30 : Int) < (l.length : Int) := by omega
    clear hbig hA hL hR
    go_enter Try.func6, Try.ntmps6
    go_wp2_with fail
    refine (c0.out _).mono ?_
    rintro e w1 ⟨rfl, hb1⟩
    go_wp2
    go_ret
    exact ⟨rfl, hb1⟩
  · have hbig' : (l.length : Int) ≤ 30 := by omega
    by_cases hfew : r.length < l.length
    · have hfew' : (r.length : Int) < (l.length : Int) := by omega
      clear hfew hbig hA hL hR
      go_enter Try.func6, Try.ntmps6
      go_wp2_with fail
      refine (c0.out _).mono ?_
      rintro e w1 ⟨rfl, hb1⟩
      go_wp2
      go_ret
      exact ⟨rfl, hb1⟩
    · have hfew' : (l.length : Int) ≤ (r.length : Int) := by omega
      have hfewN : l.length ≤ r.length := by omega
      have d0 := Lib.hid fun W hL => sum_any A l.length c l W rfl hA hL (by omega)
      have hgd := fun x y xs ys W => iv_guard .eql x y xs ys W
      have hq : ∀ W, (binOp .eql 23 (.agg #[.int .i64 0, .int .i64 0]) (.agg #[.int .i64 0, .int .i64 0])).run Try.prog W = .ok (.bool true) W := fun W => by rw [iv_eql]; simp
      by_cases he : sumE l = 0
      · obtain ⟨h0, ha, hout⟩ := sumE_zero he
        have d1 := Lib.hid fun W h => rlists_any A none l.length 0 c 0 l [] W rfl rfl hA (fun _ => rfl) h Lies.nil_ (by omega) (by omega)
        rw [listsR_nil l (by omega), h0] at d1
        have hok := allE_ok h0
        have Hok := Lib.hid hok
        have HS := Lib.hid (And.intro ha hout)
        rw [he] at d0
        clear he ha hout hok h0 hA hL hR hbig hfew
        go_enter Try.func6, Try.ntmps6
        go_wp2_with fail
        refine (c0.out _).mono ?_
        rintro e w1 ⟨rfl, hb1⟩
        go_wp2_with fail
        refine (d0.out _ (HL.out.below (Nat.le_refl _) hb1)).mono ?_
        rintro e w2 ⟨rfl, hb2⟩
        rw [HS.out.1]
        have hbw := Lib.hid (below_trans hb1 hb2)
        clear hb1 hb2
        go_wp2_with fail
        refine (d1.out _ (HL.out.below (Nat.le_refl _) (below_alloc hbw.out _))).mono ?_
        rintro e w3 ⟨rfl, hb3⟩
        have HF := Lib.hid ((Blk.new w2 23 #[.int .i64 (sumP l).1, .int .i64 (sumP l).2]).below hb3 (by simp))
        have hbf := Lib.hid (below_trans (below_alloc hbw.out _) hb3)
        clear hb3
        go_wp2
        go_loopw [7, 8, 9, 10] (fun s a b i wr => ∃ (k : Nat) (S : Int), k ≤ l.length ∧ i = .int .i64 k ∧ s = .int .i64 S ∧ a = .int .i64 (sumP (l.take k)).1 ∧ b = .int .i64 (sumP (l.take k)).2 ∧ (sumP (l.take k)).1 ≤ S ∧ S ≤ (sumP (l.take k)).2 ∧ Below w3.heap.size w3 wr) (fun _ _ _ i _ => l.length - (intOf i).toNat)
        case atStart => exact ⟨0, 0, Nat.zero_le _, rfl, rfl, rfl, rfl, by simp [sumP], by simp [sumP], Below.refl _ _⟩
        case round =>
          obtain ⟨k, S, hk, rfl, rfl, rfl, rfl, hS1, hS2, hb⟩ := hrel
          have hs := sumP_bd (l.take k) 30 (by rw [List.length_take]; omega) (fun p hp => Hok.out p (List.mem_of_mem_take hp))
          by_cases hlt : k < l.length
          · have hlt2 : k < r.length := by omega
            obtain ⟨b, o, rfl, hbl, hc⟩ := HL.out.ivs (by omega)
            obtain ⟨b2, o2, rfl, hbl2, hc2⟩ := HR.out.num (by omega)
            have hbw3 : Below w.heap.size w wr := hbf.out.trans (hb.mono hbf.out.size)
            have h1 := (hbw3.cell (p := ⟨b, o + k * 2, none⟩) hbl).trans (hc k hlt).1
            have h2 := (hbw3.cell (p := ⟨b, o + k * 2 + 1, none⟩) hbl).trans (hc k hlt).2
            have h3 := (hbw3.cell (p := ⟨b2, o2 + k, none⟩) hbl2).trans (hc2 k hlt2)
            have hbd := Hok.out l[k] (List.getElem_mem hlt)
            have HT : Hid (sumP (l.take (k + 1)) = ((sumP (l.take k)).1 + l[k].1, (sumP (l.take k)).2 + l[k].2)) := Lib.hid (sumP_take l k hlt)
            have hlen := Lib.hid fun W => rlength_any l[k].1 l[k].2 W
            rw [ok_len hbd] at hlen
            have hk0 : (0 : Int) ≤ (k : Int) := by omega
            have hk1 : (k : Int) < (l.length : Int) := by omega
            have hk2 : (k : Int) < (r.length : Int) := by omega
            have hbz := hbw3.size
            clear hc hc2
            generalize l[k].1 = lo at *
            generalize l[k].2 = hi at *
            generalize r[k] = ch at *
            generalize (sumP (l.take k)).1 = s1 at *
            generalize (sumP (l.take k)).2 = s2 at *
            have hu := u64_wrap_nonneg ch
            obtain ⟨L, hLd⟩ : ∃ L, L = hi - lo + 1 := ⟨_, rfl⟩
            have hL1 : 1 ≤ L := by omega
            have hL2 : L ≤ 2000000000001 := by omega
            have hLb : lo + L ≤ hi + 1 := by omega
            rw [← hLd] at hlen
            have hwl : IntKind.u64.wrap L = L := by simp [IntKind.wrap, IntKind.bits, IntKind.signed]; omega
            have hne : (L == 0) = false := by simp; omega
            have hne2 : ¬ L = 0 := by omega
            have HLd := Lib.hid hLd
            clear hLd
            go_wp2_with fail
            go_region_held3 (fun w' => w'.cell? ⟨b, o + k * 2, none⟩ = some (.int .i64 lo) ∧ w'.cell? ⟨b, o + k * 2 + 1, none⟩ = some (.int .i64 hi) ∧ w'.cell? ⟨b2, o2 + k, none⟩ = some (.int .i64 ch) ∧ Below w3.heap.size w3 w' ∧ w.heap.size ≤ w'.heap.size)
              ((go_split_ands; (repeat' apply And.intro); all_goals (first | assumption | (rw [hbm.cell (by simp <;> omega)]; first | assumption | simp [*]) | (exact Nat.le_trans (by assumption) hbm.size) | ((repeat (first | assumption | refine Below.drew ?_)); done) | (refine below_trans ?_ hbm; repeat (first | assumption | refine Below.drew ?_)) | (go_keep; done))))
              ((first | (go_at_call 18; refine (hlen.out _).mono ?_; rintro e w4 ⟨rfl, hbm⟩)))
            go_split_ands
            have hq := tmod_bd hu hL1
            generalize (IntKind.u64.wrap ch).tmod L = q at *
            have hS : Hid (IntKind.i64.wrap (S + IntKind.i64.wrap (lo + IntKind.i64.wrap q)) = S + lo + q) := Lib.hid (by
              rw [i64_id (x := q) (by omega) (by omega), i64_id (x := lo + q) (by omega) (by omega), i64_id (by omega) (by omega)]; omega)
            have hbf4 : Below w3.heap.size w3 w4 := by assumption
            go_wp2
            go_roundw
            case rel => exact ⟨k + 1, S + lo + q, by omega, by go_num, by rw [hS.out], by rw [HT.out], by rw [HT.out], by rw [HT.out]; simp only; omega, by rw [HT.out]; simp only; have := HLd.out; omega, hbf4⟩
            case measure => simp [intOf]; omega
          · have hkk : k = l.length := by omega
            subst hkk
            rw [List.take_length] at *
            have hbz := hb.size
            have hB := HF.out.below hb HF.out.lt
            have k0 := hB.cell 0
            have k1 := hB.cell 1
            simp at k0 k1
            have hcon := Lib.hid fun W => contains_any (sumP l).1 (sumP l).2 S W
            have hcv : (decide ((sumP l).1 ≤ S) && decide (S ≤ (sumP l).2)) = true := by simp [hS1, hS2]
            rw [hcv] at hcon
            have HB := Lib.hid hB
            have hbw9 := Lib.hid (hbf.out.trans (hb.mono hbf.out.size))
            clear hcv hB hb
            generalize (sumP l).1 = s1 at *
            generalize (sumP l).2 = s2 at *
            have t1 : (s1 == s1) = true := by simp
            have t2 : (s2 == s2) = true := by simp
            go_wp2_with fail
            refine (hcon.out _).mono ?_
            rintro e w5 ⟨rfl, hb5⟩
            have hB5 := HB.out.below hb5 HB.out.lt
            have j0 := hB5.cell 0
            have j1 := hB5.cell 1
            simp at j0 j1
            clear hB5 k0 k1
            go_wp2
            go_ret
            exact ⟨rfl, below_trans hbw9.out hb5⟩
      · have ha := sumA_err he
        have hv : (sumE l != 0) = true := by simp [he]
        rw [ha] at d0
        clear he ha hA hL hR hbig hfew
        generalize sumE l = E at *
        go_enter Try.func6, Try.ntmps6
        go_wp2_with fail
        refine (c0.out _).mono ?_
        rintro e w1 ⟨rfl, hb1⟩
        go_wp2_with fail
        refine (d0.out _ (HL.out.below (Nat.le_refl _) hb1)).mono ?_
        rintro e w2 ⟨rfl, hb2⟩
        have hbw := Lib.hid (below_trans hb1 hb2)
        clear hb1 hb2
        go_wp2
        go_ret
        exact ⟨rfl, below_alloc hbw.out _⟩
end Go.Proofs.Ytofpiedhenephaa.Sp
