/- lexer: which tokens are valid: texts, words and signs. -/
import Derived.Test.YtmoppmpnbkemdaaDoorLs10
namespace Go.Proofs.YtmoppmpnbkemdaaDoor.Ev
open Go.RowKit
set_option linter.unusedVariables false
set_option linter.unusedSimpArgs false
set_option maxRecDepth 8000
theorem quoted_list (s : ByteArray) : (quoted s).data.toList = 34 :: (s.data.toList ++ [34]) := by
  unfold quoted
  simp [ByteArray.data_append]
theorem bt_list (s : ByteArray) (i : Nat) : bt s i = (((s.data.toList)[i]?).getD 0).toNat := by
  unfold bt; rw [ba_get]
theorem quoted_0 (s : ByteArray) : bt (quoted s) 0 = 34 := by
  rw [bt_list, quoted_list]; rfl
theorem quoted_in {s : ByteArray} {i : Nat} (h : i < s.size) : bt (quoted s) (1 + i) = bt s i := by
  have hl : i < s.data.toList.length := by rw [Array.length_toList]; exact h
  rw [bt_list, bt_list, quoted_list, Nat.add_comm 1 i, List.getElem?_cons_succ, List.getElem?_append_left hl]
theorem quoted_last (s : ByteArray) : bt (quoted s) (1 + s.size) = 34 := by
  have e : s.data.toList.length = s.size := Array.length_toList
  rw [bt_list, quoted_list, Nat.add_comm, List.getElem?_cons_succ, List.getElem?_append_right (by omega), e, Nat.sub_self]; rfl
theorem quoted_ext (s : ByteArray) : (quoted s).extract 1 (1 + s.size) = s := by
  apply ba_ext
  have e : s.data.toList.length = s.size := Array.length_toList
  rw [ext_list, quoted_list, List.drop_succ_cons, List.drop_zero, show 1 + s.size - 1 = s.data.toList.length by omega, List.take_left]
theorem same_refl (s : ByteArray) : sameS s s = true := sameS_iff.2 rfl
theorem text_eq {m : Int} {s : ByteArray} : rvB 3 m s = validTk 3 m s := by
  have hsp : spellS 3 m s = quoted s := rfl
  have hz : (quoted s).size = s.size + 2 := quoted_size
  have b0 := quoted_0 s
  obtain ⟨K, hK, he, hq, hin⟩ : ∃ K, K ≤ s.size ∧ runA nqB (quoted s) 1 = 1 + K ∧ nqB (bt (quoted s) (1 + K)) = false ∧ ∀ i, i < K → nqB (bt (quoted s) (1 + i)) = true := by
    rcases runA_cases nqB (quoted s) 1 (by omega) with ⟨_, h⟩ | ⟨j, h1, h2, h3, h4⟩
    · have := h (1 + s.size) (by omega) (by omega)
      rw [quoted_last] at this; exact absurd this (by decide)
    · refine ⟨j, ?_, h2, h3, h4⟩
      rcases Nat.lt_or_ge s.size j with g | g
      · have := h4 s.size g
        rw [quoted_last] at this; exact absurd this (by decide)
      · exact g
  have hv : tokV (quoted s) = if labelS ((quoted s).extract 1 (1 + K)) = true then ⟨3, (quoted s).extract 1 (1 + K), 0, 1 + (K : Int) + 1, 0⟩ else ⟨3, (quoted s).extract 1 (1 + K), 0, 1 + (K : Int) + 1, 4⟩ := by
    unfold tokV
    rw [b0, if_neg (by decide), if_neg (by decide), he, if_pos (by omega), show 1 + K - 1 = K by omega]
    unfold tokS
    rw [b0, if_neg (by decide), if_pos (by decide)]
  unfold rvB validTk
  rw [hsp, hv, b0, hz]
  rcases Nat.lt_or_ge K s.size with g | g
  · have hl : labelS s = false := by
      rcases q : labelS s with _ | _
      · rfl
      · simp only [labelS, Bool.and_eq_true] at q
        have := allB_at q.2 g
        rw [quoted_in g] at hq
        simp only [nqB, Bool.not_eq_false', beq_iff_eq] at hq
        rw [hq] at this; exact absurd this (by decide)
    rw [hl]
    have ne : (1 + (K : Int) + 1 == ((s.size + 2 : Nat) : Int)) = false := by
      simp only [beq_eq_false_iff_ne, ne_eq]; omega
    split <;> simp only [ne] <;> simp
  · have e : K = s.size := by omega
    subst e
    rw [quoted_ext, decide_eq_false (by omega)]
    have eq : (1 + ((s.size : Nat) : Int) + 1 == ((s.size + 2 : Nat) : Int)) = true := by
      simp only [beq_iff_eq]; omega
    rcases q : labelS s with _ | _
    · rw [if_neg (by simp)]; simp
    · rw [if_pos rfl]
      simp only [eq, same_refl]
      rw [Bool.eq_iff_iff]; simp; omega
theorem runA_eq {q : Int → Bool} {s : ByteArray} : (((runA q s 0 : Nat) : Int) == (s.size : Int)) = allB q s := by
  rw [Bool.eq_iff_iff]
  rcases runA_cases q s 0 (Nat.zero_le _) with ⟨e, h⟩ | ⟨j, h1, e, h2, h3⟩
  · rw [e]
    have : allB q s = true := by simp only [allB, List.all_eq_true, List.mem_range]; exact fun i hi => h i (Nat.zero_le _) hi
    rw [this]; simp
  · rw [e]
    have : allB q s = false := by
      rcases g : allB q s with _ | _
      · rfl
      · have := allB_at g h1
        rw [this] at h2; cases h2
    rw [this]; simp; omega
theorem let_no {b : Int} (h : letterB b = true) : signB b = false ∧ (b == 32) = false ∧ (b == 35) = false ∧ digitB b = false ∧ (b == 45) = false ∧ (b == 34) = false := by
  simp [letterB, smallB, upperB, digitB, signB] at h ⊢; omega
theorem sign_no {b : Int} (h : signB b = true) : letterB b = false ∧ (b == 32) = false ∧ (b == 35) = false ∧ digitB b = false ∧ (b == 45) = false ∧ (b == 34) = false := by
  simp [letterB, smallB, upperB, digitB, signB] at h ⊢; omega
/-- of a first byte that neither begins a word nor is a sign -/
theorem valid_no {k m : Int} {s : ByteArray} (h2 : k ≠ 2) (h3 : k ≠ 3) (hl : letterB (bt s 0) = false) (hs : signB (bt s 0) = false) : validTk k m s = false := by
  unfold validTk
  rw [hl, hs]
  simp [h2, h3]
theorem rv_kind {k m : Int} {s S : ByteArray} (hS : spellS k m s = S) (h : (tokV S).f ≠ 0 ∨ (tokV S).k ≠ k) : rvB k m s = false := by
  unfold rvB
  rw [hS]
  rcases h with h | h
  · rw [show ((tokV S).f == 0) = false by simpa using h]; simp
  · rw [show ((tokV S).k == k) = false by simpa using h]; simp
theorem rest_eq {k m : Int} {s : ByteArray} (h2 : k ≠ 2) (h3 : k ≠ 3) : rvB k m s = validTk k m s := by
  have hsp : spellS k m s = s := by
    unfold spellS
    rw [if_neg (by simpa using h2), if_neg (by simpa using h3)]
  rcases Nat.eq_zero_or_pos s.size with hz | hz
  · have a : rvB k m s = false := by unfold rvB; rw [hsp, hz]; simp
    rw [a]; unfold validTk; rw [hz]; simp [h2, h3]
  rcases hl : letterB (bt s 0) with _ | _
  · rcases hg : signB (bt s 0) with _ | _
    · rw [valid_no h2 h3 hl hg]
      refine rv_kind hsp ?_
      unfold tokV
      split
      · rcases tokG_num s with q | q
        · exact .inl q
        · exact .inr (by rw [q]; exact Ne.symm h2)
      · split
        · rcases tokM_num s with q | q
          · exact .inl q
          · exact .inr (by rw [q]; exact Ne.symm h2)
        · split
          · unfold tokS
            rw [hl, hg]
            generalize labelS _ = b
            rcases bt s 0 == 34 with _ | _ <;> rcases b with _ | _ <;> simp [Ne.symm h3]
          · unfold tokD
            rw [hl, hg]
            rcases bt s 0 == 34 with _ | _ <;> simp
    · obtain ⟨_, e1, e2, e3, e4, e5⟩ := sign_no hg
      have hv : tokV s = ⟨4, s.extract 0 1, 0, 1, 0⟩ := by
        unfold tokV
        rw [if_neg (by rw [e3]; simp), if_neg (by rw [e4]; simp)]
        split
        · unfold tokS; rw [hl, hg, e5]; simp
        · unfold tokD; rw [hl, hg, e5]; simp
      unfold rvB validTk
      rw [hsp, hv, hl, hg, e1, e2, decide_eq_false (by omega)]
      by_cases h1 : k = 1
      · subst h1; simp
      · by_cases h4 : k = 4
        · subst h4
          by_cases z : s.size = 1
          · have : s.extract 0 1 = s := by rw [← z]; exact ext_full
            rw [this, z]; simp [same_refl]
            rw [Bool.eq_iff_iff]; simp; omega
          · have q : ((1 : Int) == (s.size : Int)) = false := by simp; omega
            have q' : ((s.size : Int) == 1) = false := by simp; omega
            simp only [q, q']; simp
        · have q : ((4 : Int) == k) = false := by simp; omega
          simp only [q]; simp [h1, h2, h3, h4]
  · obtain ⟨e0, e1, e2, e3, e4, e5⟩ := let_no hl
    have hv : tokV s = if decide (((runA wordB s 0 : Nat) : Int) ≤ 40) = true then ⟨1, s.extract 0 (runA wordB s 0), 0, ((runA wordB s 0 : Nat) : Int), 0⟩ else ⟨1, s.extract 0 (runA wordB s 0), 0, ((runA wordB s 0 : Nat) : Int), 4⟩ := by
      unfold tokV
      rw [if_neg (by rw [hl]; simp), if_neg (by rw [hl]; simp)]
      split
      · unfold tokS; rw [hl]; simp
      · unfold tokD; rw [hl]; simp
    have hA := @runA_eq wordB s
    unfold rvB validTk
    rw [hsp, hv, hl, e0, e1, e2, decide_eq_false (by omega)]
    rcases q : allB wordB s with _ | _
    · rw [q] at hA
      split <;> simp only [hA] <;> simp [h2, h3]
    · have hA' := hA
      rw [q] at hA
      have e : runA wordB s 0 = s.size := by have g := hA; simp only [beq_iff_eq] at g; omega
      rw [e, ext_full]
      rcases z : decide ((s.size : Int) ≤ 40) with _ | _
      · simp [h2, h3]
      · by_cases h1 : k = 1
        · subst h1; simp [same_refl]
          rw [Bool.eq_iff_iff]; simp; omega
        · have q1 : ((1 : Int) == k) = false := by simp; omega
          simp only [q1]; simp [h1, h2, h3]; intro g; exact absurd g.symm h1
theorem rv_eq {k m : Int} {s : ByteArray} (hm : bd (-9223372036854775808) 9223372036854775807 m) : rvB k m s = validTk k m s := by
  by_cases h2 : k = 2
  · subst h2; exact num_eq hm
  by_cases h3 : k = 3
  · subst h3; exact text_eq
  exact rest_eq h2 h3
end Go.Proofs.YtmoppmpnbkemdaaDoor.Ev
