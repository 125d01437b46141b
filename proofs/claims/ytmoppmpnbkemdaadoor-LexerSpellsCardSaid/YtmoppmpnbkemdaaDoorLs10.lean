/- lexer: which tokens are valid: the number. -/
import Derived.Test.YtmoppmpnbkemdaaDoorLs9
namespace Go.Proofs.YtmoppmpnbkemdaaDoor.Ev
open Go.RowKit
set_option linter.unusedVariables false
set_option linter.unusedSimpArgs false
set_option maxRecDepth 8000
theorem ext_full {s : ByteArray} : s.extract 0 s.size = s := by
  apply ba_ext
  rw [ext_list, List.drop_zero, Nat.sub_zero]
  exact List.take_of_length_le (Nat.le_of_eq (Array.length_toList ..))
theorem tokG_num (s : ByteArray) : (tokG s).f ≠ 0 ∨ (tokG s).k = 2 := by
  unfold tokG
  repeat' split
  all_goals first | exact .inr rfl | exact .inl (by simp)
theorem tokM_num (s : ByteArray) : (tokM s).f ≠ 0 ∨ (tokM s).k = 2 := by
  unfold tokM
  repeat' split
  all_goals first | exact .inr rfl | exact .inl (by simp)
theorem tokG_all {s : ByteArray} (h : runA digitB s 0 = s.size) (h1 : 1 ≤ s.size) (h48 : (bt s 0 == 48) = true → s.size = 1) :
    tokG s = if s.size ≤ 16 ∧ inR (pvB s) = true then ⟨2, ⟨#[]⟩, pvB s, (s.size : Int), 0⟩ else ⟨0, ⟨#[]⟩, 0, (s.size : Int), 6⟩ := by
  unfold tokG
  rw [h, ext_full]
  simp only [inR, Bool.and_eq_true, decide_eq_true_eq, beq_iff_eq] at h48 ⊢
  repeat' split
  all_goals first | rfl | (exfalso; omega) | (rename_i g; exfalso; exact absurd g (by omega))
theorem tokM_all {s : ByteArray} (h : runA digitB s 1 = s.size) (h1 : 2 ≤ s.size) (h48 : (bt s 1 == 48) = false) :
    tokM s = if s.size ≤ 17 ∧ inR (pvB s) = true then ⟨2, ⟨#[]⟩, pvB s, (s.size : Int), 0⟩ else ⟨0, ⟨#[]⟩, 0, (s.size : Int), 6⟩ := by
  unfold tokM
  rw [h, ext_full]
  simp only [inR, Bool.and_eq_true, decide_eq_true_eq, beq_iff_eq, beq_eq_false_iff_ne, ne_eq] at h48 ⊢
  repeat' split
  all_goals first | rfl | (exfalso; omega) | (exfalso; contradiction)
theorem bt_at {s : ByteArray} {l : List UInt8} (h : s.data.toList = l) {i : Nat} (hi : i < l.length) : bt s i = (l[i].toNat : Nat) := by
  unfold bt
  rw [ba_get, h, List.getElem?_eq_getElem hi]; rfl
theorem dec_lead : ∀ (u : Nat), 1 ≤ u → ∃ c r, Lib.decDigits u = c :: r ∧ 49 ≤ c.toNat := by
  intro u
  induction u using Nat.strongRecOn with
  | _ u ih =>
    intro hu
    rw [Lib.decDigits]
    split
    · rename_i h
      exact ⟨_, _, rfl, by rw [dig_nat h]; omega⟩
    · rename_i h
      obtain ⟨c, r, h1, h2⟩ := ih (u / 10) (by omega) (by omega)
      exact ⟨c, r ++ [UInt8.ofNat (48 + u % 10)], by rw [h1]; rfl, h2⟩
theorem dec_dig : ∀ (u : Nat), ∀ c ∈ Lib.decDigits u, 48 ≤ c.toNat ∧ c.toNat ≤ 57 := by
  intro u
  induction u using Nat.strongRecOn with
  | _ u ih =>
    intro c hc
    rw [Lib.decDigits] at hc
    split at hc
    · rename_i h
      simp only [List.mem_singleton] at hc
      subst hc; rw [dig_nat h]; omega
    · rename_i h
      rcases List.mem_append.1 hc with hc | hc
      · exact ih (u / 10) (by omega) c hc
      · simp only [List.mem_singleton] at hc
        subst hc; rw [dig_nat (by omega)]; omega
theorem dec_pos (u : Nat) : 1 ≤ (Lib.decDigits u).length := by
  obtain ⟨c, r, h, _⟩ := dec_first u
  rw [h]; simp
theorem size_list {s : ByteArray} {l : List UInt8} (h : s.data.toList = l) : s.size = l.length := by
  subst h; exact (Array.length_toList ..).symm
theorem empty_same {s : ByteArray} : sameS ⟨#[]⟩ s = decide ((s.size : Int) ≤ 0) := by
  rw [← str_empty]
  unfold sameS
  rw [Bool.eq_iff_iff]; simp only [beq_iff_eq]; exact eq_comm
theorem dig_is {s : ByteArray} {l : List UInt8} (h : s.data.toList = l) {i : Nat} (hi : i < l.length) (hd : 48 ≤ (l[i]).toNat ∧ (l[i]).toNat ≤ 57) : digitB (bt s i) = true := by
  rw [bt_at h hi]; simp [digitB]; omega
theorem dig_no {b : Int} (h : digitB b = true) : letterB b = false ∧ (b == 32) = false ∧ (b == 35) = false ∧ (b == 45) = false ∧ (b == 34) = false ∧ signB b = false := by
  simp [letterB, smallB, upperB, digitB, signB] at h ⊢; omega
/-- what is left when the spelling of a number is read -/
theorem num_read {m : Int} {s S : ByteArray} (hS : spellS 2 m s = S) (hv : tokV S = if S.size ≤ 17 ∧ inR m = true then ⟨2, ⟨#[]⟩, m, (S.size : Int), 0⟩ else ⟨0, ⟨#[]⟩, 0, (S.size : Int), 6⟩) (h1 : 1 ≤ S.size) (h32 : (bt S 0 == 32) = false) (h35 : (bt S 0 == 35) = false) (hr : inR m = true → S.size ≤ 17) : rvB 2 m s = validTk 2 m s := by
  unfold rvB validTk
  rw [hS, hv, h32, h35, decide_eq_false (by omega)]
  rcases q : inR m with _ | _
  · rw [if_neg (by simp)]; simp
  · rw [if_pos ⟨hr q, rfl⟩]
    simp [empty_same]
theorem num_eq {m : Int} {s : ByteArray} (hm : bd (-9223372036854775808) 9223372036854775807 m) : rvB 2 m s = validTk 2 m s := by
  have hp := pv_itoa hm
  have hl := itoaB_data m
  have hsp : spellS 2 m s = itoaB m := rfl
  have hz := size_list hl
  generalize itoaB m = S at *
  rcases Int.lt_or_le m 0 with hneg | hpos
  · obtain ⟨u, rfl⟩ : ∃ u : Nat, m = -(u : Int) := ⟨m.natAbs, by omega⟩
    have hu : 1 ≤ u := by omega
    rw [Lib.itoa_neg u hu] at hl hz
    have hd0 := dec_pos u
    have hz' : S.size = (Lib.decDigits u).length + 1 := by rw [hz]; simp
    obtain ⟨c, r, hc, hc1⟩ := dec_lead u hu
    have b0 : bt S 0 = 45 := by rw [bt_at hl (i := 0) (by simp)]; rfl
    have hall : ∀ i, 1 ≤ i → i < S.size → digitB (bt S i) = true := fun i g1 g2 => by
      have hi : i < (45 :: Lib.decDigits u).length := by rw [← hz]; exact g2
      refine dig_is hl hi ?_
      obtain ⟨j, rfl⟩ : ∃ j, i = j + 1 := ⟨i - 1, by omega⟩
      rw [List.getElem_cons_succ]
      exact dec_dig u _ (List.getElem_mem _)
    have b1 : (bt S 1 == 48) = false := by
      rw [bt_at hl (i := 1) (by simp; omega)]
      simp only [List.getElem_cons_succ, hc, List.getElem_cons_zero, beq_eq_false_iff_ne, ne_eq]; omega
    have hg := tokM_all (runA_all hall) (by omega) b1
    rw [hp.1] at hg
    refine num_read hsp ?_ (by omega) (by rw [b0]; rfl) (by rw [b0]; rfl) (fun q => ?_)
    · unfold tokV
      rw [b0, if_neg (by decide), if_pos (by decide)]; exact hg
    · simp only [inR, Bool.and_eq_true, decide_eq_true_eq] at q
      have := dec_len 15 u (by have : (10 : Nat) ^ (15 + 1) = 10000000000000000 := rfl; omega)
      omega
  · obtain ⟨u, rfl⟩ : ∃ u : Nat, m = (u : Int) := ⟨m.natAbs, by omega⟩
    rw [Lib.itoa_nonneg u] at hl hz
    have hd0 := dec_pos u
    have hall : ∀ i, 0 ≤ i → i < S.size → digitB (bt S i) = true := fun i _ g2 => by
      have hi : i < (Lib.decDigits u).length := by rw [← hz]; exact g2
      exact dig_is hl hi (dec_dig u _ (List.getElem_mem _))
    have d0 := hall 0 (Nat.le_refl _) (by omega)
    have h48 : (bt S 0 == 48) = true → S.size = 1 := fun g => by
      rcases Nat.eq_zero_or_pos u with rfl | hu
      · rw [hz, Lib.decDigits_one (by omega)]; rfl
      · obtain ⟨c, r, hc, hc1⟩ := dec_lead u hu
        rw [bt_at hl (i := 0) (by omega)] at g
        simp only [hc, List.getElem_cons_zero, beq_iff_eq] at g; omega
    have hg := tokG_all (runA_all hall) (by omega) h48
    rw [hp.1] at hg
    have hr : inR (u : Int) = true → S.size ≤ 16 := fun q => by
      simp only [inR, Bool.and_eq_true, decide_eq_true_eq] at q
      have := dec_len 15 u (by have : (10 : Nat) ^ (15 + 1) = 10000000000000000 := rfl; omega)
      omega
    refine num_read hsp ?_ (by omega) (dig_no d0).2.1 (dig_no d0).2.2.1 (fun q => by have := hr q; omega)
    unfold tokV
    rw [if_pos ⟨(dig_no d0).1, d0⟩, hg]
    by_cases q : inR (u : Int) = true
    · rw [if_pos ⟨hr q, q⟩, if_pos ⟨by have := hr q; omega, q⟩]
    · rw [if_neg (fun g => q g.2), if_neg (fun g => q g.2)]
end Go.Proofs.YtmoppmpnbkemdaaDoor.Ev
