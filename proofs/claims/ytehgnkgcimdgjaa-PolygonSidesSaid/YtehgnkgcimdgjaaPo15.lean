/- polygon: the program's Simple is the reference's. -/
import Derived.Test.YtehgnkgcimdgjaaPo14
namespace Go.Proofs.Ytehgnkgcimdgjaa.Ev
open Go.RowKit
set_option linter.unusedVariables false
set_option linter.unusedSimpArgs false
theorem nx_succ {n i : Nat} (h : i + 1 < n) : nx n i = i + 1 := Nat.mod_eq_of_lt h
theorem nx_last {n : Nat} (h : 0 < n) : nx n (n - 1) = 0 := by unfold nx; rw [Nat.sub_add_cancel h]; exact Nat.mod_self n
theorem dup_not {n : Nat} {X Y : Nat → Int} {i : Nat} (h : dupP n X Y i = false) : ¬ (X i = X (nx n i) ∧ Y i = Y (nx n i)) := by
  rintro ⟨h1, h2⟩; unfold dupP at h; simp [← h1, ← h2] at h
theorem allN_iff {q : Nat → Bool} {n : Nat} : allN q n = true ↔ ∀ i, i < n → q i = true := ⟨fun h i hi => allN_get h hi, allN_all⟩
theorem back_of {n : Nat} {X Y : Nat → Int} (hd : ∀ i, i < n → dupP n X Y i = false) {i : Nat} (hi : i < n) :
    meetI (X i) (Y i) (X (nx n i)) (Y (nx n i)) (X (nx n i)) (Y (nx n i)) (X (nx n (nx n i))) (Y (nx n (nx n i))) = 1 ↔ backA n X Y i = false :=
  meet_back (dup_not (hd i hi)) (dup_not (hd _ (nx_lt hi)))
theorem pair_next {n : Nat} {X Y : Nat → Int} (hd : ∀ i, i < n → dupP n X Y i = false) {k : Nat} (hk : k + 1 < n) : pairB n X Y (k + 1) k = true ↔ backA n X Y k = false := by
  have h := back_of hd (i := k) (by omega)
  rw [nx_succ hk] at h
  rw [← h]
  unfold pairB com
  rw [nx_succ hk, if_pos (.inl (by omega)), beq_iff_eq]
theorem pair_last {n : Nat} {X Y : Nat → Int} (hd : ∀ i, i < n → dupP n X Y i = false) (hn : 3 ≤ n) : pairB n X Y (n - 1) 0 = true ↔ backA n X Y (n - 1) = false := by
  have h := back_of hd (i := n - 1) (by omega)
  rw [nx_last (by omega)] at h
  rw [← h]
  unfold pairB com
  rw [nx_last (by omega), if_pos (.inr ⟨rfl, by omega⟩), beq_iff_eq, ← meet_swap]
theorem pair_far {n : Nat} {X Y : Nat → Int} {i k : Nat} (h1 : k + 1 ≠ i) (h2 : ¬ (k = 0 ∧ i = n - 1)) (hi : i < n) (hn : 3 ≤ n) : pairB n X Y i k = true ↔ meetR (X k) (Y k) (X (nx n k)) (Y (nx n k)) (X i) (Y i) (X (nx n i)) (Y (nx n i)) = false := by
  rw [← meet_zero]
  unfold pairB com
  rw [if_neg (by omega), beq_iff_eq]
theorem sim_eq {n : Nat} {X Y : Nat → Int} (hn : 3 ≤ n) (hd : ∀ i, i < n → dupP n X Y i = false) : simB n X Y = simR n X Y := by
  have h : simB n X Y = true ↔ simR n X Y = true := by
    unfold simB simR
    rw [allN_iff, allN_iff]
    constructor
    · intro h i hi
      unfold rowR
      rw [Bool.and_eq_true]
      constructor
      · rw [Bool.not_eq_true']
        by_cases c : i + 1 < n
        · exact (pair_next hd c).1 (allN_iff.1 (h (i + 1) c) i (by omega))
        · have e : i = n - 1 := by omega
          subst e
          exact (pair_last hd hn).1 (allN_iff.1 (h (n - 1) hi) 0 (by omega))
      · unfold rrow
        rw [allN_iff]
        intro j hj
        unfold rpair
        rcases hc : (((nx n (i + 2 + j) : Nat) : Int) == (i : Int)) with _ | _
        · rw [Bool.false_or, Bool.not_eq_true']
          have hc' : nx n (i + 2 + j) ≠ i := by intro q; rw [q] at hc; simp at hc
          refine (pair_far (by omega) ?_ (by omega) hn).1 (allN_iff.1 (h (i + 2 + j) (by omega)) i (by omega))
          rintro ⟨rfl, e⟩
          rw [e, nx_last (by omega)] at hc'
          exact hc' rfl
        · rfl
    · intro h i hi
      unfold rowB
      rw [allN_iff]
      intro k hk
      have back : ∀ m, m < n → backA n X Y m = false := by
        intro m hm
        have q := h m hm
        unfold rowR at q
        rw [Bool.and_eq_true, Bool.not_eq_true'] at q
        exact q.1
      by_cases c1 : k + 1 = i
      · subst c1
        exact (pair_next hd hi).2 (back k (by omega))
      · by_cases c2 : k = 0 ∧ i = n - 1
        · obtain ⟨rfl, rfl⟩ := c2
          exact (pair_last hd hn).2 (back _ (by omega))
        · refine (pair_far c1 c2 hi hn).2 ?_
          have q := h k (by omega)
          unfold rowR at q
          rw [Bool.and_eq_true] at q
          have q2 := allN_iff.1 q.2 (i - (k + 2)) (by omega)
          have e : k + 2 + (i - (k + 2)) = i := by omega
          unfold rpair at q2
          rw [e] at q2
          have hne : nx n i ≠ k := by
            by_cases c : i + 1 < n
            · rw [nx_succ c]; omega
            · have e : i = n - 1 := by omega
              subst e
              rw [nx_last (by omega)]; omega
          rw [show (((nx n i : Nat) : Int) == (k : Int)) = false from by simp; omega, Bool.false_or, Bool.not_eq_true'] at q2
          exact q2
  rcases h1 : simB n X Y with _ | _ <;> rcases h2 : simR n X Y with _ | _ <;> rw [h1, h2] at h <;> simp_all
theorem side_eq {n : Nat} {X Y : Nat → Int} {qx qy : Int} (h : simB n X Y = true) (hc : chkQ n X Y qx qy = 0) : sideV n X Y qx qy = (sideR n X Y qx qy, 0) := by
  unfold sideV sideR; rw [if_pos hc, if_pos h]; split <;> rfl
end Go.Proofs.Ytehgnkgcimdgjaa.Ev
