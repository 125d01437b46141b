/- prism: moved points. -/
import Derived.Test.YtapcooolainmdaaPm5
import Derived.Test.YtapcooolainmdaaEvQ
import Derived.Test.YtapcooolainmdaaSlL
namespace Go.Proofs.Ytapcooolainmdaa.Ev
open Go.RowKit
set_option linter.unusedVariables false
set_option linter.unusedSimpArgs false
set_option maxRecDepth 8000

theorem okC_of {x : Int} (h : bd (-1000000) 1000000 x) : okC x = true := by obtain ⟨h1, h2⟩ := h; unfold okC; rw [decide_eq_true h1, decide_eq_true h2]; rfl
theorem allN_iff2 {q : Nat → Bool} {n : Nat} : allN q n = true ↔ ∀ i, i < n → q i = true := ⟨fun h i hi => allN_get h hi, allN_all⟩
theorem cvx_moved (n : Nat) (X Y : Nat → Int) (bx by_ : Int) : cvxR n (fun k => X k + bx) (fun k => Y k + by_) = cvxR n X Y := by
  unfold cvxR
  congr 1
  funext i
  congr 1
  funext j
  unfold lefA
  have e : ((X (nx n i) + bx) - (X i + bx)) * ((Y j + by_) - (Y i + by_)) - ((Y (nx n i) + by_) - (Y i + by_)) * ((X j + bx) - (X i + bx)) = (X (nx n i) - X i) * (Y j - Y i) - (Y (nx n i) - Y i) * (X j - X i) := by
    have a1 : (X (nx n i) + bx) - (X i + bx) = X (nx n i) - X i := by omega
    have a2 : (Y j + by_) - (Y i + by_) = Y j - Y i := by omega
    have a3 : (Y (nx n i) + by_) - (Y i + by_) = Y (nx n i) - Y i := by omega
    have a4 : (X j + bx) - (X i + bx) = X j - X i := by omega
    rw [a1, a2, a3, a4]
  show (j == i || (j == nx n i || decide (0 < ((X (nx n i) + bx) - (X i + bx)) * ((Y j + by_) - (Y i + by_)) - ((Y (nx n i) + by_) - (Y i + by_)) * ((X j + bx) - (X i + bx))))) = _
  rw [e]
/-- the check of a valid prism that is moved -/
theorem chkPr_moved {n : Nat} {X Y : Nat → Int} {lo hi : Int} (bx by_ bz : Int) (he : (chkPr n X Y lo hi == 0) = true) :
    chkPr n (fun k => X k + bx) (fun k => Y k + by_) (lo + bz) (hi + bz) = if allN (okP (fun k => X k + bx) (fun k => Y k + by_)) n = true then (if okC (lo + bz) = true then (if okC (hi + bz) = true then 0 else 6) else 6) else 6 := by
  rw [beq_iff_eq] at he
  have hc := cvx_moved n X Y bx by_
  unfold chkPr at he ⊢
  rw [hc]
  split at he
  · rename_i g1
    split at he
    · cases he
    · rename_i g2
      split at he
      · split at he
        · split at he
          · split at he
            · cases he
            · rename_i g3
              split at he
              · rename_i g4
                rw [if_pos g1, if_neg g2]
                split
                · split
                  · split
                    · simp only [decide_eq_true_eq] at g3
                      rw [if_neg (by simp only [decide_eq_true_eq]; omega)]
                    · rfl
                  · rfl
                · rfl
              · cases he
          · cases he
        · cases he
      · cases he
  · cases he
end Go.Proofs.Ytapcooolainmdaa.Ev
