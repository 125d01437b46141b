/- Plain words over vectors. -/
import Derived.Test.YtkfdbhhchnbjdaaBase
namespace Go.Proofs.Ytkfdbhhchnbjdaa.Ve
open Go.RowKit
set_option linter.unusedVariables false
def inB (n : Int) : Bool := decide (-1000000 ≤ n) && decide (n ≤ 1000000)
def in3 (x y z : Int) : Bool := inB x && (inB y && inB z)
def in2 (x y : Int) : Bool := inB x && inB y
theorem inB_iff {n : Int} : inB n = true ↔ -1000000 ≤ n ∧ n ≤ 1000000 := by simp [inB]
theorem in3_iff {x y z : Int} : in3 x y z = true ↔ (-1000000 ≤ x ∧ x ≤ 1000000) ∧ (-1000000 ≤ y ∧ y ≤ 1000000) ∧ (-1000000 ≤ z ∧ z ≤ 1000000) := by simp [in3, inB]
theorem in2_iff {x y : Int} : in2 x y = true ↔ (-1000000 ≤ x ∧ x ≤ 1000000) ∧ (-1000000 ≤ y ∧ y ≤ 1000000) := by simp [in2, inB]
theorem in3_flat (x y : Int) : in3 x y 0 = in2 x y := by simp [in3, in2, inB]
def cmpI (x y : Int) : Int := if x < y then -1 else if y < x then 1 else 0
theorem cmpI_lt {x y : Int} (h : x < y) : cmpI x y = -1 := by unfold cmpI; rw [if_pos h]
theorem cmpI_gt {x y : Int} (h : y < x) : cmpI x y = 1 := by unfold cmpI; rw [if_neg (by omega), if_pos h]
theorem cmpI_eq (x : Int) : cmpI x x = 0 := by unfold cmpI; rw [if_neg (by omega), if_neg (by omega)]
theorem cmpI_bd (x y : Int) : -1 ≤ cmpI x y ∧ cmpI x y ≤ 1 := by unfold cmpI; split <;> (try split) <;> omega
theorem mul_bd {a b : Int} (M N : Int) (h1 : -M ≤ a) (h2 : a ≤ M) (h3 : -N ≤ b) (h4 : b ≤ N) : -(M * N) ≤ a * b ∧ a * b ≤ M * N := by
  have p1 := Int.mul_nonneg (show 0 ≤ M - a by omega) (show 0 ≤ N + b by omega)
  have p2 := Int.mul_nonneg (show 0 ≤ M + a by omega) (show 0 ≤ N - b by omega)
  have p3 := Int.mul_nonneg (show 0 ≤ M + a by omega) (show 0 ≤ N + b by omega)
  have p4 := Int.mul_nonneg (show 0 ≤ M - a by omega) (show 0 ≤ N - b by omega)
  simp only [Int.sub_mul, Int.add_mul, Int.mul_sub, Int.mul_add] at p1 p2 p3 p4
  omega
/-- products of coordinates, and of differences of coordinates -/
theorem mul6 {a b : Int} (h1 : -1000000 ≤ a ∧ a ≤ 1000000) (h2 : -1000000 ≤ b ∧ b ≤ 1000000) : -1000000000000 ≤ a * b ∧ a * b ≤ 1000000000000 := mul_bd 1000000 1000000 h1.1 h1.2 h2.1 h2.2
theorem mul7 {a b : Int} (h1 : -2000000 ≤ a ∧ a ≤ 2000000) (h2 : -2000000 ≤ b ∧ b ≤ 2000000) : -4000000000000 ≤ a * b ∧ a * b ≤ 4000000000000 := mul_bd 2000000 2000000 h1.1 h1.2 h2.1 h2.2
/-- the order of vectors -/
def cmp3 (ax ay az bx bY bz : Int) : Int := if ax < bx then -1 else if bx < ax then 1 else if ay < bY then -1 else if bY < ay then 1 else cmpI az bz
/-- the turn at three points -/
def turnI (ax ay bx bY cx cy : Int) : Int := cmpI ((bx - ax) * (cy - ay)) ((bY - ay) * (cx - ax))
def bef (ax ay bx bY : Int) : Bool := decide (ax < bx) || (decide (ax = bx) && decide (ay < bY))
end Go.Proofs.Ytkfdbhhchnbjdaa.Ve
