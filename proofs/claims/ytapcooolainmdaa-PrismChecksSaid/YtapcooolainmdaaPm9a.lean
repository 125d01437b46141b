/- prism: areas and bounds, mathematics. -/
import Derived.Test.YtapcooolainmdaaPm5
namespace Go.Proofs.Ytapcooolainmdaa.Ev
open Go.RowKit
set_option linter.unusedVariables false
set_option linter.unusedSimpArgs false
set_option maxRecDepth 8000

def mnN (f : Nat → Int) : Nat → Int
  | 0 => f 0
  | k + 1 => min (mnN f k) (f k)
def mxN (f : Nat → Int) : Nat → Int
  | 0 => f 0
  | k + 1 => max (mxN f k) (f k)
def arN (n : Nat) (X Y : Nat → Int) : Nat → Int
  | 0 => 0
  | i + 1 => arN n X Y i + (X i * Y (nx n i) - X (nx n i) * Y i)
theorem prod_bd {x y : Int} (hx : bd (-1000000) 1000000 x) (hy : bd (-1000000) 1000000 y) : -1000000000000 ≤ x * y ∧ x * y ≤ 1000000000000 := by
  have h := bd_mul (l := -1000000000000) (h := 1000000000000) hx hy 1000000 1000000 rfl
  obtain ⟨g1, g2⟩ := h
  exact ⟨by omega, by omega⟩
theorem arN_bd {n : Nat} {X Y : Nat → Int} (hX : ∀ k, k < n → bd (-1000000) 1000000 (X k) ∧ bd (-1000000) 1000000 (Y k)) (i : Nat) (hi : i ≤ n) : -2000000000000 * i ≤ arN n X Y i ∧ arN n X Y i ≤ 2000000000000 * i := by
  induction i with
  | zero => simp [arN]
  | succ i ih =>
    have h := ih (by omega)
    have a := hX i (by omega)
    have b := hX (nx n i) (nx_lt (by omega))
    have p := prod_bd a.1 b.2
    have q := prod_bd b.1 a.2
    unfold arN
    generalize X i * Y (nx n i) = u at *
    generalize X (nx n i) * Y i = v at *
    push_cast
    omega
def fanN (X Y : Nat → Int) : Nat → Int
  | 0 => 0
  | j + 1 => fanN X Y j + crs (X 0) (Y 0) (X (1 + j)) (Y (1 + j)) (X (1 + j + 1)) (Y (1 + j + 1))
theorem crs_bd {ax ay bx bY cx cy : Int} (h1 : bd (-1000000) 1000000 ax) (h2 : bd (-1000000) 1000000 ay) (h3 : bd (-1000000) 1000000 bx) (h4 : bd (-1000000) 1000000 bY) (h5 : bd (-1000000) 1000000 cx) (h6 : bd (-1000000) 1000000 cy) : bd (-8000000000000) 8000000000000 (crs ax ay bx bY cx cy) := by
  have p1 := prod_bd h3 h6; have p2 := prod_bd h3 h2; have p3 := prod_bd h1 h6; have p4 := prod_bd h1 h2
  have q1 := prod_bd h4 h5; have q2 := prod_bd h4 h1; have q3 := prod_bd h2 h5; have q4 := prod_bd h2 h1
  have e : crs ax ay bx bY cx cy = bx * cy - bx * ay - ax * cy + ax * ay - (bY * cx - bY * ax - ay * cx + ay * ax) := by unfold crs; grind
  rw [e]
  generalize bx * cy = u1 at *; generalize bx * ay = u2 at *; generalize ax * cy = u3 at *; generalize ax * ay = u4 at *
  generalize bY * cx = v1 at *; generalize bY * ax = v2 at *; generalize ay * cx = v3 at *; generalize ay * ax = v4 at *
  exact ⟨by omega, by omega⟩
theorem fanN_bd {n : Nat} {X Y : Nat → Int} (hX : ∀ k, k < n → bd (-1000000) 1000000 (X k) ∧ bd (-1000000) 1000000 (Y k)) (j : Nat) (hj : j + 2 ≤ n) : -8000000000000 * j ≤ fanN X Y j ∧ fanN X Y j ≤ 8000000000000 * j := by
  induction j with
  | zero => simp [fanN]
  | succ j ih =>
    have h := ih (by omega)
    have a := hX 0 (by omega); have b := hX (1 + j) (by omega); have c := hX (1 + j + 1) (by omega)
    obtain ⟨g1, g2⟩ := crs_bd a.1 a.2 b.1 b.2 c.1 c.2
    unfold fanN
    generalize crs (X 0) (Y 0) (X (1 + j)) (Y (1 + j)) (X (1 + j + 1)) (Y (1 + j + 1)) = u at *
    push_cast
    omega
/-- the fan of triangles has the area of the polygon -/
theorem fan_step {n : Nat} {X Y : Nat → Int} (j : Nat) (hj : j + 2 ≤ n) : fanN X Y j = arN n X Y (j + 1) + (X (j + 1) * Y 0 - X 0 * Y (j + 1)) := by
  induction j with
  | zero =>
    have e : nx n 0 = 1 := by unfold nx; exact Nat.mod_eq_of_lt (by omega)
    simp only [fanN, arN, e]; grind
  | succ j ih =>
    have h := ih (by omega)
    have e : nx n (j + 1) = j + 1 + 1 := by unfold nx; exact Nat.mod_eq_of_lt (by omega)
    unfold fanN arN
    rw [h, e, show 1 + j = j + 1 from by omega]
    unfold crs
    grind
theorem fan_area {n : Nat} {X Y : Nat → Int} (hn : 2 ≤ n) : fanN X Y (n - 2) = arN n X Y n := by
  rw [fan_step (n := n) (n - 2) (by omega)]
  have e : n = (n - 2 + 1) + 1 := by omega
  have e2 : nx n (n - 2 + 1) = 0 := by unfold nx; rw [show n - 2 + 1 + 1 = n from by omega]; exact Nat.mod_self n
  conv => rhs; rw [show arN n X Y n = arN n X Y (n - 2 + 1 + 1) from by rw [← e]]
  rw [show arN n X Y (n - 2 + 1 + 1) = arN n X Y (n - 2 + 1) + (X (n - 2 + 1) * Y (nx n (n - 2 + 1)) - X (nx n (n - 2 + 1)) * Y (n - 2 + 1)) from rfl, e2]
end Go.Proofs.Ytapcooolainmdaa.Ev
