/- The walk of VectorAdds. -/
import Derived.Test.YtkfdbhhchnbjdaaVeL2
namespace Go.Proofs.Ytkfdbhhchnbjdaa.Ve
open Go.RowKit Ba
set_option linter.unusedVariables false
attribute [local go_sem ↓] Go.wp_at_zero Go.wp_at_succ

theorem add_ex (ax ay az bx bY bz : Int) : ∃ p q r e : Int, (∀ W, Calls Try.prog 13 #[.agg #[.int .i64 ax, .int .i64 ay, .int .i64 az], .agg #[.int .i64 bx, .int .i64 bY, .int .i64 bz]] W fun e' w' => e' = .returned (.tuple #[.agg #[.int .i64 p, .int .i64 q, .int .i64 r], .int .i64 e]) ∧ Below W.heap.size W w') ∧
    (¬ (in3 ax ay az = true ∧ in3 bx bY bz = true) → p = 0 ∧ q = 0 ∧ r = 0 ∧ e = 6) ∧ (in3 ax ay az = true → in3 bx bY bz = true → in3 (ax + bx) (ay + bY) (az + bz) = true → p = ax + bx ∧ q = ay + bY ∧ r = az + bz ∧ e = 0) ∧
    (in3 ax ay az = true → in3 bx bY bz = true → in3 (ax + bx) (ay + bY) (az + bz) = false → p = 0 ∧ q = 0 ∧ r = 0 ∧ e = 6) := by
  by_cases h : in3 ax ay az = true ∧ in3 bx bY bz = true
  · rcases hs : in3 (ax + bx) (ay + bY) (az + bz) with _ | _
    · exact ⟨0, 0, 0, 6, fun W => add_far ax ay az bx bY bz h.1 h.2 hs W, fun hh => absurd h hh, fun _ _ hh => (by cases hh), fun _ _ _ => ⟨rfl, rfl, rfl, rfl⟩⟩
    · exact ⟨_, _, _, 0, fun W => add_ok ax ay az bx bY bz h.1 h.2 hs W, fun hh => absurd h hh, fun _ _ _ => ⟨rfl, rfl, rfl, rfl⟩, fun _ _ hh => (by cases hh)⟩
  · exact ⟨0, 0, 0, 6, fun W => add_no ax ay az bx bY bz h W, fun _ => ⟨rfl, rfl, rfl, rfl⟩, fun h1 h2 _ => absurd ⟨h1, h2⟩ h, fun h1 h2 _ => absurd ⟨h1, h2⟩ h⟩
theorem sub_ex (ax ay az bx bY bz : Int) : ∃ p q r e : Int, (∀ W, Calls Try.prog 14 #[.agg #[.int .i64 ax, .int .i64 ay, .int .i64 az], .agg #[.int .i64 bx, .int .i64 bY, .int .i64 bz]] W fun e' w' => e' = .returned (.tuple #[.agg #[.int .i64 p, .int .i64 q, .int .i64 r], .int .i64 e]) ∧ Below W.heap.size W w') ∧
    (¬ (in3 ax ay az = true ∧ in3 bx bY bz = true) → p = 0 ∧ q = 0 ∧ r = 0 ∧ e = 6) ∧ (in3 ax ay az = true → in3 bx bY bz = true → in3 (ax - bx) (ay - bY) (az - bz) = true → p = ax - bx ∧ q = ay - bY ∧ r = az - bz ∧ e = 0) ∧
    (in3 ax ay az = true → in3 bx bY bz = true → in3 (ax - bx) (ay - bY) (az - bz) = false → p = 0 ∧ q = 0 ∧ r = 0 ∧ e = 6) := by
  by_cases h : in3 ax ay az = true ∧ in3 bx bY bz = true
  · rcases hs : in3 (ax - bx) (ay - bY) (az - bz) with _ | _
    · exact ⟨0, 0, 0, 6, fun W => sub_far ax ay az bx bY bz h.1 h.2 hs W, fun hh => absurd h hh, fun _ _ hh => (by cases hh), fun _ _ _ => ⟨rfl, rfl, rfl, rfl⟩⟩
    · exact ⟨_, _, _, 0, fun W => sub_ok ax ay az bx bY bz h.1 h.2 hs W, fun hh => absurd h hh, fun _ _ _ => ⟨rfl, rfl, rfl, rfl⟩, fun _ _ hh => (by cases hh)⟩
  · exact ⟨0, 0, 0, 6, fun W => sub_no ax ay az bx bY bz h W, fun _ => ⟨rfl, rfl, rfl, rfl⟩, fun h1 h2 _ => absurd ⟨h1, h2⟩ h, fun h1 h2 _ => absurd ⟨h1, h2⟩ h⟩
end Go.Proofs.Ytkfdbhhchnbjdaa.Ve
