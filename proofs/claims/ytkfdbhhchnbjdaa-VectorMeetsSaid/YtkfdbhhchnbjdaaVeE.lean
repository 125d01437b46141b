/- The check of vectors. -/
import Derived.Test.YtkfdbhhchnbjdaaVeA
namespace Go.Proofs.Ytkfdbhhchnbjdaa.Ve
open Go.RowKit Ba
set_option linter.unusedVariables false

/-- the cells of a list of vectors -/
def flat3 : List (Int × Int × Int) → List Value
  | [] => []
  | p :: r => .int .i64 p.1 :: .int .i64 p.2.1 :: .int .i64 p.2.2 :: flat3 r
theorem flat3_length (l : List (Int × Int × Int)) : (flat3 l).length = 3 * l.length := by
  induction l with
  | nil => rfl
  | cons p r ih => simp [flat3, ih]; omega
theorem flat3_at (l : List (Int × Int × Int)) (k : Nat) (h : k < l.length) : (flat3 l)[3 * k]? = some (.int .i64 l[k].1) ∧ (flat3 l)[3 * k + 1]? = some (.int .i64 l[k].2.1) ∧ (flat3 l)[3 * k + 2]? = some (.int .i64 l[k].2.2) := by
  induction l generalizing k with
  | nil => simp at h
  | cons p r ih =>
    cases k with
    | zero => exact ⟨rfl, rfl, rfl⟩
    | succ k =>
      have h' : k < r.length := by simpa using h
      have e : 3 * (k + 1) = 3 * k + 3 := by omega
      have e1 : 3 * (k + 1) + 1 = 3 * k + 1 + 3 := by omega
      have e2 : 3 * (k + 1) + 2 = 3 * k + 2 + 3 := by omega
      rw [e2, e1, e]
      simpa [flat3] using ih k h'
theorem Lies_v3 {w : World} {A : Option Addr} {l : List (Int × Int × Int)} (h : Lies w A (flat3 l)) (hl : 0 < l.length) :
    ∃ b o, A = some ⟨b, o, none⟩ ∧ b < w.heap.size ∧ ∀ k (hk : k < l.length), w.cell? ⟨b, o + k * 3, none⟩ = some (.int .i64 l[k].1) ∧ w.cell? ⟨b, o + k * 3 + 1, none⟩ = some (.int .i64 l[k].2.1) ∧ w.cell? ⟨b, o + k * 3 + 2, none⟩ = some (.int .i64 l[k].2.2) := by
  obtain ⟨b, o, e, hlt, hc⟩ := h (by rw [flat3_length]; omega)
  refine ⟨b, o, e, hlt, fun k hk => ?_⟩
  obtain ⟨h0, h1, h2⟩ := flat3_at l k hk
  have e0 : k * 3 = 3 * k := by omega
  rw [e0]
  exact ⟨hc _ _ h0, hc _ _ h1, hc _ _ h2⟩

def in3p (p : Int × Int × Int) : Bool := in3 p.1 p.2.1 p.2.2
def chkE (l : List (Int × Int × Int)) : Int := if l.all in3p then 0 else 6
theorem all_step {α : Type} (f : α → Bool) (l : List α) (k : Nat) (h : k < l.length) (ha : (l.take k).all f = true) (hk : f l[k] = true) : (l.take (k + 1)).all f = true := by
  rw [List.take_succ_eq_append_getElem h, List.all_append, ha]; simp [hk]
theorem all_full {α : Type} (f : α → Bool) (l : List α) (k : Nat) (h : l.length ≤ k) (ha : (l.take k).all f = true) : l.all f = true := by rwa [List.take_of_length_le h] at ha
theorem all_fail {α : Type} (f : α → Bool) (l : List α) (k : Nat) (h : k < l.length) (hk : f l[k] = false) : l.all f = false := by
  rw [List.all_eq_false]; exact ⟨l[k], List.getElem_mem h, by simp [hk]⟩

set_option maxHeartbeats 400000 in
theorem checkAll_any (A : Option Addr) (n c : Nat) (l : List (Int × Int × Int)) (hl : l.length = n) (hn : n ≤ 1000) (w : World) (hL : Lies w A (flat3 l)) : Calls Try.prog 36 #[.slice A n c] w fun e w' => e = .returned (.int .i64 (chkE l)) ∧ Below w.heap.size w w' := by

  subst hl
  have HL := Lib.hid hL
  clear hL
  go_enter Try.func36, Try.ntmps36
  go_wp2
  go_loopw [9] (fun i wr => ∃ k : Nat, k ≤ l.length ∧ i = .int .i64 k ∧ Hid ((l.take k).all in3p = true) ∧ Below w.heap.size w wr) (fun i _ => l.length - (intOf i).toNat)
  case atStart => exact ⟨0, Nat.zero_le _, rfl, rfl, Below.refl _ _⟩
  case round =>
    obtain ⟨k, hk, rfl, hgood, hb⟩ := hrel
    by_cases hlt : k < l.length
    · obtain ⟨b, o, rfl, hbl, hc⟩ := Lies_v3 HL.out (by omega)
      have h1 := (hb.cell (p := ⟨b, o + k * 3, none⟩) hbl).trans (hc k hlt).1
      have h2 := (hb.cell (p := ⟨b, o + k * 3 + 1, none⟩) hbl).trans (hc k hlt).2.1
      have h3 := (hb.cell (p := ⟨b, o + k * 3 + 2, none⟩) hbl).trans (hc k hlt).2.2
      clear hc
      have HP : Hid (in3p l[k] = (inB l[k].1 && (inB l[k].2.1 && inB l[k].2.2))) := Lib.hid rfl
      generalize hp1 : l[k].1 = x at *
      generalize hp2 : l[k].2.1 = y at *
      generalize hp3 : l[k].2.2 = z at *
      clear hp1 hp2 hp3
      go_wp2_with (go_at_call 40; refine (coordinates_any _ _ _ _).mono ?_; rintro e w1 ⟨rfl, hb1⟩)
      have hb2 : Below w.heap.size w w1 := below_trans (below_alloc hb _) hb1
      clear hb1 h1 h2 h3
      have i0 : ∀ W, (Instr.index 62 (.agg #[.int .i64 x, .int .i64 y, .int .i64 z]) (.int .i64 0)).run Try.prog W = .ok (.int .i64 x) W := fun _ => by kernel_rfl
      have i1 : ∀ W, (Instr.index 62 (.agg #[.int .i64 x, .int .i64 y, .int .i64 z]) (.int .i64 1)).run Try.prog W = .ok (.int .i64 y) W := fun _ => by kernel_rfl
      have i2 : ∀ W, (Instr.index 62 (.agg #[.int .i64 x, .int .i64 y, .int .i64 z]) (.int .i64 2)).run Try.prog W = .ok (.int .i64 z) W := fun _ => by kernel_rfl
      have key : (inB x = false ∧ (x < -1000000 ∨ (¬ x < -1000000 ∧ 1000000 < x))) ∨ (inB x = true ∧ -1000000 ≤ x ∧ x ≤ 1000000 ∧ inB y = false ∧ (y < -1000000 ∨ (¬ y < -1000000 ∧ 1000000 < y))) ∨
          (inB x = true ∧ -1000000 ≤ x ∧ x ≤ 1000000 ∧ inB y = true ∧ -1000000 ≤ y ∧ y ≤ 1000000 ∧ inB z = false ∧ (z < -1000000 ∨ (¬ z < -1000000 ∧ 1000000 < z))) ∨
          (inB x = true ∧ -1000000 ≤ x ∧ x ≤ 1000000 ∧ inB y = true ∧ -1000000 ≤ y ∧ y ≤ 1000000 ∧ inB z = true ∧ -1000000 ≤ z ∧ z ≤ 1000000) := by
        simp only [inB]
        by_cases a1 : -1000000 ≤ x <;> by_cases a2 : x ≤ 1000000 <;> by_cases a3 : -1000000 ≤ y <;> by_cases a4 : y ≤ 1000000 <;> by_cases a5 : -1000000 ≤ z <;> by_cases a6 : z ≤ 1000000 <;> simp [a1, a2, a3, a4, a5, a6] <;> omega
      rcases key with ⟨e1, h | ⟨g, h⟩⟩ | ⟨e1, _, _, e2, h | ⟨g, h⟩⟩ | ⟨e1, _, _, e2, _, _, e3, h | ⟨g, h⟩⟩ | ⟨e1, _, _, e2, _, _, e3, _, _⟩
      · have HF : Hid (chkE l = 6) := Lib.hid (by rw [chkE, all_fail in3p l k hlt (by rw [HP.out]; simp [e1])]; rfl)
        clear e1 HP
        refine wp_loop_rounds 1 ?_
        rw [rounds_succ]
        go_wp2
        go_returns
        exact ⟨ret_int HF.out.symm, hb2⟩
      · have HF : Hid (chkE l = 6) := Lib.hid (by rw [chkE, all_fail in3p l k hlt (by rw [HP.out]; simp [e1])]; rfl)
        clear e1 HP
        refine wp_loop_rounds 1 ?_
        rw [rounds_succ]
        go_wp2
        go_returns
        exact ⟨ret_int HF.out.symm, hb2⟩
      · have HF : Hid (chkE l = 6) := Lib.hid (by rw [chkE, all_fail in3p l k hlt (by rw [HP.out]; simp [e1, e2])]; rfl)
        clear e1 e2 HP
        refine wp_loop_rounds 2 ?_
        rw [rounds_succ]
        go_wp2
        rw [rounds_succ]
        go_wp2
        go_returns
        exact ⟨ret_int HF.out.symm, hb2⟩
      · have HF : Hid (chkE l = 6) := Lib.hid (by rw [chkE, all_fail in3p l k hlt (by rw [HP.out]; simp [e1, e2])]; rfl)
        clear e1 e2 HP
        refine wp_loop_rounds 2 ?_
        rw [rounds_succ]
        go_wp2
        rw [rounds_succ]
        go_wp2
        go_returns
        exact ⟨ret_int HF.out.symm, hb2⟩
      · have HF : Hid (chkE l = 6) := Lib.hid (by rw [chkE, all_fail in3p l k hlt (by rw [HP.out]; simp [e1, e2, e3])]; rfl)
        clear e1 e2 e3 HP
        refine wp_loop_rounds 3 ?_
        rw [rounds_succ]
        go_wp2
        rw [rounds_succ]
        go_wp2
        rw [rounds_succ]
        go_wp2
        go_returns
        exact ⟨ret_int HF.out.symm, hb2⟩
      · have HF : Hid (chkE l = 6) := Lib.hid (by rw [chkE, all_fail in3p l k hlt (by rw [HP.out]; simp [e1, e2, e3])]; rfl)
        clear e1 e2 e3 HP
        refine wp_loop_rounds 3 ?_
        rw [rounds_succ]
        go_wp2
        rw [rounds_succ]
        go_wp2
        rw [rounds_succ]
        go_wp2
        go_returns
        exact ⟨ret_int HF.out.symm, hb2⟩
      · have HS : Hid ((l.take (k + 1)).all in3p = true) := Lib.hid (all_step in3p l k hlt hgood.out (by rw [HP.out]; simp [e1, e2, e3]))
        clear e1 e2 e3 HP
        refine wp_loop_rounds 4 ?_
        rw [rounds_succ]
        go_wp2
        rw [rounds_succ]
        go_wp2
        rw [rounds_succ]
        go_wp2
        rw [rounds_succ]
        go_wp2
        go_roundw
        case rel => exact ⟨k + 1, by omega, by go_num, HS, hb2⟩
        case measure => simp [intOf]; omega
    · have HF : Hid (chkE l = 0) := Lib.hid (by rw [chkE, all_full in3p l k (by omega) hgood.out]; rfl)
      go_wp2
      go_returns
      exact ⟨ret_int HF.out.symm, hb⟩

theorem check_any (x y z : Int) (w : World) : Calls Try.prog 15 #[.agg #[.int .i64 x, .int .i64 y, .int .i64 z]] w fun e w' => e = .returned (.int .i64 (chkE [(x, y, z)])) ∧ Below w.heap.size w w' := by

  go_enter Try.func15, Try.ntmps15
  go_wp2_with (go_at_call 36; refine (checkAll_any _ 1 _ [(x, y, z)] rfl (by omega) _ (lies_row (by simp) rfl)).mono ?_; rintro e w1 ⟨rfl, hb⟩)
  go_returns
  exact ⟨rfl, below_trans (by go_grown) hb⟩

end Go.Proofs.Ytkfdbhhchnbjdaa.Ve
