/- prism: the reference's near and Cross. -/
import Derived.Test.YtapcooolainmdaaPm2
namespace Go.Proofs.Ytapcooolainmdaa.Ev
open Go.RowKit
set_option linter.unusedVariables false
set_option linter.unusedSimpArgs false
set_option maxRecDepth 8000

theorem nxb {n i : Nat} (hn : bd 0 1000000000000 (n : Int)) (h : i < n) : bd 0 1000000000000 ((nx n i : Nat) : Int) := by have := nx_lt h; obtain ⟨g1, g2⟩ := hn; exact ⟨by omega, by omega⟩
def crs (ax ay bx bY cx cy : Int) : Int := (bx - ax) * (cy - ay) - (bY - ay) * (cx - ax)
theorem crs_turn (ax ay bx bY cx cy : Int) : (turnI ax ay bx bY cx cy == 1) = decide (0 < crs ax ay bx bY cx cy) := by
  have h := cmpI_pos (x := (bx - ax) * (cy - ay)) (y := (bY - ay) * (cx - ax))
  unfold crs turnI
  by_cases c : (bY - ay) * (cx - ax) < (bx - ax) * (cy - ay)
  · rw [h.2 c, decide_eq_true (by omega)]; rfl
  · rw [decide_eq_false (by omega)]
    simp only [beq_eq_false_iff_ne, ne_eq]
    exact fun q => c (h.1 q)
theorem rnear_any (x : Int) (w : World) : Calls Try.prog 34 #[.int .i64 x] w fun e w' => e = .returned (.bool (okC x)) ∧ Below w.heap.size w w' := by
  rcases h0 : (decide (x ≤ (-1000001))) with _ | _
  · rcases h1 : (decide (x ≤ 1000000)) with _ | _
    · have hr : (.bool (okC x) : Value) = .bool false := by (refine congrArg Value.bool ?_; unfold okC; simp at h0 h1 ⊢ <;> omega)
      try rw [hr]
      exact run_know (P := Try.prog) (ρ := env [x] [] w) (o := { bin := [(.geq, 3, .int .i64 (sn 0), .int .i64 (-1000000), .bool true), (.leq, 3, .int .i64 (sn 0), .int .i64 1000000, .bool false)] }) ⟨(all_cons (cmpOK (op := .geq) (ty := 3) (k := .i64) (n := (sn 0)) (m := (-1000000)) (t := true) (a := x) (b := (-1000000)) (by kernel_rfl) (by kernel_rfl) (congrArg some ((ge_c h0 rfl)))) (all_cons (cmpOK (op := .leq) (ty := 3) (k := .i64) (n := (sn 0)) (m := 1000000) (t := false) (a := x) (b := 1000000) (by kernel_rfl) (by kernel_rfl) (congrArg some (h1))) all_nil)), all_nil, all_nil, all_nil, all_nil, all_nil, all_nil, all_nil, all_nil, all_nil, all_nil, all_nil, all_nil, all_nil, all_nil, all_nil, all_nil, all_nil⟩ 1000 50 34 [sy 0] (.bool false) (args' := #[.int .i64 x]) (v' := .bool false) (by kernel_rfl) (by kernel_rfl) (by kernel_rfl) w (Below.refl _ _)
    · have hr : (.bool (okC x) : Value) = .bool true := by (refine congrArg Value.bool ?_; unfold okC; simp at h0 h1 ⊢ <;> omega)
      try rw [hr]
      exact run_know (P := Try.prog) (ρ := env [x] [] w) (o := { bin := [(.geq, 3, .int .i64 (sn 0), .int .i64 (-1000000), .bool true), (.leq, 3, .int .i64 (sn 0), .int .i64 1000000, .bool true)] }) ⟨(all_cons (cmpOK (op := .geq) (ty := 3) (k := .i64) (n := (sn 0)) (m := (-1000000)) (t := true) (a := x) (b := (-1000000)) (by kernel_rfl) (by kernel_rfl) (congrArg some ((ge_c h0 rfl)))) (all_cons (cmpOK (op := .leq) (ty := 3) (k := .i64) (n := (sn 0)) (m := 1000000) (t := true) (a := x) (b := 1000000) (by kernel_rfl) (by kernel_rfl) (congrArg some (h1))) all_nil)), all_nil, all_nil, all_nil, all_nil, all_nil, all_nil, all_nil, all_nil, all_nil, all_nil, all_nil, all_nil, all_nil, all_nil, all_nil, all_nil, all_nil⟩ 1000 50 34 [sy 0] (.bool true) (args' := #[.int .i64 x]) (v' := .bool true) (by kernel_rfl) (by kernel_rfl) (by kernel_rfl) w (Below.refl _ _)
  · have hr : (.bool (okC x) : Value) = .bool false := by (refine congrArg Value.bool ?_; unfold okC; simp at h0 ⊢ <;> omega)
    try rw [hr]
    exact run_know (P := Try.prog) (ρ := env [x] [] w) (o := { bin := [(.geq, 3, .int .i64 (sn 0), .int .i64 (-1000000), .bool false)] }) ⟨(all_cons (cmpOK (op := .geq) (ty := 3) (k := .i64) (n := (sn 0)) (m := (-1000000)) (t := false) (a := x) (b := (-1000000)) (by kernel_rfl) (by kernel_rfl) (congrArg some ((ge_c h0 rfl)))) all_nil), all_nil, all_nil, all_nil, all_nil, all_nil, all_nil, all_nil, all_nil, all_nil, all_nil, all_nil, all_nil, all_nil, all_nil, all_nil, all_nil, all_nil⟩ 1000 50 34 [sy 0] (.bool false) (args' := #[.int .i64 x]) (v' := .bool false) (by kernel_rfl) (by kernel_rfl) (by kernel_rfl) w (Below.refl _ _)
theorem rcross_any (ax ay bx bY cx cy : Int) (w : World) (h_ax : bd (-1000000) 1000000 ax) (h_ay : bd (-1000000) 1000000 ay) (h_bx : bd (-1000000) 1000000 bx) (h_bY : bd (-1000000) 1000000 bY) (h_cx : bd (-1000000) 1000000 cx) (h_cy : bd (-1000000) 1000000 cy) : Calls Try.prog 41 #[.agg #[.int .i64 ax, .int .i64 ay], .agg #[.int .i64 bx, .int .i64 bY], .agg #[.int .i64 cx, .int .i64 cy]] w fun e w' => e = .returned (.int .i64 (crs ax ay bx bY cx cy)) ∧ Below w.heap.size w w' := by
  have bq0 : bd (-2000000) 2000000 (bx - ax) := bd_sub h_bx h_ax rfl
  have bq1 : bd (-2000000) 2000000 (cy - ay) := bd_sub h_cy h_ay rfl
  have bq2 : bd (-4000000000000) 4000000000000 (((bx - ax) * (cy - ay))) := bd_mul bq0 bq1 2000000 2000000 rfl
  have bq3 : bd (-2000000) 2000000 (bY - ay) := bd_sub h_bY h_ay rfl
  have bq4 : bd (-2000000) 2000000 (cx - ax) := bd_sub h_cx h_ax rfl
  have bq5 : bd (-4000000000000) 4000000000000 (((bY - ay) * (cx - ax))) := bd_mul bq3 bq4 2000000 2000000 rfl
  have bq6 : bd (-8000000000000) 8000000000000 (((((bx - ax) * (cy - ay))) - (((bY - ay) * (cx - ax))))) := bd_sub bq2 bq5 rfl
  have hr : (.int .i64 (crs ax ay bx bY cx cy) : Value) = .int .i64 (((((bx - ax) * (cy - ay))) - (((bY - ay) * (cx - ax))))) := by (unfold crs; rfl)
  try rw [hr]
  exact run_know (P := Try.prog) (ρ := env [ax, ay, bx, bY, cx, cy, (bx - ax), (cy - ay), ((bx - ax) * (cy - ay)), (bY - ay), (cx - ax), ((bY - ay) * (cx - ax)), ((((bx - ax) * (cy - ay))) - (((bY - ay) * (cx - ax))))] [] w) (o := { bin := [(.sub, 3, .int .i64 (sn 2), .int .i64 (sn 0), .int .i64 (sn 6)), (.sub, 3, .int .i64 (sn 5), .int .i64 (sn 1), .int .i64 (sn 7)), (.mul, 3, .int .i64 (sn 6), .int .i64 (sn 7), .int .i64 (sn 8)), (.sub, 3, .int .i64 (sn 3), .int .i64 (sn 1), .int .i64 (sn 9)), (.sub, 3, .int .i64 (sn 4), .int .i64 (sn 0), .int .i64 (sn 10)), (.mul, 3, .int .i64 (sn 9), .int .i64 (sn 10), .int .i64 (sn 11)), (.sub, 3, .int .i64 (sn 8), .int .i64 (sn 11), .int .i64 (sn 12))] }) ⟨(all_cons (arOK (op := .sub) (ty := 3) (k := .i64) (n := (sn 2)) (m := (sn 0)) (r := (sn 6)) (a := bx) (b := ax) (c := (bx - ax)) (d := bx - ax) (by kernel_rfl) (by kernel_rfl) (by kernel_rfl) rfl (wr_bd bq0 rfl)) (all_cons (arOK (op := .sub) (ty := 3) (k := .i64) (n := (sn 5)) (m := (sn 1)) (r := (sn 7)) (a := cy) (b := ay) (c := (cy - ay)) (d := cy - ay) (by kernel_rfl) (by kernel_rfl) (by kernel_rfl) rfl (wr_bd bq1 rfl)) (all_cons (arOK (op := .mul) (ty := 3) (k := .i64) (n := (sn 6)) (m := (sn 7)) (r := (sn 8)) (a := (bx - ax)) (b := (cy - ay)) (c := (((bx - ax) * (cy - ay)))) (d := (bx - ax) * (cy - ay)) (by kernel_rfl) (by kernel_rfl) (by kernel_rfl) rfl (wr_bd bq2 rfl)) (all_cons (arOK (op := .sub) (ty := 3) (k := .i64) (n := (sn 3)) (m := (sn 1)) (r := (sn 9)) (a := bY) (b := ay) (c := (bY - ay)) (d := bY - ay) (by kernel_rfl) (by kernel_rfl) (by kernel_rfl) rfl (wr_bd bq3 rfl)) (all_cons (arOK (op := .sub) (ty := 3) (k := .i64) (n := (sn 4)) (m := (sn 0)) (r := (sn 10)) (a := cx) (b := ax) (c := (cx - ax)) (d := cx - ax) (by kernel_rfl) (by kernel_rfl) (by kernel_rfl) rfl (wr_bd bq4 rfl)) (all_cons (arOK (op := .mul) (ty := 3) (k := .i64) (n := (sn 9)) (m := (sn 10)) (r := (sn 11)) (a := (bY - ay)) (b := (cx - ax)) (c := (((bY - ay) * (cx - ax)))) (d := (bY - ay) * (cx - ax)) (by kernel_rfl) (by kernel_rfl) (by kernel_rfl) rfl (wr_bd bq5 rfl)) (all_cons (arOK (op := .sub) (ty := 3) (k := .i64) (n := (sn 8)) (m := (sn 11)) (r := (sn 12)) (a := (((bx - ax) * (cy - ay)))) (b := (((bY - ay) * (cx - ax)))) (c := (((((bx - ax) * (cy - ay))) - (((bY - ay) * (cx - ax)))))) (d := (((bx - ax) * (cy - ay))) - (((bY - ay) * (cx - ax)))) (by kernel_rfl) (by kernel_rfl) (by kernel_rfl) rfl (wr_bd bq6 rfl)) all_nil))))))), all_nil, all_nil, all_nil, all_nil, all_nil, all_nil, all_nil, all_nil, all_nil, all_nil, all_nil, all_nil, all_nil, all_nil, all_nil, all_nil, all_nil⟩ 1000 50 41 [.agg #[sy 0, sy 1], .agg #[sy 2, sy 3], .agg #[sy 4, sy 5]] (sy 12) (args' := #[.agg #[.int .i64 ax, .int .i64 ay], .agg #[.int .i64 bx, .int .i64 bY], .agg #[.int .i64 cx, .int .i64 cy]]) (v' := .int .i64 (((((bx - ax) * (cy - ay))) - (((bY - ay) * (cx - ax)))))) (by kernel_rfl) (by kernel_rfl) (by kernel_rfl) w (Below.refl _ _)
end Go.Proofs.Ytapcooolainmdaa.Ev
