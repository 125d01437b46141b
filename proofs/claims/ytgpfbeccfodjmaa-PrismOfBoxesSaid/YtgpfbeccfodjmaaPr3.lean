/- prism: the prism of a box is valid. -/
import Derived.Test.YtgpfbeccfodjmaaPr2
import Derived.Laws.StructEq
namespace Go.Proofs.Ytgpfbeccfodjmaa.Ev
open Go.RowKit
set_option linter.unusedVariables false
set_option linter.unusedSimpArgs false
set_option maxRecDepth 8000
theorem pnt_same (d : Nat) (a0 a1 b0 b1 : Int) (w : World) : (Op.equalIn (d + 2) 60 (.agg #[.int .i64 a0, .int .i64 a1]) (.agg #[.int .i64 b0, .int .i64 b1])).run Try.prog w = .ok ((a0 == b0) && (a1 == b1)) w := by
  rw [run_equalIn_agg w (d + 1) 60 _ _ (by kernel_rfl) (by kernel_rfl)]
  have hf : (Try.prog.fieldsOf 60).toList.map (fun f => (f.name, f.type, f.offset)) = [("X", 3, 0), ("Y", 3, 1)] := by kernel_rfl
  generalize (Try.prog.fieldsOf 60).toList = fs at hf
  rcases fs with _ | ⟨f0, _ | ⟨f1, _ | ⟨h, r⟩⟩⟩ <;> simp at hf
  obtain ⟨⟨u0, v0, s0⟩, u1, v1, s1⟩ := hf
  have p0 : ∀ x0 x1 w, (part 3 #[.int .i64 x0, .int .i64 x1] 0).run Try.prog w = .ok (.int .i64 x0) w := fun _ _ _ => by kernel_rfl
  have q0 : ∀ x y w, (Op.equalIn (d + 1) 3 (.int .i64 x) (.int .i64 y)).run Try.prog w = .ok (x == y) w := fun x y w => run_equalIn_int w d 3 .i64 .i64 x y (by kernel_rfl)
  have p1 : ∀ x0 x1 w, (part 3 #[.int .i64 x0, .int .i64 x1] 1).run Try.prog w = .ok (.int .i64 x1) w := fun _ _ _ => by kernel_rfl
  have q1 : ∀ x y w, (Op.equalIn (d + 1) 3 (.int .i64 x) (.int .i64 y)).run Try.prog w = .ok (x == y) w := fun x y w => run_equalIn_int w d 3 .i64 .i64 x y (by kernel_rfl)
  simp only [Op.eqFields, Sem.run_bind]
  rw [u0, v0, s0, u1, v1, s1]
  rw [if_pos (by decide), Sem.run_bind, p0]
  simp only [Result.andThen_ok, Sem.run_bind]
  rw [p0]
  simp only [Result.andThen_ok, Sem.run_bind]
  rw [q0]
  simp only [Result.andThen_ok]
  rcases h0 : a0 == b0
  · simp
  simp only [Bool.not_true, Bool.false_eq_true, if_false, Bool.true_and]
  rw [if_pos (by decide), Sem.run_bind, p1]
  simp only [Result.andThen_ok, Sem.run_bind]
  rw [p1]
  simp only [Result.andThen_ok, Sem.run_bind]
  rw [q1]
  simp only [Result.andThen_ok]
  rcases h1 : a1 == b1
  · simp
  · simp
theorem pnt_eql (a0 a1 b0 b1 : Int) (w : World) : (binOp .eql 60 (.agg #[.int .i64 a0, .int .i64 a1]) (.agg #[.int .i64 b0, .int .i64 b1])).run Try.prog w = .ok (.bool ((a0 == b0) && (a1 == b1))) w := by
  rw [run_eql_struct, pnt_same 9998]; rfl
theorem pnt_neq (a0 a1 b0 b1 : Int) (w : World) : (binOp .neq 60 (.agg #[.int .i64 a0, .int .i64 a1]) (.agg #[.int .i64 b0, .int .i64 b1])).run Try.prog w = .ok (.bool (!((a0 == b0) && (a1 == b1)))) w := by
  rw [run_neq_struct, pnt_same 9998]; rfl
theorem pnt_guard (op : BinOp) (x y : Operand) (xs ys : Array Value) (w : World) : (eqGuard op 60 x y (.agg xs) (.agg ys)).run Try.prog w = .ok () w := run_eqGuard_agg w op _ x y xs ys (by kernel_rfl)
theorem ort_turn0 {a b x y : Int} (h1 : a < x) (h2 : b < y) : ort a b x b x y = 1 := by
  have hp : 0 < (x - a) * (y - b) := Int.mul_pos (by omega) (by omega)
  have e1 : (a - x) * (b - y) = (x - a) * (y - b) := by grind
  have e2 : (y - b) * (a - x) = -((x - a) * (y - b)) := by grind
  have e3 : (b - y) * (x - a) = -((x - a) * (y - b)) := by grind
  unfold ort
  simp only [Int.sub_self, Int.zero_mul, Int.mul_zero, e1, e2, e3]
  repeat' split
  all_goals omega
theorem ort_turn1 {a b x y : Int} (h1 : a < x) (h2 : b < y) : ort x b x y a y = 1 := by
  have hp : 0 < (x - a) * (y - b) := Int.mul_pos (by omega) (by omega)
  have e1 : (a - x) * (b - y) = (x - a) * (y - b) := by grind
  have e2 : (y - b) * (a - x) = -((x - a) * (y - b)) := by grind
  have e3 : (b - y) * (x - a) = -((x - a) * (y - b)) := by grind
  unfold ort
  simp only [Int.sub_self, Int.zero_mul, Int.mul_zero, e1, e2, e3]
  repeat' split
  all_goals omega
theorem ort_turn2 {a b x y : Int} (h1 : a < x) (h2 : b < y) : ort x y a y a b = 1 := by
  have hp : 0 < (x - a) * (y - b) := Int.mul_pos (by omega) (by omega)
  have e1 : (a - x) * (b - y) = (x - a) * (y - b) := by grind
  have e2 : (y - b) * (a - x) = -((x - a) * (y - b)) := by grind
  have e3 : (b - y) * (x - a) = -((x - a) * (y - b)) := by grind
  unfold ort
  simp only [Int.sub_self, Int.zero_mul, Int.mul_zero, e1, e2, e3]
  repeat' split
  all_goals omega
theorem ort_turn3 {a b x y : Int} (h1 : a < x) (h2 : b < y) : ort a y a b x b = 1 := by
  have hp : 0 < (x - a) * (y - b) := Int.mul_pos (by omega) (by omega)
  have e1 : (a - x) * (b - y) = (x - a) * (y - b) := by grind
  have e2 : (y - b) * (a - x) = -((x - a) * (y - b)) := by grind
  have e3 : (b - y) * (x - a) = -((x - a) * (y - b)) := by grind
  unfold ort
  simp only [Int.sub_self, Int.zero_mul, Int.mul_zero, e1, e2, e3]
  repeat' split
  all_goals omega
theorem check_memo (a1 b1 c1 x1 y1 z1 : Int) (w0 : World) (qa1 : bd (-1000000) 1000000 a1) (qb1 : bd (-1000000) 1000000 b1) (qc1 : bd (-1000000) 1000000 c1) (qx1 : bd (-1000000) 1000000 x1) (qy1 : bd (-1000000) 1000000 y1) (qz1 : bd (-1000000) 1000000 z1) (l11 : a1 < x1) (l21 : b1 < y1) (l31 : c1 < z1) : MemoE (env [a1, b1, c1, x1, y1, z1] [] w0) Try.prog (14, [.agg #[.slice (some ⟨0, 0, none⟩) 4 4, sy 2, sy 5]], [some ⟨[sy 0, sy 1, sy 3, sy 1, sy 3, sy 4, sy 0, sy 4], 60⟩], .int .i64 0, [some ⟨[sy 0, sy 1, sy 3, sy 1, sy 3, sy 4, sy 0, sy 4], 60⟩]) := by
  exact memo_know (o := { bin := [(.leq, 3, .int .i64 (-1000000), .int .i64 (sn 0), .bool true), (.leq, 3, .int .i64 (sn 0), .int .i64 1000000, .bool true), (.leq, 3, .int .i64 (-1000000), .int .i64 (sn 1), .bool true), (.leq, 3, .int .i64 (sn 1), .int .i64 1000000, .bool true), (.leq, 3, .int .i64 (-1000000), .int .i64 (sn 3), .bool true), (.leq, 3, .int .i64 (sn 3), .int .i64 1000000, .bool true), (.leq, 3, .int .i64 (-1000000), .int .i64 (sn 4), .bool true), (.leq, 3, .int .i64 (sn 4), .int .i64 1000000, .bool true), (.eql, 60, .agg #[sy 0, sy 1], .agg #[sy 3, sy 1], .bool false), (.eql, 60, .agg #[sy 3, sy 1], .agg #[sy 3, sy 4], .bool false), (.eql, 60, .agg #[sy 3, sy 4], .agg #[sy 0, sy 4], .bool false), (.eql, 60, .agg #[sy 0, sy 4], .agg #[sy 0, sy 1], .bool false), (.lss, 3, .int .i64 (sn 2), .int .i64 (-1000000), .bool false), (.gtr, 3, .int .i64 (sn 2), .int .i64 1000000, .bool false), (.lss, 3, .int .i64 (sn 5), .int .i64 (-1000000), .bool false), (.gtr, 3, .int .i64 (sn 5), .int .i64 1000000, .bool false), (.geq, 3, .int .i64 (sn 2), .int .i64 (sn 5), .bool false), (.leq, 3, .int .i64 (sn 1), .int .i64 (sn 1), .bool true), (.gtr, 3, .int .i64 (sn 4), .int .i64 (sn 1), .bool true), (.leq, 3, .int .i64 (sn 4), .int .i64 (sn 1), .bool false), (.leq, 3, .int .i64 (sn 4), .int .i64 (sn 4), .bool true), (.gtr, 3, .int .i64 (sn 1), .int .i64 (sn 4), .bool false), (.leq, 3, .int .i64 (sn 1), .int .i64 (sn 4), .bool true), (.gtr, 3, .int .i64 (sn 1), .int .i64 (sn 1), .bool false)], calls := [(53, [.agg #[sy 0, sy 1], .agg #[sy 3, sy 1], .agg #[sy 3, sy 4]], .int .i64 1), (53, [.agg #[sy 3, sy 1], .agg #[sy 3, sy 4], .agg #[sy 0, sy 4]], .int .i64 1), (53, [.agg #[sy 3, sy 4], .agg #[sy 0, sy 4], .agg #[sy 0, sy 1]], .int .i64 1), (53, [.agg #[sy 0, sy 4], .agg #[sy 0, sy 1], .agg #[sy 3, sy 1]], .int .i64 1)] }) ⟨(all_cons (cmpOK (op := .leq) (ty := 3) (k := .i64) (n := (-1000000)) (m := (sn 0)) (t := true) (a := (-1000000)) (b := a1) (by kernel_rfl) (by kernel_rfl) (congrArg some ((le_c (show decide (a1 ≤ (-1000001)) = false by have q0 := qa1; simp only [decide_eq_false_iff_not]; omega) rfl))))
      (all_cons (cmpOK (op := .leq) (ty := 3) (k := .i64) (n := (sn 0)) (m := 1000000) (t := true) (a := a1) (b := 1000000) (by kernel_rfl) (by kernel_rfl) (congrArg some ((show decide (a1 ≤ 1000000) = true by have q0 := qa1; simp only [decide_eq_true_eq]; omega))))
      (all_cons (cmpOK (op := .leq) (ty := 3) (k := .i64) (n := (-1000000)) (m := (sn 1)) (t := true) (a := (-1000000)) (b := b1) (by kernel_rfl) (by kernel_rfl) (congrArg some ((le_c (show decide (b1 ≤ (-1000001)) = false by have q0 := qb1; simp only [decide_eq_false_iff_not]; omega) rfl))))
      (all_cons (cmpOK (op := .leq) (ty := 3) (k := .i64) (n := (sn 1)) (m := 1000000) (t := true) (a := b1) (b := 1000000) (by kernel_rfl) (by kernel_rfl) (congrArg some ((show decide (b1 ≤ 1000000) = true by have q0 := qb1; simp only [decide_eq_true_eq]; omega))))
      (all_cons (cmpOK (op := .leq) (ty := 3) (k := .i64) (n := (-1000000)) (m := (sn 3)) (t := true) (a := (-1000000)) (b := x1) (by kernel_rfl) (by kernel_rfl) (congrArg some ((le_c (show decide (x1 ≤ (-1000001)) = false by have q0 := qx1; simp only [decide_eq_false_iff_not]; omega) rfl))))
      (all_cons (cmpOK (op := .leq) (ty := 3) (k := .i64) (n := (sn 3)) (m := 1000000) (t := true) (a := x1) (b := 1000000) (by kernel_rfl) (by kernel_rfl) (congrArg some ((show decide (x1 ≤ 1000000) = true by have q0 := qx1; simp only [decide_eq_true_eq]; omega))))
      (all_cons (cmpOK (op := .leq) (ty := 3) (k := .i64) (n := (-1000000)) (m := (sn 4)) (t := true) (a := (-1000000)) (b := y1) (by kernel_rfl) (by kernel_rfl) (congrArg some ((le_c (show decide (y1 ≤ (-1000001)) = false by have q0 := qy1; simp only [decide_eq_false_iff_not]; omega) rfl))))
      (all_cons (cmpOK (op := .leq) (ty := 3) (k := .i64) (n := (sn 4)) (m := 1000000) (t := true) (a := y1) (b := 1000000) (by kernel_rfl) (by kernel_rfl) (congrArg some ((show decide (y1 ≤ 1000000) = true by have q0 := qy1; simp only [decide_eq_true_eq]; omega))))
      (all_cons (structOK (op := .eql) (ty := 60) (x := .agg #[sy 0, sy 1]) (y := .agg #[sy 3, sy 1]) (x' := .agg #[.int .i64 a1, .int .i64 b1]) (y' := .agg #[.int .i64 x1, .int .i64 b1]) (t := false) (by kernel_rfl) (by kernel_rfl) (by kernel_rfl) (by kernel_rfl) (fun p q w => pnt_guard .eql p q _ _ w) (fun w => by have q := pnt_eql a1 b1 x1 b1 w; rw [show ((a1 == x1) && (b1 == b1)) = false from (by rw [Bool.and_eq_false_iff]; simp only [beq_eq_false_iff_ne, ne_eq]; omega)] at q; exact q))
      (all_cons (structOK (op := .eql) (ty := 60) (x := .agg #[sy 3, sy 1]) (y := .agg #[sy 3, sy 4]) (x' := .agg #[.int .i64 x1, .int .i64 b1]) (y' := .agg #[.int .i64 x1, .int .i64 y1]) (t := false) (by kernel_rfl) (by kernel_rfl) (by kernel_rfl) (by kernel_rfl) (fun p q w => pnt_guard .eql p q _ _ w) (fun w => by have q := pnt_eql x1 b1 x1 y1 w; rw [show ((x1 == x1) && (b1 == y1)) = false from (by rw [Bool.and_eq_false_iff]; simp only [beq_eq_false_iff_ne, ne_eq]; omega)] at q; exact q))
      (all_cons (structOK (op := .eql) (ty := 60) (x := .agg #[sy 3, sy 4]) (y := .agg #[sy 0, sy 4]) (x' := .agg #[.int .i64 x1, .int .i64 y1]) (y' := .agg #[.int .i64 a1, .int .i64 y1]) (t := false) (by kernel_rfl) (by kernel_rfl) (by kernel_rfl) (by kernel_rfl) (fun p q w => pnt_guard .eql p q _ _ w) (fun w => by have q := pnt_eql x1 y1 a1 y1 w; rw [show ((x1 == a1) && (y1 == y1)) = false from (by rw [Bool.and_eq_false_iff]; simp only [beq_eq_false_iff_ne, ne_eq]; omega)] at q; exact q))
      (all_cons (structOK (op := .eql) (ty := 60) (x := .agg #[sy 0, sy 4]) (y := .agg #[sy 0, sy 1]) (x' := .agg #[.int .i64 a1, .int .i64 y1]) (y' := .agg #[.int .i64 a1, .int .i64 b1]) (t := false) (by kernel_rfl) (by kernel_rfl) (by kernel_rfl) (by kernel_rfl) (fun p q w => pnt_guard .eql p q _ _ w) (fun w => by have q := pnt_eql a1 y1 a1 b1 w; rw [show ((a1 == a1) && (y1 == b1)) = false from (by rw [Bool.and_eq_false_iff]; simp only [beq_eq_false_iff_ne, ne_eq]; omega)] at q; exact q))
      (all_cons (cmpOK (op := .lss) (ty := 3) (k := .i64) (n := (sn 2)) (m := (-1000000)) (t := false) (a := c1) (b := (-1000000)) (by kernel_rfl) (by kernel_rfl) (congrArg some ((lt_c (show decide (c1 ≤ (-1000001)) = false by have q0 := qc1; simp only [decide_eq_false_iff_not]; omega) rfl))))
      (all_cons (cmpOK (op := .gtr) (ty := 3) (k := .i64) (n := (sn 2)) (m := 1000000) (t := false) (a := c1) (b := 1000000) (by kernel_rfl) (by kernel_rfl) (congrArg some ((gt_of_le (show decide (c1 ≤ 1000000) = true by have q0 := qc1; simp only [decide_eq_true_eq]; omega)))))
      (all_cons (cmpOK (op := .lss) (ty := 3) (k := .i64) (n := (sn 5)) (m := (-1000000)) (t := false) (a := z1) (b := (-1000000)) (by kernel_rfl) (by kernel_rfl) (congrArg some ((lt_c (show decide (z1 ≤ (-1000001)) = false by have q0 := qz1; simp only [decide_eq_false_iff_not]; omega) rfl))))
      (all_cons (cmpOK (op := .gtr) (ty := 3) (k := .i64) (n := (sn 5)) (m := 1000000) (t := false) (a := z1) (b := 1000000) (by kernel_rfl) (by kernel_rfl) (congrArg some ((gt_of_le (show decide (z1 ≤ 1000000) = true by have q0 := qz1; simp only [decide_eq_true_eq]; omega)))))
      (all_cons (cmpOK (op := .geq) (ty := 3) (k := .i64) (n := (sn 2)) (m := (sn 5)) (t := false) (a := c1) (b := z1) (by kernel_rfl) (by kernel_rfl) (congrArg some ((show decide (z1 ≤ c1) = false from decide_eq_false (by omega)))))
      (all_cons (cmpOK (op := .leq) (ty := 3) (k := .i64) (n := (sn 1)) (m := (sn 1)) (t := true) (a := b1) (b := b1) (by kernel_rfl) (by kernel_rfl) (congrArg some ((decide_eq_true (Int.le_refl _)))))
      (all_cons (cmpOK (op := .gtr) (ty := 3) (k := .i64) (n := (sn 4)) (m := (sn 1)) (t := true) (a := y1) (b := b1) (by kernel_rfl) (by kernel_rfl) (congrArg some ((gt_of_le (show decide (y1 ≤ b1) = false from decide_eq_false (by omega))))))
      (all_cons (cmpOK (op := .leq) (ty := 3) (k := .i64) (n := (sn 4)) (m := (sn 1)) (t := false) (a := y1) (b := b1) (by kernel_rfl) (by kernel_rfl) (congrArg some ((show decide (y1 ≤ b1) = false from decide_eq_false (by omega)))))
      (all_cons (cmpOK (op := .leq) (ty := 3) (k := .i64) (n := (sn 4)) (m := (sn 4)) (t := true) (a := y1) (b := y1) (by kernel_rfl) (by kernel_rfl) (congrArg some ((decide_eq_true (Int.le_refl _)))))
      (all_cons (cmpOK (op := .gtr) (ty := 3) (k := .i64) (n := (sn 1)) (m := (sn 4)) (t := false) (a := b1) (b := y1) (by kernel_rfl) (by kernel_rfl) (congrArg some ((gt_of_le (show decide (b1 ≤ y1) = true from decide_eq_true (by omega))))))
      (all_cons (cmpOK (op := .leq) (ty := 3) (k := .i64) (n := (sn 1)) (m := (sn 4)) (t := true) (a := b1) (b := y1) (by kernel_rfl) (by kernel_rfl) (congrArg some ((show decide (b1 ≤ y1) = true from decide_eq_true (by omega)))))
      (all_cons (cmpOK (op := .gtr) (ty := 3) (k := .i64) (n := (sn 1)) (m := (sn 1)) (t := false) (a := b1) (b := b1) (by kernel_rfl) (by kernel_rfl) (congrArg some ((gt_of_le (decide_eq_true (Int.le_refl _))))))
      all_nil)))))))))))))))))))))))), all_nil, all_nil, all_nil, (all_cons (callOK (f := 53) (args := [.agg #[sy 0, sy 1], .agg #[sy 3, sy 1], .agg #[sy 3, sy 4]]) (v := .int .i64 1) (args' := #[.agg #[.int .i64 a1, .int .i64 b1], .agg #[.int .i64 x1, .int .i64 b1], .agg #[.int .i64 x1, .int .i64 y1]]) (v' := .int .i64 1) (by kernel_rfl) (by kernel_rfl) (by kernel_rfl) (fun w => by have q := orient_any a1 b1 x1 b1 x1 y1 w qa1 qb1 qx1 qb1 qx1 qy1; rw [(show ort a1 b1 x1 b1 x1 y1 = 1 from ort_turn0 l11 l21)] at q; exact q))
      (all_cons (callOK (f := 53) (args := [.agg #[sy 3, sy 1], .agg #[sy 3, sy 4], .agg #[sy 0, sy 4]]) (v := .int .i64 1) (args' := #[.agg #[.int .i64 x1, .int .i64 b1], .agg #[.int .i64 x1, .int .i64 y1], .agg #[.int .i64 a1, .int .i64 y1]]) (v' := .int .i64 1) (by kernel_rfl) (by kernel_rfl) (by kernel_rfl) (fun w => by have q := orient_any x1 b1 x1 y1 a1 y1 w qx1 qb1 qx1 qy1 qa1 qy1; rw [(show ort x1 b1 x1 y1 a1 y1 = 1 from ort_turn1 l11 l21)] at q; exact q))
      (all_cons (callOK (f := 53) (args := [.agg #[sy 3, sy 4], .agg #[sy 0, sy 4], .agg #[sy 0, sy 1]]) (v := .int .i64 1) (args' := #[.agg #[.int .i64 x1, .int .i64 y1], .agg #[.int .i64 a1, .int .i64 y1], .agg #[.int .i64 a1, .int .i64 b1]]) (v' := .int .i64 1) (by kernel_rfl) (by kernel_rfl) (by kernel_rfl) (fun w => by have q := orient_any x1 y1 a1 y1 a1 b1 w qx1 qy1 qa1 qy1 qa1 qb1; rw [(show ort x1 y1 a1 y1 a1 b1 = 1 from ort_turn2 l11 l21)] at q; exact q))
      (all_cons (callOK (f := 53) (args := [.agg #[sy 0, sy 4], .agg #[sy 0, sy 1], .agg #[sy 3, sy 1]]) (v := .int .i64 1) (args' := #[.agg #[.int .i64 a1, .int .i64 y1], .agg #[.int .i64 a1, .int .i64 b1], .agg #[.int .i64 x1, .int .i64 b1]]) (v' := .int .i64 1) (by kernel_rfl) (by kernel_rfl) (by kernel_rfl) (fun w => by have q := orient_any a1 y1 a1 b1 x1 b1 w qa1 qy1 qa1 qb1 qx1 qb1; rw [(show ort a1 y1 a1 b1 x1 b1 = 1 from ort_turn3 l11 l21)] at q; exact q))
      all_nil)))), all_nil, all_nil, all_nil, all_nil, all_nil, all_nil, all_nil, all_nil, all_nil, all_nil, all_nil, all_nil⟩ 1000 50 14 [.agg #[.slice (some ⟨0, 0, none⟩) 4 4, sy 2, sy 5]] ([some ⟨[sy 0, sy 1, sy 3, sy 1, sy 3, sy 4, sy 0, sy 4], 60⟩]) (.int .i64 0) ([some ⟨[sy 0, sy 1, sy 3, sy 1, sy 3, sy 4, sy 0, sy 4], 60⟩]) (by kernel_rfl)
end Go.Proofs.Ytgpfbeccfodjmaa.Ev
