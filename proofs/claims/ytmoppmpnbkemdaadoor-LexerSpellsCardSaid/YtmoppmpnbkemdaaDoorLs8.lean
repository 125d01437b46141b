/- lexer: tokens held against each other. -/
import Derived.Test.YtmoppmpnbkemdaaDoorLs7
import Derived.Laws.StructEq
namespace Go.Proofs.YtmoppmpnbkemdaaDoor.Ev
open Go.RowKit
set_option linter.unusedVariables false
set_option linter.unusedSimpArgs false
set_option maxRecDepth 8000
theorem tok_same (d : Nat) (a0 : Int) (a1 : ByteArray) (a2 : Int) (a3 : Int) (b0 : Int) (b1 : ByteArray) (b2 : Int) (b3 : Int) (w : World) : (Op.equalIn (d + 2) 37 (.agg #[.int .i64 a0, .string a1, .int .i64 a2, .int .i64 a3]) (.agg #[.int .i64 b0, .string b1, .int .i64 b2, .int .i64 b3])).run Tryd.prog w = .ok ((a0 == b0) && ((a1.toList == b1.toList) && ((a2 == b2) && (a3 == b3)))) w := by
  rw [run_equalIn_agg w (d + 1) 37 _ _ (by kernel_rfl) (by kernel_rfl)]
  have hf : (Tryd.prog.fieldsOf 37).toList.map (fun f => (f.name, f.type, f.offset)) = [("Kind", 3, 0), ("Text", 9, 1), ("N", 2, 2), ("At", 3, 3)] := by kernel_rfl
  generalize (Tryd.prog.fieldsOf 37).toList = fs at hf
  rcases fs with _ | ⟨f0, _ | ⟨f1, _ | ⟨f2, _ | ⟨f3, _ | ⟨h, r⟩⟩⟩⟩⟩ <;> simp at hf
  obtain ⟨⟨u0, v0, s0⟩, ⟨u1, v1, s1⟩, ⟨u2, v2, s2⟩, u3, v3, s3⟩ := hf
  have p0 : ∀ (x0 : Int) (x1 : ByteArray) (x2 : Int) (x3 : Int) w, (part 3 #[.int .i64 x0, .string x1, .int .i64 x2, .int .i64 x3] 0).run Tryd.prog w = .ok (.int .i64 x0) w := fun _ _ _ _ _ => by kernel_rfl
  have q0 : ∀ x y w, (Op.equalIn (d + 1) 3 (.int .i64 x) (.int .i64 y)).run Tryd.prog w = .ok (x == y) w := fun x y w => run_equalIn_int w d 3 .i64 .i64 x y (by kernel_rfl)
  have p1 : ∀ (x0 : Int) (x1 : ByteArray) (x2 : Int) (x3 : Int) w, (part 9 #[.int .i64 x0, .string x1, .int .i64 x2, .int .i64 x3] 1).run Tryd.prog w = .ok (.string x1) w := fun _ _ _ _ _ => by kernel_rfl
  have q1 : ∀ x y w, (Op.equalIn (d + 1) 9 (.string x) (.string y)).run Tryd.prog w = .ok (x.toList == y.toList) w := fun x y w => run_equalIn_string w d 9 x y (by kernel_rfl)
  have p2 : ∀ (x0 : Int) (x1 : ByteArray) (x2 : Int) (x3 : Int) w, (part 2 #[.int .i64 x0, .string x1, .int .i64 x2, .int .i64 x3] 2).run Tryd.prog w = .ok (.int .i64 x2) w := fun _ _ _ _ _ => by kernel_rfl
  have q2 : ∀ x y w, (Op.equalIn (d + 1) 2 (.int .i64 x) (.int .i64 y)).run Tryd.prog w = .ok (x == y) w := fun x y w => run_equalIn_int w d 2 .i64 .i64 x y (by kernel_rfl)
  have p3 : ∀ (x0 : Int) (x1 : ByteArray) (x2 : Int) (x3 : Int) w, (part 3 #[.int .i64 x0, .string x1, .int .i64 x2, .int .i64 x3] 3).run Tryd.prog w = .ok (.int .i64 x3) w := fun _ _ _ _ _ => by kernel_rfl
  have q3 : ∀ x y w, (Op.equalIn (d + 1) 3 (.int .i64 x) (.int .i64 y)).run Tryd.prog w = .ok (x == y) w := fun x y w => run_equalIn_int w d 3 .i64 .i64 x y (by kernel_rfl)
  simp only [Op.eqFields, Sem.run_bind]
  rw [u0, v0, s0, u1, v1, s1, u2, v2, s2, u3, v3, s3]
  rw [if_pos (by decide), Sem.run_bind, p0]
  simp only [Result.andThen_ok, Sem.run_bind]
  rw [p0]
  simp only [Result.andThen_ok, Sem.run_bind]
  rw [q0]
  simp only [Result.andThen_ok]
  rcases h0 : (a0 == b0)
  · simp
  simp only [Bool.not_true, Bool.false_eq_true, if_false, Bool.true_and]
  rw [if_pos (by decide), Sem.run_bind, p1]
  simp only [Result.andThen_ok, Sem.run_bind]
  rw [p1]
  simp only [Result.andThen_ok, Sem.run_bind]
  rw [q1]
  simp only [Result.andThen_ok]
  rcases h1 : (a1.toList == b1.toList)
  · simp
  simp only [Bool.not_true, Bool.false_eq_true, if_false, Bool.true_and]
  rw [if_pos (by decide), Sem.run_bind, p2]
  simp only [Result.andThen_ok, Sem.run_bind]
  rw [p2]
  simp only [Result.andThen_ok, Sem.run_bind]
  rw [q2]
  simp only [Result.andThen_ok]
  rcases h2 : (a2 == b2)
  · simp
  simp only [Bool.not_true, Bool.false_eq_true, if_false, Bool.true_and]
  rw [if_pos (by decide), Sem.run_bind, p3]
  simp only [Result.andThen_ok, Sem.run_bind]
  rw [p3]
  simp only [Result.andThen_ok, Sem.run_bind]
  rw [q3]
  simp only [Result.andThen_ok]
  rcases h3 : (a3 == b3)
  · simp
  · simp
theorem tok_eql (a0 : Int) (a1 : ByteArray) (a2 : Int) (a3 : Int) (b0 : Int) (b1 : ByteArray) (b2 : Int) (b3 : Int) (w : World) : (binOp .eql 37 (.agg #[.int .i64 a0, .string a1, .int .i64 a2, .int .i64 a3]) (.agg #[.int .i64 b0, .string b1, .int .i64 b2, .int .i64 b3])).run Tryd.prog w = .ok (.bool (((a0 == b0) && ((a1.toList == b1.toList) && ((a2 == b2) && (a3 == b3)))))) w := by
  rw [run_eql_struct, tok_same 9998]; rfl
theorem tok_neq (a0 : Int) (a1 : ByteArray) (a2 : Int) (a3 : Int) (b0 : Int) (b1 : ByteArray) (b2 : Int) (b3 : Int) (w : World) : (binOp .neq 37 (.agg #[.int .i64 a0, .string a1, .int .i64 a2, .int .i64 a3]) (.agg #[.int .i64 b0, .string b1, .int .i64 b2, .int .i64 b3])).run Tryd.prog w = .ok (.bool (!((a0 == b0) && ((a1.toList == b1.toList) && ((a2 == b2) && (a3 == b3)))))) w := by
  rw [run_neq_struct, tok_same 9998]; rfl
theorem tok_guard (op : BinOp) (x y : Operand) (xs ys : Array Value) (w : World) : (eqGuard op 37 x y (.agg xs) (.agg ys)).run Tryd.prog w = .ok () w := run_eqGuard_agg w op _ x y xs ys (by kernel_rfl)
end Go.Proofs.YtmoppmpnbkemdaaDoor.Ev
