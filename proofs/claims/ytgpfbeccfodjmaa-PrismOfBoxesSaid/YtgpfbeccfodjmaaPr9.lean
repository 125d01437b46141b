/- prism: boxes held against each other; the prism of a box against what is no box. -/
import Derived.Test.YtgpfbeccfodjmaaPr7
import Derived.Test.YtgpfbeccfodjmaaPr8
import Derived.Laws.StructEq
namespace Go.Proofs.Ytgpfbeccfodjmaa.Ev
open Go.RowKit
set_option linter.unusedVariables false
set_option linter.unusedSimpArgs false
set_option maxRecDepth 8000
theorem vec_same (d : Nat) (a0 a1 a2 b0 b1 b2 : Int) (w : World) : (Op.equalIn (d + 2) 30 (.agg #[.int .i64 a0, .int .i64 a1, .int .i64 a2]) (.agg #[.int .i64 b0, .int .i64 b1, .int .i64 b2])).run Try.prog w = .ok ((a0 == b0) && ((a1 == b1) && (a2 == b2))) w := by
  rw [run_equalIn_agg w (d + 1) 30 _ _ (by kernel_rfl) (by kernel_rfl)]
  have hf : (Try.prog.fieldsOf 30).toList.map (fun f => (f.name, f.type, f.offset)) = [("X", 3, 0), ("Y", 3, 1), ("Z", 3, 2)] := by kernel_rfl
  generalize (Try.prog.fieldsOf 30).toList = fs at hf
  rcases fs with _ | ⟨f0, _ | ⟨f1, _ | ⟨f2, _ | ⟨h, r⟩⟩⟩⟩ <;> simp at hf
  obtain ⟨⟨u0, v0, s0⟩, ⟨u1, v1, s1⟩, u2, v2, s2⟩ := hf
  have p0 : ∀ x0 x1 x2 w, (part 3 #[.int .i64 x0, .int .i64 x1, .int .i64 x2] 0).run Try.prog w = .ok (.int .i64 x0) w := fun _ _ _ _ => by kernel_rfl
  have q0 : ∀ x y w, (Op.equalIn (d + 1) 3 (.int .i64 x) (.int .i64 y)).run Try.prog w = .ok (x == y) w := fun x y w => run_equalIn_int w d 3 .i64 .i64 x y (by kernel_rfl)
  have p1 : ∀ x0 x1 x2 w, (part 3 #[.int .i64 x0, .int .i64 x1, .int .i64 x2] 1).run Try.prog w = .ok (.int .i64 x1) w := fun _ _ _ _ => by kernel_rfl
  have q1 : ∀ x y w, (Op.equalIn (d + 1) 3 (.int .i64 x) (.int .i64 y)).run Try.prog w = .ok (x == y) w := fun x y w => run_equalIn_int w d 3 .i64 .i64 x y (by kernel_rfl)
  have p2 : ∀ x0 x1 x2 w, (part 3 #[.int .i64 x0, .int .i64 x1, .int .i64 x2] 2).run Try.prog w = .ok (.int .i64 x2) w := fun _ _ _ _ => by kernel_rfl
  have q2 : ∀ x y w, (Op.equalIn (d + 1) 3 (.int .i64 x) (.int .i64 y)).run Try.prog w = .ok (x == y) w := fun x y w => run_equalIn_int w d 3 .i64 .i64 x y (by kernel_rfl)
  simp only [Op.eqFields, Sem.run_bind]
  rw [u0, v0, s0, u1, v1, s1, u2, v2, s2]
  rw [if_pos (by decide), Sem.run_bind, p0]
  simp only [Result.andThen_ok, Sem.run_bind]
  rw [p0]
  simp only [Result.andThen_ok, Sem.run_bind]
  rw [q0]
  simp only [Result.andThen_ok]
  rcases h0 : a0 == b0
  · simp
  simp only [Bool.not_true, Bool.false_eq_true, if_false, Bool.true_and]
  rw [if_pos (by decide), Sem.run_bind, p1]
  simp only [Result.andThen_ok, Sem.run_bind]
  rw [p1]
  simp only [Result.andThen_ok, Sem.run_bind]
  rw [q1]
  simp only [Result.andThen_ok]
  rcases h1 : a1 == b1
  · simp
  simp only [Bool.not_true, Bool.false_eq_true, if_false, Bool.true_and]
  rw [if_pos (by decide), Sem.run_bind, p2]
  simp only [Result.andThen_ok, Sem.run_bind]
  rw [p2]
  simp only [Result.andThen_ok, Sem.run_bind]
  rw [q2]
  simp only [Result.andThen_ok]
  rcases h2 : a2 == b2
  · simp
  · simp
theorem vec_eql (a0 a1 a2 b0 b1 b2 : Int) (w : World) : (binOp .eql 30 (.agg #[.int .i64 a0, .int .i64 a1, .int .i64 a2]) (.agg #[.int .i64 b0, .int .i64 b1, .int .i64 b2])).run Try.prog w = .ok (.bool ((a0 == b0) && ((a1 == b1) && (a2 == b2)))) w := by
  rw [run_eql_struct, vec_same 9998]; rfl
theorem vec_neq (a0 a1 a2 b0 b1 b2 : Int) (w : World) : (binOp .neq 30 (.agg #[.int .i64 a0, .int .i64 a1, .int .i64 a2]) (.agg #[.int .i64 b0, .int .i64 b1, .int .i64 b2])).run Try.prog w = .ok (.bool (!((a0 == b0) && ((a1 == b1) && (a2 == b2))))) w := by
  rw [run_neq_struct, vec_same 9998]; rfl
theorem vec_guard (op : BinOp) (x y : Operand) (xs ys : Array Value) (w : World) : (eqGuard op 30 x y (.agg xs) (.agg ys)).run Try.prog w = .ok () w := run_eqGuard_agg w op _ x y xs ys (by kernel_rfl)
theorem box_refl (d : Nat) (a0 a1 a2 a3 a4 a5 : Int) (w : World) : (Op.equalIn (d + 3) 32 (.agg #[.int .i64 a0, .int .i64 a1, .int .i64 a2, .int .i64 a3, .int .i64 a4, .int .i64 a5]) (.agg #[.int .i64 a0, .int .i64 a1, .int .i64 a2, .int .i64 a3, .int .i64 a4, .int .i64 a5])).run Try.prog w = .ok true w := by
  rw [run_equalIn_agg w (d + 2) 32 _ _ (by kernel_rfl) (by kernel_rfl)]
  have hf : (Try.prog.fieldsOf 32).toList.map (fun f => (f.name, f.type, f.offset)) = [("Min", 30, 0), ("Max", 30, 3)] := by kernel_rfl
  generalize (Try.prog.fieldsOf 32).toList = fs at hf
  rcases fs with _ | ⟨f0, _ | ⟨f1, _ | ⟨h, r⟩⟩⟩ <;> simp at hf
  obtain ⟨⟨u0, v0, s0⟩, u1, v1, s1⟩ := hf
  have p0 : ∀ x0 x1 x2 x3 x4 x5 w, (part 30 #[.int .i64 x0, .int .i64 x1, .int .i64 x2, .int .i64 x3, .int .i64 x4, .int .i64 x5] 0).run Try.prog w = .ok (.agg #[.int .i64 x0, .int .i64 x1, .int .i64 x2]) w := fun _ _ _ _ _ _ _ => by kernel_rfl
  have p1 : ∀ x0 x1 x2 x3 x4 x5 w, (part 30 #[.int .i64 x0, .int .i64 x1, .int .i64 x2, .int .i64 x3, .int .i64 x4, .int .i64 x5] 3).run Try.prog w = .ok (.agg #[.int .i64 x3, .int .i64 x4, .int .i64 x5]) w := fun _ _ _ _ _ _ _ => by kernel_rfl
  have q : ∀ x y z w, (Op.equalIn (d + 2) 30 (.agg #[.int .i64 x, .int .i64 y, .int .i64 z]) (.agg #[.int .i64 x, .int .i64 y, .int .i64 z])).run Try.prog w = .ok true w := fun x y z w => by rw [vec_same d]; simp
  simp only [Op.eqFields, Sem.run_bind]
  rw [u0, v0, s0, u1, v1, s1]
  rw [if_pos (by decide), Sem.run_bind, p0]
  simp only [Result.andThen_ok, Sem.run_bind]
  rw [p0]
  simp only [Result.andThen_ok, Sem.run_bind]
  rw [q]
  simp only [Result.andThen_ok, Bool.not_true, Bool.false_eq_true, if_false]
  rw [if_pos (by decide), Sem.run_bind, p1]
  simp only [Result.andThen_ok, Sem.run_bind]
  rw [p1]
  simp only [Result.andThen_ok, Sem.run_bind]
  rw [q]
  simp
theorem box_neq (a0 a1 a2 a3 a4 a5 : Int) (w : World) : (binOp .neq 32 (.agg #[.int .i64 a0, .int .i64 a1, .int .i64 a2, .int .i64 a3, .int .i64 a4, .int .i64 a5]) (.agg #[.int .i64 a0, .int .i64 a1, .int .i64 a2, .int .i64 a3, .int .i64 a4, .int .i64 a5])).run Try.prog w = .ok (.bool false) w := by
  rw [run_neq_struct, box_refl 9997]; rfl
theorem box_guard (op : BinOp) (x y : Operand) (xs ys : Array Value) (w : World) : (eqGuard op 32 x y (.agg xs) (.agg ys)).run Try.prog w = .ok () w := run_eqGuard_agg w op _ x y xs ys (by kernel_rfl)
noncomputable def over_badE (a1 b1 c1 x1 y1 z1 a2 b2 c2 x2 y2 z2 : Int) (w0 : World) : Env := env [a1, b1, c1, x1, y1, z1, a2, b2, c2, x2, y2, z2, (chkF a2 b2 c2 x2 y2 z2)] [] w0
theorem over_bad (a1 b1 c1 x1 y1 z1 a2 b2 c2 x2 y2 z2 : Int) (w0 : World) (qa1 : bd (-1000000) 1000000 a1) (qb1 : bd (-1000000) 1000000 b1) (qc1 : bd (-1000000) 1000000 c1) (qx1 : bd (-1000000) 1000000 x1) (qy1 : bd (-1000000) 1000000 y1) (qz1 : bd (-1000000) 1000000 z1) (l11 : a1 < x1) (l21 : b1 < y1) (l31 : c1 < z1) (ha2 : bd (-9223372036854775808) 9223372036854775807 a2) (hb2 : bd (-9223372036854775808) 9223372036854775807 b2) (hc2 : bd (-9223372036854775808) 9223372036854775807 c2) (hx2 : bd (-9223372036854775808) 9223372036854775807 x2) (hy2 : bd (-9223372036854775808) 9223372036854775807 y2) (hz2 : bd (-9223372036854775808) 9223372036854775807 z2) (nk2 : (chkF a2 b2 c2 x2 y2 z2 == 0) = false) : MemoE (over_badE a1 b1 c1 x1 y1 z1 a2 b2 c2 x2 y2 z2 w0) Try.prog (17, [.agg #[.slice (some ⟨0, 0, none⟩) 4 4, sy 2, sy 5], .agg #[sy 6, sy 7, sy 8, sy 9, sy 10, sy 11]], [some ⟨[sy 0, sy 1, sy 3, sy 1, sy 3, sy 4, sy 0, sy 4], 60⟩], .tuple #[.bool false, .int .i64 1], [some ⟨[sy 0, sy 1, sy 3, sy 1, sy 3, sy 4, sy 0, sy 4], 60⟩]) := by
  exact memo_know (ρ := env [a1, b1, c1, x1, y1, z1, a2, b2, c2, x2, y2, z2, (chkF a2 b2 c2 x2 y2 z2)] [] w0) (o := { bin := [(.neq, 27, .int .i64 (sn 12), .int .i64 0, .bool true)], calls := [(50, [.agg #[sy 6, sy 7, sy 8, sy 9, sy 10, sy 11]], sy 12)], memo := [(14, [.agg #[.slice (some ⟨0, 0, none⟩) 4 4, sy 2, sy 5]], [some ⟨[sy 0, sy 1, sy 3, sy 1, sy 3, sy 4, sy 0, sy 4], 60⟩], .int .i64 0, [some ⟨[sy 0, sy 1, sy 3, sy 1, sy 3, sy 4, sy 0, sy 4], 60⟩])] }) ⟨(all_cons (cmpOK (op := .neq) (ty := 27) (k := .i64) (n := (sn 12)) (m := 0) (t := true) (a := (chkF a2 b2 c2 x2 y2 z2)) (b := 0) (by kernel_rfl) (by kernel_rfl) (congrArg some ((ne_of (show ((chkF a2 b2 c2 x2 y2 z2) == 0) = false from nk2)))))
      all_nil), all_nil, all_nil, all_nil, (all_cons (callOK (f := 50) (args := [.agg #[sy 6, sy 7, sy 8, sy 9, sy 10, sy 11]]) (v := sy 12) (args' := #[.agg #[.int .i64 a2, .int .i64 b2, .int .i64 c2, .int .i64 x2, .int .i64 y2, .int .i64 z2]]) (v' := .int .i64 (chkF a2 b2 c2 x2 y2 z2)) (by kernel_rfl) (by kernel_rfl) (by kernel_rfl) (fun w => chk_any a2 b2 c2 x2 y2 z2 w ha2 hb2 hc2 hx2 hy2 hz2))
      all_nil), all_nil, all_nil, all_nil, all_nil, all_nil, all_nil, all_nil, all_nil, all_nil, (all_cons (memo_moveQ (args := [.agg #[.slice (some ⟨0, 0, none⟩) 4 4, sy 2, sy 5]]) (H := [some ⟨[sy 0, sy 1, sy 3, sy 1, sy 3, sy 4, sy 0, sy 4], 60⟩]) (v := .int .i64 0) (Hf := [some ⟨[sy 0, sy 1, sy 3, sy 1, sy 3, sy 4, sy 0, sy 4], 60⟩]) (es := [.num 1180591620717411303426 1180591620717411303426, .num 1180591620717411303429 1180591620717411303429, .num 1180591620717411303424 1180591620717411303424, .num 1180591620717411303425 1180591620717411303425, .num 1180591620717411303427 1180591620717411303427, .num 1180591620717411303428 1180591620717411303428]) (es2 := [.num 1180591620717411303424 1180591620717411303424, .num 1180591620717411303425 1180591620717411303425, .num 1180591620717411303427 1180591620717411303427, .num 1180591620717411303428 1180591620717411303428]) (n := [0]) (n2 := [0]) (by rfl) (check_memo a1 b1 c1 x1 y1 z1 w0 qa1 qb1 qc1 qx1 qy1 qz1 l11 l21 l31) (by kernel_rfl) (by kernel_rfl) (by kernel_rfl) (by intro q hq; simp only [List.mem_cons, List.not_mem_nil, or_false] at hq; rcases hq with rfl | rfl | rfl | rfl | rfl | rfl; (exact (show _ = _ by kernel_rfl)); (exact (show _ = _ by kernel_rfl)); (exact (show _ = _ by kernel_rfl)); (exact (show _ = _ by kernel_rfl)); (exact (show _ = _ by kernel_rfl)); (exact (show _ = _ by kernel_rfl))) (by kernel_rfl) (by kernel_rfl) (by intro q hq; simp only [List.mem_cons, List.not_mem_nil, or_false] at hq; rcases hq with rfl | rfl | rfl | rfl; (exact (show _ = _ by kernel_rfl)); (exact (show _ = _ by kernel_rfl)); (exact (show _ = _ by kernel_rfl)); (exact (show _ = _ by kernel_rfl))))
      all_nil), all_nil, all_nil⟩ 1000 50 17 [.agg #[.slice (some ⟨0, 0, none⟩) 4 4, sy 2, sy 5], .agg #[sy 6, sy 7, sy 8, sy 9, sy 10, sy 11]] ([some ⟨[sy 0, sy 1, sy 3, sy 1, sy 3, sy 4, sy 0, sy 4], 60⟩]) (.tuple #[.bool false, .int .i64 1]) ([some ⟨[sy 0, sy 1, sy 3, sy 1, sy 3, sy 4, sy 0, sy 4], 60⟩]) (by kernel_rfl)
noncomputable def cover_badE (a1 b1 c1 x1 y1 z1 a2 b2 c2 x2 y2 z2 : Int) (w0 : World) : Env := env [a1, b1, c1, x1, y1, z1, a2, b2, c2, x2, y2, z2, (chkF a2 b2 c2 x2 y2 z2)] [] w0
theorem cover_bad (a1 b1 c1 x1 y1 z1 a2 b2 c2 x2 y2 z2 : Int) (w0 : World) (qa1 : bd (-1000000) 1000000 a1) (qb1 : bd (-1000000) 1000000 b1) (qc1 : bd (-1000000) 1000000 c1) (qx1 : bd (-1000000) 1000000 x1) (qy1 : bd (-1000000) 1000000 y1) (qz1 : bd (-1000000) 1000000 z1) (l11 : a1 < x1) (l21 : b1 < y1) (l31 : c1 < z1) (ha2 : bd (-9223372036854775808) 9223372036854775807 a2) (hb2 : bd (-9223372036854775808) 9223372036854775807 b2) (hc2 : bd (-9223372036854775808) 9223372036854775807 c2) (hx2 : bd (-9223372036854775808) 9223372036854775807 x2) (hy2 : bd (-9223372036854775808) 9223372036854775807 y2) (hz2 : bd (-9223372036854775808) 9223372036854775807 z2) (nk2 : (chkF a2 b2 c2 x2 y2 z2 == 0) = false) : MemoE (cover_badE a1 b1 c1 x1 y1 z1 a2 b2 c2 x2 y2 z2 w0) Try.prog (18, [.agg #[.slice (some ⟨0, 0, none⟩) 4 4, sy 2, sy 5], .agg #[sy 6, sy 7, sy 8, sy 9, sy 10, sy 11]], [some ⟨[sy 0, sy 1, sy 3, sy 1, sy 3, sy 4, sy 0, sy 4], 60⟩], .tuple #[.bool false, .int .i64 1], [some ⟨[sy 0, sy 1, sy 3, sy 1, sy 3, sy 4, sy 0, sy 4], 60⟩]) := by
  exact memo_know (ρ := env [a1, b1, c1, x1, y1, z1, a2, b2, c2, x2, y2, z2, (chkF a2 b2 c2 x2 y2 z2)] [] w0) (o := { bin := [(.neq, 27, .int .i64 (sn 12), .int .i64 0, .bool true)], calls := [(50, [.agg #[sy 6, sy 7, sy 8, sy 9, sy 10, sy 11]], sy 12)], memo := [(14, [.agg #[.slice (some ⟨0, 0, none⟩) 4 4, sy 2, sy 5]], [some ⟨[sy 0, sy 1, sy 3, sy 1, sy 3, sy 4, sy 0, sy 4], 60⟩], .int .i64 0, [some ⟨[sy 0, sy 1, sy 3, sy 1, sy 3, sy 4, sy 0, sy 4], 60⟩])] }) ⟨(all_cons (cmpOK (op := .neq) (ty := 27) (k := .i64) (n := (sn 12)) (m := 0) (t := true) (a := (chkF a2 b2 c2 x2 y2 z2)) (b := 0) (by kernel_rfl) (by kernel_rfl) (congrArg some ((ne_of (show ((chkF a2 b2 c2 x2 y2 z2) == 0) = false from nk2)))))
      all_nil), all_nil, all_nil, all_nil, (all_cons (callOK (f := 50) (args := [.agg #[sy 6, sy 7, sy 8, sy 9, sy 10, sy 11]]) (v := sy 12) (args' := #[.agg #[.int .i64 a2, .int .i64 b2, .int .i64 c2, .int .i64 x2, .int .i64 y2, .int .i64 z2]]) (v' := .int .i64 (chkF a2 b2 c2 x2 y2 z2)) (by kernel_rfl) (by kernel_rfl) (by kernel_rfl) (fun w => chk_any a2 b2 c2 x2 y2 z2 w ha2 hb2 hc2 hx2 hy2 hz2))
      all_nil), all_nil, all_nil, all_nil, all_nil, all_nil, all_nil, all_nil, all_nil, all_nil, (all_cons (memo_moveQ (args := [.agg #[.slice (some ⟨0, 0, none⟩) 4 4, sy 2, sy 5]]) (H := [some ⟨[sy 0, sy 1, sy 3, sy 1, sy 3, sy 4, sy 0, sy 4], 60⟩]) (v := .int .i64 0) (Hf := [some ⟨[sy 0, sy 1, sy 3, sy 1, sy 3, sy 4, sy 0, sy 4], 60⟩]) (es := [.num 1180591620717411303426 1180591620717411303426, .num 1180591620717411303429 1180591620717411303429, .num 1180591620717411303424 1180591620717411303424, .num 1180591620717411303425 1180591620717411303425, .num 1180591620717411303427 1180591620717411303427, .num 1180591620717411303428 1180591620717411303428]) (es2 := [.num 1180591620717411303424 1180591620717411303424, .num 1180591620717411303425 1180591620717411303425, .num 1180591620717411303427 1180591620717411303427, .num 1180591620717411303428 1180591620717411303428]) (n := [0]) (n2 := [0]) (by rfl) (check_memo a1 b1 c1 x1 y1 z1 w0 qa1 qb1 qc1 qx1 qy1 qz1 l11 l21 l31) (by kernel_rfl) (by kernel_rfl) (by kernel_rfl) (by intro q hq; simp only [List.mem_cons, List.not_mem_nil, or_false] at hq; rcases hq with rfl | rfl | rfl | rfl | rfl | rfl; (exact (show _ = _ by kernel_rfl)); (exact (show _ = _ by kernel_rfl)); (exact (show _ = _ by kernel_rfl)); (exact (show _ = _ by kernel_rfl)); (exact (show _ = _ by kernel_rfl)); (exact (show _ = _ by kernel_rfl))) (by kernel_rfl) (by kernel_rfl) (by intro q hq; simp only [List.mem_cons, List.not_mem_nil, or_false] at hq; rcases hq with rfl | rfl | rfl | rfl; (exact (show _ = _ by kernel_rfl)); (exact (show _ = _ by kernel_rfl)); (exact (show _ = _ by kernel_rfl)); (exact (show _ = _ by kernel_rfl))))
      all_nil), all_nil, all_nil⟩ 1000 50 18 [.agg #[.slice (some ⟨0, 0, none⟩) 4 4, sy 2, sy 5], .agg #[sy 6, sy 7, sy 8, sy 9, sy 10, sy 11]] ([some ⟨[sy 0, sy 1, sy 3, sy 1, sy 3, sy 4, sy 0, sy 4], 60⟩]) (.tuple #[.bool false, .int .i64 1]) ([some ⟨[sy 0, sy 1, sy 3, sy 1, sy 3, sy 4, sy 0, sy 4], 60⟩]) (by kernel_rfl)
end Go.Proofs.Ytgpfbeccfodjmaa.Ev
