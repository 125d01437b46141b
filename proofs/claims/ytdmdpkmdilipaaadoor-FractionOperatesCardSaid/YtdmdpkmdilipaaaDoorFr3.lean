/- fraction: sums and signs of wide numbers; the reference's. -/
import Derived.Test.YtdmdpkmdilipaaaDoorFr2
import Derived.Laws.StructEq
namespace Go.Proofs.YtdmdpkmdilipaaaDoor.Ev
open Go.RowKit
set_option linter.unusedVariables false
set_option linter.unusedSimpArgs false
set_option maxRecDepth 8000

theorem add64_run (x y c : Nat) (hx : x < 18446744073709551616) (hy : y < 18446744073709551616) (hc : c ≤ 1) (w : World) : (callFunc 66 #[.int .u64 (x : Int), .int .u64 (y : Int), .int .u64 (c : Int)]).run Tryd.prog w = .ok (.value (.tuple #[.int .u64 (((x + y + c) % 18446744073709551616 : Nat) : Int), .int .u64 (((x + y + c) / 18446744073709551616 : Nat) : Int)])) w := by
  have e : ∀ (args : Array Value), (callFunc 66 args).run Tryd.prog w = (do let v ← add64Entry args; pure (Next.value v)).run Tryd.prog w := by
    intro args
    kernel_rfl
  rw [e]
  have := run_add64 (P := Tryd.prog) (x : Int) y c (by omega) (by omega) (by omega) (by omega) w
  rw [Sem.run_bind, this]
  simp
def sub64E : Array Value → Sem Value := fun args => do
  let (x, y, b) ← Extern.MathBitsCarry.three "Sub64" args
  pure (Extern.MathBitsCarry.pair ((x + Extern.MathBitsCarry.m64 - y - b) % Extern.MathBitsCarry.m64) (if x < y + b then 1 else 0))
theorem sub64_run (x y c : Nat) (hx : x < 18446744073709551616) (hy : y < 18446744073709551616) (hc : c ≤ 1) (w : World) : (callFunc 70 #[.int .u64 (x : Int), .int .u64 (y : Int), .int .u64 (c : Int)]).run Tryd.prog w = .ok (.value (.tuple #[.int .u64 (((x + 18446744073709551616 - y - c) % 18446744073709551616 : Nat) : Int), .int .u64 (((if x < y + c then 1 else 0) : Nat) : Int)])) w := by
  have e : ∀ (args : Array Value), (callFunc 70 args).run Tryd.prog w = (do let v ← sub64E args; pure (Next.value v)).run Tryd.prog w := by
    intro args
    kernel_rfl
  rw [e]
  have key : ∀ k : Nat, k ≤ 1 → (sub64E #[.int .u64 (x : Int), .int .u64 (y : Int), .int .u64 (k : Int)]).run Tryd.prog w = .ok (Extern.MathBitsCarry.pair ((((x : Int).toNat) + Extern.MathBitsCarry.m64 - ((y : Int).toNat) - k) % Extern.MathBitsCarry.m64) (if ((x : Int).toNat) < ((y : Int).toNat) + k then 1 else 0)) w := by
    intro k hk
    have : k = 0 ∨ k = 1 := by omega
    rcases this with rfl | rfl <;> rfl
  rw [Sem.run_bind, key c hc]
  simp only [Result.andThen_ok, Sem.run_pure, Extern.MathBitsCarry.pair, Extern.MathBitsCarry.m64, Int.toNat_natCast]
  rfl
theorem w_lo (u v : Int) : (loW u + loW v + 0) % 18446744073709551616 = loW (u + v) := by unfold loW; omega
theorem w_hi (u v : Int) : (hiW u + hiW v + (loW u + loW v + 0) / 18446744073709551616) % 18446744073709551616 = hiW (u + v) := by unfold hiW loW; omega
theorem wide_same (d : Nat) (a0 a1 b0 b1 : Int) (w : World) : (Op.equalIn (d + 2) 50 (.agg #[.int .u64 a0, .int .u64 a1]) (.agg #[.int .u64 b0, .int .u64 b1])).run Tryd.prog w = .ok ((a0 == b0) && (a1 == b1)) w := by
  rw [run_equalIn_agg w (d + 1) 50 _ _ (by kernel_rfl) (by kernel_rfl)]
  have hf : (Tryd.prog.fieldsOf 50).toList.map (fun f => (f.name, f.type, f.offset)) = [("hi", 45, 0), ("lo", 45, 1)] := by kernel_rfl
  generalize (Tryd.prog.fieldsOf 50).toList = fs at hf
  rcases fs with _ | ⟨f0, _ | ⟨f1, _ | ⟨h, r⟩⟩⟩ <;> simp at hf
  obtain ⟨⟨u0, v0, s0⟩, u1, v1, s1⟩ := hf
  have p0 : ∀ x0 x1 w, (part 45 #[.int .u64 x0, .int .u64 x1] 0).run Tryd.prog w = .ok (.int .u64 x0) w := fun _ _ _ => by kernel_rfl
  have q0 : ∀ x y w, (Op.equalIn (d + 1) 45 (.int .u64 x) (.int .u64 y)).run Tryd.prog w = .ok (x == y) w := fun x y w => run_equalIn_int w d 45 .u64 .u64 x y (by kernel_rfl)
  have p1 : ∀ x0 x1 w, (part 45 #[.int .u64 x0, .int .u64 x1] 1).run Tryd.prog w = .ok (.int .u64 x1) w := fun _ _ _ => by kernel_rfl
  have q1 : ∀ x y w, (Op.equalIn (d + 1) 45 (.int .u64 x) (.int .u64 y)).run Tryd.prog w = .ok (x == y) w := fun x y w => run_equalIn_int w d 45 .u64 .u64 x y (by kernel_rfl)
  simp only [Op.eqFields, Sem.run_bind]
  rw [u0, v0, s0, u1, v1, s1]
  rw [if_pos (by decide), Sem.run_bind, p0]
  simp only [Result.andThen_ok, Sem.run_bind]
  rw [p0]
  simp only [Result.andThen_ok, Sem.run_bind]
  rw [q0]
  simp only [Result.andThen_ok]
  rcases h0 : a0 == b0
  · simp
  simp only [Bool.not_true, Bool.false_eq_true, if_false, Bool.true_and]
  rw [if_pos (by decide), Sem.run_bind, p1]
  simp only [Result.andThen_ok, Sem.run_bind]
  rw [p1]
  simp only [Result.andThen_ok, Sem.run_bind]
  rw [q1]
  simp only [Result.andThen_ok]
  rcases h1 : a1 == b1
  · simp
  · simp
theorem wide_eql (a0 a1 b0 b1 : Int) (w : World) : (binOp .eql 50 (.agg #[.int .u64 a0, .int .u64 a1]) (.agg #[.int .u64 b0, .int .u64 b1])).run Tryd.prog w = .ok (.bool ((a0 == b0) && (a1 == b1))) w := by
  rw [run_eql_struct, wide_same 9998]; rfl
theorem wide_neq (a0 a1 b0 b1 : Int) (w : World) : (binOp .neq 50 (.agg #[.int .u64 a0, .int .u64 a1]) (.agg #[.int .u64 b0, .int .u64 b1])).run Tryd.prog w = .ok (.bool (!((a0 == b0) && (a1 == b1)))) w := by
  rw [run_neq_struct, wide_same 9998]; rfl
theorem wide_guard (op : BinOp) (x y : Operand) (xs ys : Array Value) (w : World) : (eqGuard op 50 x y (.agg xs) (.agg ys)).run Tryd.prog w = .ok () w := run_eqGuard_agg w op _ x y xs ys (by kernel_rfl)
theorem frac_same (d : Nat) (a0 a1 b0 b1 : Int) (w : World) : (Op.equalIn (d + 2) 23 (.agg #[.int .i64 a0, .int .i64 a1]) (.agg #[.int .i64 b0, .int .i64 b1])).run Tryd.prog w = .ok ((a0 == b0) && (a1 == b1)) w := by
  rw [run_equalIn_agg w (d + 1) 23 _ _ (by kernel_rfl) (by kernel_rfl)]
  have hf : (Tryd.prog.fieldsOf 23).toList.map (fun f => (f.name, f.type, f.offset)) = [("Num", 2, 0), ("Den", 2, 1)] := by kernel_rfl
  generalize (Tryd.prog.fieldsOf 23).toList = fs at hf
  rcases fs with _ | ⟨f0, _ | ⟨f1, _ | ⟨h, r⟩⟩⟩ <;> simp at hf
  obtain ⟨⟨u0, v0, s0⟩, u1, v1, s1⟩ := hf
  have p0 : ∀ x0 x1 w, (part 2 #[.int .i64 x0, .int .i64 x1] 0).run Tryd.prog w = .ok (.int .i64 x0) w := fun _ _ _ => by kernel_rfl
  have q0 : ∀ x y w, (Op.equalIn (d + 1) 2 (.int .i64 x) (.int .i64 y)).run Tryd.prog w = .ok (x == y) w := fun x y w => run_equalIn_int w d 2 .i64 .i64 x y (by kernel_rfl)
  have p1 : ∀ x0 x1 w, (part 2 #[.int .i64 x0, .int .i64 x1] 1).run Tryd.prog w = .ok (.int .i64 x1) w := fun _ _ _ => by kernel_rfl
  have q1 : ∀ x y w, (Op.equalIn (d + 1) 2 (.int .i64 x) (.int .i64 y)).run Tryd.prog w = .ok (x == y) w := fun x y w => run_equalIn_int w d 2 .i64 .i64 x y (by kernel_rfl)
  simp only [Op.eqFields, Sem.run_bind]
  rw [u0, v0, s0, u1, v1, s1]
  rw [if_pos (by decide), Sem.run_bind, p0]
  simp only [Result.andThen_ok, Sem.run_bind]
  rw [p0]
  simp only [Result.andThen_ok, Sem.run_bind]
  rw [q0]
  simp only [Result.andThen_ok]
  rcases h0 : a0 == b0
  · simp
  simp only [Bool.not_true, Bool.false_eq_true, if_false, Bool.true_and]
  rw [if_pos (by decide), Sem.run_bind, p1]
  simp only [Result.andThen_ok, Sem.run_bind]
  rw [p1]
  simp only [Result.andThen_ok, Sem.run_bind]
  rw [q1]
  simp only [Result.andThen_ok]
  rcases h1 : a1 == b1
  · simp
  · simp
theorem frac_eql (a0 a1 b0 b1 : Int) (w : World) : (binOp .eql 23 (.agg #[.int .i64 a0, .int .i64 a1]) (.agg #[.int .i64 b0, .int .i64 b1])).run Tryd.prog w = .ok (.bool ((a0 == b0) && (a1 == b1))) w := by
  rw [run_eql_struct, frac_same 9998]; rfl
theorem frac_neq (a0 a1 b0 b1 : Int) (w : World) : (binOp .neq 23 (.agg #[.int .i64 a0, .int .i64 a1]) (.agg #[.int .i64 b0, .int .i64 b1])).run Tryd.prog w = .ok (.bool (!((a0 == b0) && (a1 == b1)))) w := by
  rw [run_neq_struct, frac_same 9998]; rfl
theorem frac_guard (op : BinOp) (x y : Operand) (xs ys : Array Value) (w : World) : (eqGuard op 23 x y (.agg xs) (.agg ys)).run Tryd.prog w = .ok () w := run_eqGuard_agg w op _ x y xs ys (by kernel_rfl)
theorem plus_any (u v : Int) (w : World) : Calls Tryd.prog 48 #[.agg #[.int .u64 ((((hiW (u)) : Nat) : Int)), .int .u64 ((((loW (u)) : Nat) : Int))], .agg #[.int .u64 ((((hiW (v)) : Nat) : Int)), .int .u64 ((((loW (v)) : Nat) : Int))]] w fun e w' => e = .returned (.agg #[.int .u64 ((((hiW (u + v)) : Nat) : Int)), .int .u64 ((((loW (u + v)) : Nat) : Int))]) ∧ Below w.heap.size w w' := by
  have k1 := loW_lt u
  have k2 := loW_lt v
  exact run_know (P := Tryd.prog) (ρ := env [(((hiW (u)) : Nat) : Int), (((loW (u)) : Nat) : Int), (((hiW (v)) : Nat) : Int), (((loW (v)) : Nat) : Int), (((loW (u + v)) : Nat) : Int), ((((loW u + loW v + 0) / 18446744073709551616) : Nat) : Int), (((hiW (u + v)) : Nat) : Int), ((((hiW u + hiW v + (loW u + loW v + 0) / 18446744073709551616) / 18446744073709551616) : Nat) : Int)] [] w) (o := { ext := [(66, [syk .u64 1, syk .u64 3, .int .u64 0], .tuple #[syk .u64 4, syk .u64 5]), (66, [syk .u64 0, syk .u64 2, syk .u64 5], .tuple #[syk .u64 6, syk .u64 7])] }) ⟨all_nil, all_nil, all_nil, all_nil, all_nil, all_nil, all_nil, all_nil, all_nil, all_nil, all_nil, all_nil, all_nil, all_nil, all_nil, all_nil, (all_cons (extOK (f := 66) (args := [syk .u64 1, syk .u64 3, .int .u64 0]) (v := .tuple #[syk .u64 4, syk .u64 5]) (args' := #[.int .u64 ((((loW (u)) : Nat) : Int)), .int .u64 ((((loW (v)) : Nat) : Int)), .int .u64 0]) (v' := .tuple #[.int .u64 ((((loW (u + v)) : Nat) : Int)), .int .u64 (((((loW u + loW v + 0) / 18446744073709551616) : Nat) : Int))]) (by kernel_rfl) (by kernel_rfl) (by kernel_rfl) (fun w => by have q := add64_run (loW (u)) (loW (v)) (0) (loW_lt _) (loW_lt _) (by omega) w; rw [show ((loW (u)) + (loW (v)) + (0)) % 18446744073709551616 = loW (u + v) from w_lo u v, show ((loW (u)) + (loW (v)) + (0)) / 18446744073709551616 = (loW u + loW v + 0) / 18446744073709551616 from rfl] at q; exact q)) (all_cons (extOK (f := 66) (args := [syk .u64 0, syk .u64 2, syk .u64 5]) (v := .tuple #[syk .u64 6, syk .u64 7]) (args' := #[.int .u64 ((((hiW (u)) : Nat) : Int)), .int .u64 ((((hiW (v)) : Nat) : Int)), .int .u64 (((((loW u + loW v + 0) / 18446744073709551616) : Nat) : Int))]) (v' := .tuple #[.int .u64 ((((hiW (u + v)) : Nat) : Int)), .int .u64 (((((hiW u + hiW v + (loW u + loW v + 0) / 18446744073709551616) / 18446744073709551616) : Nat) : Int))]) (by kernel_rfl) (by kernel_rfl) (by kernel_rfl) (fun w => by have q := add64_run (hiW (u)) (hiW (v)) ((loW u + loW v + 0) / 18446744073709551616) (hiW_lt _) (hiW_lt _) (by omega) w; rw [show ((hiW (u)) + (hiW (v)) + ((loW u + loW v + 0) / 18446744073709551616)) % 18446744073709551616 = hiW (u + v) from w_hi u v, show ((hiW (u)) + (hiW (v)) + ((loW u + loW v + 0) / 18446744073709551616)) / 18446744073709551616 = (hiW u + hiW v + (loW u + loW v + 0) / 18446744073709551616) / 18446744073709551616 from rfl] at q; exact q)) all_nil))⟩ 1000 50 48 [.agg #[syk .u64 0, syk .u64 1], .agg #[syk .u64 2, syk .u64 3]] (.agg #[syk .u64 6, syk .u64 4]) (args' := #[.agg #[.int .u64 ((((hiW (u)) : Nat) : Int)), .int .u64 ((((loW (u)) : Nat) : Int))], .agg #[.int .u64 ((((hiW (v)) : Nat) : Int)), .int .u64 ((((loW (v)) : Nat) : Int))]]) (v' := .agg #[.int .u64 ((((hiW (u + v)) : Nat) : Int)), .int .u64 ((((loW (u + v)) : Nat) : Int))]) (by kernel_rfl) (by kernel_rfl) (by kernel_rfl) w (Below.refl _ _)
def sgn (v : Int) : Int := if v = 0 then 0 else if v < 0 then -1 else 1
theorem w_zero {v : Int} (hv : bd (-170141183460469231731687303715884105727) 170141183460469231731687303715884105727 v) : (((hiW v : Nat) : Int) == 0 && ((loW v : Nat) : Int) == 0) = (v == 0) := by
  rw [Bool.eq_iff_iff]; simp only [Bool.and_eq_true, beq_iff_eq]; simp only [bd] at hv; unfold hiW loW; omega
theorem w_neg {v : Int} (hv : bd (-170141183460469231731687303715884105727) 170141183460469231731687303715884105727 v) : IntKind.i64.wrap ((hiW v : Nat) : Int) = if v < 0 then ((hiW v : Nat) : Int) - 18446744073709551616 else ((hiW v : Nat) : Int) := by
  rw [IntKind.wrap_i64]; simp only [bd] at hv; unfold hiW; split <;> omega
theorem w_top {v : Int} (hv : bd (-170141183460469231731687303715884105727) 170141183460469231731687303715884105727 v) : (v < 0 → 9223372036854775808 ≤ hiW v) ∧ (0 ≤ v → hiW v < 9223372036854775808) := by
  simp only [bd] at hv; unfold hiW; omega
theorem sign_any (v : Int) (w : World) (hv : bd (-170141183460469231731687303715884105727) 170141183460469231731687303715884105727 v) : Calls Tryd.prog 51 #[.agg #[.int .u64 ((((hiW (v)) : Nat) : Int)), .int .u64 ((((loW (v)) : Nat) : Int))]] w fun e w' => e = .returned (.int .i64 (sgn v)) ∧ Below w.heap.size w w' := by
  rcases h0 : (v == 0) with _ | _
  · rcases h1 : (decide (v < 0)) with _ | _
    · have hr : (.int .i64 (sgn v) : Value) = .int .i64 1 := by (have g0 : ¬ v = 0 := (by simpa using h0); have g1 := of_decide_eq_false h1; unfold sgn; rw [if_neg g0]; simp [g1])
      rw [hr]
      exact run_know (P := Tryd.prog) (ρ := env [(((hiW (v)) : Nat) : Int), (((loW (v)) : Nat) : Int), ((hiW v : Nat) : Int)] [] w) (o := { bin := [(.eql, 50, .agg #[syk .u64 0, syk .u64 1], .agg #[.int .u64 0, .int .u64 0], .bool false), (.lss, 2, .int .i64 (sn 2), .int .i64 0, .bool false)], conv := [(45, 2, syk .u64 0, sy 2)] }) ⟨(all_cons (structOK (op := .eql) (ty := 50) (x := .agg #[syk .u64 0, syk .u64 1]) (y := .agg #[.int .u64 0, .int .u64 0]) (x' := .agg #[.int .u64 ((((hiW (v)) : Nat) : Int)), .int .u64 ((((loW (v)) : Nat) : Int))]) (y' := .agg #[.int .u64 0, .int .u64 0]) (t := false) (by kernel_rfl) (by kernel_rfl) (by kernel_rfl) (by kernel_rfl) (fun p q w => wide_guard .eql p q _ _ w) (fun w => by have q := wide_eql ((hiW v : Nat) : Int) ((loW v : Nat) : Int) 0 0 w; have g := w_zero hv; rw [h0] at g; rw [g] at q; exact q)) (all_cons (cmpOK (op := .lss) (ty := 2) (k := .i64) (n := (sn 2)) (m := 0) (t := false) (a := (((hiW v : Nat) : Int))) (b := 0) (by kernel_rfl) (by kernel_rfl) (congrArg some ((lt_c (show decide ((((hiW v : Nat) : Int)) ≤ (-1)) = false from (by have g := of_decide_eq_false h1; have k := w_top hv; have k2 := hiW_lt v; simp only [decide_eq_false_iff_not]; omega)) rfl)))) all_nil)), all_nil, (all_cons (convOK (s := 45) (d := 2) (ds := .int .u64) (k := .u64) (l := .i64) (n := (sn 0)) (r := (sn 2)) (a := ((((hiW (v)) : Nat) : Int))) (c := (((hiW v : Nat) : Int))) (by kernel_rfl) (by kernel_rfl) (by kernel_rfl) (by kernel_rfl) (by rw [w_neg hv]; have g := of_decide_eq_false h1; simp [g])) all_nil), all_nil, all_nil, all_nil, all_nil, all_nil, all_nil, all_nil, all_nil, all_nil, all_nil, all_nil, all_nil, all_nil, all_nil⟩ 1000 50 51 [.agg #[syk .u64 0, syk .u64 1]] (.int .i64 1) (args' := #[.agg #[.int .u64 ((((hiW (v)) : Nat) : Int)), .int .u64 ((((loW (v)) : Nat) : Int))]]) (v' := .int .i64 1) (by kernel_rfl) (by kernel_rfl) (by kernel_rfl) w (Below.refl _ _)
    · have hr : (.int .i64 (sgn v) : Value) = .int .i64 (-1) := by (have g0 : ¬ v = 0 := (by simpa using h0); have g1 := of_decide_eq_true h1; unfold sgn; rw [if_neg g0]; simp [g1])
      rw [hr]
      exact run_know (P := Tryd.prog) (ρ := env [(((hiW (v)) : Nat) : Int), (((loW (v)) : Nat) : Int), (((hiW v : Nat) : Int) - 18446744073709551616)] [] w) (o := { bin := [(.eql, 50, .agg #[syk .u64 0, syk .u64 1], .agg #[.int .u64 0, .int .u64 0], .bool false), (.lss, 2, .int .i64 (sn 2), .int .i64 0, .bool true)], conv := [(45, 2, syk .u64 0, sy 2)] }) ⟨(all_cons (structOK (op := .eql) (ty := 50) (x := .agg #[syk .u64 0, syk .u64 1]) (y := .agg #[.int .u64 0, .int .u64 0]) (x' := .agg #[.int .u64 ((((hiW (v)) : Nat) : Int)), .int .u64 ((((loW (v)) : Nat) : Int))]) (y' := .agg #[.int .u64 0, .int .u64 0]) (t := false) (by kernel_rfl) (by kernel_rfl) (by kernel_rfl) (by kernel_rfl) (fun p q w => wide_guard .eql p q _ _ w) (fun w => by have q := wide_eql ((hiW v : Nat) : Int) ((loW v : Nat) : Int) 0 0 w; have g := w_zero hv; rw [h0] at g; rw [g] at q; exact q)) (all_cons (cmpOK (op := .lss) (ty := 2) (k := .i64) (n := (sn 2)) (m := 0) (t := true) (a := ((((hiW v : Nat) : Int) - 18446744073709551616))) (b := 0) (by kernel_rfl) (by kernel_rfl) (congrArg some ((lt_c (show decide (((((hiW v : Nat) : Int) - 18446744073709551616)) ≤ (-1)) = true from (by have g := of_decide_eq_true h1; have k := w_top hv; have k2 := hiW_lt v; simp only [decide_eq_true_eq]; omega)) rfl)))) all_nil)), all_nil, (all_cons (convOK (s := 45) (d := 2) (ds := .int .u64) (k := .u64) (l := .i64) (n := (sn 0)) (r := (sn 2)) (a := ((((hiW (v)) : Nat) : Int))) (c := ((((hiW v : Nat) : Int) - 18446744073709551616))) (by kernel_rfl) (by kernel_rfl) (by kernel_rfl) (by kernel_rfl) (by rw [w_neg hv]; have g := of_decide_eq_true h1; simp [g])) all_nil), all_nil, all_nil, all_nil, all_nil, all_nil, all_nil, all_nil, all_nil, all_nil, all_nil, all_nil, all_nil, all_nil, all_nil⟩ 1000 50 51 [.agg #[syk .u64 0, syk .u64 1]] (.int .i64 (-1)) (args' := #[.agg #[.int .u64 ((((hiW (v)) : Nat) : Int)), .int .u64 ((((loW (v)) : Nat) : Int))]]) (v' := .int .i64 (-1)) (by kernel_rfl) (by kernel_rfl) (by kernel_rfl) w (Below.refl _ _)
  · have hr : (.int .i64 (sgn v) : Value) = .int .i64 0 := by (have e1 : v = 0 := (by simpa using h0); unfold sgn; rw [if_pos e1])
    rw [hr]
    exact run_know (P := Tryd.prog) (ρ := env [(((hiW (v)) : Nat) : Int), (((loW (v)) : Nat) : Int)] [] w) (o := { bin := [(.eql, 50, .agg #[syk .u64 0, syk .u64 1], .agg #[.int .u64 0, .int .u64 0], .bool true)] }) ⟨(all_cons (structOK (op := .eql) (ty := 50) (x := .agg #[syk .u64 0, syk .u64 1]) (y := .agg #[.int .u64 0, .int .u64 0]) (x' := .agg #[.int .u64 ((((hiW (v)) : Nat) : Int)), .int .u64 ((((loW (v)) : Nat) : Int))]) (y' := .agg #[.int .u64 0, .int .u64 0]) (t := true) (by kernel_rfl) (by kernel_rfl) (by kernel_rfl) (by kernel_rfl) (fun p q w => wide_guard .eql p q _ _ w) (fun w => by have q := wide_eql ((hiW v : Nat) : Int) ((loW v : Nat) : Int) 0 0 w; have g := w_zero hv; rw [h0] at g; rw [g] at q; exact q)) all_nil), all_nil, all_nil, all_nil, all_nil, all_nil, all_nil, all_nil, all_nil, all_nil, all_nil, all_nil, all_nil, all_nil, all_nil, all_nil, all_nil⟩ 1000 50 51 [.agg #[syk .u64 0, syk .u64 1]] (.int .i64 0) (args' := #[.agg #[.int .u64 ((((hiW (v)) : Nat) : Int)), .int .u64 ((((loW (v)) : Nat) : Int))]]) (v' := .int .i64 0) (by kernel_rfl) (by kernel_rfl) (by kernel_rfl) w (Below.refl _ _)
end Go.Proofs.YtdmdpkmdilipaaaDoor.Ev
