/- polygon: Check. -/
import Derived.Test.YtapcooolainmdaaPo1
import Derived.Test.YtapcooolainmdaaSy5
import Derived.Laws.StructEq
namespace Go.Proofs.Ytapcooolainmdaa.Ev
open Go.RowKit
set_option linter.unusedVariables false
set_option linter.unusedSimpArgs false
set_option maxRecDepth 8000
theorem pnt_same (d : Nat) (a0 a1 b0 b1 : Int) (w : World) : (Op.equalIn (d + 2) 60 (.agg #[.int .i64 a0, .int .i64 a1]) (.agg #[.int .i64 b0, .int .i64 b1])).run Try.prog w = .ok ((a0 == b0) && (a1 == b1)) w := by
  rw [run_equalIn_agg w (d + 1) 60 _ _ (by kernel_rfl) (by kernel_rfl)]
  have hf : (Try.prog.fieldsOf 60).toList.map (fun f => (f.name, f.type, f.offset)) = [("X", 3, 0), ("Y", 3, 1)] := by kernel_rfl
  generalize (Try.prog.fieldsOf 60).toList = fs at hf
  rcases fs with _ | ⟨f0, _ | ⟨f1, _ | ⟨h, r⟩⟩⟩ <;> simp at hf
  obtain ⟨⟨u0, v0, s0⟩, u1, v1, s1⟩ := hf
  have p0 : ∀ x0 x1 w, (part 3 #[.int .i64 x0, .int .i64 x1] 0).run Try.prog w = .ok (.int .i64 x0) w := fun _ _ _ => by kernel_rfl
  have q0 : ∀ x y w, (Op.equalIn (d + 1) 3 (.int .i64 x) (.int .i64 y)).run Try.prog w = .ok (x == y) w := fun x y w => run_equalIn_int w d 3 .i64 .i64 x y (by kernel_rfl)
  have p1 : ∀ x0 x1 w, (part 3 #[.int .i64 x0, .int .i64 x1] 1).run Try.prog w = .ok (.int .i64 x1) w := fun _ _ _ => by kernel_rfl
  have q1 : ∀ x y w, (Op.equalIn (d + 1) 3 (.int .i64 x) (.int .i64 y)).run Try.prog w = .ok (x == y) w := fun x y w => run_equalIn_int w d 3 .i64 .i64 x y (by kernel_rfl)
  simp only [Op.eqFields, Sem.run_bind]
  rw [u0, v0, s0, u1, v1, s1]
  rw [if_pos (by decide), Sem.run_bind, p0]
  simp only [Result.andThen_ok, Sem.run_bind]
  rw [p0]
  simp only [Result.andThen_ok, Sem.run_bind]
  rw [q0]
  simp only [Result.andThen_ok]
  rcases h0 : a0 == b0
  · simp
  simp only [Bool.not_true, Bool.false_eq_true, if_false, Bool.true_and]
  rw [if_pos (by decide), Sem.run_bind, p1]
  simp only [Result.andThen_ok, Sem.run_bind]
  rw [p1]
  simp only [Result.andThen_ok, Sem.run_bind]
  rw [q1]
  simp only [Result.andThen_ok]
  rcases h1 : a1 == b1
  · simp
  · simp
theorem pnt_eql (a0 a1 b0 b1 : Int) (w : World) : (binOp .eql 60 (.agg #[.int .i64 a0, .int .i64 a1]) (.agg #[.int .i64 b0, .int .i64 b1])).run Try.prog w = .ok (.bool ((a0 == b0) && (a1 == b1))) w := by
  rw [run_eql_struct, pnt_same 9998]; rfl
theorem pnt_neq (a0 a1 b0 b1 : Int) (w : World) : (binOp .neq 60 (.agg #[.int .i64 a0, .int .i64 a1]) (.agg #[.int .i64 b0, .int .i64 b1])).run Try.prog w = .ok (.bool (!((a0 == b0) && (a1 == b1)))) w := by
  rw [run_neq_struct, pnt_same 9998]; rfl
theorem pnt_guard (op : BinOp) (x y : Operand) (xs ys : Array Value) (w : World) : (eqGuard op 60 x y (.agg xs) (.agg ys)).run Try.prog w = .ok () w := run_eqGuard_agg w op _ x y xs ys (by kernel_rfl)

theorem i_rem {ty : TypeId} {a b c : Int} (h0 : b ≠ 0) (hq : Int.tmod a b = c) (w : World) : (binOp .rem ty (.int .i64 a) (.int .i64 b)).run Try.prog w = .ok (.int .i64 c) w := by
  subst hq; simp [binOp, Op.intArith, Op.intDiv, h0]
/-- the corner behind a corner -/
def nx (n i : Nat) : Nat := (i + 1) % n
theorem nx_lt {n i : Nat} (h : i < n) : nx n i < n := Nat.mod_lt _ (by omega)
theorem nx_rem {n i : Nat} (h : i < n) : Int.tmod ((i : Int) + 1) (n : Int) = ((nx n i : Nat) : Int) := by
  unfold nx
  rw [Int.tmod_eq_emod_of_nonneg (by omega)]
  rw [show ((i : Int) + 1) = ((i + 1 : Nat) : Int) from rfl]
  exact (Int.natCast_emod _ _).symm
def dupP (n : Nat) (X Y : Nat → Int) (i : Nat) : Bool := X i == X (nx n i) && Y i == Y (nx n i)
theorem next_any (a : Option Addr) (n c : Nat) (X Y : Nat → Int) (ptr : Nat → Addr) (w : World) (hn0 : n ≤ 1000000000000) (hS : Sl Try.prog w (.slice a n c) n 22 60 (fun k => .agg #[.int .i64 (X k), .int .i64 (Y k)]) ptr) (hP : Sl Try.prog w (.slice a n c) n 23 60 (fun k => .agg #[.int .i64 (X k), .int .i64 (Y k)]) ptr) (i : Nat) (hi : i < n) : Calls Try.prog 58 #[(.slice a n c), .int .i64 (i : Int)] w fun e w' => e = .returned (.agg #[.int .i64 ((X (nx n i))), .int .i64 ((Y (nx n i)))]) ∧ Below w.heap.size w w' := by
  have hn : bd 0 1000000000000 (n : Int) := ⟨by omega, by omega⟩
  have hib : bd 0 1000000000000 (i : Int) := ⟨by omega, by omega⟩
  have bq0 : bd 1 1000000000001 (((i : Int) + 1)) := bd_add hib (bd_lit (l := 1) (h := 1) rfl) rfl
  exact run_know (P := Try.prog) (ρ := env [(n : Int), (i : Int), ((i : Int) + 1), ((nx n i : Nat) : Int), (X (nx n i)), (Y (nx n i))] [(.slice a n c), (.pointer (some (ptr (nx n i))))] w) (o := { bin := [(.add, 3, .int .i64 (sn 1), .int .i64 1, .int .i64 (sn 2)), (.rem, 3, sy 2, sy 0, sy 3)], lds := [(60, oq 1, .agg #[sy 4, sy 5])], ixa := [(23, oq 0, .int .i64 (sn 3), oq 1)], lens := [(false, oq 0, .int .i64 (sn 0))] }) ⟨(all_cons (arOK (op := .add) (ty := 3) (k := .i64) (n := (sn 1)) (m := 1) (r := (sn 2)) (a := (i : Int)) (b := 1) (c := (((i : Int) + 1))) (d := (i : Int) + 1) (by kernel_rfl) (by kernel_rfl) (by kernel_rfl) rfl (wr_bd bq0 rfl)) (all_cons (binK (op := .rem) (ty := 3) (x := sy 2) (y := sy 0) (r := sy 3) (by kernel_rfl) (k := .i64) (l := .i64) (a := (((i : Int) + 1))) (b := (n : Int)) (v := .int .i64 (((nx n i : Nat) : Int))) (by kernel_rfl) (by kernel_rfl) (by kernel_rfl) (fun w => i_rem (by omega) (nx_rem hi) w)) all_nil)), all_nil, all_nil, all_nil, all_nil, (all_cons (sldOK (j := 1) (k := (nx n i)) (x := .agg #[sy 4, sy 5]) hP rfl (nx_lt hi) (by kernel_rfl) (by show inst _ _ = _; kernel_rfl)) all_nil), (all_cons (sixOK (i := 0) (j := 1) (k := (nx n i)) (r := (sn 3)) hP rfl (by kernel_rfl) rfl (nx_lt hi)) all_nil), all_nil, all_nil, all_nil, (all_cons (lenOK (i := 0) (r := (sn 0)) (a := a) (c := c) rfl (by kernel_rfl)) all_nil), all_nil, all_nil, all_nil, all_nil, all_nil, all_nil, all_nil⟩ 1000 50 58 [oq 0, sy 1] (.agg #[sy 4, sy 5]) (args' := #[(.slice a n c), .int .i64 (i : Int)]) (v' := .agg #[.int .i64 ((X (nx n i))), .int .i64 ((Y (nx n i)))]) (by kernel_rfl) (by kernel_rfl) (by kernel_rfl) w (Below.refl _ _)
def dut0 : Tm := [[oq 0, .slice none 0 0, undef, undef, .int .i64 0, anyV, anyV, .bool false, oq 0, sy 0, .bool false, .bool false, oq 0, sy 0, .bool false, .bool false], [oq 0, .bool true, .bool false, .bool false, .slice none 0 0, .bool true, .bool false, .bool false, oq 0, sy 0, sy 1, anyV, anyV, anyV, anyV, anyV], [anyV, anyV, anyV, anyV, anyV]]
def duH0 : Heap := []
def dutA : Tm := [[oq 0, .slice none 0 0, undef, undef, .int .i64 0, undef, undef, .bool false, oq 0, sy 0, .bool false, .bool false, oq 0, sy 0, .bool false, .bool false], [oq 0, .bool true, .bool false, .bool false, .slice none 0 0, .bool true, .bool false, .bool false, oq 0, sy 0, .int .i64 0, undef, undef, undef, undef, undef], [undef, undef, undef, undef, undef]]
def duHA : Heap := []
def duo0 : Orc := { bin := [(.lss, 3, .int .i64 (sn 1), .int .i64 (sn 0), .bool true), (.eql, 60, .agg #[sy 2, sy 3], .agg #[sy 4, sy 5], .bool false), (.add, 3, .int .i64 (sn 1), .int .i64 1, .int .i64 (sn 6))], calls := [(58, [oq 0, sy 1], .agg #[sy 4, sy 5])], lds := [(60, oq 1, .agg #[sy 2, sy 3])], ixa := [(23, oq 0, .int .i64 (sn 1), oq 1)], lens := [(false, oq 0, .int .i64 (sn 0))] }
def duo1 : Orc := { bin := [(.lss, 3, .int .i64 (sn 1), .int .i64 (sn 0), .bool true), (.eql, 60, .agg #[sy 2, sy 3], .agg #[sy 4, sy 5], .bool true)], calls := [(58, [oq 0, sy 1], .agg #[sy 4, sy 5])], lds := [(60, oq 1, .agg #[sy 2, sy 3])], ixa := [(23, oq 0, .int .i64 (sn 1), oq 1)], lens := [(false, oq 0, .int .i64 (sn 0))] }
def duo2 : Orc := { bin := [(.lss, 3, .int .i64 (sn 1), .int .i64 (sn 0), .bool false)], lens := [(false, oq 0, .int .i64 (sn 0))] }
noncomputable def duE (a : Option Addr) (n c : Nat) (X Y : Nat → Int) (ptr : Nat → Addr) (w : World) (i : Nat) : Env := env [(n : Int), (i : Int), (X i), (Y i), (X (nx n i)), (Y (nx n i)), ((i : Int) + 1)] [(.slice a n c), (.pointer (some (ptr i)))] w
theorem dus0 : stepT Try.prog [] (evBody Try.prog duo0 1000 50 52 [false, true, false, true, true] dut0 duH0) .normal dut0 duH0 [.val 0 0, .num 1180591620717411303424 1180591620717411303424, .num 1180591620717411303430 1180591620717411303425] = true := by decide +kernel
theorem duk0 (a : Option Addr) (n c : Nat) (X Y : Nat → Int) (ptr : Nat → Addr) (w : World) (i : Nat) (hib : bd 0 1000000000000000 (i : Int)) (hn : bd 0 1000000000000 (n : Int)) (hn0 : n ≤ 1000000000000) (hS : Sl Try.prog w (.slice a n c) n 22 60 (fun k => .agg #[.int .i64 (X k), .int .i64 (Y k)]) ptr) (hP : Sl Try.prog w (.slice a n c) n 23 60 (fun k => .agg #[.int .i64 (X k), .int .i64 (Y k)]) ptr) (h0 : (decide ((n : Int) ≤ (i : Int))) = false) (h1 : (dupP n X Y i) = false) : Know (duE a n c X Y ptr w i) Try.prog duo0 := by
  have bq0 : bd 1 1000000000000001 (((i : Int) + 1)) := bd_add hib (bd_lit (l := 1) (h := 1) rfl) rfl
  exact ⟨(all_cons (cmpOK (op := .lss) (ty := 3) (k := .i64) (n := (sn 1)) (m := (sn 0)) (t := true) (a := (i : Int)) (b := (n : Int)) (by kernel_rfl) (by kernel_rfl) (congrArg some ((lt_of_le h0)))) (all_cons (structOK (op := .eql) (ty := 60) (x := .agg #[sy 2, sy 3]) (y := .agg #[sy 4, sy 5]) (x' := .agg #[.int .i64 (X i), .int .i64 (Y i)]) (y' := .agg #[.int .i64 ((X (nx n i))), .int .i64 ((Y (nx n i)))]) (t := false) (by kernel_rfl) (by kernel_rfl) (by kernel_rfl) (by kernel_rfl) (fun p q w => pnt_guard .eql p q _ _ w) (fun w => by have q := pnt_eql (X i) (Y i) ((X (nx n i))) ((Y (nx n i))) w; rw [show (((X i) == ((X (nx n i)))) && ((Y i) == ((Y (nx n i))))) = false from (show ((X i == X (nx n i)) && (Y i == Y (nx n i))) = _ from h1)] at q; exact q)) (all_cons (arOK (op := .add) (ty := 3) (k := .i64) (n := (sn 1)) (m := 1) (r := (sn 6)) (a := (i : Int)) (b := 1) (c := (((i : Int) + 1))) (d := (i : Int) + 1) (by kernel_rfl) (by kernel_rfl) (by kernel_rfl) rfl (wr_bd bq0 rfl)) all_nil))), all_nil, all_nil, all_nil, (all_cons (callOKb (f := 58) (args := [oq 0, sy 1]) (v := .agg #[sy 4, sy 5]) (args' := #[(.slice a n c), .int .i64 (i : Int)]) (v' := .agg #[.int .i64 ((X (nx n i))), .int .i64 ((Y (nx n i)))]) (by kernel_rfl) (by kernel_rfl) (by kernel_rfl) (fun w1 hw1 => next_any a n c X Y ptr w1 hn0 (hS.mono hw1) (hP.mono hw1) i (by have g := of_decide_eq_false h0; omega))) all_nil), (all_cons (sldOK (j := 1) (k := i) (x := .agg #[sy 2, sy 3]) hP rfl (by have g := of_decide_eq_false h0; omega) (by kernel_rfl) (by show inst _ _ = _; kernel_rfl)) all_nil), (all_cons (sixOK (i := 0) (j := 1) (k := i) (r := (sn 1)) hP rfl (by kernel_rfl) rfl (by have g := of_decide_eq_false h0; omega)) all_nil), all_nil, all_nil, all_nil, (all_cons (lenOK (i := 0) (r := (sn 0)) (a := a) (c := c) rfl (by kernel_rfl)) all_nil), all_nil, all_nil, all_nil, all_nil, all_nil, all_nil, all_nil⟩
theorem duk1 (a : Option Addr) (n c : Nat) (X Y : Nat → Int) (ptr : Nat → Addr) (w : World) (i : Nat) (hib : bd 0 1000000000000000 (i : Int)) (hn : bd 0 1000000000000 (n : Int)) (hn0 : n ≤ 1000000000000) (hS : Sl Try.prog w (.slice a n c) n 22 60 (fun k => .agg #[.int .i64 (X k), .int .i64 (Y k)]) ptr) (hP : Sl Try.prog w (.slice a n c) n 23 60 (fun k => .agg #[.int .i64 (X k), .int .i64 (Y k)]) ptr) (h0 : (decide ((n : Int) ≤ (i : Int))) = false) (h1 : (dupP n X Y i) = true) : Know (duE a n c X Y ptr w i) Try.prog duo1 := by
  exact ⟨(all_cons (cmpOK (op := .lss) (ty := 3) (k := .i64) (n := (sn 1)) (m := (sn 0)) (t := true) (a := (i : Int)) (b := (n : Int)) (by kernel_rfl) (by kernel_rfl) (congrArg some ((lt_of_le h0)))) (all_cons (structOK (op := .eql) (ty := 60) (x := .agg #[sy 2, sy 3]) (y := .agg #[sy 4, sy 5]) (x' := .agg #[.int .i64 (X i), .int .i64 (Y i)]) (y' := .agg #[.int .i64 ((X (nx n i))), .int .i64 ((Y (nx n i)))]) (t := true) (by kernel_rfl) (by kernel_rfl) (by kernel_rfl) (by kernel_rfl) (fun p q w => pnt_guard .eql p q _ _ w) (fun w => by have q := pnt_eql (X i) (Y i) ((X (nx n i))) ((Y (nx n i))) w; rw [show (((X i) == ((X (nx n i)))) && ((Y i) == ((Y (nx n i))))) = true from (show ((X i == X (nx n i)) && (Y i == Y (nx n i))) = _ from h1)] at q; exact q)) all_nil)), all_nil, all_nil, all_nil, (all_cons (callOKb (f := 58) (args := [oq 0, sy 1]) (v := .agg #[sy 4, sy 5]) (args' := #[(.slice a n c), .int .i64 (i : Int)]) (v' := .agg #[.int .i64 ((X (nx n i))), .int .i64 ((Y (nx n i)))]) (by kernel_rfl) (by kernel_rfl) (by kernel_rfl) (fun w1 hw1 => next_any a n c X Y ptr w1 hn0 (hS.mono hw1) (hP.mono hw1) i (by have g := of_decide_eq_false h0; omega))) all_nil), (all_cons (sldOK (j := 1) (k := i) (x := .agg #[sy 2, sy 3]) hP rfl (by have g := of_decide_eq_false h0; omega) (by kernel_rfl) (by show inst _ _ = _; kernel_rfl)) all_nil), (all_cons (sixOK (i := 0) (j := 1) (k := i) (r := (sn 1)) hP rfl (by kernel_rfl) rfl (by have g := of_decide_eq_false h0; omega)) all_nil), all_nil, all_nil, all_nil, (all_cons (lenOK (i := 0) (r := (sn 0)) (a := a) (c := c) rfl (by kernel_rfl)) all_nil), all_nil, all_nil, all_nil, all_nil, all_nil, all_nil, all_nil⟩
theorem duk2 (a : Option Addr) (n c : Nat) (X Y : Nat → Int) (ptr : Nat → Addr) (w : World) (i : Nat) (hib : bd 0 1000000000000000 (i : Int)) (hn : bd 0 1000000000000 (n : Int)) (hn0 : n ≤ 1000000000000) (hS : Sl Try.prog w (.slice a n c) n 22 60 (fun k => .agg #[.int .i64 (X k), .int .i64 (Y k)]) ptr) (hP : Sl Try.prog w (.slice a n c) n 23 60 (fun k => .agg #[.int .i64 (X k), .int .i64 (Y k)]) ptr) (h0 : (decide ((n : Int) ≤ (i : Int))) = true) : Know (duE a n c X Y ptr w i) Try.prog duo2 := by
  exact ⟨(all_cons (cmpOK (op := .lss) (ty := 3) (k := .i64) (n := (sn 1)) (m := (sn 0)) (t := false) (a := (i : Int)) (b := (n : Int)) (by kernel_rfl) (by kernel_rfl) (congrArg some ((lt_of_le h0)))) all_nil), all_nil, all_nil, all_nil, all_nil, all_nil, all_nil, all_nil, all_nil, all_nil, (all_cons (lenOK (i := 0) (r := (sn 0)) (a := a) (c := c) rfl (by kernel_rfl)) all_nil), all_nil, all_nil, all_nil, all_nil, all_nil, all_nil, all_nil⟩
def dutF_bad : Tm := [[oq 0, .slice none 0 0, anyV, anyV, .int .i64 5, anyV, anyV, .bool false, oq 0, sy 0, .bool false, .bool false, oq 0, sy 0, .bool false, .bool false], [oq 0, .bool true, .bool false, .bool false, .slice none 0 0, .bool true, .bool false, .bool false, oq 0, sy 0, anyV, .bool true, anyV, anyV, anyV, anyV], [oq 0, anyV, anyV, .bool true, anyV]]
def duHF_bad : Heap := []
theorem duf1_bad : stepT Try.prog [] (evBody Try.prog duo1 1000 50 52 [false, true, false, true, true] dut0 duH0) (.ret) dutF_bad duHF_bad [.val 0 0, .num 1180591620717411303424 1180591620717411303424] = true := by decide +kernel
theorem du_loop_bad (a : Option Addr) (n c : Nat) (X Y : Nat → Int) (ptr : Nat → Addr) (w : World) (hn0 : n ≤ 1000000000000) (hS : Sl Try.prog w (.slice a n c) n 22 60 (fun k => .agg #[.int .i64 (X k), .int .i64 (Y k)]) ptr) (hP : Sl Try.prog w (.slice a n c) n 23 60 (fun k => .agg #[.int .i64 (X k), .int .i64 (Y k)]) ptr) (K : Nat) (hK : K < n) (hq0 : dupP n X Y K = true) (hall : ∀ i, i < K → dupP n X Y i = false) : LoopE (env [(n : Int)] [(.slice a n c)] w) Try.prog (52, [false, true, false, true, true], dutA, duHA, .ret, dutF_bad, duHF_bad) := by
  refine loop_rule (σ := { st : Nat // st ≤ K }) (fun st => duE a n c X Y ptr w st.1) (fun _ => rfl) (fun st => K - st.1) (fun _ => dut0) (fun _ => duH0) rfl (fun _ => by decide) (by decide) ?_ ⟨0, Nat.zero_le _⟩ [.val 0 0, .num 1180591620717411303424 1180591620717411303424, .num 0 1180591620717411303425] [] (by decide +kernel) (by decide) ?_
  · rintro ⟨i, hle_⟩
    rcases Nat.lt_or_ge i (K) with h | h
    · have hib : bd 0 1000000000000000 (i : Int) := ⟨by omega, by omega⟩; have hn : bd 0 1000000000000 (n : Int) := ⟨by omega, by omega⟩; have hq := hall i h; clear hall
      rcases h0 : (decide ((n : Int) ≤ (i : Int))) with _ | _
      · rcases h1 : (dupP n X Y i) with _ | _
        · refine .inl ⟨duo0, 1000, 50, _, [], ⟨i + 1, h⟩, (duk0 a n c X Y ptr w i hib hn hn0 hS hP h0 h1).ok, dus0, by decide, ?_, by show K - (i + 1) < K - i; omega⟩
          intro q hq
          simp only [List.mem_cons, List.not_mem_nil, or_false] at hq
          rcases hq with rfl | rfl | rfl
          · show (_ : Value) = _; kernel_rfl
          · show (_ : Int) = _; kernel_rfl
          · show (((i : Int) + 1) : Int) = (((i + 1 : Nat)) : Int); first | rfl | (omega)
        · exfalso; (first | (have g := of_decide_eq_true h0; omega) | (rw [hq] at h1; cases h1))
      · exfalso; (first | (have g := of_decide_eq_true h0; omega) | (rw [hq] at h1; cases h1))
    · have hE : K = i := by omega
      subst hE
      have hib : bd 0 1000000000000000 (K : Int) := ⟨by omega, by omega⟩; have hn : bd 0 1000000000000 (n : Int) := ⟨by omega, by omega⟩; have hq := hq0; clear hall hq0
      rcases h0 : (decide ((n : Int) ≤ (K : Int))) with _ | _
      · rcases h1 : (dupP n X Y K) with _ | _
        · exfalso; (first | (have g := of_decide_eq_true h0; omega) | (rw [hq] at h1; cases h1))
        · refine .inr ⟨duo1, 1000, 50, _, [], (duk1 a n c X Y ptr w (K) hib hn hn0 hS hP h0 h1).ok, duf1_bad, by decide, ?_⟩
          intro q hq
          simp only [List.mem_cons, List.not_mem_nil, or_false] at hq
          rcases hq with rfl | rfl
          · show (_ : Value) = _; kernel_rfl
          · show (_ : Int) = _; kernel_rfl
      · exfalso; (first | (have g := of_decide_eq_true h0; omega) | (rw [hq] at h1; cases h1))
  · skip
    intro q hq
    simp only [List.mem_cons, List.not_mem_nil, or_false] at hq
    rcases hq with rfl | rfl | rfl
    · show (_ : Value) = _; kernel_rfl
    · show (_ : Int) = _; kernel_rfl
    · show (0 : Int) = (0 : Int); first | rfl | (omega)
def dutF_done : Tm := [[oq 0, .slice none 0 0, anyV, anyV, .int .i64 0, anyV, anyV, .bool false, oq 0, sy 0, .bool false, .bool false, oq 0, sy 0, .bool false, .bool false], [oq 0, .bool true, .bool false, .bool false, .slice none 0 0, .bool true, .bool false, .bool false, oq 0, sy 0, anyV, .bool false, anyV, anyV, anyV, anyV], [anyV, anyV, anyV, anyV, anyV]]
def duHF_done : Heap := []
theorem duf2_done : stepT Try.prog [] (evBody Try.prog duo2 1000 50 52 [false, true, false, true, true] dut0 duH0) (.exit 1) dutF_done duHF_done [.val 0 0, .num 1180591620717411303424 1180591620717411303424] = true := by decide +kernel
theorem du_loop_done (a : Option Addr) (n c : Nat) (X Y : Nat → Int) (ptr : Nat → Addr) (w : World) (hn0 : n ≤ 1000000000000) (hS : Sl Try.prog w (.slice a n c) n 22 60 (fun k => .agg #[.int .i64 (X k), .int .i64 (Y k)]) ptr) (hP : Sl Try.prog w (.slice a n c) n 23 60 (fun k => .agg #[.int .i64 (X k), .int .i64 (Y k)]) ptr) (hall : ∀ i, i < n → dupP n X Y i = false) : LoopE (env [(n : Int)] [(.slice a n c)] w) Try.prog (52, [false, true, false, true, true], dutA, duHA, .exit 1, dutF_done, duHF_done) := by
  refine loop_rule (σ := { st : Nat // st ≤ n }) (fun st => duE a n c X Y ptr w st.1) (fun _ => rfl) (fun st => n - st.1) (fun _ => dut0) (fun _ => duH0) rfl (fun _ => by decide) (by decide) ?_ ⟨0, Nat.zero_le _⟩ [.val 0 0, .num 1180591620717411303424 1180591620717411303424, .num 0 1180591620717411303425] [] (by decide +kernel) (by decide) ?_
  · rintro ⟨i, hle_⟩
    rcases Nat.lt_or_ge i (n) with h | h
    · have hib : bd 0 1000000000000000 (i : Int) := ⟨by omega, by omega⟩; have hn : bd 0 1000000000000 (n : Int) := ⟨by omega, by omega⟩; have hq := hall i h; clear hall
      rcases h0 : (decide ((n : Int) ≤ (i : Int))) with _ | _
      · rcases h1 : (dupP n X Y i) with _ | _
        · refine .inl ⟨duo0, 1000, 50, _, [], ⟨i + 1, h⟩, (duk0 a n c X Y ptr w i hib hn hn0 hS hP h0 h1).ok, dus0, by decide, ?_, by show n - (i + 1) < n - i; omega⟩
          intro q hq
          simp only [List.mem_cons, List.not_mem_nil, or_false] at hq
          rcases hq with rfl | rfl | rfl
          · show (_ : Value) = _; kernel_rfl
          · show (_ : Int) = _; kernel_rfl
          · show (((i : Int) + 1) : Int) = (((i + 1 : Nat)) : Int); first | rfl | (omega)
        · exfalso; (first | (have g := of_decide_eq_true h0; omega) | (rw [hq] at h1; cases h1))
      · exfalso; (first | (have g := of_decide_eq_true h0; omega) | (rw [hq] at h1; cases h1))
    · have hE : n = i := by omega
      subst hE
      have hib : bd 0 1000000000000000 (n : Int) := ⟨by omega, by omega⟩; have hn : bd 0 1000000000000 (n : Int) := ⟨by omega, by omega⟩
      rcases h0 : (decide ((n : Int) ≤ (n : Int))) with _ | _
      · rcases h1 : (dupP n X Y n) with _ | _
        · exfalso; (have g := of_decide_eq_false h0; omega)
        · exfalso; (have g := of_decide_eq_false h0; omega)
      · refine .inr ⟨duo2, 1000, 50, _, [], (duk2 a n c X Y ptr w (n) hib hn hn0 hS hP h0).ok, duf2_done, by decide, ?_⟩
        intro q hq
        simp only [List.mem_cons, List.not_mem_nil, or_false] at hq
        rcases hq with rfl | rfl
        · show (_ : Value) = _; kernel_rfl
        · show (_ : Int) = _; kernel_rfl
  · skip
    intro q hq
    simp only [List.mem_cons, List.not_mem_nil, or_false] at hq
    rcases hq with rfl | rfl | rfl
    · show (_ : Value) = _; kernel_rfl
    · show (_ : Int) = _; kernel_rfl
    · show (0 : Int) = (0 : Int); first | rfl | (omega)
end Go.Proofs.Ytapcooolainmdaa.Ev
