/- polygon: the reference's Check: the ranges. -/
import Derived.Test.YtehgnkgcimdgjaaPo3
namespace Go.Proofs.Ytehgnkgcimdgjaa.Ev
open Go.RowKit
set_option linter.unusedVariables false
set_option linter.unusedSimpArgs false
set_option maxRecDepth 8000
theorem rallowed_any (x y : Int) (w : World) : Calls Try.prog 22 #[.agg #[.int .i64 x, .int .i64 y]] w fun e w' => e = .returned (.bool (okC x && okC y)) ∧ Below w.heap.size w w' := by
  rcases h0 : (decide (x ≤ (-1000001))) with _ | _
  · rcases h1 : (decide (x ≤ 1000000)) with _ | _
    · have hr : (.bool (okC x && okC y) : Value) = .bool false := by (refine congrArg Value.bool ?_; unfold okC; simp at h0 h1 ⊢ <;> omega)
      rw [hr]
      exact run_know (P := Try.prog) (ρ := env [x, y] [] w) (o := { bin := [(.geq, 3, .int .i64 (sn 0), .int .i64 (-1000000), .bool true), (.leq, 3, .int .i64 (sn 0), .int .i64 1000000, .bool false)] }) ⟨(all_cons (cmpOK (op := .geq) (ty := 3) (k := .i64) (n := (sn 0)) (m := (-1000000)) (t := true) (a := x) (b := (-1000000)) (by kernel_rfl) (by kernel_rfl) (congrArg some ((ge_c h0 rfl)))) (all_cons (cmpOK (op := .leq) (ty := 3) (k := .i64) (n := (sn 0)) (m := 1000000) (t := false) (a := x) (b := 1000000) (by kernel_rfl) (by kernel_rfl) (congrArg some (h1))) all_nil)), all_nil, all_nil, all_nil, all_nil, all_nil, all_nil, all_nil, all_nil, all_nil, all_nil, all_nil, all_nil, all_nil, all_nil, all_nil, all_nil⟩ 1000 50 22 [.agg #[sy 0, sy 1]] (.bool false) (args' := #[.agg #[.int .i64 x, .int .i64 y]]) (v' := .bool false) (by kernel_rfl) (by kernel_rfl) (by kernel_rfl) w (Below.refl _ _)
    · rcases h2 : (decide (y ≤ (-1000001))) with _ | _
      · rcases h3 : (decide (y ≤ 1000000)) with _ | _
        · have hr : (.bool (okC x && okC y) : Value) = .bool false := by (refine congrArg Value.bool ?_; unfold okC; simp at h0 h1 h2 h3 ⊢ <;> omega)
          rw [hr]
          exact run_know (P := Try.prog) (ρ := env [x, y] [] w) (o := { bin := [(.geq, 3, .int .i64 (sn 0), .int .i64 (-1000000), .bool true), (.leq, 3, .int .i64 (sn 0), .int .i64 1000000, .bool true), (.geq, 3, .int .i64 (sn 1), .int .i64 (-1000000), .bool true), (.leq, 3, .int .i64 (sn 1), .int .i64 1000000, .bool false)] }) ⟨(all_cons (cmpOK (op := .geq) (ty := 3) (k := .i64) (n := (sn 0)) (m := (-1000000)) (t := true) (a := x) (b := (-1000000)) (by kernel_rfl) (by kernel_rfl) (congrArg some ((ge_c h0 rfl)))) (all_cons (cmpOK (op := .leq) (ty := 3) (k := .i64) (n := (sn 0)) (m := 1000000) (t := true) (a := x) (b := 1000000) (by kernel_rfl) (by kernel_rfl) (congrArg some (h1))) (all_cons (cmpOK (op := .geq) (ty := 3) (k := .i64) (n := (sn 1)) (m := (-1000000)) (t := true) (a := y) (b := (-1000000)) (by kernel_rfl) (by kernel_rfl) (congrArg some ((ge_c h2 rfl)))) (all_cons (cmpOK (op := .leq) (ty := 3) (k := .i64) (n := (sn 1)) (m := 1000000) (t := false) (a := y) (b := 1000000) (by kernel_rfl) (by kernel_rfl) (congrArg some (h3))) all_nil)))), all_nil, all_nil, all_nil, all_nil, all_nil, all_nil, all_nil, all_nil, all_nil, all_nil, all_nil, all_nil, all_nil, all_nil, all_nil, all_nil⟩ 1000 50 22 [.agg #[sy 0, sy 1]] (.bool false) (args' := #[.agg #[.int .i64 x, .int .i64 y]]) (v' := .bool false) (by kernel_rfl) (by kernel_rfl) (by kernel_rfl) w (Below.refl _ _)
        · have hr : (.bool (okC x && okC y) : Value) = .bool true := by (refine congrArg Value.bool ?_; unfold okC; simp at h0 h1 h2 h3 ⊢ <;> omega)
          rw [hr]
          exact run_know (P := Try.prog) (ρ := env [x, y] [] w) (o := { bin := [(.geq, 3, .int .i64 (sn 0), .int .i64 (-1000000), .bool true), (.leq, 3, .int .i64 (sn 0), .int .i64 1000000, .bool true), (.geq, 3, .int .i64 (sn 1), .int .i64 (-1000000), .bool true), (.leq, 3, .int .i64 (sn 1), .int .i64 1000000, .bool true)] }) ⟨(all_cons (cmpOK (op := .geq) (ty := 3) (k := .i64) (n := (sn 0)) (m := (-1000000)) (t := true) (a := x) (b := (-1000000)) (by kernel_rfl) (by kernel_rfl) (congrArg some ((ge_c h0 rfl)))) (all_cons (cmpOK (op := .leq) (ty := 3) (k := .i64) (n := (sn 0)) (m := 1000000) (t := true) (a := x) (b := 1000000) (by kernel_rfl) (by kernel_rfl) (congrArg some (h1))) (all_cons (cmpOK (op := .geq) (ty := 3) (k := .i64) (n := (sn 1)) (m := (-1000000)) (t := true) (a := y) (b := (-1000000)) (by kernel_rfl) (by kernel_rfl) (congrArg some ((ge_c h2 rfl)))) (all_cons (cmpOK (op := .leq) (ty := 3) (k := .i64) (n := (sn 1)) (m := 1000000) (t := true) (a := y) (b := 1000000) (by kernel_rfl) (by kernel_rfl) (congrArg some (h3))) all_nil)))), all_nil, all_nil, all_nil, all_nil, all_nil, all_nil, all_nil, all_nil, all_nil, all_nil, all_nil, all_nil, all_nil, all_nil, all_nil, all_nil⟩ 1000 50 22 [.agg #[sy 0, sy 1]] (.bool true) (args' := #[.agg #[.int .i64 x, .int .i64 y]]) (v' := .bool true) (by kernel_rfl) (by kernel_rfl) (by kernel_rfl) w (Below.refl _ _)
      · have hr : (.bool (okC x && okC y) : Value) = .bool false := by (refine congrArg Value.bool ?_; unfold okC; simp at h0 h1 h2 ⊢ <;> omega)
        rw [hr]
        exact run_know (P := Try.prog) (ρ := env [x, y] [] w) (o := { bin := [(.geq, 3, .int .i64 (sn 0), .int .i64 (-1000000), .bool true), (.leq, 3, .int .i64 (sn 0), .int .i64 1000000, .bool true), (.geq, 3, .int .i64 (sn 1), .int .i64 (-1000000), .bool false)] }) ⟨(all_cons (cmpOK (op := .geq) (ty := 3) (k := .i64) (n := (sn 0)) (m := (-1000000)) (t := true) (a := x) (b := (-1000000)) (by kernel_rfl) (by kernel_rfl) (congrArg some ((ge_c h0 rfl)))) (all_cons (cmpOK (op := .leq) (ty := 3) (k := .i64) (n := (sn 0)) (m := 1000000) (t := true) (a := x) (b := 1000000) (by kernel_rfl) (by kernel_rfl) (congrArg some (h1))) (all_cons (cmpOK (op := .geq) (ty := 3) (k := .i64) (n := (sn 1)) (m := (-1000000)) (t := false) (a := y) (b := (-1000000)) (by kernel_rfl) (by kernel_rfl) (congrArg some ((ge_c h2 rfl)))) all_nil))), all_nil, all_nil, all_nil, all_nil, all_nil, all_nil, all_nil, all_nil, all_nil, all_nil, all_nil, all_nil, all_nil, all_nil, all_nil, all_nil⟩ 1000 50 22 [.agg #[sy 0, sy 1]] (.bool false) (args' := #[.agg #[.int .i64 x, .int .i64 y]]) (v' := .bool false) (by kernel_rfl) (by kernel_rfl) (by kernel_rfl) w (Below.refl _ _)
  · have hr : (.bool (okC x && okC y) : Value) = .bool false := by (refine congrArg Value.bool ?_; unfold okC; simp at h0 ⊢ <;> omega)
    rw [hr]
    exact run_know (P := Try.prog) (ρ := env [x, y] [] w) (o := { bin := [(.geq, 3, .int .i64 (sn 0), .int .i64 (-1000000), .bool false)] }) ⟨(all_cons (cmpOK (op := .geq) (ty := 3) (k := .i64) (n := (sn 0)) (m := (-1000000)) (t := false) (a := x) (b := (-1000000)) (by kernel_rfl) (by kernel_rfl) (congrArg some ((ge_c h0 rfl)))) all_nil), all_nil, all_nil, all_nil, all_nil, all_nil, all_nil, all_nil, all_nil, all_nil, all_nil, all_nil, all_nil, all_nil, all_nil, all_nil, all_nil⟩ 1000 50 22 [.agg #[sy 0, sy 1]] (.bool false) (args' := #[.agg #[.int .i64 x, .int .i64 y]]) (v' := .bool false) (by kernel_rfl) (by kernel_rfl) (by kernel_rfl) w (Below.refl _ _)
theorem rnext_any (a : Option Addr) (n c : Nat) (w : World) (hn0 : n ≤ 1000000000000) (i : Nat) (hi : i < n) : Calls Try.prog 37 #[(.slice a n c), .int .i64 (i : Int)] w fun e w' => e = .returned (.int .i64 (((nx n i : Nat) : Int))) ∧ Below w.heap.size w w' := by
  have hn : bd 0 1000000000000 (n : Int) := ⟨by omega, by omega⟩
  have hib : bd 0 1000000000000 (i : Int) := ⟨by omega, by omega⟩
  have bq0 : bd 1 1000000000001 (((i : Int) + 1)) := bd_add hib (bd_lit (l := 1) (h := 1) rfl) rfl
  exact run_know (P := Try.prog) (ρ := env [(n : Int), (i : Int), ((i : Int) + 1), ((nx n i : Nat) : Int)] [(.slice a n c)] w) (o := { bin := [(.add, 3, .int .i64 (sn 1), .int .i64 1, .int .i64 (sn 2)), (.rem, 3, sy 2, sy 0, sy 3)], lens := [(false, oq 0, .int .i64 (sn 0))] }) ⟨(all_cons (arOK (op := .add) (ty := 3) (k := .i64) (n := (sn 1)) (m := 1) (r := (sn 2)) (a := (i : Int)) (b := 1) (c := (((i : Int) + 1))) (d := (i : Int) + 1) (by kernel_rfl) (by kernel_rfl) (by kernel_rfl) rfl (wr_bd bq0 rfl)) (all_cons (binK (op := .rem) (ty := 3) (x := sy 2) (y := sy 0) (r := sy 3) (by kernel_rfl) (k := .i64) (l := .i64) (a := (((i : Int) + 1))) (b := (n : Int)) (v := .int .i64 (((nx n i : Nat) : Int))) (by kernel_rfl) (by kernel_rfl) (by kernel_rfl) (fun w => i_rem (by omega) (nx_rem hi) w)) all_nil)), all_nil, all_nil, all_nil, all_nil, all_nil, all_nil, all_nil, all_nil, all_nil, (all_cons (lenOK (i := 0) (r := (sn 0)) (a := a) (c := c) rfl (by kernel_rfl)) all_nil), all_nil, all_nil, all_nil, all_nil, all_nil, all_nil⟩ 1000 50 37 [oq 0, sy 1] (sy 3) (args' := #[(.slice a n c), .int .i64 (i : Int)]) (v' := .int .i64 (((nx n i : Nat) : Int))) (by kernel_rfl) (by kernel_rfl) (by kernel_rfl) w (Below.refl _ _)
def rat0 : Tm := [[oq 0, undef, .int .i64 0, sy 1, undef, oq 0, sy 0, .bool false, oq 0, sy 0, .bool false, anyV, anyV, anyV, anyV, anyV], [anyV, anyV, anyV, anyV, anyV, anyV, anyV, undef, undef, undef, undef, undef, undef, undef, undef, undef], [undef, undef, undef, undef, undef, undef, undef, undef]]
def raH0 : Heap := []
def ratA : Tm := [[oq 0, undef, .int .i64 0, .int .i64 0, undef, oq 0, sy 0, .bool false, oq 0, sy 0, .bool false, undef, undef, undef, undef, undef], [undef, undef, undef, undef, undef, undef, undef, undef, undef, undef, undef, undef, undef, undef, undef, undef], [undef, undef, undef, undef, undef, undef, undef, undef]]
def raHA : Heap := []
def rao0 : Orc := { bin := [(.lss, 3, .int .i64 (sn 1), .int .i64 (sn 0), .bool true)], calls := [(22, [.agg #[sy 2, sy 3]], .bool false)], lds := [(31, oq 1, .agg #[sy 2, sy 3])], ixa := [(23, oq 0, .int .i64 (sn 1), oq 1)], lens := [(false, oq 0, .int .i64 (sn 0))] }
def rao1 : Orc := { bin := [(.lss, 3, .int .i64 (sn 1), .int .i64 (sn 0), .bool true), (.add, 3, .int .i64 (sn 1), .int .i64 1, .int .i64 (sn 4))], calls := [(22, [.agg #[sy 2, sy 3]], .bool true)], lds := [(31, oq 1, .agg #[sy 2, sy 3])], ixa := [(23, oq 0, .int .i64 (sn 1), oq 1)], lens := [(false, oq 0, .int .i64 (sn 0))] }
def rao2 : Orc := { bin := [(.lss, 3, .int .i64 (sn 1), .int .i64 (sn 0), .bool false)], lens := [(false, oq 0, .int .i64 (sn 0))] }
noncomputable def raE (a : Option Addr) (n c : Nat) (X Y : Nat → Int) (ptr : Nat → Addr) (w : World) (i : Nat) : Env := env [(n : Int), (i : Int), (X i), (Y i), ((i : Int) + 1)] [(.slice a n c), (.pointer (some (ptr i)))] w
theorem ras1 : stepT Try.prog [] (evBody Try.prog rao1 1000 50 13 [false, true, false, true, true, true] rat0 raH0) .normal rat0 raH0 [.val 0 0, .num 1180591620717411303428 1180591620717411303425, .num 1180591620717411303424 1180591620717411303424] = true := by decide +kernel
theorem rak0 (a : Option Addr) (n c : Nat) (X Y : Nat → Int) (ptr : Nat → Addr) (w : World) (i : Nat) (hib : bd 0 1000000000000000 (i : Int)) (hn : bd 0 1000000000000 (n : Int)) (hn0 : n ≤ 1000000000000) (hS : Sl Try.prog w (.slice a n c) n 22 31 (fun k => .agg #[.int .i64 (X k), .int .i64 (Y k)]) ptr) (hP : Sl Try.prog w (.slice a n c) n 23 31 (fun k => .agg #[.int .i64 (X k), .int .i64 (Y k)]) ptr) (h0 : (decide ((n : Int) ≤ (i : Int))) = false) (h1 : (okP X Y i) = false) : Know (raE a n c X Y ptr w i) Try.prog rao0 := by
  exact ⟨(all_cons (cmpOK (op := .lss) (ty := 3) (k := .i64) (n := (sn 1)) (m := (sn 0)) (t := true) (a := (i : Int)) (b := (n : Int)) (by kernel_rfl) (by kernel_rfl) (congrArg some ((lt_of_le h0)))) all_nil), all_nil, all_nil, all_nil, (all_cons (callOK (f := 22) (args := [.agg #[sy 2, sy 3]]) (v := .bool false) (args' := #[.agg #[.int .i64 (X i), .int .i64 (Y i)]]) (v' := .bool false) (by kernel_rfl) (by kernel_rfl) (by kernel_rfl) (fun w => by have q := rallowed_any (X i) (Y i) w; rw [show (okC (X i) && okC (Y i)) = _ from h1] at q; exact q)) all_nil), (all_cons (sldOK (j := 1) (k := i) (x := .agg #[sy 2, sy 3]) hP rfl (by have g := of_decide_eq_false h0; omega) (by kernel_rfl) (by show inst _ _ = _; kernel_rfl)) all_nil), (all_cons (sixOK (i := 0) (j := 1) (k := i) (r := (sn 1)) hP rfl (by kernel_rfl) rfl (by have g := of_decide_eq_false h0; omega)) all_nil), all_nil, all_nil, all_nil, (all_cons (lenOK (i := 0) (r := (sn 0)) (a := a) (c := c) rfl (by kernel_rfl)) all_nil), all_nil, all_nil, all_nil, all_nil, all_nil, all_nil⟩
theorem rak1 (a : Option Addr) (n c : Nat) (X Y : Nat → Int) (ptr : Nat → Addr) (w : World) (i : Nat) (hib : bd 0 1000000000000000 (i : Int)) (hn : bd 0 1000000000000 (n : Int)) (hn0 : n ≤ 1000000000000) (hS : Sl Try.prog w (.slice a n c) n 22 31 (fun k => .agg #[.int .i64 (X k), .int .i64 (Y k)]) ptr) (hP : Sl Try.prog w (.slice a n c) n 23 31 (fun k => .agg #[.int .i64 (X k), .int .i64 (Y k)]) ptr) (h0 : (decide ((n : Int) ≤ (i : Int))) = false) (h1 : (okP X Y i) = true) : Know (raE a n c X Y ptr w i) Try.prog rao1 := by
  have bq0 : bd 1 1000000000000001 (((i : Int) + 1)) := bd_add hib (bd_lit (l := 1) (h := 1) rfl) rfl
  exact ⟨(all_cons (cmpOK (op := .lss) (ty := 3) (k := .i64) (n := (sn 1)) (m := (sn 0)) (t := true) (a := (i : Int)) (b := (n : Int)) (by kernel_rfl) (by kernel_rfl) (congrArg some ((lt_of_le h0)))) (all_cons (arOK (op := .add) (ty := 3) (k := .i64) (n := (sn 1)) (m := 1) (r := (sn 4)) (a := (i : Int)) (b := 1) (c := (((i : Int) + 1))) (d := (i : Int) + 1) (by kernel_rfl) (by kernel_rfl) (by kernel_rfl) rfl (wr_bd bq0 rfl)) all_nil)), all_nil, all_nil, all_nil, (all_cons (callOK (f := 22) (args := [.agg #[sy 2, sy 3]]) (v := .bool true) (args' := #[.agg #[.int .i64 (X i), .int .i64 (Y i)]]) (v' := .bool true) (by kernel_rfl) (by kernel_rfl) (by kernel_rfl) (fun w => by have q := rallowed_any (X i) (Y i) w; rw [show (okC (X i) && okC (Y i)) = _ from h1] at q; exact q)) all_nil), (all_cons (sldOK (j := 1) (k := i) (x := .agg #[sy 2, sy 3]) hP rfl (by have g := of_decide_eq_false h0; omega) (by kernel_rfl) (by show inst _ _ = _; kernel_rfl)) all_nil), (all_cons (sixOK (i := 0) (j := 1) (k := i) (r := (sn 1)) hP rfl (by kernel_rfl) rfl (by have g := of_decide_eq_false h0; omega)) all_nil), all_nil, all_nil, all_nil, (all_cons (lenOK (i := 0) (r := (sn 0)) (a := a) (c := c) rfl (by kernel_rfl)) all_nil), all_nil, all_nil, all_nil, all_nil, all_nil, all_nil⟩
theorem rak2 (a : Option Addr) (n c : Nat) (X Y : Nat → Int) (ptr : Nat → Addr) (w : World) (i : Nat) (hib : bd 0 1000000000000000 (i : Int)) (hn : bd 0 1000000000000 (n : Int)) (hn0 : n ≤ 1000000000000) (hS : Sl Try.prog w (.slice a n c) n 22 31 (fun k => .agg #[.int .i64 (X k), .int .i64 (Y k)]) ptr) (hP : Sl Try.prog w (.slice a n c) n 23 31 (fun k => .agg #[.int .i64 (X k), .int .i64 (Y k)]) ptr) (h0 : (decide ((n : Int) ≤ (i : Int))) = true) : Know (raE a n c X Y ptr w i) Try.prog rao2 := by
  exact ⟨(all_cons (cmpOK (op := .lss) (ty := 3) (k := .i64) (n := (sn 1)) (m := (sn 0)) (t := false) (a := (i : Int)) (b := (n : Int)) (by kernel_rfl) (by kernel_rfl) (congrArg some ((lt_of_le h0)))) all_nil), all_nil, all_nil, all_nil, all_nil, all_nil, all_nil, all_nil, all_nil, all_nil, (all_cons (lenOK (i := 0) (r := (sn 0)) (a := a) (c := c) rfl (by kernel_rfl)) all_nil), all_nil, all_nil, all_nil, all_nil, all_nil, all_nil⟩
def ratF_bad : Tm := [[oq 0, anyV, .int .i64 6, anyV, anyV, oq 0, sy 0, .bool false, oq 0, sy 0, .bool false, anyV, oq 0, sy 0, .bool true, anyV], [anyV, oq 0, anyV, anyV, anyV, .bool false, .bool true, anyV, anyV, anyV, anyV, anyV, anyV, anyV, anyV, anyV], [anyV, anyV, anyV, anyV, anyV, anyV, anyV, anyV]]
def raHF_bad : Heap := []
theorem raf0_bad : stepT Try.prog [] (evBody Try.prog rao0 1000 50 13 [false, true, false, true, true, true] rat0 raH0) (.ret) ratF_bad raHF_bad [.val 0 0, .num 1180591620717411303424 1180591620717411303424] = true := by decide +kernel
theorem ra_loop_bad (a : Option Addr) (n c : Nat) (X Y : Nat → Int) (ptr : Nat → Addr) (w : World) (hn0 : n ≤ 1000000000000) (hS : Sl Try.prog w (.slice a n c) n 22 31 (fun k => .agg #[.int .i64 (X k), .int .i64 (Y k)]) ptr) (hP : Sl Try.prog w (.slice a n c) n 23 31 (fun k => .agg #[.int .i64 (X k), .int .i64 (Y k)]) ptr) (K : Nat) (hK : K < n) (hq0 : okP X Y K = false) (hall : ∀ i, i < K → okP X Y i = true) : LoopE (env [(n : Int)] [(.slice a n c)] w) Try.prog (13, [false, true, false, true, true, true], ratA, raHA, .ret, ratF_bad, raHF_bad) := by
  refine loop_rule (σ := { st : Nat // st ≤ K }) (fun st => raE a n c X Y ptr w st.1) (fun _ => rfl) (fun st => K - st.1) (fun _ => rat0) (fun _ => raH0) rfl (fun _ => by decide) (by decide) ?_ ⟨0, Nat.zero_le _⟩ [.val 0 0, .num 0 1180591620717411303425, .num 1180591620717411303424 1180591620717411303424] [] (by decide +kernel) (by decide) ?_
  · rintro ⟨i, hi⟩
    rcases Nat.lt_or_ge i (K) with h | h
    · have hib : bd 0 1000000000000000 (i : Int) := ⟨by omega, by omega⟩; have hn : bd 0 1000000000000 (n : Int) := ⟨by omega, by omega⟩; have hq := hall i h; clear hall
      rcases h0 : (decide ((n : Int) ≤ (i : Int))) with _ | _
      · rcases h1 : (okP X Y i) with _ | _
        · exfalso; (first | (have g := of_decide_eq_true h0; omega) | (rw [hq] at h1; cases h1))
        · refine .inl ⟨rao1, 1000, 50, _, [], ⟨i + 1, h⟩, (rak1 a n c X Y ptr w i hib hn hn0 hS hP h0 h1).ok, ras1, by decide, ?_, by show K - (i + 1) < K - i; omega⟩
          intro q hq
          simp only [List.mem_cons, List.not_mem_nil, or_false] at hq
          rcases hq with rfl | rfl | rfl
          · show (_ : Value) = _; kernel_rfl
          · show (((i : Int) + 1) : Int) = (((i + 1 : Nat)) : Int); first | rfl | (omega)
          · show (_ : Int) = _; kernel_rfl
      · exfalso; (first | (have g := of_decide_eq_true h0; omega) | (rw [hq] at h1; cases h1))
    · have hE : K = i := by omega
      subst hE
      have hib : bd 0 1000000000000000 (K : Int) := ⟨by omega, by omega⟩; have hn : bd 0 1000000000000 (n : Int) := ⟨by omega, by omega⟩; have hq := hq0; clear hall hq0
      rcases h0 : (decide ((n : Int) ≤ (K : Int))) with _ | _
      · rcases h1 : (okP X Y K) with _ | _
        · refine .inr ⟨rao0, 1000, 50, _, [], (rak0 a n c X Y ptr w (K) hib hn hn0 hS hP h0 h1).ok, raf0_bad, by decide, ?_⟩
          intro q hq
          simp only [List.mem_cons, List.not_mem_nil, or_false] at hq
          rcases hq with rfl | rfl
          · show (_ : Value) = _; kernel_rfl
          · show (_ : Int) = _; kernel_rfl
        · exfalso; (first | (have g := of_decide_eq_true h0; omega) | (rw [hq] at h1; cases h1))
      · exfalso; (first | (have g := of_decide_eq_true h0; omega) | (rw [hq] at h1; cases h1))
  · skip
    intro q hq
    simp only [List.mem_cons, List.not_mem_nil, or_false] at hq
    rcases hq with rfl | rfl | rfl
    · show (_ : Value) = _; kernel_rfl
    · show (0 : Int) = (0 : Int); first | rfl | (omega)
    · show (_ : Int) = _; kernel_rfl
def ratF_done : Tm := [[oq 0, anyV, .int .i64 0, anyV, anyV, oq 0, sy 0, .bool false, oq 0, sy 0, .bool false, anyV, oq 0, sy 0, .bool false, anyV], [anyV, anyV, anyV, anyV, anyV, anyV, anyV, anyV, anyV, anyV, anyV, anyV, anyV, anyV, anyV, anyV], [anyV, anyV, anyV, anyV, anyV, anyV, anyV, anyV]]
def raHF_done : Heap := []
theorem raf2_done : stepT Try.prog [] (evBody Try.prog rao2 1000 50 13 [false, true, false, true, true, true] rat0 raH0) (.exit 0) ratF_done raHF_done [.val 0 0, .num 1180591620717411303424 1180591620717411303424] = true := by decide +kernel
theorem ra_loop_done (a : Option Addr) (n c : Nat) (X Y : Nat → Int) (ptr : Nat → Addr) (w : World) (hn0 : n ≤ 1000000000000) (hS : Sl Try.prog w (.slice a n c) n 22 31 (fun k => .agg #[.int .i64 (X k), .int .i64 (Y k)]) ptr) (hP : Sl Try.prog w (.slice a n c) n 23 31 (fun k => .agg #[.int .i64 (X k), .int .i64 (Y k)]) ptr) (hall : ∀ i, i < n → okP X Y i = true) : LoopE (env [(n : Int)] [(.slice a n c)] w) Try.prog (13, [false, true, false, true, true, true], ratA, raHA, .exit 0, ratF_done, raHF_done) := by
  refine loop_rule (σ := { st : Nat // st ≤ n }) (fun st => raE a n c X Y ptr w st.1) (fun _ => rfl) (fun st => n - st.1) (fun _ => rat0) (fun _ => raH0) rfl (fun _ => by decide) (by decide) ?_ ⟨0, Nat.zero_le _⟩ [.val 0 0, .num 0 1180591620717411303425, .num 1180591620717411303424 1180591620717411303424] [] (by decide +kernel) (by decide) ?_
  · rintro ⟨i, hi⟩
    rcases Nat.lt_or_ge i (n) with h | h
    · have hib : bd 0 1000000000000000 (i : Int) := ⟨by omega, by omega⟩; have hn : bd 0 1000000000000 (n : Int) := ⟨by omega, by omega⟩; have hq := hall i h; clear hall
      rcases h0 : (decide ((n : Int) ≤ (i : Int))) with _ | _
      · rcases h1 : (okP X Y i) with _ | _
        · exfalso; (first | (have g := of_decide_eq_true h0; omega) | (rw [hq] at h1; cases h1))
        · refine .inl ⟨rao1, 1000, 50, _, [], ⟨i + 1, h⟩, (rak1 a n c X Y ptr w i hib hn hn0 hS hP h0 h1).ok, ras1, by decide, ?_, by show n - (i + 1) < n - i; omega⟩
          intro q hq
          simp only [List.mem_cons, List.not_mem_nil, or_false] at hq
          rcases hq with rfl | rfl | rfl
          · show (_ : Value) = _; kernel_rfl
          · show (((i : Int) + 1) : Int) = (((i + 1 : Nat)) : Int); first | rfl | (omega)
          · show (_ : Int) = _; kernel_rfl
      · exfalso; (first | (have g := of_decide_eq_true h0; omega) | (rw [hq] at h1; cases h1))
    · have hE : n = i := by omega
      subst hE
      have hib : bd 0 1000000000000000 (n : Int) := ⟨by omega, by omega⟩; have hn : bd 0 1000000000000 (n : Int) := ⟨by omega, by omega⟩
      rcases h0 : (decide ((n : Int) ≤ (n : Int))) with _ | _
      · rcases h1 : (okP X Y n) with _ | _
        · exfalso; (have g := of_decide_eq_false h0; omega)
        · exfalso; (have g := of_decide_eq_false h0; omega)
      · refine .inr ⟨rao2, 1000, 50, _, [], (rak2 a n c X Y ptr w (n) hib hn hn0 hS hP h0).ok, raf2_done, by decide, ?_⟩
        intro q hq
        simp only [List.mem_cons, List.not_mem_nil, or_false] at hq
        rcases hq with rfl | rfl
        · show (_ : Value) = _; kernel_rfl
        · show (_ : Int) = _; kernel_rfl
  · skip
    intro q hq
    simp only [List.mem_cons, List.not_mem_nil, or_false] at hq
    rcases hq with rfl | rfl | rfl
    · show (_ : Value) = _; kernel_rfl
    · show (0 : Int) = (0 : Int); first | rfl | (omega)
    · show (_ : Int) = _; kernel_rfl
end Go.Proofs.Ytehgnkgcimdgjaa.Ev
