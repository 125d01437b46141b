/- The part that texts_row needs. -/
import Derived.Test.YtliabkeipieecaaDoorSy5
import Derived.Test.YtliabkeipieecaaDoorFrShelf
import Derived.Laws.StructEq
import Derived.Test.YtliabkeipieecaaDoorLaidT
import Derived.Test.YtliabkeipieecaaDoorSyA
import Derived.Lib.AtoiAllCases
import Derived.Lib.ParseIntBTie
import Derived.Test.YtliabkeipieecaaDoorFm2
namespace Go.Proofs.YtliabkeipieecaaDoor.Ev
open Go.RowKit
set_option linter.unusedVariables false
set_option linter.unusedSimpArgs false
set_option maxRecDepth 8000
/-- the steps of Euclid's algorithm -/
def gs (a b : Nat) : Nat → Nat × Nat
  | 0 => (a, b)
  | i + 1 => ((gs a b i).2, (gs a b i).1 % (gs a b i).2)
theorem gs_shift (a b : Nat) : ∀ i, gs a b (i + 1) = gs b (a % b) i
  | 0 => rfl
  | i + 1 => by
    have h := gs_shift a b i
    show ((gs a b (i + 1)).2, (gs a b (i + 1)).1 % (gs a b (i + 1)).2) = _
    rw [h]; rfl
theorem gs_end : ∀ (b a : Nat), ∃ K, (gs a b K).2 = 0 ∧ (∀ i, i < K → (gs a b i).2 ≠ 0) ∧ (gs a b K).1 = Nat.gcd a b := by
  intro b
  induction b using Nat.strongRecOn with
  | ind b ih =>
    intro a
    rcases Nat.eq_zero_or_pos b with rfl | hb
    · exact ⟨0, rfl, fun i h => by omega, by simp [gs]⟩
    · obtain ⟨K, h1, h2, h3⟩ := ih (a % b) (Nat.mod_lt _ hb) b
      refine ⟨K + 1, by rw [gs_shift]; exact h1, fun i hi => ?_, ?_⟩
      · cases i with
        | zero => show b ≠ 0; omega
        | succ i => rw [gs_shift]; exact h2 i (by omega)
      · rw [gs_shift, h3, Nat.gcd_comm a b, Nat.gcd_rec b a, Nat.gcd_comm]
theorem size_any (n : Int) (w : World) (hn : bd (-9223372036854775808) 9223372036854775807 n) : Calls Tryd.prog 40 #[.int .i64 n] w fun e w' => e = .returned (.int .u64 ((((n.natAbs) : Nat) : Int))) ∧ Below w.heap.size w w' := by
  have hn' := hn
  rcases h0 : (decide (n ≤ (-1))) with _ | _
  · exact run_know (P := Tryd.prog) (ρ := env [n, (((n.natAbs) : Nat) : Int)] [] w) (o := { bin := [(.lss, 2, .int .i64 (sn 0), .int .i64 0, .bool false)], conv := [(2, 45, sy 0, syk .u64 1)] }) ⟨(all_cons (cmpOK (op := .lss) (ty := 2) (k := .i64) (n := (sn 0)) (m := 0) (t := false) (a := n) (b := 0) (by kernel_rfl) (by kernel_rfl) (congrArg some ((lt_c h0 rfl)))) all_nil), all_nil, (all_cons (convOK (s := 2) (d := 45) (ds := .int .i64) (k := .i64) (l := .u64) (n := (sn 0)) (r := (sn 1)) (a := n) (c := ((((n.natAbs) : Nat) : Int))) (by kernel_rfl) (by kernel_rfl) (by kernel_rfl) (by kernel_rfl) (by rw [IntKind.wrap_u64]; have g := of_decide_eq_false h0; omega)) all_nil), all_nil, all_nil, all_nil, all_nil, all_nil, all_nil, all_nil, all_nil, all_nil, all_nil, all_nil, all_nil, all_nil, all_nil⟩ 1000 50 40 [sy 0] (syk .u64 1) (args' := #[.int .i64 n]) (v' := .int .u64 ((((n.natAbs) : Nat) : Int))) (by kernel_rfl) (by kernel_rfl) (by kernel_rfl) w (Below.refl _ _)
  · exact run_know (P := Tryd.prog) (ρ := env [n, (n + 18446744073709551616), (((n.natAbs) : Nat) : Int)] [] w) (o := { bin := [(.lss, 2, .int .i64 (sn 0), .int .i64 0, .bool true)], un := [(.neg, syk .u64 1, syk .u64 2)], conv := [(2, 45, sy 0, syk .u64 1)] }) ⟨(all_cons (cmpOK (op := .lss) (ty := 2) (k := .i64) (n := (sn 0)) (m := 0) (t := true) (a := n) (b := 0) (by kernel_rfl) (by kernel_rfl) (congrArg some ((lt_c h0 rfl)))) all_nil), (all_cons (unK (op := .neg) (x := syk .u64 1) (r := syk .u64 2) (by kernel_rfl) (v := .int .u64 (n + 18446744073709551616)) (v' := .int .u64 ((((n.natAbs) : Nat) : Int))) (by kernel_rfl) (by kernel_rfl) (fun w => u_neg (by rw [IntKind.wrap_u64]; have g := of_decide_eq_true h0; omega) w)) all_nil), (all_cons (convOK (s := 2) (d := 45) (ds := .int .i64) (k := .i64) (l := .u64) (n := (sn 0)) (r := (sn 1)) (a := n) (c := (n + 18446744073709551616)) (by kernel_rfl) (by kernel_rfl) (by kernel_rfl) (by kernel_rfl) (by rw [IntKind.wrap_u64]; have g := of_decide_eq_true h0; omega)) all_nil), all_nil, all_nil, all_nil, all_nil, all_nil, all_nil, all_nil, all_nil, all_nil, all_nil, all_nil, all_nil, all_nil, all_nil⟩ 1000 50 40 [sy 0] (syk .u64 2) (args' := #[.int .i64 n]) (v' := .int .u64 ((((n.natAbs) : Nat) : Int))) (by kernel_rfl) (by kernel_rfl) (by kernel_rfl) w (Below.refl _ _)
theorem rsize_any (n : Int) (w : World) (hn : bd (-9223372036854775808) 9223372036854775807 n) : Calls Tryd.prog 46 #[.int .i64 n] w fun e w' => e = .returned (.int .u64 ((((n.natAbs) : Nat) : Int))) ∧ Below w.heap.size w w' := by
  have hn' := hn
  rcases h0 : (decide (n ≤ (-1))) with _ | _
  · exact run_know (P := Tryd.prog) (ρ := env [n, (((n.natAbs) : Nat) : Int)] [] w) (o := { bin := [(.lss, 2, .int .i64 (sn 0), .int .i64 0, .bool false)], conv := [(2, 45, sy 0, syk .u64 1)] }) ⟨(all_cons (cmpOK (op := .lss) (ty := 2) (k := .i64) (n := (sn 0)) (m := 0) (t := false) (a := n) (b := 0) (by kernel_rfl) (by kernel_rfl) (congrArg some ((lt_c h0 rfl)))) all_nil), all_nil, (all_cons (convOK (s := 2) (d := 45) (ds := .int .i64) (k := .i64) (l := .u64) (n := (sn 0)) (r := (sn 1)) (a := n) (c := ((((n.natAbs) : Nat) : Int))) (by kernel_rfl) (by kernel_rfl) (by kernel_rfl) (by kernel_rfl) (by rw [IntKind.wrap_u64]; have g := of_decide_eq_false h0; omega)) all_nil), all_nil, all_nil, all_nil, all_nil, all_nil, all_nil, all_nil, all_nil, all_nil, all_nil, all_nil, all_nil, all_nil, all_nil⟩ 1000 50 46 [sy 0] (syk .u64 1) (args' := #[.int .i64 n]) (v' := .int .u64 ((((n.natAbs) : Nat) : Int))) (by kernel_rfl) (by kernel_rfl) (by kernel_rfl) w (Below.refl _ _)
  · exact run_know (P := Tryd.prog) (ρ := env [n, (n + 18446744073709551616), (((n.natAbs) : Nat) : Int)] [] w) (o := { bin := [(.lss, 2, .int .i64 (sn 0), .int .i64 0, .bool true)], un := [(.neg, syk .u64 1, syk .u64 2)], conv := [(2, 45, sy 0, syk .u64 1)] }) ⟨(all_cons (cmpOK (op := .lss) (ty := 2) (k := .i64) (n := (sn 0)) (m := 0) (t := true) (a := n) (b := 0) (by kernel_rfl) (by kernel_rfl) (congrArg some ((lt_c h0 rfl)))) all_nil), (all_cons (unK (op := .neg) (x := syk .u64 1) (r := syk .u64 2) (by kernel_rfl) (v := .int .u64 (n + 18446744073709551616)) (v' := .int .u64 ((((n.natAbs) : Nat) : Int))) (by kernel_rfl) (by kernel_rfl) (fun w => u_neg (by rw [IntKind.wrap_u64]; have g := of_decide_eq_true h0; omega) w)) all_nil), (all_cons (convOK (s := 2) (d := 45) (ds := .int .i64) (k := .i64) (l := .u64) (n := (sn 0)) (r := (sn 1)) (a := n) (c := (n + 18446744073709551616)) (by kernel_rfl) (by kernel_rfl) (by kernel_rfl) (by kernel_rfl) (by rw [IntKind.wrap_u64]; have g := of_decide_eq_true h0; omega)) all_nil), all_nil, all_nil, all_nil, all_nil, all_nil, all_nil, all_nil, all_nil, all_nil, all_nil, all_nil, all_nil, all_nil, all_nil⟩ 1000 50 46 [sy 0] (syk .u64 2) (args' := #[.int .i64 n]) (v' := .int .u64 ((((n.natAbs) : Nat) : Int))) (by kernel_rfl) (by kernel_rfl) (by kernel_rfl) w (Below.refl _ _)
def gcdPt0 : Tm := [[syk .u64 3, syk .u64 4, undef, undef, .int .u64 0, anyV, anyV, anyV, anyV, anyV, anyV, undef]]
def gcdPH0 : Heap := []
def gcdPtA : Tm := [[syk .u64 0, syk .u64 1, undef, undef, .int .u64 0, undef, undef, undef, undef, undef, undef, undef]]
def gcdPHA : Heap := []
def gcdPo0 : Orc := { bin := [(.neq, 45, .int .u64 (sn 4), .int .u64 0, .bool true), (.rem, 45, syk .u64 3, syk .u64 4, syk .u64 5)] }
def gcdPo1 : Orc := { bin := [(.neq, 45, .int .u64 (sn 4), .int .u64 0, .bool false)] }
noncomputable def gcdPE (w : World) (A B : Nat) (i : Nat) : Env := env [(((A) : Nat) : Int), (((B) : Nat) : Int), (i : Int), ((((gs A B i).1) : Nat) : Int), ((((gs A B i).2) : Nat) : Int), (((((gs A B i).1) % ((gs A B i).2)) : Nat) : Int)] [] w
theorem gcdPs0 : stepT Tryd.prog [] (evBody Tryd.prog gcdPo0 1000 50 39 [false, false, true] gcdPt0 gcdPH0) .normal gcdPt0 gcdPH0 [.num 1180591620717411303428 1180591620717411303427, .num 1180591620717411303429 1180591620717411303428] = true := by decide +kernel
theorem gcdPk0 (w : World) (A B : Nat) (i : Nat) (hA : A < 18446744073709551616) (hB : B < 18446744073709551616) (h0 : ((((((gs A B i).2) : Nat) : Int)) == 0) = false) : Know (gcdPE w A B i) Tryd.prog gcdPo0 := by
  exact ⟨(all_cons (cmpOK (op := .neq) (ty := 45) (k := .u64) (n := (sn 4)) (m := 0) (t := true) (a := (((((gs A B i).2) : Nat) : Int))) (b := 0) (by kernel_rfl) (by kernel_rfl) (congrArg some ((ne_of h0)))) (all_cons (binK (op := .rem) (ty := 45) (x := syk .u64 3) (y := syk .u64 4) (r := syk .u64 5) (by kernel_rfl) (k := .u64) (l := .u64) (a := (((((gs A B i).1) : Nat) : Int))) (b := (((((gs A B i).2) : Nat) : Int))) (v := .int .u64 ((((((gs A B i).1) % ((gs A B i).2)) : Nat) : Int))) (by kernel_rfl) (by kernel_rfl) (by kernel_rfl) (fun w => b_rem (a := (gs A B i).1) (b := (gs A B i).2) (by intro e; rw [e] at h0; simp at h0) w)) all_nil)), all_nil, all_nil, all_nil, all_nil, all_nil, all_nil, all_nil, all_nil, all_nil, all_nil, all_nil, all_nil, all_nil, all_nil, all_nil, all_nil⟩
theorem gcdPk1 (w : World) (A B : Nat) (i : Nat) (hA : A < 18446744073709551616) (hB : B < 18446744073709551616) (h0 : ((((((gs A B i).2) : Nat) : Int)) == 0) = true) : Know (gcdPE w A B i) Tryd.prog gcdPo1 := by
  exact ⟨(all_cons (cmpOK (op := .neq) (ty := 45) (k := .u64) (n := (sn 4)) (m := 0) (t := false) (a := (((((gs A B i).2) : Nat) : Int))) (b := 0) (by kernel_rfl) (by kernel_rfl) (congrArg some ((ne_of h0)))) all_nil), all_nil, all_nil, all_nil, all_nil, all_nil, all_nil, all_nil, all_nil, all_nil, all_nil, all_nil, all_nil, all_nil, all_nil, all_nil, all_nil⟩
def gcdPtF_done : Tm := [[syk .u64 2, anyV, anyV, anyV, .int .u64 0, anyV, .bool false, anyV, anyV, anyV, anyV, anyV]]
def gcdPHF_done : Heap := []
theorem gcdPf1_done : stepT Tryd.prog [] (evBody Tryd.prog gcdPo1 1000 50 39 [false, false, true] gcdPt0 gcdPH0) (.exit 0) gcdPtF_done gcdPHF_done [.num 1180591620717411303427 1180591620717411303426] = true := by decide +kernel
theorem gcdP_loop_done (w : World) (A B : Nat) (hA : A < 18446744073709551616) (hB : B < 18446744073709551616) (K : Nat) (h1 : (gs A B K).2 = 0) (h2 : ∀ i, i < K → (gs A B i).2 ≠ 0) : LoopE (env [(((A) : Nat) : Int), (((B) : Nat) : Int), (((gs A B K).1 : Nat) : Int)] [] w) Tryd.prog (39, [false, false, true], gcdPtA, gcdPHA, .exit 0, gcdPtF_done, gcdPHF_done) := by
  refine loop_rule (σ := { st : Nat // st ≤ K }) (fun st => gcdPE w A B st.1) (fun _ => rfl) (fun st => K - st.1) (fun _ => gcdPt0) (fun _ => gcdPH0) rfl (fun _ => by decide) (by decide) ?_ ⟨0, Nat.zero_le _⟩ [.num 1180591620717411303424 1180591620717411303427, .num 1180591620717411303425 1180591620717411303428] [] (by decide +kernel) (by decide) ?_
  · rintro ⟨i, hi⟩
    rcases Nat.lt_or_ge i (K) with h | h
    · have hq := h2 i h
      rcases h0 : ((((((gs A B i).2) : Nat) : Int)) == 0) with _ | _
      · refine .inl ⟨gcdPo0, 1000, 50, _, [], ⟨i + 1, h⟩, (gcdPk0 w A B i hA hB h0).ok, gcdPs0, by decide, ?_, by show K - (i + 1) < K - i; omega⟩
        intro q hq
        simp only [List.mem_cons, List.not_mem_nil, or_false] at hq
        rcases hq with rfl | rfl
        · show (((((gs A B i).2) : Nat) : Int) : Int) = ((((gs A B (i + 1)).1) : Nat) : Int); first | rfl | (omega)
        · show ((((((gs A B i).1) % ((gs A B i).2)) : Nat) : Int) : Int) = ((((gs A B (i + 1)).2) : Nat) : Int); first | rfl | (omega)
      · exfalso; (simp at h0; omega)
    · have hE : K = i := by omega
      subst hE
      have hq := h1
      rcases h0 : ((((((gs A B K).2) : Nat) : Int)) == 0) with _ | _
      · exfalso; (simp at h0; omega)
      · refine .inr ⟨gcdPo1, 1000, 50, _, [], (gcdPk1 w A B (K) hA hB h0).ok, gcdPf1_done, by decide, ?_⟩
        intro q hq
        simp only [List.mem_cons, List.not_mem_nil, or_false] at hq
        rcases hq with rfl
        · show (((((gs A B K).1) : Nat) : Int) : Int) = (((gs A B K).1 : Nat) : Int); first | rfl | (omega)
  · skip
    intro q hq
    simp only [List.mem_cons, List.not_mem_nil, or_false] at hq
    rcases hq with rfl | rfl
    · show ((((A) : Nat) : Int) : Int) = ((((gs A B 0).1) : Nat) : Int); first | rfl | (omega)
    · show ((((B) : Nat) : Int) : Int) = ((((gs A B 0).2) : Nat) : Int); first | rfl | (omega)
theorem gcdP_any (A B : Nat) (w : World) (hA : A < 18446744073709551616) (hB : B < 18446744073709551616) : Calls Tryd.prog 39 #[.int .u64 ((((A) : Nat) : Int)), .int .u64 ((((B) : Nat) : Int))] w fun e w' => e = .returned (.int .u64 ((((Nat.gcd A B) : Nat) : Int))) ∧ Below w.heap.size w w' := by
  obtain ⟨K, h1, h2, h3⟩ := gs_end B A
  rw [← h3]
  exact run_know (P := Tryd.prog) (ρ := env [(((A) : Nat) : Int), (((B) : Nat) : Int), (((gs A B K).1 : Nat) : Int)] [] w) (o := { loops := [(39, [false, false, true], gcdPtA, gcdPHA, .exit 0, gcdPtF_done, gcdPHF_done)] }) ⟨all_nil, all_nil, all_nil, all_nil, all_nil, all_nil, all_nil, all_nil, all_nil, (all_cons (gcdP_loop_done w A B hA hB K h1 h2) all_nil), all_nil, all_nil, all_nil, all_nil, all_nil, all_nil, all_nil⟩ 1000 50 39 [syk .u64 0, syk .u64 1] (syk .u64 2) (args' := #[.int .u64 ((((A) : Nat) : Int)), .int .u64 ((((B) : Nat) : Int))]) (v' := .int .u64 ((((gs A B K).1 : Nat) : Int))) (by kernel_rfl) (by kernel_rfl) (by kernel_rfl) w (Below.refl _ _)
def gcdRt0 : Tm := [[syk .u64 3, syk .u64 4, undef, undef, .int .u64 0, anyV, anyV, anyV, anyV, anyV, anyV, undef]]
def gcdRH0 : Heap := []
def gcdRtA : Tm := [[syk .u64 0, syk .u64 1, undef, undef, .int .u64 0, undef, undef, undef, undef, undef, undef, undef]]
def gcdRHA : Heap := []
def gcdRo0 : Orc := { bin := [(.neq, 45, .int .u64 (sn 4), .int .u64 0, .bool true), (.rem, 45, syk .u64 3, syk .u64 4, syk .u64 5)] }
def gcdRo1 : Orc := { bin := [(.neq, 45, .int .u64 (sn 4), .int .u64 0, .bool false)] }
noncomputable def gcdRE (w : World) (A B : Nat) (i : Nat) : Env := env [(((A) : Nat) : Int), (((B) : Nat) : Int), (i : Int), ((((gs A B i).1) : Nat) : Int), ((((gs A B i).2) : Nat) : Int), (((((gs A B i).1) % ((gs A B i).2)) : Nat) : Int)] [] w
theorem gcdRs0 : stepT Tryd.prog [] (evBody Tryd.prog gcdRo0 1000 50 45 [false, false, true] gcdRt0 gcdRH0) .normal gcdRt0 gcdRH0 [.num 1180591620717411303428 1180591620717411303427, .num 1180591620717411303429 1180591620717411303428] = true := by decide +kernel
theorem gcdRk0 (w : World) (A B : Nat) (i : Nat) (hA : A < 18446744073709551616) (hB : B < 18446744073709551616) (h0 : ((((((gs A B i).2) : Nat) : Int)) == 0) = false) : Know (gcdRE w A B i) Tryd.prog gcdRo0 := by
  exact ⟨(all_cons (cmpOK (op := .neq) (ty := 45) (k := .u64) (n := (sn 4)) (m := 0) (t := true) (a := (((((gs A B i).2) : Nat) : Int))) (b := 0) (by kernel_rfl) (by kernel_rfl) (congrArg some ((ne_of h0)))) (all_cons (binK (op := .rem) (ty := 45) (x := syk .u64 3) (y := syk .u64 4) (r := syk .u64 5) (by kernel_rfl) (k := .u64) (l := .u64) (a := (((((gs A B i).1) : Nat) : Int))) (b := (((((gs A B i).2) : Nat) : Int))) (v := .int .u64 ((((((gs A B i).1) % ((gs A B i).2)) : Nat) : Int))) (by kernel_rfl) (by kernel_rfl) (by kernel_rfl) (fun w => b_rem (a := (gs A B i).1) (b := (gs A B i).2) (by intro e; rw [e] at h0; simp at h0) w)) all_nil)), all_nil, all_nil, all_nil, all_nil, all_nil, all_nil, all_nil, all_nil, all_nil, all_nil, all_nil, all_nil, all_nil, all_nil, all_nil, all_nil⟩
theorem gcdRk1 (w : World) (A B : Nat) (i : Nat) (hA : A < 18446744073709551616) (hB : B < 18446744073709551616) (h0 : ((((((gs A B i).2) : Nat) : Int)) == 0) = true) : Know (gcdRE w A B i) Tryd.prog gcdRo1 := by
  exact ⟨(all_cons (cmpOK (op := .neq) (ty := 45) (k := .u64) (n := (sn 4)) (m := 0) (t := false) (a := (((((gs A B i).2) : Nat) : Int))) (b := 0) (by kernel_rfl) (by kernel_rfl) (congrArg some ((ne_of h0)))) all_nil), all_nil, all_nil, all_nil, all_nil, all_nil, all_nil, all_nil, all_nil, all_nil, all_nil, all_nil, all_nil, all_nil, all_nil, all_nil, all_nil⟩
def gcdRtF_done : Tm := [[syk .u64 2, anyV, anyV, anyV, .int .u64 0, anyV, .bool false, anyV, anyV, anyV, anyV, anyV]]
def gcdRHF_done : Heap := []
theorem gcdRf1_done : stepT Tryd.prog [] (evBody Tryd.prog gcdRo1 1000 50 45 [false, false, true] gcdRt0 gcdRH0) (.exit 0) gcdRtF_done gcdRHF_done [.num 1180591620717411303427 1180591620717411303426] = true := by decide +kernel
theorem gcdR_loop_done (w : World) (A B : Nat) (hA : A < 18446744073709551616) (hB : B < 18446744073709551616) (K : Nat) (h1 : (gs A B K).2 = 0) (h2 : ∀ i, i < K → (gs A B i).2 ≠ 0) : LoopE (env [(((A) : Nat) : Int), (((B) : Nat) : Int), (((gs A B K).1 : Nat) : Int)] [] w) Tryd.prog (45, [false, false, true], gcdRtA, gcdRHA, .exit 0, gcdRtF_done, gcdRHF_done) := by
  refine loop_rule (σ := { st : Nat // st ≤ K }) (fun st => gcdRE w A B st.1) (fun _ => rfl) (fun st => K - st.1) (fun _ => gcdRt0) (fun _ => gcdRH0) rfl (fun _ => by decide) (by decide) ?_ ⟨0, Nat.zero_le _⟩ [.num 1180591620717411303424 1180591620717411303427, .num 1180591620717411303425 1180591620717411303428] [] (by decide +kernel) (by decide) ?_
  · rintro ⟨i, hi⟩
    rcases Nat.lt_or_ge i (K) with h | h
    · have hq := h2 i h
      rcases h0 : ((((((gs A B i).2) : Nat) : Int)) == 0) with _ | _
      · refine .inl ⟨gcdRo0, 1000, 50, _, [], ⟨i + 1, h⟩, (gcdRk0 w A B i hA hB h0).ok, gcdRs0, by decide, ?_, by show K - (i + 1) < K - i; omega⟩
        intro q hq
        simp only [List.mem_cons, List.not_mem_nil, or_false] at hq
        rcases hq with rfl | rfl
        · show (((((gs A B i).2) : Nat) : Int) : Int) = ((((gs A B (i + 1)).1) : Nat) : Int); first | rfl | (omega)
        · show ((((((gs A B i).1) % ((gs A B i).2)) : Nat) : Int) : Int) = ((((gs A B (i + 1)).2) : Nat) : Int); first | rfl | (omega)
      · exfalso; (simp at h0; omega)
    · have hE : K = i := by omega
      subst hE
      have hq := h1
      rcases h0 : ((((((gs A B K).2) : Nat) : Int)) == 0) with _ | _
      · exfalso; (simp at h0; omega)
      · refine .inr ⟨gcdRo1, 1000, 50, _, [], (gcdRk1 w A B (K) hA hB h0).ok, gcdRf1_done, by decide, ?_⟩
        intro q hq
        simp only [List.mem_cons, List.not_mem_nil, or_false] at hq
        rcases hq with rfl
        · show (((((gs A B K).1) : Nat) : Int) : Int) = (((gs A B K).1 : Nat) : Int); first | rfl | (omega)
  · skip
    intro q hq
    simp only [List.mem_cons, List.not_mem_nil, or_false] at hq
    rcases hq with rfl | rfl
    · show ((((A) : Nat) : Int) : Int) = ((((gs A B 0).1) : Nat) : Int); first | rfl | (omega)
    · show ((((B) : Nat) : Int) : Int) = ((((gs A B 0).2) : Nat) : Int); first | rfl | (omega)
theorem gcdR_any (A B : Nat) (w : World) (hA : A < 18446744073709551616) (hB : B < 18446744073709551616) : Calls Tryd.prog 45 #[.int .u64 ((((A) : Nat) : Int)), .int .u64 ((((B) : Nat) : Int))] w fun e w' => e = .returned (.int .u64 ((((Nat.gcd A B) : Nat) : Int))) ∧ Below w.heap.size w w' := by
  obtain ⟨K, h1, h2, h3⟩ := gs_end B A
  rw [← h3]
  exact run_know (P := Tryd.prog) (ρ := env [(((A) : Nat) : Int), (((B) : Nat) : Int), (((gs A B K).1 : Nat) : Int)] [] w) (o := { loops := [(45, [false, false, true], gcdRtA, gcdRHA, .exit 0, gcdRtF_done, gcdRHF_done)] }) ⟨all_nil, all_nil, all_nil, all_nil, all_nil, all_nil, all_nil, all_nil, all_nil, (all_cons (gcdR_loop_done w A B hA hB K h1 h2) all_nil), all_nil, all_nil, all_nil, all_nil, all_nil, all_nil, all_nil⟩ 1000 50 45 [syk .u64 0, syk .u64 1] (syk .u64 2) (args' := #[.int .u64 ((((A) : Nat) : Int)), .int .u64 ((((B) : Nat) : Int))]) (v' := .int .u64 ((((gs A B K).1 : Nat) : Int))) (by kernel_rfl) (by kernel_rfl) (by kernel_rfl) w (Below.refl _ _)
def gcdN (n d : Int) : Nat := Nat.gcd n.natAbs d.natAbs
def validB (n d : Int) : Bool := decide (1 ≤ d) && decide (d ≤ 999999999999999999) && decide (-999999999999999999 ≤ n) && decide (n ≤ 999999999999999999) && ((gcdN n d : Nat) : Int) == 1
theorem ge1_le (d : Int) : decide (1 ≤ d) = !decide (d ≤ 0) := by
  by_cases h : d ≤ 0
  · rw [decide_eq_true h, decide_eq_false (by omega)]; rfl
  · rw [decide_eq_false h, decide_eq_true (by omega)]; rfl
theorem geB_le (n : Int) : decide (-999999999999999999 ≤ n) = !decide (n ≤ -1000000000000000000) := by
  by_cases h : n ≤ -1000000000000000000
  · rw [decide_eq_true h, decide_eq_false (by omega)]; rfl
  · rw [decide_eq_false h, decide_eq_true (by omega)]; rfl
theorem valid_any (n d : Int) (w : World) (hn : bd (-9223372036854775808) 9223372036854775807 n) (hd : bd (-9223372036854775808) 9223372036854775807 d) : Calls Tryd.prog 14 #[.agg #[.int .i64 n, .int .i64 d]] w fun e w' => e = .returned (.bool (validB n d)) ∧ Below w.heap.size w w' := by
  rcases h0 : (decide (d ≤ 0)) with _ | _
  · rcases h1 : (decide (d ≤ 999999999999999999)) with _ | _
    · have hr : (.bool (validB n d) : Value) = .bool false := by (refine congrArg Value.bool ?_; unfold validB gcdN; rw [ge1_le, geB_le]; simp only [h0, h1]; simp)
      rw [hr]
      exact run_know (P := Tryd.prog) (ρ := env [n, d] [] w) (o := { bin := [(.lss, 2, .int .i64 (sn 1), .int .i64 1, .bool false), (.geq, 2, .int .i64 (sn 1), .int .i64 1000000000000000000, .bool true)] }) ⟨(all_cons (cmpOK (op := .lss) (ty := 2) (k := .i64) (n := (sn 1)) (m := 1) (t := false) (a := d) (b := 1) (by kernel_rfl) (by kernel_rfl) (congrArg some ((lt_c h0 rfl)))) (all_cons (cmpOK (op := .geq) (ty := 2) (k := .i64) (n := (sn 1)) (m := 1000000000000000000) (t := true) (a := d) (b := 1000000000000000000) (by kernel_rfl) (by kernel_rfl) (congrArg some ((ge_c h1 rfl)))) all_nil)), all_nil, all_nil, all_nil, all_nil, all_nil, all_nil, all_nil, all_nil, all_nil, all_nil, all_nil, all_nil, all_nil, all_nil, all_nil, all_nil⟩ 1000 50 14 [.agg #[sy 0, sy 1]] (.bool false) (args' := #[.agg #[.int .i64 n, .int .i64 d]]) (v' := .bool false) (by kernel_rfl) (by kernel_rfl) (by kernel_rfl) w (Below.refl _ _)
    · rcases h2 : (decide (n ≤ (-1000000000000000000))) with _ | _
      · rcases h3 : (decide (n ≤ 999999999999999999)) with _ | _
        · have hr : (.bool (validB n d) : Value) = .bool false := by (refine congrArg Value.bool ?_; unfold validB gcdN; rw [ge1_le, geB_le]; simp only [h0, h1, h2, h3]; simp)
          rw [hr]
          exact run_know (P := Tryd.prog) (ρ := env [n, d] [] w) (o := { bin := [(.lss, 2, .int .i64 (sn 1), .int .i64 1, .bool false), (.geq, 2, .int .i64 (sn 1), .int .i64 1000000000000000000, .bool false), (.leq, 2, .int .i64 (sn 0), .int .i64 (-1000000000000000000), .bool false), (.geq, 2, .int .i64 (sn 0), .int .i64 1000000000000000000, .bool true)] }) ⟨(all_cons (cmpOK (op := .lss) (ty := 2) (k := .i64) (n := (sn 1)) (m := 1) (t := false) (a := d) (b := 1) (by kernel_rfl) (by kernel_rfl) (congrArg some ((lt_c h0 rfl)))) (all_cons (cmpOK (op := .geq) (ty := 2) (k := .i64) (n := (sn 1)) (m := 1000000000000000000) (t := false) (a := d) (b := 1000000000000000000) (by kernel_rfl) (by kernel_rfl) (congrArg some ((ge_c h1 rfl)))) (all_cons (cmpOK (op := .leq) (ty := 2) (k := .i64) (n := (sn 0)) (m := (-1000000000000000000)) (t := false) (a := n) (b := (-1000000000000000000)) (by kernel_rfl) (by kernel_rfl) (congrArg some (h2))) (all_cons (cmpOK (op := .geq) (ty := 2) (k := .i64) (n := (sn 0)) (m := 1000000000000000000) (t := true) (a := n) (b := 1000000000000000000) (by kernel_rfl) (by kernel_rfl) (congrArg some ((ge_c h3 rfl)))) all_nil)))), all_nil, all_nil, all_nil, all_nil, all_nil, all_nil, all_nil, all_nil, all_nil, all_nil, all_nil, all_nil, all_nil, all_nil, all_nil, all_nil⟩ 1000 50 14 [.agg #[sy 0, sy 1]] (.bool false) (args' := #[.agg #[.int .i64 n, .int .i64 d]]) (v' := .bool false) (by kernel_rfl) (by kernel_rfl) (by kernel_rfl) w (Below.refl _ _)
        · rcases h4 : (((((Nat.gcd n.natAbs d.natAbs) : Nat) : Int)) == 1) with _ | _
          · have hr : (.bool (validB n d) : Value) = .bool false := by (refine congrArg Value.bool ?_; unfold validB gcdN; rw [ge1_le, geB_le]; simp only [h0, h1, h2, h3, h4]; simp)
            rw [hr]
            exact run_know (P := Tryd.prog) (ρ := env [n, d, (((n.natAbs) : Nat) : Int), (((d.natAbs) : Nat) : Int), (((Nat.gcd n.natAbs d.natAbs) : Nat) : Int)] [] w) (o := { bin := [(.lss, 2, .int .i64 (sn 1), .int .i64 1, .bool false), (.geq, 2, .int .i64 (sn 1), .int .i64 1000000000000000000, .bool false), (.leq, 2, .int .i64 (sn 0), .int .i64 (-1000000000000000000), .bool false), (.geq, 2, .int .i64 (sn 0), .int .i64 1000000000000000000, .bool false), (.eql, 45, .int .u64 (sn 4), .int .u64 1, .bool false)], calls := [(40, [sy 0], syk .u64 2), (40, [sy 1], syk .u64 3), (39, [syk .u64 2, syk .u64 3], syk .u64 4)] }) ⟨(all_cons (cmpOK (op := .lss) (ty := 2) (k := .i64) (n := (sn 1)) (m := 1) (t := false) (a := d) (b := 1) (by kernel_rfl) (by kernel_rfl) (congrArg some ((lt_c h0 rfl)))) (all_cons (cmpOK (op := .geq) (ty := 2) (k := .i64) (n := (sn 1)) (m := 1000000000000000000) (t := false) (a := d) (b := 1000000000000000000) (by kernel_rfl) (by kernel_rfl) (congrArg some ((ge_c h1 rfl)))) (all_cons (cmpOK (op := .leq) (ty := 2) (k := .i64) (n := (sn 0)) (m := (-1000000000000000000)) (t := false) (a := n) (b := (-1000000000000000000)) (by kernel_rfl) (by kernel_rfl) (congrArg some (h2))) (all_cons (cmpOK (op := .geq) (ty := 2) (k := .i64) (n := (sn 0)) (m := 1000000000000000000) (t := false) (a := n) (b := 1000000000000000000) (by kernel_rfl) (by kernel_rfl) (congrArg some ((ge_c h3 rfl)))) (all_cons (cmpOK (op := .eql) (ty := 45) (k := .u64) (n := (sn 4)) (m := 1) (t := false) (a := ((((Nat.gcd n.natAbs d.natAbs) : Nat) : Int))) (b := 1) (by kernel_rfl) (by kernel_rfl) (congrArg some (h4))) all_nil))))), all_nil, all_nil, all_nil, (all_cons (callOK (f := 40) (args := [sy 0]) (v := syk .u64 2) (args' := #[.int .i64 n]) (v' := .int .u64 ((((n.natAbs) : Nat) : Int))) (by kernel_rfl) (by kernel_rfl) (by kernel_rfl) (fun w => size_any n w hn)) (all_cons (callOK (f := 40) (args := [sy 1]) (v := syk .u64 3) (args' := #[.int .i64 d]) (v' := .int .u64 ((((d.natAbs) : Nat) : Int))) (by kernel_rfl) (by kernel_rfl) (by kernel_rfl) (fun w => size_any d w hd)) (all_cons (callOK (f := 39) (args := [syk .u64 2, syk .u64 3]) (v := syk .u64 4) (args' := #[.int .u64 ((((n.natAbs) : Nat) : Int)), .int .u64 ((((d.natAbs) : Nat) : Int))]) (v' := .int .u64 ((((Nat.gcd n.natAbs d.natAbs) : Nat) : Int))) (by kernel_rfl) (by kernel_rfl) (by kernel_rfl) (fun w => gcdP_any n.natAbs d.natAbs w (show (n).natAbs < 18446744073709551616 by have q := hn; simp only [bd] at q; omega) (show (d).natAbs < 18446744073709551616 by have q := hd; simp only [bd] at q; omega))) all_nil))), all_nil, all_nil, all_nil, all_nil, all_nil, all_nil, all_nil, all_nil, all_nil, all_nil, all_nil, all_nil⟩ 1000 50 14 [.agg #[sy 0, sy 1]] (.bool false) (args' := #[.agg #[.int .i64 n, .int .i64 d]]) (v' := .bool false) (by kernel_rfl) (by kernel_rfl) (by kernel_rfl) w (Below.refl _ _)
          · have hr : (.bool (validB n d) : Value) = .bool true := by (refine congrArg Value.bool ?_; unfold validB gcdN; rw [ge1_le, geB_le]; simp only [h0, h1, h2, h3, h4]; simp)
            rw [hr]
            exact run_know (P := Tryd.prog) (ρ := env [n, d, (((n.natAbs) : Nat) : Int), (((d.natAbs) : Nat) : Int), (((Nat.gcd n.natAbs d.natAbs) : Nat) : Int)] [] w) (o := { bin := [(.lss, 2, .int .i64 (sn 1), .int .i64 1, .bool false), (.geq, 2, .int .i64 (sn 1), .int .i64 1000000000000000000, .bool false), (.leq, 2, .int .i64 (sn 0), .int .i64 (-1000000000000000000), .bool false), (.geq, 2, .int .i64 (sn 0), .int .i64 1000000000000000000, .bool false), (.eql, 45, .int .u64 (sn 4), .int .u64 1, .bool true)], calls := [(40, [sy 0], syk .u64 2), (40, [sy 1], syk .u64 3), (39, [syk .u64 2, syk .u64 3], syk .u64 4)] }) ⟨(all_cons (cmpOK (op := .lss) (ty := 2) (k := .i64) (n := (sn 1)) (m := 1) (t := false) (a := d) (b := 1) (by kernel_rfl) (by kernel_rfl) (congrArg some ((lt_c h0 rfl)))) (all_cons (cmpOK (op := .geq) (ty := 2) (k := .i64) (n := (sn 1)) (m := 1000000000000000000) (t := false) (a := d) (b := 1000000000000000000) (by kernel_rfl) (by kernel_rfl) (congrArg some ((ge_c h1 rfl)))) (all_cons (cmpOK (op := .leq) (ty := 2) (k := .i64) (n := (sn 0)) (m := (-1000000000000000000)) (t := false) (a := n) (b := (-1000000000000000000)) (by kernel_rfl) (by kernel_rfl) (congrArg some (h2))) (all_cons (cmpOK (op := .geq) (ty := 2) (k := .i64) (n := (sn 0)) (m := 1000000000000000000) (t := false) (a := n) (b := 1000000000000000000) (by kernel_rfl) (by kernel_rfl) (congrArg some ((ge_c h3 rfl)))) (all_cons (cmpOK (op := .eql) (ty := 45) (k := .u64) (n := (sn 4)) (m := 1) (t := true) (a := ((((Nat.gcd n.natAbs d.natAbs) : Nat) : Int))) (b := 1) (by kernel_rfl) (by kernel_rfl) (congrArg some (h4))) all_nil))))), all_nil, all_nil, all_nil, (all_cons (callOK (f := 40) (args := [sy 0]) (v := syk .u64 2) (args' := #[.int .i64 n]) (v' := .int .u64 ((((n.natAbs) : Nat) : Int))) (by kernel_rfl) (by kernel_rfl) (by kernel_rfl) (fun w => size_any n w hn)) (all_cons (callOK (f := 40) (args := [sy 1]) (v := syk .u64 3) (args' := #[.int .i64 d]) (v' := .int .u64 ((((d.natAbs) : Nat) : Int))) (by kernel_rfl) (by kernel_rfl) (by kernel_rfl) (fun w => size_any d w hd)) (all_cons (callOK (f := 39) (args := [syk .u64 2, syk .u64 3]) (v := syk .u64 4) (args' := #[.int .u64 ((((n.natAbs) : Nat) : Int)), .int .u64 ((((d.natAbs) : Nat) : Int))]) (v' := .int .u64 ((((Nat.gcd n.natAbs d.natAbs) : Nat) : Int))) (by kernel_rfl) (by kernel_rfl) (by kernel_rfl) (fun w => gcdP_any n.natAbs d.natAbs w (show (n).natAbs < 18446744073709551616 by have q := hn; simp only [bd] at q; omega) (show (d).natAbs < 18446744073709551616 by have q := hd; simp only [bd] at q; omega))) all_nil))), all_nil, all_nil, all_nil, all_nil, all_nil, all_nil, all_nil, all_nil, all_nil, all_nil, all_nil, all_nil⟩ 1000 50 14 [.agg #[sy 0, sy 1]] (.bool true) (args' := #[.agg #[.int .i64 n, .int .i64 d]]) (v' := .bool true) (by kernel_rfl) (by kernel_rfl) (by kernel_rfl) w (Below.refl _ _)
      · have hr : (.bool (validB n d) : Value) = .bool false := by (refine congrArg Value.bool ?_; unfold validB gcdN; rw [ge1_le, geB_le]; simp only [h0, h1, h2]; simp)
        rw [hr]
        exact run_know (P := Tryd.prog) (ρ := env [n, d] [] w) (o := { bin := [(.lss, 2, .int .i64 (sn 1), .int .i64 1, .bool false), (.geq, 2, .int .i64 (sn 1), .int .i64 1000000000000000000, .bool false), (.leq, 2, .int .i64 (sn 0), .int .i64 (-1000000000000000000), .bool true)] }) ⟨(all_cons (cmpOK (op := .lss) (ty := 2) (k := .i64) (n := (sn 1)) (m := 1) (t := false) (a := d) (b := 1) (by kernel_rfl) (by kernel_rfl) (congrArg some ((lt_c h0 rfl)))) (all_cons (cmpOK (op := .geq) (ty := 2) (k := .i64) (n := (sn 1)) (m := 1000000000000000000) (t := false) (a := d) (b := 1000000000000000000) (by kernel_rfl) (by kernel_rfl) (congrArg some ((ge_c h1 rfl)))) (all_cons (cmpOK (op := .leq) (ty := 2) (k := .i64) (n := (sn 0)) (m := (-1000000000000000000)) (t := true) (a := n) (b := (-1000000000000000000)) (by kernel_rfl) (by kernel_rfl) (congrArg some (h2))) all_nil))), all_nil, all_nil, all_nil, all_nil, all_nil, all_nil, all_nil, all_nil, all_nil, all_nil, all_nil, all_nil, all_nil, all_nil, all_nil, all_nil⟩ 1000 50 14 [.agg #[sy 0, sy 1]] (.bool false) (args' := #[.agg #[.int .i64 n, .int .i64 d]]) (v' := .bool false) (by kernel_rfl) (by kernel_rfl) (by kernel_rfl) w (Below.refl _ _)
  · have hr : (.bool (validB n d) : Value) = .bool false := by (refine congrArg Value.bool ?_; unfold validB gcdN; rw [ge1_le, geB_le]; simp only [h0]; simp)
    rw [hr]
    exact run_know (P := Tryd.prog) (ρ := env [n, d] [] w) (o := { bin := [(.lss, 2, .int .i64 (sn 1), .int .i64 1, .bool true)] }) ⟨(all_cons (cmpOK (op := .lss) (ty := 2) (k := .i64) (n := (sn 1)) (m := 1) (t := true) (a := d) (b := 1) (by kernel_rfl) (by kernel_rfl) (congrArg some ((lt_c h0 rfl)))) all_nil), all_nil, all_nil, all_nil, all_nil, all_nil, all_nil, all_nil, all_nil, all_nil, all_nil, all_nil, all_nil, all_nil, all_nil, all_nil, all_nil⟩ 1000 50 14 [.agg #[sy 0, sy 1]] (.bool false) (args' := #[.agg #[.int .i64 n, .int .i64 d]]) (v' := .bool false) (by kernel_rfl) (by kernel_rfl) (by kernel_rfl) w (Below.refl _ _)
theorem rvalid_any (n d : Int) (w : World) (hn : bd (-9223372036854775808) 9223372036854775807 n) (hd : bd (-9223372036854775808) 9223372036854775807 d) : Calls Tryd.prog 15 #[.agg #[.int .i64 n, .int .i64 d]] w fun e w' => e = .returned (.bool (validB n d)) ∧ Below w.heap.size w w' := by
  rcases h0 : (decide (d ≤ 0)) with _ | _
  · rcases h1 : (decide (d ≤ 999999999999999999)) with _ | _
    · have hr : (.bool (validB n d) : Value) = .bool false := by (refine congrArg Value.bool ?_; unfold validB gcdN; rw [ge1_le, geB_le]; simp only [h0, h1]; simp)
      rw [hr]
      exact run_know (P := Tryd.prog) (ρ := env [n, d] [] w) (o := { bin := [(.geq, 2, .int .i64 (sn 1), .int .i64 1, .bool true), (.lss, 2, .int .i64 (sn 1), .int .i64 1000000000000000000, .bool false)] }) ⟨(all_cons (cmpOK (op := .geq) (ty := 2) (k := .i64) (n := (sn 1)) (m := 1) (t := true) (a := d) (b := 1) (by kernel_rfl) (by kernel_rfl) (congrArg some ((ge_c h0 rfl)))) (all_cons (cmpOK (op := .lss) (ty := 2) (k := .i64) (n := (sn 1)) (m := 1000000000000000000) (t := false) (a := d) (b := 1000000000000000000) (by kernel_rfl) (by kernel_rfl) (congrArg some ((lt_c h1 rfl)))) all_nil)), all_nil, all_nil, all_nil, all_nil, all_nil, all_nil, all_nil, all_nil, all_nil, all_nil, all_nil, all_nil, all_nil, all_nil, all_nil, all_nil⟩ 1000 50 15 [.agg #[sy 0, sy 1]] (.bool false) (args' := #[.agg #[.int .i64 n, .int .i64 d]]) (v' := .bool false) (by kernel_rfl) (by kernel_rfl) (by kernel_rfl) w (Below.refl _ _)
    · rcases h2 : (decide (n ≤ (-1000000000000000000))) with _ | _
      · rcases h3 : (decide (n ≤ 999999999999999999)) with _ | _
        · have hr : (.bool (validB n d) : Value) = .bool false := by (refine congrArg Value.bool ?_; unfold validB gcdN; rw [ge1_le, geB_le]; simp only [h0, h1, h2, h3]; simp)
          rw [hr]
          exact run_know (P := Tryd.prog) (ρ := env [n, d] [] w) (o := { bin := [(.geq, 2, .int .i64 (sn 1), .int .i64 1, .bool true), (.lss, 2, .int .i64 (sn 1), .int .i64 1000000000000000000, .bool true), (.gtr, 2, .int .i64 (sn 0), .int .i64 (-1000000000000000000), .bool true), (.lss, 2, .int .i64 (sn 0), .int .i64 1000000000000000000, .bool false)] }) ⟨(all_cons (cmpOK (op := .geq) (ty := 2) (k := .i64) (n := (sn 1)) (m := 1) (t := true) (a := d) (b := 1) (by kernel_rfl) (by kernel_rfl) (congrArg some ((ge_c h0 rfl)))) (all_cons (cmpOK (op := .lss) (ty := 2) (k := .i64) (n := (sn 1)) (m := 1000000000000000000) (t := true) (a := d) (b := 1000000000000000000) (by kernel_rfl) (by kernel_rfl) (congrArg some ((lt_c h1 rfl)))) (all_cons (cmpOK (op := .gtr) (ty := 2) (k := .i64) (n := (sn 0)) (m := (-1000000000000000000)) (t := true) (a := n) (b := (-1000000000000000000)) (by kernel_rfl) (by kernel_rfl) (congrArg some ((gt_of_le h2)))) (all_cons (cmpOK (op := .lss) (ty := 2) (k := .i64) (n := (sn 0)) (m := 1000000000000000000) (t := false) (a := n) (b := 1000000000000000000) (by kernel_rfl) (by kernel_rfl) (congrArg some ((lt_c h3 rfl)))) all_nil)))), all_nil, all_nil, all_nil, all_nil, all_nil, all_nil, all_nil, all_nil, all_nil, all_nil, all_nil, all_nil, all_nil, all_nil, all_nil, all_nil⟩ 1000 50 15 [.agg #[sy 0, sy 1]] (.bool false) (args' := #[.agg #[.int .i64 n, .int .i64 d]]) (v' := .bool false) (by kernel_rfl) (by kernel_rfl) (by kernel_rfl) w (Below.refl _ _)
        · rcases h4 : (((((Nat.gcd n.natAbs d.natAbs) : Nat) : Int)) == 1) with _ | _
          · have hr : (.bool (validB n d) : Value) = .bool false := by (refine congrArg Value.bool ?_; unfold validB gcdN; rw [ge1_le, geB_le]; simp only [h0, h1, h2, h3, h4]; simp)
            rw [hr]
            exact run_know (P := Tryd.prog) (ρ := env [n, d, (((d.natAbs) : Nat) : Int), (((n.natAbs) : Nat) : Int), (((Nat.gcd n.natAbs d.natAbs) : Nat) : Int)] [] w) (o := { bin := [(.geq, 2, .int .i64 (sn 1), .int .i64 1, .bool true), (.lss, 2, .int .i64 (sn 1), .int .i64 1000000000000000000, .bool true), (.gtr, 2, .int .i64 (sn 0), .int .i64 (-1000000000000000000), .bool true), (.lss, 2, .int .i64 (sn 0), .int .i64 1000000000000000000, .bool true), (.eql, 45, .int .u64 (sn 4), .int .u64 1, .bool false)], conv := [(2, 45, sy 1, syk .u64 2)], calls := [(46, [sy 0], syk .u64 3), (45, [syk .u64 3, syk .u64 2], syk .u64 4)] }) ⟨(all_cons (cmpOK (op := .geq) (ty := 2) (k := .i64) (n := (sn 1)) (m := 1) (t := true) (a := d) (b := 1) (by kernel_rfl) (by kernel_rfl) (congrArg some ((ge_c h0 rfl)))) (all_cons (cmpOK (op := .lss) (ty := 2) (k := .i64) (n := (sn 1)) (m := 1000000000000000000) (t := true) (a := d) (b := 1000000000000000000) (by kernel_rfl) (by kernel_rfl) (congrArg some ((lt_c h1 rfl)))) (all_cons (cmpOK (op := .gtr) (ty := 2) (k := .i64) (n := (sn 0)) (m := (-1000000000000000000)) (t := true) (a := n) (b := (-1000000000000000000)) (by kernel_rfl) (by kernel_rfl) (congrArg some ((gt_of_le h2)))) (all_cons (cmpOK (op := .lss) (ty := 2) (k := .i64) (n := (sn 0)) (m := 1000000000000000000) (t := true) (a := n) (b := 1000000000000000000) (by kernel_rfl) (by kernel_rfl) (congrArg some ((lt_c h3 rfl)))) (all_cons (cmpOK (op := .eql) (ty := 45) (k := .u64) (n := (sn 4)) (m := 1) (t := false) (a := ((((Nat.gcd n.natAbs d.natAbs) : Nat) : Int))) (b := 1) (by kernel_rfl) (by kernel_rfl) (congrArg some (h4))) all_nil))))), all_nil, (all_cons (convOK (s := 2) (d := 45) (ds := .int .i64) (k := .i64) (l := .u64) (n := (sn 1)) (r := (sn 2)) (a := d) (c := ((((d.natAbs) : Nat) : Int))) (by kernel_rfl) (by kernel_rfl) (by kernel_rfl) (by kernel_rfl) (by rw [IntKind.wrap_u64]; have g := of_decide_eq_false h0; omega)) all_nil), all_nil, (all_cons (callOK (f := 46) (args := [sy 0]) (v := syk .u64 3) (args' := #[.int .i64 n]) (v' := .int .u64 ((((n.natAbs) : Nat) : Int))) (by kernel_rfl) (by kernel_rfl) (by kernel_rfl) (fun w => rsize_any n w hn)) (all_cons (callOK (f := 45) (args := [syk .u64 3, syk .u64 2]) (v := syk .u64 4) (args' := #[.int .u64 ((((n.natAbs) : Nat) : Int)), .int .u64 ((((d.natAbs) : Nat) : Int))]) (v' := .int .u64 ((((Nat.gcd n.natAbs d.natAbs) : Nat) : Int))) (by kernel_rfl) (by kernel_rfl) (by kernel_rfl) (fun w => gcdR_any n.natAbs d.natAbs w (show (n).natAbs < 18446744073709551616 by have q := hn; simp only [bd] at q; omega) (show d.natAbs < 18446744073709551616 by simp only [bd] at hd; omega))) all_nil)), all_nil, all_nil, all_nil, all_nil, all_nil, all_nil, all_nil, all_nil, all_nil, all_nil, all_nil, all_nil⟩ 1000 50 15 [.agg #[sy 0, sy 1]] (.bool false) (args' := #[.agg #[.int .i64 n, .int .i64 d]]) (v' := .bool false) (by kernel_rfl) (by kernel_rfl) (by kernel_rfl) w (Below.refl _ _)
          · have hr : (.bool (validB n d) : Value) = .bool true := by (refine congrArg Value.bool ?_; unfold validB gcdN; rw [ge1_le, geB_le]; simp only [h0, h1, h2, h3, h4]; simp)
            rw [hr]
            exact run_know (P := Tryd.prog) (ρ := env [n, d, (((d.natAbs) : Nat) : Int), (((n.natAbs) : Nat) : Int), (((Nat.gcd n.natAbs d.natAbs) : Nat) : Int)] [] w) (o := { bin := [(.geq, 2, .int .i64 (sn 1), .int .i64 1, .bool true), (.lss, 2, .int .i64 (sn 1), .int .i64 1000000000000000000, .bool true), (.gtr, 2, .int .i64 (sn 0), .int .i64 (-1000000000000000000), .bool true), (.lss, 2, .int .i64 (sn 0), .int .i64 1000000000000000000, .bool true), (.eql, 45, .int .u64 (sn 4), .int .u64 1, .bool true)], conv := [(2, 45, sy 1, syk .u64 2)], calls := [(46, [sy 0], syk .u64 3), (45, [syk .u64 3, syk .u64 2], syk .u64 4)] }) ⟨(all_cons (cmpOK (op := .geq) (ty := 2) (k := .i64) (n := (sn 1)) (m := 1) (t := true) (a := d) (b := 1) (by kernel_rfl) (by kernel_rfl) (congrArg some ((ge_c h0 rfl)))) (all_cons (cmpOK (op := .lss) (ty := 2) (k := .i64) (n := (sn 1)) (m := 1000000000000000000) (t := true) (a := d) (b := 1000000000000000000) (by kernel_rfl) (by kernel_rfl) (congrArg some ((lt_c h1 rfl)))) (all_cons (cmpOK (op := .gtr) (ty := 2) (k := .i64) (n := (sn 0)) (m := (-1000000000000000000)) (t := true) (a := n) (b := (-1000000000000000000)) (by kernel_rfl) (by kernel_rfl) (congrArg some ((gt_of_le h2)))) (all_cons (cmpOK (op := .lss) (ty := 2) (k := .i64) (n := (sn 0)) (m := 1000000000000000000) (t := true) (a := n) (b := 1000000000000000000) (by kernel_rfl) (by kernel_rfl) (congrArg some ((lt_c h3 rfl)))) (all_cons (cmpOK (op := .eql) (ty := 45) (k := .u64) (n := (sn 4)) (m := 1) (t := true) (a := ((((Nat.gcd n.natAbs d.natAbs) : Nat) : Int))) (b := 1) (by kernel_rfl) (by kernel_rfl) (congrArg some (h4))) all_nil))))), all_nil, (all_cons (convOK (s := 2) (d := 45) (ds := .int .i64) (k := .i64) (l := .u64) (n := (sn 1)) (r := (sn 2)) (a := d) (c := ((((d.natAbs) : Nat) : Int))) (by kernel_rfl) (by kernel_rfl) (by kernel_rfl) (by kernel_rfl) (by rw [IntKind.wrap_u64]; have g := of_decide_eq_false h0; omega)) all_nil), all_nil, (all_cons (callOK (f := 46) (args := [sy 0]) (v := syk .u64 3) (args' := #[.int .i64 n]) (v' := .int .u64 ((((n.natAbs) : Nat) : Int))) (by kernel_rfl) (by kernel_rfl) (by kernel_rfl) (fun w => rsize_any n w hn)) (all_cons (callOK (f := 45) (args := [syk .u64 3, syk .u64 2]) (v := syk .u64 4) (args' := #[.int .u64 ((((n.natAbs) : Nat) : Int)), .int .u64 ((((d.natAbs) : Nat) : Int))]) (v' := .int .u64 ((((Nat.gcd n.natAbs d.natAbs) : Nat) : Int))) (by kernel_rfl) (by kernel_rfl) (by kernel_rfl) (fun w => gcdR_any n.natAbs d.natAbs w (show (n).natAbs < 18446744073709551616 by have q := hn; simp only [bd] at q; omega) (show d.natAbs < 18446744073709551616 by simp only [bd] at hd; omega))) all_nil)), all_nil, all_nil, all_nil, all_nil, all_nil, all_nil, all_nil, all_nil, all_nil, all_nil, all_nil, all_nil⟩ 1000 50 15 [.agg #[sy 0, sy 1]] (.bool true) (args' := #[.agg #[.int .i64 n, .int .i64 d]]) (v' := .bool true) (by kernel_rfl) (by kernel_rfl) (by kernel_rfl) w (Below.refl _ _)
      · have hr : (.bool (validB n d) : Value) = .bool false := by (refine congrArg Value.bool ?_; unfold validB gcdN; rw [ge1_le, geB_le]; simp only [h0, h1, h2]; simp)
        rw [hr]
        exact run_know (P := Tryd.prog) (ρ := env [n, d] [] w) (o := { bin := [(.geq, 2, .int .i64 (sn 1), .int .i64 1, .bool true), (.lss, 2, .int .i64 (sn 1), .int .i64 1000000000000000000, .bool true), (.gtr, 2, .int .i64 (sn 0), .int .i64 (-1000000000000000000), .bool false)] }) ⟨(all_cons (cmpOK (op := .geq) (ty := 2) (k := .i64) (n := (sn 1)) (m := 1) (t := true) (a := d) (b := 1) (by kernel_rfl) (by kernel_rfl) (congrArg some ((ge_c h0 rfl)))) (all_cons (cmpOK (op := .lss) (ty := 2) (k := .i64) (n := (sn 1)) (m := 1000000000000000000) (t := true) (a := d) (b := 1000000000000000000) (by kernel_rfl) (by kernel_rfl) (congrArg some ((lt_c h1 rfl)))) (all_cons (cmpOK (op := .gtr) (ty := 2) (k := .i64) (n := (sn 0)) (m := (-1000000000000000000)) (t := false) (a := n) (b := (-1000000000000000000)) (by kernel_rfl) (by kernel_rfl) (congrArg some ((gt_of_le h2)))) all_nil))), all_nil, all_nil, all_nil, all_nil, all_nil, all_nil, all_nil, all_nil, all_nil, all_nil, all_nil, all_nil, all_nil, all_nil, all_nil, all_nil⟩ 1000 50 15 [.agg #[sy 0, sy 1]] (.bool false) (args' := #[.agg #[.int .i64 n, .int .i64 d]]) (v' := .bool false) (by kernel_rfl) (by kernel_rfl) (by kernel_rfl) w (Below.refl _ _)
  · have hr : (.bool (validB n d) : Value) = .bool false := by (refine congrArg Value.bool ?_; unfold validB gcdN; rw [ge1_le, geB_le]; simp only [h0]; simp)
    rw [hr]
    exact run_know (P := Tryd.prog) (ρ := env [n, d] [] w) (o := { bin := [(.geq, 2, .int .i64 (sn 1), .int .i64 1, .bool false)] }) ⟨(all_cons (cmpOK (op := .geq) (ty := 2) (k := .i64) (n := (sn 1)) (m := 1) (t := false) (a := d) (b := 1) (by kernel_rfl) (by kernel_rfl) (congrArg some ((ge_c h0 rfl)))) all_nil), all_nil, all_nil, all_nil, all_nil, all_nil, all_nil, all_nil, all_nil, all_nil, all_nil, all_nil, all_nil, all_nil, all_nil, all_nil, all_nil⟩ 1000 50 15 [.agg #[sy 0, sy 1]] (.bool false) (args' := #[.agg #[.int .i64 n, .int .i64 d]]) (v' := .bool false) (by kernel_rfl) (by kernel_rfl) (by kernel_rfl) w (Below.refl _ _)
theorem frac_same (d : Nat) (a0 a1 b0 b1 : Int) (w : World) : (Op.equalIn (d + 2) 23 (.agg #[.int .i64 a0, .int .i64 a1]) (.agg #[.int .i64 b0, .int .i64 b1])).run Tryd.prog w = .ok ((a0 == b0) && (a1 == b1)) w := by
  rw [run_equalIn_agg w (d + 1) 23 _ _ (by kernel_rfl) (by kernel_rfl)]
  have hf : (Tryd.prog.fieldsOf 23).toList.map (fun f => (f.name, f.type, f.offset)) = [("Num", 2, 0), ("Den", 2, 1)] := by kernel_rfl
  generalize (Tryd.prog.fieldsOf 23).toList = fs at hf
  rcases fs with _ | ⟨f0, _ | ⟨f1, _ | ⟨h, r⟩⟩⟩ <;> simp at hf
  obtain ⟨⟨u0, v0, s0⟩, u1, v1, s1⟩ := hf
  have p0 : ∀ x0 x1 w, (part 2 #[.int .i64 x0, .int .i64 x1] 0).run Tryd.prog w = .ok (.int .i64 x0) w := fun _ _ _ => by kernel_rfl
  have q0 : ∀ x y w, (Op.equalIn (d + 1) 2 (.int .i64 x) (.int .i64 y)).run Tryd.prog w = .ok (x == y) w := fun x y w => run_equalIn_int w d 2 .i64 .i64 x y (by kernel_rfl)
  have p1 : ∀ x0 x1 w, (part 2 #[.int .i64 x0, .int .i64 x1] 1).run Tryd.prog w = .ok (.int .i64 x1) w := fun _ _ _ => by kernel_rfl
  have q1 : ∀ x y w, (Op.equalIn (d + 1) 2 (.int .i64 x) (.int .i64 y)).run Tryd.prog w = .ok (x == y) w := fun x y w => run_equalIn_int w d 2 .i64 .i64 x y (by kernel_rfl)
  simp only [Op.eqFields, Sem.run_bind]
  rw [u0, v0, s0, u1, v1, s1]
  rw [if_pos (by decide), Sem.run_bind, p0]
  simp only [Result.andThen_ok, Sem.run_bind]
  rw [p0]
  simp only [Result.andThen_ok, Sem.run_bind]
  rw [q0]
  simp only [Result.andThen_ok]
  rcases h0 : a0 == b0
  · simp
  simp only [Bool.not_true, Bool.false_eq_true, if_false, Bool.true_and]
  rw [if_pos (by decide), Sem.run_bind, p1]
  simp only [Result.andThen_ok, Sem.run_bind]
  rw [p1]
  simp only [Result.andThen_ok, Sem.run_bind]
  rw [q1]
  simp only [Result.andThen_ok]
  rcases h1 : a1 == b1
  · simp
  · simp
theorem frac_eql (a0 a1 b0 b1 : Int) (w : World) : (binOp .eql 23 (.agg #[.int .i64 a0, .int .i64 a1]) (.agg #[.int .i64 b0, .int .i64 b1])).run Tryd.prog w = .ok (.bool ((a0 == b0) && (a1 == b1))) w := by
  rw [run_eql_struct, frac_same 9998]; rfl
theorem frac_neq (a0 a1 b0 b1 : Int) (w : World) : (binOp .neq 23 (.agg #[.int .i64 a0, .int .i64 a1]) (.agg #[.int .i64 b0, .int .i64 b1])).run Tryd.prog w = .ok (.bool (!((a0 == b0) && (a1 == b1)))) w := by
  rw [run_neq_struct, frac_same 9998]; rfl
theorem frac_guard (op : BinOp) (x y : Operand) (xs ys : Array Value) (w : World) : (eqGuard op 23 x y (.agg xs) (.agg ys)).run Tryd.prog w = .ok () w := run_eqGuard_agg w op _ x y xs ys (by kernel_rfl)
theorem awake_any  (w : World) (w0 : World) (ht : Tab w0) (hw : Below w0.heap.size w0 w) : Calls Tryd.prog 13 #[] w fun e w' => e = .returned (.bool true) ∧ Below w.heap.size w w' := by
  exact run_know (P := Tryd.prog) (ρ := env [] [] w0) (o := { calls := [(61, [.string ⟨#[50]⟩, .int .i64 10, .int .i64 64], .tuple #[.int .i64 2, .nilIface]), (61, [.string ⟨#[52]⟩, .int .i64 10, .int .i64 64], .tuple #[.int .i64 4, .nilIface]), (62, [.int .i64 (-3), .int .i64 10], .string ⟨#[45, 51]⟩), (62, [.int .i64 2, .int .i64 10], .string ⟨#[50]⟩)] }) ⟨all_nil, all_nil, all_nil, all_nil, (all_cons (callOK (f := 61) (args := [.string ⟨#[50]⟩, .int .i64 10, .int .i64 64]) (v := .tuple #[.int .i64 2, .nilIface]) (args' := #[.string ⟨#[50]⟩, .int .i64 10, .int .i64 64]) (v' := .tuple #[.int .i64 2, .nilIface]) (by kernel_rfl) (by kernel_rfl) (by kernel_rfl) (fun w => parse_known [50] 2 (by decide) (by decide) w)) (all_cons (callOK (f := 61) (args := [.string ⟨#[52]⟩, .int .i64 10, .int .i64 64]) (v := .tuple #[.int .i64 4, .nilIface]) (args' := #[.string ⟨#[52]⟩, .int .i64 10, .int .i64 64]) (v' := .tuple #[.int .i64 4, .nilIface]) (by kernel_rfl) (by kernel_rfl) (by kernel_rfl) (fun w => parse_known [52] 4 (by decide) (by decide) w)) (all_cons (callOKb (f := 62) (args := [.int .i64 (-3), .int .i64 10]) (v := .string ⟨#[45, 51]⟩) (args' := #[.int .i64 (-3), .int .i64 10]) (v' := .string ⟨#[45, 51]⟩) (by kernel_rfl) (by kernel_rfl) (by kernel_rfl) (fun w1 hw1 => by have q := format_known (-3) (by decide) (by decide) w1 (ht.on hw1); rw [show Lib.itoa (-3) = [45, 51] from by decide +kernel] at q; exact q)) (all_cons (callOKb (f := 62) (args := [.int .i64 2, .int .i64 10]) (v := .string ⟨#[50]⟩) (args' := #[.int .i64 2, .int .i64 10]) (v' := .string ⟨#[50]⟩) (by kernel_rfl) (by kernel_rfl) (by kernel_rfl) (fun w1 hw1 => by have q := format_known (2) (by decide) (by decide) w1 (ht.on hw1); rw [show Lib.itoa (2) = [50] from by decide +kernel] at q; exact q)) all_nil)))), all_nil, all_nil, all_nil, all_nil, all_nil, all_nil, all_nil, all_nil, all_nil, all_nil, all_nil, all_nil⟩ 1000 50 13 [] (.bool true) (args' := #[]) (v' := .bool true) (by kernel_rfl) (by kernel_rfl) (by kernel_rfl) w hw
/-- what the row says of a struct of two numbers -/
def has2 (a b : Int) : Prop := ∀ n ∈ [a, b], IntKind.i64.has n
theorem has2_bd {a b : Int} (h : has2 a b) : bd (-9223372036854775808) 9223372036854775807 a ∧ bd (-9223372036854775808) 9223372036854775807 b := by
  have h1 := h a (by simp); have h2 := h b (by simp)
  simp only [IntKind.has, IntKind.min, IntKind.max] at h1 h2
  exact ⟨h1, h2⟩
def itoaB (n : Int) : ByteArray := ⟨(Lib.itoa n).toArray⟩
def denB (d : Int) : ByteArray := ⟨#[47]⟩ ++ itoaB d
def textB (n d : Int) : ByteArray := if d = 1 then itoaB n else itoaB n ++ denB d
theorem strAdd {P : Program} {a b : ByteArray} (h : a.size + b.size ≤ 1000000000000) (w : World) : (Op.stringOp .add a b).run P w = .ok (.string (a ++ b)) w := by
  have : ¬ (((a.size + b.size : Nat) : Int) > IntKind.i64.max) := by rw [show IntKind.i64.max = 9223372036854775807 from rfl]; omega
  simp only [Op.stringOp]
  rw [if_neg this]; rfl
theorem dec_len : ∀ (k u : Nat), u < 10 ^ (k + 1) → (Lib.decDigits u).length ≤ k + 1
  | 0, u, h => by rw [Lib.decDigits_one (by simpa using h)]; simp
  | k + 1, u, h => by
    rw [Lib.decDigits]
    split
    · simp
    · have := dec_len k (u / 10) (by rw [Nat.div_lt_iff_lt_mul (by decide)]; rw [Nat.pow_succ] at h; exact h)
      simp only [List.length_append, List.length_cons, List.length_nil]; omega
theorem itoa_size {n : Int} (h : bd (-9223372036854775808) 9223372036854775807 n) : (itoaB n).size ≤ 21 := by
  show (Lib.itoa n).toArray.size ≤ 21
  simp only [bd] at h
  rw [List.size_toArray]
  unfold Lib.itoa
  split
  · have := dec_len 19 n.natAbs (by omega)
    simp only [List.length_cons]; omega
  · have := dec_len 19 n.toNat (by omega)
    omega
theorem denB_size {n : Int} (h : bd (-9223372036854775808) 9223372036854775807 n) : (denB n).size ≤ 22 := by
  have := itoa_size h
  unfold denB
  rw [ByteArray.size_append]
  have e : (⟨#[47]⟩ : ByteArray).size = 1 := rfl
  omega
def textF (n d : Int) : Value := if validB n d = true then .tuple #[.string (textB n d), .int .i64 0] else .tuple #[.string ⟨#[]⟩, .int .i64 1]
theorem text_any (n1 d1 : Int) (w : World) (hn1 : bd (-9223372036854775808) 9223372036854775807 n1) (hd1 : bd (-9223372036854775808) 9223372036854775807 d1) (w0 : World) (ht : Tab w0) (hw : Below w0.heap.size w0 w) : Calls Tryd.prog 37 #[.agg #[.int .i64 n1, .int .i64 d1]] w fun e w' => e = .returned (textF n1 d1) ∧ Below w.heap.size w w' := by
  rcases h0 : (validB n1 d1) with _ | _
  · have hr : ((textF n1 d1) : Value) = .tuple #[.string ⟨#[]⟩, .int .i64 1] := by (unfold textF; rw [h0]; rfl)
    rw [hr]
    exact run_know (P := Tryd.prog) (ρ := env [n1, d1] [] w0) (o := { calls := [(14, [.agg #[sy 0, sy 1]], .bool false)] }) ⟨all_nil, all_nil, all_nil, all_nil, (all_cons (callOK (f := 14) (args := [.agg #[sy 0, sy 1]]) (v := .bool false) (args' := #[.agg #[.int .i64 n1, .int .i64 d1]]) (v' := .bool false) (by kernel_rfl) (by kernel_rfl) (by kernel_rfl) (fun w => by have q := valid_any n1 d1 w hn1 hd1; rw [h0] at q; exact q)) all_nil), all_nil, all_nil, all_nil, all_nil, all_nil, all_nil, all_nil, all_nil, all_nil, all_nil, all_nil, all_nil⟩ 1000 50 37 [.agg #[sy 0, sy 1]] (.tuple #[.string ⟨#[]⟩, .int .i64 1]) (args' := #[.agg #[.int .i64 n1, .int .i64 d1]]) (v' := .tuple #[.string ⟨#[]⟩, .int .i64 1]) (by kernel_rfl) (by kernel_rfl) (by kernel_rfl) w hw
  · rcases h1 : (d1 == 1) with _ | _
    · have hr : ((textF n1 d1) : Value) = .tuple #[(.string (itoaB n1 ++ denB d1)), .int .i64 0] := by (unfold textF; rw [h0]; simp only [if_true, reduceIte]; unfold textB; rw [if_neg (by simpa using h1)])
      rw [hr]
      exact run_know (P := Tryd.prog) (ρ := env [n1, d1] [(.string (itoaB n1)), (.string (itoaB d1)), (.string (denB d1)), (.string (itoaB n1 ++ denB d1))] w0) (o := { bin := [(.neq, 2, .int .i64 (sn 1), .int .i64 1, .bool true), (.add, 9, .string ⟨#[47]⟩, oq 1, oq 2), (.add, 9, oq 0, oq 2, oq 3)], calls := [(14, [.agg #[sy 0, sy 1]], .bool true), (62, [sy 0, .int .i64 10], oq 0), (62, [sy 1, .int .i64 10], oq 1)] }) ⟨(all_cons (cmpOK (op := .neq) (ty := 2) (k := .i64) (n := (sn 1)) (m := 1) (t := true) (a := d1) (b := 1) (by kernel_rfl) (by kernel_rfl) (congrArg some ((ne_of h1)))) (all_cons (strOK (op := .add) (ty := 9) (x := .string ⟨#[47]⟩) (y := oq 1) (r := oq 2) (v := (.string (denB d1))) (a := ⟨#[47]⟩) (b := itoaB d1) (by kernel_rfl) rfl rfl rfl (fun w => strAdd (by have := itoa_size hd1; have e : (⟨#[47]⟩ : ByteArray).size = 1 := rfl; omega) w)) (all_cons (strOK (op := .add) (ty := 9) (x := oq 0) (y := oq 2) (r := oq 3) (v := (.string (itoaB n1 ++ denB d1))) (a := itoaB n1) (b := denB d1) (by kernel_rfl) rfl rfl rfl (fun w => strAdd (by have := itoa_size hn1; have := denB_size hd1; omega) w)) all_nil))), all_nil, all_nil, all_nil, (all_cons (callOK (f := 14) (args := [.agg #[sy 0, sy 1]]) (v := .bool true) (args' := #[.agg #[.int .i64 n1, .int .i64 d1]]) (v' := .bool true) (by kernel_rfl) (by kernel_rfl) (by kernel_rfl) (fun w => by have q := valid_any n1 d1 w hn1 hd1; rw [h0] at q; exact q)) (all_cons (callOKb (f := 62) (args := [sy 0, .int .i64 10]) (v := oq 0) (args' := #[.int .i64 n1, .int .i64 10]) (v' := (.string (itoaB n1))) (by kernel_rfl) (by kernel_rfl) (by kernel_rfl) (fun w1 hw1 => format_known n1 (by simp only [bd] at hn1 hd1; omega) (by simp only [bd] at hn1 hd1; omega) w1 (ht.on hw1))) (all_cons (callOKb (f := 62) (args := [sy 1, .int .i64 10]) (v := oq 1) (args' := #[.int .i64 d1, .int .i64 10]) (v' := (.string (itoaB d1))) (by kernel_rfl) (by kernel_rfl) (by kernel_rfl) (fun w1 hw1 => format_known d1 (by simp only [bd] at hn1 hd1; omega) (by simp only [bd] at hn1 hd1; omega) w1 (ht.on hw1))) all_nil))), all_nil, all_nil, all_nil, all_nil, all_nil, all_nil, all_nil, all_nil, all_nil, all_nil, all_nil, all_nil⟩ 1000 50 37 [.agg #[sy 0, sy 1]] (.tuple #[oq 3, .int .i64 0]) (args' := #[.agg #[.int .i64 n1, .int .i64 d1]]) (v' := .tuple #[(.string (itoaB n1 ++ denB d1)), .int .i64 0]) (by kernel_rfl) (by kernel_rfl) (by kernel_rfl) w hw
    · have hr : ((textF n1 d1) : Value) = .tuple #[(.string (itoaB n1)), .int .i64 0] := by (unfold textF; rw [h0]; simp only [if_true, reduceIte]; unfold textB; rw [if_pos (by simpa using h1)])
      rw [hr]
      exact run_know (P := Tryd.prog) (ρ := env [n1, d1] [(.string (itoaB n1))] w0) (o := { bin := [(.neq, 2, .int .i64 (sn 1), .int .i64 1, .bool false)], calls := [(14, [.agg #[sy 0, sy 1]], .bool true), (62, [sy 0, .int .i64 10], oq 0)] }) ⟨(all_cons (cmpOK (op := .neq) (ty := 2) (k := .i64) (n := (sn 1)) (m := 1) (t := false) (a := d1) (b := 1) (by kernel_rfl) (by kernel_rfl) (congrArg some ((ne_of h1)))) all_nil), all_nil, all_nil, all_nil, (all_cons (callOK (f := 14) (args := [.agg #[sy 0, sy 1]]) (v := .bool true) (args' := #[.agg #[.int .i64 n1, .int .i64 d1]]) (v' := .bool true) (by kernel_rfl) (by kernel_rfl) (by kernel_rfl) (fun w => by have q := valid_any n1 d1 w hn1 hd1; rw [h0] at q; exact q)) (all_cons (callOKb (f := 62) (args := [sy 0, .int .i64 10]) (v := oq 0) (args' := #[.int .i64 n1, .int .i64 10]) (v' := (.string (itoaB n1))) (by kernel_rfl) (by kernel_rfl) (by kernel_rfl) (fun w1 hw1 => format_known n1 (by simp only [bd] at hn1 hd1; omega) (by simp only [bd] at hn1 hd1; omega) w1 (ht.on hw1))) all_nil)), all_nil, all_nil, all_nil, all_nil, all_nil, all_nil, all_nil, all_nil, all_nil, all_nil, all_nil, all_nil⟩ 1000 50 37 [.agg #[sy 0, sy 1]] (.tuple #[oq 0, .int .i64 0]) (args' := #[.agg #[.int .i64 n1, .int .i64 d1]]) (v' := .tuple #[(.string (itoaB n1)), .int .i64 0]) (by kernel_rfl) (by kernel_rfl) (by kernel_rfl) w hw
theorem rtext_any (n1 d1 : Int) (w : World) (hn1 : bd (-9223372036854775808) 9223372036854775807 n1) (hd1 : bd (-9223372036854775808) 9223372036854775807 d1) (w0 : World) (ht : Tab w0) (hw : Below w0.heap.size w0 w) : Calls Tryd.prog 38 #[.agg #[.int .i64 n1, .int .i64 d1]] w fun e w' => e = .returned (.string (textB n1 d1)) ∧ Below w.heap.size w w' := by
  rcases h0 : (d1 == 1) with _ | _
  · have hr : (.string (textB n1 d1) : Value) = (.string (itoaB n1 ++ denB d1)) := by (unfold textB; rw [if_neg (by simpa using h0)])
    rw [hr]
    exact run_know (P := Tryd.prog) (ρ := env [n1, d1] [(.string (itoaB n1)), (.string (itoaB d1)), (.string (denB d1)), (.string (itoaB n1 ++ denB d1))] w0) (o := { bin := [(.neq, 2, .int .i64 (sn 1), .int .i64 1, .bool true), (.add, 9, .string ⟨#[47]⟩, oq 1, oq 2), (.add, 9, oq 0, oq 2, oq 3)], calls := [(62, [sy 0, .int .i64 10], oq 0), (62, [sy 1, .int .i64 10], oq 1)] }) ⟨(all_cons (cmpOK (op := .neq) (ty := 2) (k := .i64) (n := (sn 1)) (m := 1) (t := true) (a := d1) (b := 1) (by kernel_rfl) (by kernel_rfl) (congrArg some ((ne_of h0)))) (all_cons (strOK (op := .add) (ty := 9) (x := .string ⟨#[47]⟩) (y := oq 1) (r := oq 2) (v := (.string (denB d1))) (a := ⟨#[47]⟩) (b := itoaB d1) (by kernel_rfl) rfl rfl rfl (fun w => strAdd (by have := itoa_size hd1; have e : (⟨#[47]⟩ : ByteArray).size = 1 := rfl; omega) w)) (all_cons (strOK (op := .add) (ty := 9) (x := oq 0) (y := oq 2) (r := oq 3) (v := (.string (itoaB n1 ++ denB d1))) (a := itoaB n1) (b := denB d1) (by kernel_rfl) rfl rfl rfl (fun w => strAdd (by have := itoa_size hn1; have := denB_size hd1; omega) w)) all_nil))), all_nil, all_nil, all_nil, (all_cons (callOKb (f := 62) (args := [sy 0, .int .i64 10]) (v := oq 0) (args' := #[.int .i64 n1, .int .i64 10]) (v' := (.string (itoaB n1))) (by kernel_rfl) (by kernel_rfl) (by kernel_rfl) (fun w1 hw1 => format_known n1 (by simp only [bd] at hn1 hd1; omega) (by simp only [bd] at hn1 hd1; omega) w1 (ht.on hw1))) (all_cons (callOKb (f := 62) (args := [sy 1, .int .i64 10]) (v := oq 1) (args' := #[.int .i64 d1, .int .i64 10]) (v' := (.string (itoaB d1))) (by kernel_rfl) (by kernel_rfl) (by kernel_rfl) (fun w1 hw1 => format_known d1 (by simp only [bd] at hn1 hd1; omega) (by simp only [bd] at hn1 hd1; omega) w1 (ht.on hw1))) all_nil)), all_nil, all_nil, all_nil, all_nil, all_nil, all_nil, all_nil, all_nil, all_nil, all_nil, all_nil, all_nil⟩ 1000 50 38 [.agg #[sy 0, sy 1]] (oq 3) (args' := #[.agg #[.int .i64 n1, .int .i64 d1]]) (v' := (.string (itoaB n1 ++ denB d1))) (by kernel_rfl) (by kernel_rfl) (by kernel_rfl) w hw
  · have hr : (.string (textB n1 d1) : Value) = (.string (itoaB n1)) := by (unfold textB; rw [if_pos (by simpa using h0)])
    rw [hr]
    exact run_know (P := Tryd.prog) (ρ := env [n1, d1] [(.string (itoaB n1))] w0) (o := { bin := [(.neq, 2, .int .i64 (sn 1), .int .i64 1, .bool false)], calls := [(62, [sy 0, .int .i64 10], oq 0)] }) ⟨(all_cons (cmpOK (op := .neq) (ty := 2) (k := .i64) (n := (sn 1)) (m := 1) (t := false) (a := d1) (b := 1) (by kernel_rfl) (by kernel_rfl) (congrArg some ((ne_of h0)))) all_nil), all_nil, all_nil, all_nil, (all_cons (callOKb (f := 62) (args := [sy 0, .int .i64 10]) (v := oq 0) (args' := #[.int .i64 n1, .int .i64 10]) (v' := (.string (itoaB n1))) (by kernel_rfl) (by kernel_rfl) (by kernel_rfl) (fun w1 hw1 => format_known n1 (by simp only [bd] at hn1 hd1; omega) (by simp only [bd] at hn1 hd1; omega) w1 (ht.on hw1))) all_nil), all_nil, all_nil, all_nil, all_nil, all_nil, all_nil, all_nil, all_nil, all_nil, all_nil, all_nil, all_nil⟩ 1000 50 38 [.agg #[sy 0, sy 1]] (oq 0) (args' := #[.agg #[.int .i64 n1, .int .i64 d1]]) (v' := (.string (itoaB n1))) (by kernel_rfl) (by kernel_rfl) (by kernel_rfl) w hw
theorem pu_snoc : ∀ (l : List UInt8) (acc a : Nat) (c : UInt8), Lib.parseUint10 acc l = .ok a → Lib.parseUint10 acc (l ++ [c]) = Lib.parseUint10 a [c] := by
  intro l
  induction l with
  | nil => intro acc a c h; simp only [Lib.parseUint10] at h; cases h; rfl
  | cons b r ih =>
    intro acc a c h
    rw [List.cons_append]
    rw [Lib.parseUint10] at h ⊢
    split at h
    · rename_i hb
      rw [if_pos hb]
      split at h
      · cases h
      · rename_i h1
        rw [if_neg h1]
        split at h
        · cases h
        · rename_i h2
          rw [if_neg h2]
          exact ih _ a c h
    · cases h
theorem dig_nat {k : Nat} (h : k < 10) : (UInt8.ofNat (48 + k)).toNat = 48 + k := by
  rw [UInt8.toNat_ofNat']; omega
theorem pu_dec : ∀ (u : Nat), u ≤ 9223372036854775808 → Lib.parseUint10 0 (Lib.decDigits u) = .ok u := by
  intro u
  induction u using Nat.strongRecOn with
  | _ u ih =>
    intro hu
    rw [Lib.decDigits]
    split
    · rename_i h
      rw [Lib.parseUint10, dig_nat h, if_pos (by omega), if_neg (by omega), if_neg (by omega)]
      simp only [Lib.parseUint10]
      congr 1; omega
    · rename_i h
      rw [pu_snoc _ _ _ _ (ih (u / 10) (by omega) (by omega))]
      rw [Lib.parseUint10, dig_nat (by omega), if_pos (by omega), if_neg (by omega), if_neg (by omega)]
      simp only [Lib.parseUint10]
      congr 1; omega
theorem dec_first : ∀ (u : Nat), ∃ c r, Lib.decDigits u = c :: r ∧ 48 ≤ c.toNat ∧ c.toNat ≤ 57 := by
  intro u
  induction u using Nat.strongRecOn with
  | _ u ih =>
    rw [Lib.decDigits]
    split
    · rename_i h
      exact ⟨_, _, rfl, by rw [dig_nat h]; omega, by rw [dig_nat h]; omega⟩
    · rename_i h
      obtain ⟨c, r, h1, h2, h3⟩ := ih (u / 10) (by omega)
      exact ⟨c, r ++ [UInt8.ofNat (48 + u % 10)], by rw [h1]; rfl, h2, h3⟩
theorem dec_all : ∀ (u : Nat), ∀ c ∈ Lib.decDigits u, 48 ≤ c.toNat := by
  intro u
  induction u using Nat.strongRecOn with
  | _ u ih =>
    intro c hc
    rw [Lib.decDigits] at hc
    split at hc
    · rename_i h
      simp only [List.mem_singleton] at hc
      subst hc; rw [dig_nat h]; omega
    · rename_i h
      rcases List.mem_append.1 hc with hc | hc
      · exact ih (u / 10) (by omega) c hc
      · simp only [List.mem_singleton] at hc
        subst hc; rw [dig_nat (by omega)]; omega
theorem parse_itoa (n : Int) (h0 : -9223372036854775808 ≤ n) (h1 : n ≤ 9223372036854775807) : Lib.parseIntB 64 (Lib.itoa n) = .ok n := by
  rw [Lib.parseIntB_64]
  unfold Lib.itoa
  split
  · rename_i hn
    rw [Lib.atoiAll_minus]
    obtain ⟨c, r, e1, _⟩ := dec_first n.natAbs
    have : Lib.parseMag (Lib.decDigits n.natAbs) = .ok n.natAbs := by
      unfold Lib.parseMag
      rw [if_neg (by rw [e1]; simp)]
      exact pu_dec _ (by omega)
    rw [this]
    simp only [Lib.signed]
    rw [if_neg (by omega)]
    congr 1; omega
  · rename_i hn
    obtain ⟨c, r, e1, e2, e3⟩ := dec_first n.toNat
    have hp : Lib.parseMag (Lib.decDigits n.toNat) = .ok n.toNat := by
      unfold Lib.parseMag
      rw [if_neg (by rw [e1]; simp)]
      exact pu_dec _ (by omega)
    rw [e1] at hp ⊢
    rw [Lib.atoiAll_plain _ _ (by omega) (by omega), hp]
    simp only [Lib.signless]
    rw [if_neg (by omega)]
    congr 1; omega
theorem itoa_noslash (n : Int) : ∀ c ∈ Lib.itoa n, c ≠ 47 := by
  intro c hc q
  subst q
  unfold Lib.itoa at hc
  split at hc
  · rcases List.mem_cons.1 hc with h | h
    · exact absurd h (by decide)
    · have := dec_all _ _ h; exact absurd this (by decide)
  · have := dec_all _ _ hc; exact absurd this (by decide)
/-- what a text reads as -/
def pvB (s : ByteArray) : Int := match Lib.parseIntB 64 s.data.toList with | .ok v => v | .range => Lib.intSat 64 s.data.toList | _ => 0
def pokB (s : ByteArray) : Bool := match Lib.parseIntB 64 s.data.toList with | .ok _ => true | _ => false
theorem pv_bd (s : ByteArray) : bd (-9223372036854775808) 9223372036854775807 (pvB s) := by
  unfold pvB
  split
  · rename_i v h
    have := Lib.parseIntB_bounds h
    simp at this
    exact ⟨by omega, by omega⟩
  · rw [Lib.intSat_64]
    have := Lib.atoiSat_bounds s.data.toList
    exact ⟨this.1, this.2⟩
  · exact ⟨by omega, by omega⟩
theorem itoaB_data (n : Int) : (itoaB n).data.toList = Lib.itoa n := by unfold itoaB; simp
theorem pv_itoa {n : Int} (h : bd (-9223372036854775808) 9223372036854775807 n) : pvB (itoaB n) = n ∧ pokB (itoaB n) = true := by
  unfold pvB pokB
  rw [itoaB_data, parse_itoa n h.1 h.2]
  exact ⟨rfl, rfl⟩
def slash (s : ByteArray) : Option Nat := (List.range s.size).find? fun i => bt s i == 47
def befS (s : ByteArray) : ByteArray := match slash s with | some k => s.extract 0 k | none => s
def aftS (s : ByteArray) : ByteArray := match slash s with | some k => s.extract (k + 1) s.size | none => ⟨#[49]⟩
def sameS (a b : ByteArray) : Bool := a.toList == b.toList
def okTx (s : ByteArray) : Bool := validB (pvB (befS s)) (pvB (aftS s)) && sameS (textB (pvB (befS s)) (pvB (aftS s))) s
theorem sameS_iff {a b : ByteArray} : sameS a b = true ↔ a = b := by
  unfold sameS
  rw [beq_iff_eq, ByteArray.toList_eq, ByteArray.toList_eq]
  constructor
  · intro h
    obtain ⟨⟨x⟩⟩ := a
    obtain ⟨⟨y⟩⟩ := b
    simp only at h
    subst h; rfl
  · intro h; rw [h]
theorem ba_get (s : ByteArray) (i : Nat) : s[i]? = s.data.toList[i]? := by
  by_cases h : i < s.size
  · rw [getElem?_pos s i h, List.getElem?_eq_getElem (by rw [Array.length_toList]; exact h)]
    rfl
  · rw [getElem?_neg s i h, List.getElem?_eq_none (by rw [Array.length_toList]; exact Nat.le_of_not_lt h)]
theorem bt_slash {s : ByteArray} {i : Nat} (hi : i < s.size) : (bt s i == 47) = (s.data.toList[i]? == some 47) := by
  have hl : i < s.data.toList.length := by rw [Array.length_toList]; exact hi
  unfold bt
  rw [ba_get, List.getElem?_eq_getElem hl]
  simp only [Option.getD_some]
  generalize s.data.toList[i] = c
  rw [Bool.eq_iff_iff, beq_iff_eq, beq_iff_eq, Option.some.injEq]
  constructor
  · intro h
    have : c.toNat = 47 := by omega
    exact UInt8.toNat_inj.1 this
  · intro h; subst h; rfl
theorem slash_none {s : ByteArray} (h : ∀ c ∈ s.data.toList, c ≠ 47) : slash s = none := by
  unfold slash
  rw [List.find?_eq_none]
  intro i hi
  rw [bt_slash (List.mem_range.1 hi)]
  intro q
  rw [beq_iff_eq] at q
  exact h 47 (List.mem_of_getElem? q) rfl
theorem slash_at {s : ByteArray} {a b : List UInt8} (hs : s.data.toList = a ++ 47 :: b) (ha : ∀ c ∈ a, c ≠ 47) : slash s = some a.length := by
  have hz : s.size = a.length + (b.length + 1) := by
    have : s.data.toList.length = s.size := Array.length_toList
    rw [← this, hs]; simp
  unfold slash
  refine find_first _ _ (by omega) ?_ fun i hi => ?_
  · rw [bt_slash (by omega), hs, List.getElem?_append_right (Nat.le_refl _), Nat.sub_self]; rfl
  · rw [bt_slash (by omega), hs, List.getElem?_append_left hi]
    rw [beq_eq_false_iff_ne]
    intro q
    exact ha 47 (List.mem_of_getElem? q) rfl
theorem ext_list (s : ByteArray) (i j : Nat) : (s.extract i j).data.toList = (s.data.toList.drop i).take (j - i) := by
  rw [ByteArray.data_extract, Array.toList_extract]
theorem ba_ext {a b : ByteArray} (h : a.data.toList = b.data.toList) : a = b := by
  obtain ⟨⟨x⟩⟩ := a
  obtain ⟨⟨y⟩⟩ := b
  simp only at h
  subst h; rfl
theorem one_itoa : (⟨#[49]⟩ : ByteArray) = itoaB 1 := by
  apply ba_ext
  rw [itoaB_data]
  unfold Lib.itoa
  rw [if_neg (by decide), show (1 : Int).toNat = 1 from rfl, Lib.decDigits_one (by decide)]
  rfl
theorem text_parts {n d : Int} (hn : bd (-9223372036854775808) 9223372036854775807 n) (hd : bd (-9223372036854775808) 9223372036854775807 d) {s : ByteArray} (hs : s = textB n d) :
    pvB (befS s) = n ∧ pokB (befS s) = true ∧ pvB (aftS s) = d ∧ pokB (aftS s) = true := by
  unfold textB at hs
  by_cases h1 : d = 1
  · rw [if_pos h1] at hs
    have hz : slash s = none := slash_none (by rw [hs, itoaB_data]; exact itoa_noslash n)
    have e1 : befS s = itoaB n := by unfold befS; rw [hz]; exact hs
    have e2 : aftS s = itoaB d := by unfold aftS; rw [hz, h1]; exact one_itoa
    rw [e1, e2]
    exact ⟨(pv_itoa hn).1, (pv_itoa hn).2, (pv_itoa hd).1, (pv_itoa hd).2⟩
  · rw [if_neg h1] at hs
    have hl : s.data.toList = Lib.itoa n ++ 47 :: Lib.itoa d := by
      rw [hs]
      unfold denB
      simp only [ByteArray.data_append, Array.toList_append, itoaB_data]
      rfl
    have hz := slash_at hl (itoa_noslash n)
    have hsz : s.size = (Lib.itoa n).length + ((Lib.itoa d).length + 1) := by
      have : s.data.toList.length = s.size := Array.length_toList
      rw [← this, hl]; simp
    have e1 : befS s = itoaB n := by
      unfold befS; rw [hz]
      apply ba_ext
      simp only
      rw [ext_list, itoaB_data, hl]; simp
    have e2 : aftS s = itoaB d := by
      unfold aftS; rw [hz]
      apply ba_ext
      simp only
      rw [ext_list, itoaB_data, hl, hsz]
      rw [show Lib.itoa n ++ 47 :: Lib.itoa d = (Lib.itoa n ++ [47]) ++ Lib.itoa d by simp, List.drop_left' (by simp)]
      exact List.take_of_length_le (by omega)
    rw [e1, e2]
    exact ⟨(pv_itoa hn).1, (pv_itoa hn).2, (pv_itoa hd).1, (pv_itoa hd).2⟩
theorem valid_bd {n d : Int} (h : validB n d = true) : bd (-999999999999999999) 999999999999999999 n ∧ bd 1 999999999999999999 d := by
  simp only [validB, Bool.and_eq_true, decide_eq_true_eq] at h
  exact ⟨⟨h.1.1.2, h.1.2⟩, ⟨h.1.1.1.1, h.1.1.1.2⟩⟩
theorem itoa_size18 {n : Int} (h : bd (-999999999999999999) 999999999999999999 n) : (itoaB n).size ≤ 19 := by
  show (Lib.itoa n).toArray.size ≤ 19
  simp only [bd] at h
  rw [List.size_toArray]
  unfold Lib.itoa
  split
  · have := dec_len 17 n.natAbs (by omega)
    simp only [List.length_cons]; omega
  · have := dec_len 17 n.toNat (by omega)
    omega
theorem ok_short {s : ByteArray} (h : okTx s = true) : s.size ≤ 40 := by
  simp only [okTx, Bool.and_eq_true] at h
  obtain ⟨h1, h2⟩ := h
  obtain ⟨hn, hd⟩ := valid_bd h1
  rw [← sameS_iff.1 h2]
  have a := itoa_size18 hn
  have b := itoa_size18 (n := pvB (aftS s)) ⟨by have := hd.1; omega, hd.2⟩
  unfold textB
  split
  · omega
  · unfold denB
    rw [ByteArray.size_append, ByteArray.size_append]
    have e : (⟨#[47]⟩ : ByteArray).size = 1 := rfl
    omega
theorem ok_pok {s : ByteArray} (h : okTx s = true) : pokB (befS s) = true ∧ pokB (aftS s) = true := by
  simp only [okTx, Bool.and_eq_true] at h
  obtain ⟨h1, h2⟩ := h
  have := text_parts (pv_bd _) (pv_bd _) (sameS_iff.1 h2).symm
  exact ⟨this.2.1, this.2.2.2⟩
theorem ok_text {n d : Int} (h : validB n d = true) : okTx (textB n d) = true ∧ pvB (befS (textB n d)) = n ∧ pvB (aftS (textB n d)) = d := by
  obtain ⟨hn, hd⟩ := valid_bd h
  have := text_parts (s := textB n d) (n := n) (d := d) ⟨by have := hn.1; omega, by have := hn.2; omega⟩ ⟨by have := hd.1; omega, by have := hd.2; omega⟩ rfl
  obtain ⟨h1, h2, h3, h4⟩ := this
  refine ⟨?_, h1, h3⟩
  unfold okTx
  rw [h1, h3, h, sameS_iff.2 rfl]; rfl
theorem text_size {n d : Int} (hn : bd (-9223372036854775808) 9223372036854775807 n) (hd : bd (-9223372036854775808) 9223372036854775807 d) : (textB n d).size ≤ 100 := by
  have a := itoa_size hn
  have b := denB_size hd
  unfold textB
  split
  · omega
  · rw [ByteArray.size_append]; omega
theorem slash_some {s : ByteArray} {K : Nat} (h : slash s = some K) : K < s.size ∧ bt s K = 47 ∧ ∀ i, i < K → (bt s i == 47) = false := by
  unfold slash at h
  have h1 := List.find?_some h
  have h2 := List.mem_range.1 (List.mem_of_find?_eq_some h)
  refine ⟨h2, by simpa using h1, fun i hi => ?_⟩
  rcases q : (bt s i == 47) with _ | _
  · rfl
  · rcases least_fail (fun i => !(bt s i == 47)) K with g | ⟨k, g1, g2, g3⟩
    · have := g i hi; rw [q] at this; cases this
    · have := find_first (p := fun i => bt s i == 47) s.size k (by omega) (by simpa using g2) (fun i hi => by have := g3 i hi; simpa using this)
      rw [h] at this; cases this; omega
theorem slash_not {s : ByteArray} (h : slash s = none) : ∀ i, i < s.size → (bt s i == 47) = false := by
  intro i hi
  unfold slash at h
  rw [List.find?_eq_none] at h
  have := h i (List.mem_range.2 hi)
  simpa using this
theorem idx_none : ∀ (l : List UInt8), (∀ i, i < l.length → (l[i]? == some 47) = false) → Lib.indexByte l 47 = -1 := by
  intro l
  induction l with
  | nil => intro _; rfl
  | cons c r ih =>
    intro h
    have h0 := h 0 (by simp)
    simp only [List.getElem?_cons_zero] at h0
    have hc : (c == 47) = false := by
      rcases q : (c == 47) with _ | _
      · rfl
      · rw [beq_iff_eq] at q; subst q; simp at h0
    have := ih fun i hi => by have := h (i + 1) (by simp; omega); simpa using this
    simp only [Lib.indexByte, hc, this]
    rfl
theorem idx_some47 : ∀ (l : List UInt8) (K : Nat), (l[K]? == some 47) = true → (∀ i, i < K → (l[i]? == some 47) = false) → Lib.indexByte l 47 = (K : Int) := by
  intro l
  induction l with
  | nil => intro K h; simp at h
  | cons c r ih =>
    intro K h hm
    cases K with
    | zero =>
      simp only [List.getElem?_cons_zero, beq_iff_eq, Option.some.injEq] at h
      subst h
      simp [Lib.indexByte]
    | succ K =>
      have h0 := hm 0 (by omega)
      simp only [List.getElem?_cons_zero] at h0
      have hc : (c == 47) = false := by
        rcases q : (c == 47) with _ | _
        · rfl
        · rw [beq_iff_eq] at q; subst q; simp at h0
      have := ih K (by simpa using h) fun i hi => by have := hm (i + 1) (by omega); simpa using this
      simp only [Lib.indexByte, hc, this]
      have e : ((K : Int) == -1) = false := by rw [beq_eq_false_iff_ne]; omega
      simp [e]
def slashI (s : ByteArray) : Int := match slash s with | some k => k | none => -1
theorem index_any (s : ByteArray) : Lib.indexByte s.data.toList 47 = slashI s := by
  have hl : s.data.toList.length = s.size := Array.length_toList
  unfold slashI
  split
  · rename_i k h
    obtain ⟨h1, h2, h3⟩ := slash_some h
    refine idx_some47 _ k ?_ fun i hi => ?_
    · rw [← bt_slash h1, h2]; rfl
    · rw [← bt_slash (by omega)]; exact h3 i hi
  · rename_i h
    refine idx_none _ fun i hi => ?_
    rw [← bt_slash (by omega)]; exact slash_not h i (by omega)
/-- the two errors are there -/
structure Errs (w : World) : Prop where
  syn : ∃ te pe, w.cell? ⟨3, 0, none⟩ = some (.iface te pe)
  rng : ∃ te pe, w.cell? ⟨4, 0, none⟩ = some (.iface te pe)
theorem cell_lt {w : World} {b o : Nat} {v : Value} (h : w.cell? ⟨b, o, none⟩ = some v) : b < w.heap.size := by
  rcases Nat.lt_or_ge b w.heap.size with q | q
  · exact q
  · have : w.heap[b]? = none := Array.getElem?_eq_none q
    simp [World.cell?, this] at h
theorem Errs.on {w w' : World} (h : Errs w) (hb : Below w.heap.size w w') : Errs w' := by
  obtain ⟨⟨a, b, h1⟩, c, d, h2⟩ := h
  exact ⟨⟨a, b, (hb.cell (p := ⟨3, 0, none⟩) (cell_lt h1)).trans h1⟩, c, d, (hb.cell (p := ⟨4, 0, none⟩) (cell_lt h2)).trans h2⟩
/-- an error that is there -/
def errV : Value := .complex .f32 0 1
def errOf (s : ByteArray) : Value := if pokB s then .nilIface else errV
theorem parse_ends (s : ByteArray) (hs : s.size ≤ 1000000000000) (w : World) (he : Errs w) :
    Calls Tryd.prog 61 #[.string s, .int .i64 10, .int .i64 64] w fun e w' => (∃ v', e = .returned (.tuple #[.int .i64 (pvB s), v']) ∧ (if pokB s then v' = .nilIface else ∃ t u, v' = .iface t u)) ∧ Below w.heap.size w w' := by
  obtain ⟨⟨a, b, h1⟩, c, d, h2⟩ := he
  unfold pvB pokB
  rcases h : Lib.parseIntB 64 s.data.toList with v | _ | _
  ·
    refine (shelf_strconv_ParseInt_10_at64_ok s (by omega) v h w).mono ?_
    rintro e w' ⟨rfl, hw⟩
    refine ⟨⟨.nilIface, rfl, rfl⟩, ?_⟩
    rcases hw with rfl | ⟨t, rfl⟩
    · exact Below.refl _ _
    · exact Lib.bytesWorld_below _ _ _
  ·
    refine (shelf_strconv_ParseInt_10_at64_syntax s (by omega) (h.trans (by kernel_rfl)) _ w h1 (.inr ⟨a, b, rfl⟩)).mono ?_
    rintro e w' ⟨N, rfl, _, _, hb⟩
    exact ⟨⟨_, rfl, _, _, rfl⟩, hb⟩
  ·
    refine (shelf_strconv_ParseInt_10_at64_range s (by omega) h _ w h2 (.inr ⟨c, d, rfl⟩)).mono ?_
    rintro e w' ⟨N, rfl, _, _, hb⟩
    exact ⟨⟨_, rfl, _, _, rfl⟩, hb⟩
/-- a call whose answer holds an error of which no more is known -/
theorem memo_err {ρ : Env} {P : Program} {f : FuncId} {args : List Value} {v : Value} {args' : Array Value} (ha : args.all af = true) (ea : (args.map (inst ρ)).toArray = args')
    (h : ∀ w : World, Below ρ.w.heap.size ρ.w w → Calls P f args' w fun e w' => (∃ v', e = .returned v' ∧ ∀ β, Rel ρ β v v') ∧ Below w.heap.size w w') : MemoE ρ P (f, args, [], v, []) := by
  intro w0 β w bs hS hA
  have e : bs = args.map (inst ρ) := list_map_of hA.1 fun i x x' q q' => (hA.2 i x x' q q').af_eq (List.all_eq_true.1 ha x (List.mem_of_getElem? q))
  rw [e, ea]
  refine (h w hS.far).mono ?_
  rintro en w' ⟨⟨v', rfl, hv⟩, hb⟩
  exact ⟨v', β, rfl, Keep.refl _ _ _, hv β, hS.onto hb⟩
theorem rel_pair {ρ : Env} {β : Names} {x x' e e' : Value} (h1 : Rel ρ β x x') (h2 : Rel ρ β e e') : Rel ρ β (.tuple #[x, e]) (.tuple #[x', e']) :=
  Rel.tup (cs := [x, e]) (cs' := [x', e']) rfl fun i v v' q q' => by
    match i, q, q' with
    | 0, q, q' => cases q; cases q'; exact h1
    | 1, q, q' => cases q; cases q'; exact h2
/-- ParseInt of an opaque string -/
theorem parseMemo {ρ : Env} {i : Nat} {n : Int} {s : ByteArray} {ev : Value} (hv : ρ.val i = .string s) (hn : isSym n = true) (hr : ρ.num n = pvB s) (hs : s.size ≤ 1000000000000) (he : Errs ρ.w) (hev : ev = errOf s) :
    MemoE ρ Tryd.prog (61, [oq i, .int .i64 10, .int .i64 64], [], .tuple #[.int .i64 n, ev], []) := by
  subst hev
  refine memo_err rfl (by show #[ρ.val i, _, _] = _; rw [hv]; rfl) fun w hw => (parse_ends s hs w (he.on hw)).mono ?_
  rintro e w' ⟨⟨v', rfl, h⟩, hb⟩
  refine ⟨⟨_, rfl, fun β => rel_pair (by rw [← hr]; exact .sym hn) ?_⟩, hb⟩
  unfold errOf
  split at h
  · rename_i hp; rw [if_pos hp, h]; exact .flat rfl
  · rename_i hp; obtain ⟨t, u, rfl⟩ := h; rw [if_neg hp]; exact .nni
theorem sl_bound {P : Program} {y n : Nat} (h : n ≤ y) (code : BoundsCode) (w : World) : (Instr.sliceBound (.int .i64 (n : Int)) y code).run P w = .ok n w := by
  have : (0 : Int) ≤ (n : Int) ∧ (n : Int) ≤ (y : Int) := ⟨by omega, by omega⟩
  simp only [Instr.sliceBound, asIntOf, pure_bind]
  rw [if_pos this]; simp
def bndIs (ρ : Env) (d : Nat) (o : Option Value) (l : Nat) : Prop :=
  match o with
  | none => l = d
  | some v => inst ρ v = .int .i64 (l : Int)
theorem ssliOK {ρ : Env} {P : Program} {ty : TypeId} {i j : Nat} {lo hi : Option Value} {l h : Nat} {s : ByteArray} (hd : P.underlying ty = some .string) (hv : ρ.val i = .string s) (hl : bndIs ρ 0 lo l) (hh : bndIs ρ s.size hi h)
    (h1 : l ≤ h) (h2 : h ≤ s.size) (hr : ρ.val j = .string (s.extract l h)) : SliOK ρ P (ty, oq i, lo, hi, oq j) := by
  refine ⟨rfl, rfl, fun w => ?_⟩
  show (Instr.sliceAt ty (ρ.val i) (lo.map (inst ρ)) (hi.map (inst ρ)) none).run P w = .ok (ρ.val j) w
  rw [hv, hr]
  simp only [Instr.sliceAt, Instr.slice, Sem.run_bind, run_underlying hd, Result.andThen_ok, Option.isSome_none, Bool.false_eq_true, if_false]
  unfold bndIs at hl hh
  cases lo with
  | none =>
    simp only at hl
    subst hl
    cases hi with
    | none =>
      simp only at hh
      subst hh
      simp [Instr.sliceBounds]
    | some v =>
      simp only at hh
      simp only [Option.map_none, Option.map_some, hh]
      simp [Instr.sliceBounds, sl_bound h2]
  | some u =>
    simp only at hl
    cases hi with
    | none =>
      simp only at hh
      subst hh
      simp only [Option.map_none, Option.map_some, hl]
      simp [Instr.sliceBounds, sl_bound h1]
    | some v =>
      simp only at hh
      simp only [Option.map_some, hl, hh]
      simp [Instr.sliceBounds, sl_bound h1, sl_bound h2]
theorem Left.unpick {f : List Nat} {a b : Names} {w w' : World} (h : Left (pick f a) w b w') : Left a w b w' :=
  ⟨fun k hk hn => h.keep k hk fun i e q => by obtain ⟨c, _, q2⟩ := pick_get q; exact hn c e q2, fun i e q => by
    rcases h.names i e q with g | ⟨j, d, g1, g2⟩
    · exact .inl g
    · obtain ⟨c, _, q2⟩ := pick_get g1; exact .inr ⟨c, d, q2, g2⟩, h.size⟩
/-- a loop's theorem in another environment -/
theorem loop_move {P : Program} {ρ1 ρ2 : Env} (hw : ρ1.w = ρ2.w) {g : FuncId} {p : List Bool} {t tf : Tm} {H Hf : Heap} {x : X} (h : LoopE ρ1 P (g, p, t, H, x, tf, Hf)) {f f2 : List Nat} {es es2 : Eqs}
    (hi : passQ P f t H t H es = true) (hf : idPre 0 H.length f = true) (he : Holds ρ2 ρ1 es) (ho : passQ P f2 tf Hf tf Hf es2 = true) (hf2 : idPre 0 H.length f2 = true) (hl : H.length ≤ Hf.length) (he2 : Holds ρ1 ρ2 es2) : LoopE ρ2 P (g, p, t, H, x, tf, Hf) := by
  intro c hc w0 β w a Q hS hT hQ
  simp only at hc hS hT hQ
  have pre : ∀ (f : List Nat) (γ : Names), idPre 0 H.length f = true → ∀ i, i < H.length → pick f γ i = γ i := by
    intro f γ h i hi
    have := idPre_at H.length 0 h i hi
    rw [Nat.zero_add] at this
    unfold pick; rw [this]; rfl
  have p1 := passQ_ok hw.symm hi he
  refine h c hc w0 (pick f β) w a Q (p1.sim hS) (p1.rel hS hT) fun β' w' a' k1 k2 k3 k4 k5 => ?_
  have p2 := passQ_ok hw ho he2
  refine hQ (pick f2 β') w' a' ⟨⟨fun i e q => ?_, fun y hy hn _ => ?_⟩, hl⟩ (p2.rel k5 k2) (pickM k3) (pickL k4.unpick) (p2.sim k5)
  · have hi := hS.dom i e q
    rw [pre f2 β' hf2 i hi]
    exact k1.1.1 _ _ (by rw [pre f β hf i hi]; exact q)
  · rw [pre f2 β' hf2 y hy]
    exact k1.1.2 y hy (by rw [pre f β hf y hy]; exact hn) (by simp)
theorem pv_one : pvB ⟨#[49]⟩ = 1 ∧ pokB ⟨#[49]⟩ = true := by
  rw [one_itoa]; exact pv_itoa ⟨by omega, by omega⟩
theorem bef_some {s : ByteArray} {K : Nat} (hz : slash s = some K) : befS s = s.extract 0 K := by unfold befS; rw [hz]
theorem aft_some {s : ByteArray} {K : Nat} (hz : slash s = some K) : aftS s = s.extract (K + 1) s.size := by unfold aftS; rw [hz]
theorem bef_none {s : ByteArray} (hz : slash s = none) : befS s = s := by unfold befS; rw [hz]
theorem aft_none {s : ByteArray} (hz : slash s = none) : aftS s = ⟨#[49]⟩ := by unfold aftS; rw [hz]
theorem ext_size {s : ByteArray} {i j : Nat} : (s.extract i j).size ≤ s.size := by
  rw [ByteArray.size_extract]; omega
theorem slash_self {s : ByteArray} {K : Nat} (hz : slash s = some K) (h : sameS ⟨#[47]⟩ s = true) : K = 0 := by
  have := (slash_some hz).1
  rw [← sameS_iff.1 h] at this
  have e : (⟨#[47]⟩ : ByteArray).size = 1 := rfl
  omega
theorem slash_one {s : ByteArray} (hz : slash s = none) (h : sameS ⟨#[47]⟩ s = true) : False := by
  have := slash_not hz 0 (by rw [← sameS_iff.1 h]; decide)
  rw [← sameS_iff.1 h] at this
  exact absurd this (by decide)
theorem slashI_some {s : ByteArray} {K : Nat} (hz : slash s = some K) : slashI s = K := by unfold slashI; rw [hz]
theorem slashI_none {s : ByteArray} (hz : slash s = none) : slashI s = -1 := by unfold slashI; rw [hz]
theorem indexByte_any (s : ByteArray) (w : World) : Calls Tryd.prog 89 #[.string s, .int .u8 47] w fun e w' => e = .returned (.int .i64 (slashI s)) ∧ Below w.heap.size w w' := by
  refine (shelf_stringslite_IndexByte s 47 w).mono ?_
  rintro e w' ⟨rfl, rfl⟩
  refine ⟨?_, Below.refl _ _⟩
  rw [← index_any]; rfl
theorem okTx_of {s b a : ByteArray} (hb : befS s = b) (ha : aftS s = a) : okTx s = (validB (pvB b) (pvB a) && sameS (textB (pvB b) (pvB a)) s) := by
  unfold okTx; rw [hb, ha]
theorem no_pok {s b a : ByteArray} (hb : befS s = b) (ha : aftS s = a) (h : pokB b = false ∨ pokB a = false) : okTx s = false := by
  rcases q : okTx s with _ | _
  · rfl
  · have := ok_pok q
    rw [hb, ha] at this
    rcases h with h | h
    · rw [this.1] at h; cases h
    · rw [this.2] at h; cases h
def parseF (s : ByteArray) : Value := if okTx s = true then .tuple #[.agg #[.int .i64 (pvB (befS s)), .int .i64 (pvB (aftS s))], .int .i64 0] else .tuple #[.agg #[.int .i64 0, .int .i64 0], .int .i64 2]
theorem parseF_no {s : ByteArray} (h : okTx s = false) : parseF s = .tuple #[.agg #[.int .i64 0, .int .i64 0], .int .i64 2] := by unfold parseF; rw [h]; rfl
theorem parseF_yes {s b a : ByteArray} (h : okTx s = true) (hb : befS s = b) (ha : aftS s = a) : parseF s = .tuple #[.agg #[.int .i64 (pvB b), .int .i64 (pvB a)], .int .i64 0] := by unfold parseF; rw [h, hb, ha]; rfl
theorem sz_bd {s : ByteArray} (h : s.size ≤ 1000000000000) : bd 0 1000000000000 (s.size : Int) := ⟨by omega, by omega⟩
theorem cut_some (s : ByteArray) (w : World) (hs : s.size ≤ 1000000000000) (K : Nat) (hz : slash s = some K) : Calls Tryd.prog 60 #[(.string s), .string ⟨#[47]⟩] w fun e w' => e = .returned (.tuple #[(.string (s.extract 0 K)), (.string (s.extract (K + 1) s.size)), .bool true]) ∧ Below w.heap.size w w' := by
  have hn := sz_bd hs
  have hk : bd 0 1000000000000 (K : Int) := ⟨by omega, by have := (slash_some hz).1; omega⟩
  rcases h0 : (sameS ⟨#[47]⟩ s) with _ | _
  · have bq0 : bd 1 1000000000001 (((K : Int) + 1)) := bd_add hk (bd_lit (l := 1) (h := 1) rfl) rfl
    exact run_know (P := Tryd.prog) (ρ := env [(s.size : Int), (K : Int), ((K : Int) + 1)] [(.string s), (.string (s.extract 0 K)), (.string (s.extract (K + 1) s.size))] w) (o := { bin := [(.eql, 9, .string ⟨#[47]⟩, oq 0, .bool false), (.geq, 3, .int .i64 (sn 1), .int .i64 0, .bool true), (.add, 3, .int .i64 (sn 1), .int .i64 1, .int .i64 (sn 2))], calls := [(89, [oq 0, .int .u8 47], sy 1)], sli := [(9, oq 0, none, (some (sy 1)), oq 1), (9, oq 0, (some (sy 2)), none, oq 2)] }) ⟨(all_cons (strOK (op := .eql) (ty := 9) (x := .string ⟨#[47]⟩) (y := oq 0) (r := .bool false) (v := .bool false) (a := ⟨#[47]⟩) (b := s) (by kernel_rfl) rfl rfl rfl (fun w => strEq (by have q : sameS ⟨#[47]⟩ s = _ := h0; unfold sameS at q; rw [q]; try rfl) w)) (all_cons (cmpOK (op := .geq) (ty := 3) (k := .i64) (n := (sn 1)) (m := 0) (t := true) (a := (K : Int)) (b := 0) (by kernel_rfl) (by kernel_rfl) (congrArg some ((ge_c (show decide ((K : Int) ≤ (-1)) = false by have q0 := hk; simp only [decide_eq_false_iff_not]; omega) rfl)))) (all_cons (arOK (op := .add) (ty := 3) (k := .i64) (n := (sn 1)) (m := 1) (r := (sn 2)) (a := (K : Int)) (b := 1) (c := (((K : Int) + 1))) (d := (K : Int) + 1) (by kernel_rfl) (by kernel_rfl) (by kernel_rfl) rfl (wr_bd bq0 rfl)) all_nil))), all_nil, all_nil, all_nil, (all_cons (callOK (f := 89) (args := [oq 0, .int .u8 47]) (v := sy 1) (args' := #[(.string s), .int .u8 47]) (v' := .int .i64 (K : Int)) (by kernel_rfl) (by kernel_rfl) (by kernel_rfl) (fun w => by have q := indexByte_any s w; rw [slashI_some hz] at q; exact q)) all_nil), all_nil, all_nil, all_nil, (all_cons (ssliOK (ty := 9) (i := 0) (j := 1) (lo := none) (hi := (some (sy 1))) (l := 0) (h := K) (s := s) (by kernel_rfl) rfl rfl (by show inst _ _ = Value.int .i64 _; kernel_rfl) (Nat.zero_le _) (by have := (slash_some hz).1; omega) (by kernel_rfl)) (all_cons (ssliOK (ty := 9) (i := 0) (j := 2) (lo := (some (sy 2))) (hi := none) (l := (K + 1)) (h := s.size) (s := s) (by kernel_rfl) rfl (by show inst _ _ = Value.int .i64 _; kernel_rfl) rfl (by have := (slash_some hz).1; omega) (Nat.le_refl _) (by kernel_rfl)) all_nil)), all_nil, all_nil, all_nil, all_nil, all_nil, all_nil, all_nil, all_nil⟩ 1000 50 60 [oq 0, .string ⟨#[47]⟩] (.tuple #[oq 1, oq 2, .bool true]) (args' := #[(.string s), .string ⟨#[47]⟩]) (v' := .tuple #[(.string (s.extract 0 K)), (.string (s.extract (K + 1) s.size)), .bool true]) (by kernel_rfl) (by kernel_rfl) (by kernel_rfl) w (Below.refl _ _)
  · have hr : (.tuple #[(.string (s.extract 0 K)), (.string (s.extract (K + 1) s.size)), .bool true] : Value) = .tuple #[(.string (s.extract 0 0)), (.string (s.extract 1 s.size)), .bool true] := by (obtain rfl := slash_self hz h0; rfl)
    rw [hr]
    exact run_know (P := Tryd.prog) (ρ := env [(s.size : Int), (K : Int), ((K : Int) + 1)] [(.string s), (.string (s.extract 0 0)), (.string (s.extract 1 s.size))] w) (o := { bin := [(.eql, 9, .string ⟨#[47]⟩, oq 0, .bool true)], sli := [(9, oq 0, none, (some (.int .i64 0)), oq 1), (9, oq 0, (some (.int .i64 1)), none, oq 2)], lens := [(true, oq 0, .int .i64 (sn 0))] }) ⟨(all_cons (strOK (op := .eql) (ty := 9) (x := .string ⟨#[47]⟩) (y := oq 0) (r := .bool true) (v := .bool true) (a := ⟨#[47]⟩) (b := s) (by kernel_rfl) rfl rfl rfl (fun w => strEq (by have q : sameS ⟨#[47]⟩ s = _ := h0; unfold sameS at q; rw [q]; try rfl) w)) all_nil), all_nil, all_nil, all_nil, all_nil, all_nil, all_nil, all_nil, (all_cons (ssliOK (ty := 9) (i := 0) (j := 1) (lo := none) (hi := (some (.int .i64 0))) (l := 0) (h := 0) (s := s) (by kernel_rfl) rfl rfl (by show inst _ _ = Value.int .i64 _; kernel_rfl) (Nat.le_refl _) (Nat.zero_le _) (by kernel_rfl)) (all_cons (ssliOK (ty := 9) (i := 0) (j := 2) (lo := (some (.int .i64 1))) (hi := none) (l := 1) (h := s.size) (s := s) (by kernel_rfl) rfl (by show inst _ _ = Value.int .i64 _; kernel_rfl) rfl (by have := (slash_some hz).1; omega) (Nat.le_refl _) (by kernel_rfl)) all_nil)), all_nil, (all_cons (slenOK (i := 0) (r := (sn 0)) rfl (by kernel_rfl)) all_nil), all_nil, all_nil, all_nil, all_nil, all_nil, all_nil⟩ 1000 50 60 [oq 0, .string ⟨#[47]⟩] (.tuple #[oq 1, oq 2, .bool true]) (args' := #[(.string s), .string ⟨#[47]⟩]) (v' := .tuple #[(.string (s.extract 0 0)), (.string (s.extract 1 s.size)), .bool true]) (by kernel_rfl) (by kernel_rfl) (by kernel_rfl) w (Below.refl _ _)
theorem cut_none (s : ByteArray) (w : World) (hs : s.size ≤ 1000000000000) (hz : slash s = none) : Calls Tryd.prog 60 #[(.string s), .string ⟨#[47]⟩] w fun e w' => e = .returned (.tuple #[(.string s), .string ⟨#[]⟩, .bool false]) ∧ Below w.heap.size w w' := by
  have hn := sz_bd hs
  rcases h0 : (sameS ⟨#[47]⟩ s) with _ | _
  · exact run_know (P := Tryd.prog) (ρ := env [(s.size : Int)] [(.string s)] w) (o := { bin := [(.eql, 9, .string ⟨#[47]⟩, oq 0, .bool false)], calls := [(89, [oq 0, .int .u8 47], .int .i64 (-1))] }) ⟨(all_cons (strOK (op := .eql) (ty := 9) (x := .string ⟨#[47]⟩) (y := oq 0) (r := .bool false) (v := .bool false) (a := ⟨#[47]⟩) (b := s) (by kernel_rfl) rfl rfl rfl (fun w => strEq (by have q : sameS ⟨#[47]⟩ s = _ := h0; unfold sameS at q; rw [q]; try rfl) w)) all_nil), all_nil, all_nil, all_nil, (all_cons (callOK (f := 89) (args := [oq 0, .int .u8 47]) (v := .int .i64 (-1)) (args' := #[(.string s), .int .u8 47]) (v' := .int .i64 (-1)) (by kernel_rfl) (by kernel_rfl) (by kernel_rfl) (fun w => by have q := indexByte_any s w; rw [slashI_none hz] at q; exact q)) all_nil), all_nil, all_nil, all_nil, all_nil, all_nil, all_nil, all_nil, all_nil, all_nil, all_nil, all_nil, all_nil⟩ 1000 50 60 [oq 0, .string ⟨#[47]⟩] (.tuple #[oq 0, .string ⟨#[]⟩, .bool false]) (args' := #[(.string s), .string ⟨#[47]⟩]) (v' := .tuple #[(.string s), .string ⟨#[]⟩, .bool false]) (by kernel_rfl) (by kernel_rfl) (by kernel_rfl) w (Below.refl _ _)
  · exact (slash_one hz h0).elim
theorem parse_some (s : ByteArray) (w : World) (hs : s.size ≤ 1000000000000) (K : Nat) (hz : slash s = some K) (w0 : World) (ht : Tab w0) (hw : Below w0.heap.size w0 w) (he : Errs w0) : Calls Tryd.prog 35 #[.string s] w fun e w' => e = .returned (parseF s) ∧ Below w.heap.size w w' := by
  rcases h0 : (pokB (s.extract 0 K)) with _ | _
  · rcases h1 : (pokB (s.extract (K + 1) s.size)) with _ | _
    · have hr : ((parseF s) : Value) = .tuple #[.agg #[.int .i64 0, .int .i64 0], .int .i64 2] := by (exact parseF_no (no_pok (bef_some hz) (aft_some hz) (.inl h0)))
      rw [hr]
      exact run_know (P := Tryd.prog) (ρ := env [(pvB (s.extract 0 K)), (pvB (s.extract (K + 1) s.size))] [(.string s), (.string (s.extract 0 K)), (.string (s.extract (K + 1) s.size))] w0) (o := { calls := [(60, [oq 0, .string ⟨#[47]⟩], .tuple #[oq 1, oq 2, .bool true])], memo := [(61, [oq 1, .int .i64 10, .int .i64 64], [], .tuple #[sy 0, errV], []), (61, [oq 2, .int .i64 10, .int .i64 64], [], .tuple #[sy 1, errV], [])] }) ⟨all_nil, all_nil, all_nil, all_nil, (all_cons (callOK (f := 60) (args := [oq 0, .string ⟨#[47]⟩]) (v := .tuple #[oq 1, oq 2, .bool true]) (args' := #[(.string s), .string ⟨#[47]⟩]) (v' := .tuple #[(.string (s.extract 0 K)), (.string (s.extract (K + 1) s.size)), .bool true]) (by kernel_rfl) (by kernel_rfl) (by kernel_rfl) (fun w => cut_some s w hs K hz)) all_nil), all_nil, all_nil, all_nil, all_nil, all_nil, all_nil, all_nil, all_nil, all_nil, (all_cons (parseMemo (i := 1) (n := (sn 0)) (s := (s.extract 0 K)) (ev := errV) rfl rfl (by kernel_rfl) (Nat.le_trans ext_size hs) he (by unfold errOf; rw [h0]; rfl)) (all_cons (parseMemo (i := 2) (n := (sn 1)) (s := (s.extract (K + 1) s.size)) (ev := errV) rfl rfl (by kernel_rfl) (Nat.le_trans ext_size hs) he (by unfold errOf; rw [h1]; rfl)) all_nil)), all_nil, all_nil⟩ 1000 50 35 [oq 0] (.tuple #[.agg #[.int .i64 0, .int .i64 0], .int .i64 2]) (args' := #[(.string s)]) (v' := .tuple #[.agg #[.int .i64 0, .int .i64 0], .int .i64 2]) (by kernel_rfl) (by kernel_rfl) (by kernel_rfl) w hw
    · have hr : ((parseF s) : Value) = .tuple #[.agg #[.int .i64 0, .int .i64 0], .int .i64 2] := by (exact parseF_no (no_pok (bef_some hz) (aft_some hz) (.inl h0)))
      rw [hr]
      exact run_know (P := Tryd.prog) (ρ := env [(pvB (s.extract 0 K)), (pvB (s.extract (K + 1) s.size))] [(.string s), (.string (s.extract 0 K)), (.string (s.extract (K + 1) s.size))] w0) (o := { calls := [(60, [oq 0, .string ⟨#[47]⟩], .tuple #[oq 1, oq 2, .bool true])], memo := [(61, [oq 1, .int .i64 10, .int .i64 64], [], .tuple #[sy 0, errV], []), (61, [oq 2, .int .i64 10, .int .i64 64], [], .tuple #[sy 1, .nilIface], [])] }) ⟨all_nil, all_nil, all_nil, all_nil, (all_cons (callOK (f := 60) (args := [oq 0, .string ⟨#[47]⟩]) (v := .tuple #[oq 1, oq 2, .bool true]) (args' := #[(.string s), .string ⟨#[47]⟩]) (v' := .tuple #[(.string (s.extract 0 K)), (.string (s.extract (K + 1) s.size)), .bool true]) (by kernel_rfl) (by kernel_rfl) (by kernel_rfl) (fun w => cut_some s w hs K hz)) all_nil), all_nil, all_nil, all_nil, all_nil, all_nil, all_nil, all_nil, all_nil, all_nil, (all_cons (parseMemo (i := 1) (n := (sn 0)) (s := (s.extract 0 K)) (ev := errV) rfl rfl (by kernel_rfl) (Nat.le_trans ext_size hs) he (by unfold errOf; rw [h0]; rfl)) (all_cons (parseMemo (i := 2) (n := (sn 1)) (s := (s.extract (K + 1) s.size)) (ev := .nilIface) rfl rfl (by kernel_rfl) (Nat.le_trans ext_size hs) he (by unfold errOf; rw [h1]; rfl)) all_nil)), all_nil, all_nil⟩ 1000 50 35 [oq 0] (.tuple #[.agg #[.int .i64 0, .int .i64 0], .int .i64 2]) (args' := #[(.string s)]) (v' := .tuple #[.agg #[.int .i64 0, .int .i64 0], .int .i64 2]) (by kernel_rfl) (by kernel_rfl) (by kernel_rfl) w hw
  · rcases h1 : (pokB (s.extract (K + 1) s.size)) with _ | _
    · have hr : ((parseF s) : Value) = .tuple #[.agg #[.int .i64 0, .int .i64 0], .int .i64 2] := by (exact parseF_no (no_pok (bef_some hz) (aft_some hz) (.inr h1)))
      rw [hr]
      exact run_know (P := Tryd.prog) (ρ := env [(pvB (s.extract 0 K)), (pvB (s.extract (K + 1) s.size))] [(.string s), (.string (s.extract 0 K)), (.string (s.extract (K + 1) s.size))] w0) (o := { calls := [(60, [oq 0, .string ⟨#[47]⟩], .tuple #[oq 1, oq 2, .bool true])], memo := [(61, [oq 1, .int .i64 10, .int .i64 64], [], .tuple #[sy 0, .nilIface], []), (61, [oq 2, .int .i64 10, .int .i64 64], [], .tuple #[sy 1, errV], [])] }) ⟨all_nil, all_nil, all_nil, all_nil, (all_cons (callOK (f := 60) (args := [oq 0, .string ⟨#[47]⟩]) (v := .tuple #[oq 1, oq 2, .bool true]) (args' := #[(.string s), .string ⟨#[47]⟩]) (v' := .tuple #[(.string (s.extract 0 K)), (.string (s.extract (K + 1) s.size)), .bool true]) (by kernel_rfl) (by kernel_rfl) (by kernel_rfl) (fun w => cut_some s w hs K hz)) all_nil), all_nil, all_nil, all_nil, all_nil, all_nil, all_nil, all_nil, all_nil, all_nil, (all_cons (parseMemo (i := 1) (n := (sn 0)) (s := (s.extract 0 K)) (ev := .nilIface) rfl rfl (by kernel_rfl) (Nat.le_trans ext_size hs) he (by unfold errOf; rw [h0]; rfl)) (all_cons (parseMemo (i := 2) (n := (sn 1)) (s := (s.extract (K + 1) s.size)) (ev := errV) rfl rfl (by kernel_rfl) (Nat.le_trans ext_size hs) he (by unfold errOf; rw [h1]; rfl)) all_nil)), all_nil, all_nil⟩ 1000 50 35 [oq 0] (.tuple #[.agg #[.int .i64 0, .int .i64 0], .int .i64 2]) (args' := #[(.string s)]) (v' := .tuple #[.agg #[.int .i64 0, .int .i64 0], .int .i64 2]) (by kernel_rfl) (by kernel_rfl) (by kernel_rfl) w hw
    · rcases h2 : (validB (pvB (s.extract 0 K)) (pvB (s.extract (K + 1) s.size))) with _ | _
      · have hr : ((parseF s) : Value) = .tuple #[.agg #[.int .i64 0, .int .i64 0], .int .i64 2] := by (refine parseF_no ?_; rw [okTx_of (bef_some hz) (aft_some hz), h2]; rfl)
        rw [hr]
        exact run_know (P := Tryd.prog) (ρ := env [(pvB (s.extract 0 K)), (pvB (s.extract (K + 1) s.size))] [(.string s), (.string (s.extract 0 K)), (.string (s.extract (K + 1) s.size))] w0) (o := { calls := [(60, [oq 0, .string ⟨#[47]⟩], .tuple #[oq 1, oq 2, .bool true]), (37, [.agg #[sy 0, sy 1]], .tuple #[.string ⟨#[]⟩, .int .i64 1])], memo := [(61, [oq 1, .int .i64 10, .int .i64 64], [], .tuple #[sy 0, .nilIface], []), (61, [oq 2, .int .i64 10, .int .i64 64], [], .tuple #[sy 1, .nilIface], [])] }) ⟨all_nil, all_nil, all_nil, all_nil, (all_cons (callOK (f := 60) (args := [oq 0, .string ⟨#[47]⟩]) (v := .tuple #[oq 1, oq 2, .bool true]) (args' := #[(.string s), .string ⟨#[47]⟩]) (v' := .tuple #[(.string (s.extract 0 K)), (.string (s.extract (K + 1) s.size)), .bool true]) (by kernel_rfl) (by kernel_rfl) (by kernel_rfl) (fun w => cut_some s w hs K hz)) (all_cons (callOKb (f := 37) (args := [.agg #[sy 0, sy 1]]) (v := .tuple #[.string ⟨#[]⟩, .int .i64 1]) (args' := #[.agg #[.int .i64 ((pvB (s.extract 0 K))), .int .i64 ((pvB (s.extract (K + 1) s.size)))]]) (v' := .tuple #[.string ⟨#[]⟩, .int .i64 1]) (by kernel_rfl) (by kernel_rfl) (by kernel_rfl) (fun w1 hw1 => by have q := text_any (pvB (s.extract 0 K)) (pvB (s.extract (K + 1) s.size)) w1 (pv_bd _) (pv_bd _) w0 ht hw1; unfold textF at q; rw [h2] at q; exact q)) all_nil)), all_nil, all_nil, all_nil, all_nil, all_nil, all_nil, all_nil, all_nil, all_nil, (all_cons (parseMemo (i := 1) (n := (sn 0)) (s := (s.extract 0 K)) (ev := .nilIface) rfl rfl (by kernel_rfl) (Nat.le_trans ext_size hs) he (by unfold errOf; rw [h0]; rfl)) (all_cons (parseMemo (i := 2) (n := (sn 1)) (s := (s.extract (K + 1) s.size)) (ev := .nilIface) rfl rfl (by kernel_rfl) (Nat.le_trans ext_size hs) he (by unfold errOf; rw [h1]; rfl)) all_nil)), all_nil, all_nil⟩ 1000 50 35 [oq 0] (.tuple #[.agg #[.int .i64 0, .int .i64 0], .int .i64 2]) (args' := #[(.string s)]) (v' := .tuple #[.agg #[.int .i64 0, .int .i64 0], .int .i64 2]) (by kernel_rfl) (by kernel_rfl) (by kernel_rfl) w hw
      · rcases h3 : (sameS (textB (pvB (s.extract 0 K)) (pvB (s.extract (K + 1) s.size))) s) with _ | _
        · have hr : ((parseF s) : Value) = .tuple #[.agg #[.int .i64 0, .int .i64 0], .int .i64 2] := by (refine parseF_no ?_; rw [okTx_of (bef_some hz) (aft_some hz), h2, h3]; rfl)
          rw [hr]
          exact run_know (P := Tryd.prog) (ρ := env [(pvB (s.extract 0 K)), (pvB (s.extract (K + 1) s.size))] [(.string s), (.string (s.extract 0 K)), (.string (s.extract (K + 1) s.size)), (.string (textB (pvB (s.extract 0 K)) (pvB (s.extract (K + 1) s.size))))] w0) (o := { bin := [(.neq, 9, oq 3, oq 0, .bool true)], calls := [(60, [oq 0, .string ⟨#[47]⟩], .tuple #[oq 1, oq 2, .bool true]), (37, [.agg #[sy 0, sy 1]], .tuple #[oq 3, .int .i64 0])], memo := [(61, [oq 1, .int .i64 10, .int .i64 64], [], .tuple #[sy 0, .nilIface], []), (61, [oq 2, .int .i64 10, .int .i64 64], [], .tuple #[sy 1, .nilIface], [])] }) ⟨(all_cons (strOK (op := .neq) (ty := 9) (x := oq 3) (y := oq 0) (r := .bool true) (v := .bool true) (a := (textB (pvB (s.extract 0 K)) (pvB (s.extract (K + 1) s.size)))) (b := s) (by kernel_rfl) rfl rfl rfl (fun w => strNe (by have q : sameS (textB (pvB (s.extract 0 K)) (pvB (s.extract (K + 1) s.size))) s = _ := h3; unfold sameS at q; rw [q]; try rfl) w)) all_nil), all_nil, all_nil, all_nil, (all_cons (callOK (f := 60) (args := [oq 0, .string ⟨#[47]⟩]) (v := .tuple #[oq 1, oq 2, .bool true]) (args' := #[(.string s), .string ⟨#[47]⟩]) (v' := .tuple #[(.string (s.extract 0 K)), (.string (s.extract (K + 1) s.size)), .bool true]) (by kernel_rfl) (by kernel_rfl) (by kernel_rfl) (fun w => cut_some s w hs K hz)) (all_cons (callOKb (f := 37) (args := [.agg #[sy 0, sy 1]]) (v := .tuple #[oq 3, .int .i64 0]) (args' := #[.agg #[.int .i64 ((pvB (s.extract 0 K))), .int .i64 ((pvB (s.extract (K + 1) s.size)))]]) (v' := .tuple #[(.string (textB (pvB (s.extract 0 K)) (pvB (s.extract (K + 1) s.size)))), .int .i64 0]) (by kernel_rfl) (by kernel_rfl) (by kernel_rfl) (fun w1 hw1 => by have q := text_any (pvB (s.extract 0 K)) (pvB (s.extract (K + 1) s.size)) w1 (pv_bd _) (pv_bd _) w0 ht hw1; unfold textF at q; rw [h2] at q; exact q)) all_nil)), all_nil, all_nil, all_nil, all_nil, all_nil, all_nil, all_nil, all_nil, all_nil, (all_cons (parseMemo (i := 1) (n := (sn 0)) (s := (s.extract 0 K)) (ev := .nilIface) rfl rfl (by kernel_rfl) (Nat.le_trans ext_size hs) he (by unfold errOf; rw [h0]; rfl)) (all_cons (parseMemo (i := 2) (n := (sn 1)) (s := (s.extract (K + 1) s.size)) (ev := .nilIface) rfl rfl (by kernel_rfl) (Nat.le_trans ext_size hs) he (by unfold errOf; rw [h1]; rfl)) all_nil)), all_nil, all_nil⟩ 1000 50 35 [oq 0] (.tuple #[.agg #[.int .i64 0, .int .i64 0], .int .i64 2]) (args' := #[(.string s)]) (v' := .tuple #[.agg #[.int .i64 0, .int .i64 0], .int .i64 2]) (by kernel_rfl) (by kernel_rfl) (by kernel_rfl) w hw
        · have hr : ((parseF s) : Value) = .tuple #[.agg #[.int .i64 ((pvB (s.extract 0 K))), .int .i64 ((pvB (s.extract (K + 1) s.size)))], .int .i64 0] := by (have q : okTx s = true := (by rw [okTx_of (bef_some hz) (aft_some hz), h2, h3]; rfl); rw [parseF_yes q (bef_some hz) (aft_some hz)])
          rw [hr]
          exact run_know (P := Tryd.prog) (ρ := env [(pvB (s.extract 0 K)), (pvB (s.extract (K + 1) s.size))] [(.string s), (.string (s.extract 0 K)), (.string (s.extract (K + 1) s.size)), (.string (textB (pvB (s.extract 0 K)) (pvB (s.extract (K + 1) s.size))))] w0) (o := { bin := [(.neq, 9, oq 3, oq 0, .bool false)], calls := [(60, [oq 0, .string ⟨#[47]⟩], .tuple #[oq 1, oq 2, .bool true]), (37, [.agg #[sy 0, sy 1]], .tuple #[oq 3, .int .i64 0])], memo := [(61, [oq 1, .int .i64 10, .int .i64 64], [], .tuple #[sy 0, .nilIface], []), (61, [oq 2, .int .i64 10, .int .i64 64], [], .tuple #[sy 1, .nilIface], [])] }) ⟨(all_cons (strOK (op := .neq) (ty := 9) (x := oq 3) (y := oq 0) (r := .bool false) (v := .bool false) (a := (textB (pvB (s.extract 0 K)) (pvB (s.extract (K + 1) s.size)))) (b := s) (by kernel_rfl) rfl rfl rfl (fun w => strNe (by have q : sameS (textB (pvB (s.extract 0 K)) (pvB (s.extract (K + 1) s.size))) s = _ := h3; unfold sameS at q; rw [q]; try rfl) w)) all_nil), all_nil, all_nil, all_nil, (all_cons (callOK (f := 60) (args := [oq 0, .string ⟨#[47]⟩]) (v := .tuple #[oq 1, oq 2, .bool true]) (args' := #[(.string s), .string ⟨#[47]⟩]) (v' := .tuple #[(.string (s.extract 0 K)), (.string (s.extract (K + 1) s.size)), .bool true]) (by kernel_rfl) (by kernel_rfl) (by kernel_rfl) (fun w => cut_some s w hs K hz)) (all_cons (callOKb (f := 37) (args := [.agg #[sy 0, sy 1]]) (v := .tuple #[oq 3, .int .i64 0]) (args' := #[.agg #[.int .i64 ((pvB (s.extract 0 K))), .int .i64 ((pvB (s.extract (K + 1) s.size)))]]) (v' := .tuple #[(.string (textB (pvB (s.extract 0 K)) (pvB (s.extract (K + 1) s.size)))), .int .i64 0]) (by kernel_rfl) (by kernel_rfl) (by kernel_rfl) (fun w1 hw1 => by have q := text_any (pvB (s.extract 0 K)) (pvB (s.extract (K + 1) s.size)) w1 (pv_bd _) (pv_bd _) w0 ht hw1; unfold textF at q; rw [h2] at q; exact q)) all_nil)), all_nil, all_nil, all_nil, all_nil, all_nil, all_nil, all_nil, all_nil, all_nil, (all_cons (parseMemo (i := 1) (n := (sn 0)) (s := (s.extract 0 K)) (ev := .nilIface) rfl rfl (by kernel_rfl) (Nat.le_trans ext_size hs) he (by unfold errOf; rw [h0]; rfl)) (all_cons (parseMemo (i := 2) (n := (sn 1)) (s := (s.extract (K + 1) s.size)) (ev := .nilIface) rfl rfl (by kernel_rfl) (Nat.le_trans ext_size hs) he (by unfold errOf; rw [h1]; rfl)) all_nil)), all_nil, all_nil⟩ 1000 50 35 [oq 0] (.tuple #[.agg #[sy 0, sy 1], .int .i64 0]) (args' := #[(.string s)]) (v' := .tuple #[.agg #[.int .i64 ((pvB (s.extract 0 K))), .int .i64 ((pvB (s.extract (K + 1) s.size)))], .int .i64 0]) (by kernel_rfl) (by kernel_rfl) (by kernel_rfl) w hw
theorem parse_none (s : ByteArray) (w : World) (hs : s.size ≤ 1000000000000) (hz : slash s = none) (w0 : World) (ht : Tab w0) (hw : Below w0.heap.size w0 w) (he : Errs w0) : Calls Tryd.prog 35 #[.string s] w fun e w' => e = .returned (parseF s) ∧ Below w.heap.size w w' := by
  rcases h0 : (pokB s) with _ | _
  · have hr : ((parseF s) : Value) = .tuple #[.agg #[.int .i64 0, .int .i64 0], .int .i64 2] := by (exact parseF_no (no_pok (bef_none hz) (aft_none hz) (.inl h0)))
    rw [hr]
    exact run_know (P := Tryd.prog) (ρ := env [(pvB s)] [(.string s)] w0) (o := { calls := [(60, [oq 0, .string ⟨#[47]⟩], .tuple #[oq 0, .string ⟨#[]⟩, .bool false]), (61, [.string ⟨#[49]⟩, .int .i64 10, .int .i64 64], .tuple #[.int .i64 1, .nilIface])], memo := [(61, [oq 0, .int .i64 10, .int .i64 64], [], .tuple #[sy 0, errV], [])] }) ⟨all_nil, all_nil, all_nil, all_nil, (all_cons (callOK (f := 60) (args := [oq 0, .string ⟨#[47]⟩]) (v := .tuple #[oq 0, .string ⟨#[]⟩, .bool false]) (args' := #[(.string s), .string ⟨#[47]⟩]) (v' := .tuple #[(.string s), .string ⟨#[]⟩, .bool false]) (by kernel_rfl) (by kernel_rfl) (by kernel_rfl) (fun w => cut_none s w hs hz)) (all_cons (callOK (f := 61) (args := [.string ⟨#[49]⟩, .int .i64 10, .int .i64 64]) (v := .tuple #[.int .i64 1, .nilIface]) (args' := #[.string ⟨#[49]⟩, .int .i64 10, .int .i64 64]) (v' := .tuple #[.int .i64 1, .nilIface]) (by kernel_rfl) (by kernel_rfl) (by kernel_rfl) (fun w => parse_known [49] 1 (by decide) (by decide) w)) all_nil)), all_nil, all_nil, all_nil, all_nil, all_nil, all_nil, all_nil, all_nil, all_nil, (all_cons (parseMemo (i := 0) (n := (sn 0)) (s := s) (ev := errV) rfl rfl (by kernel_rfl) hs he (by unfold errOf; rw [h0]; rfl)) all_nil), all_nil, all_nil⟩ 1000 50 35 [oq 0] (.tuple #[.agg #[.int .i64 0, .int .i64 0], .int .i64 2]) (args' := #[(.string s)]) (v' := .tuple #[.agg #[.int .i64 0, .int .i64 0], .int .i64 2]) (by kernel_rfl) (by kernel_rfl) (by kernel_rfl) w hw
  · rcases h1 : (validB (pvB s) 1) with _ | _
    · have hr : ((parseF s) : Value) = .tuple #[.agg #[.int .i64 0, .int .i64 0], .int .i64 2] := by (refine parseF_no ?_; rw [okTx_of (bef_none hz) (aft_none hz), pv_one.1, h1]; rfl)
      rw [hr]
      exact run_know (P := Tryd.prog) (ρ := env [(pvB s)] [(.string s)] w0) (o := { calls := [(60, [oq 0, .string ⟨#[47]⟩], .tuple #[oq 0, .string ⟨#[]⟩, .bool false]), (61, [.string ⟨#[49]⟩, .int .i64 10, .int .i64 64], .tuple #[.int .i64 1, .nilIface]), (37, [.agg #[sy 0, .int .i64 1]], .tuple #[.string ⟨#[]⟩, .int .i64 1])], memo := [(61, [oq 0, .int .i64 10, .int .i64 64], [], .tuple #[sy 0, .nilIface], [])] }) ⟨all_nil, all_nil, all_nil, all_nil, (all_cons (callOK (f := 60) (args := [oq 0, .string ⟨#[47]⟩]) (v := .tuple #[oq 0, .string ⟨#[]⟩, .bool false]) (args' := #[(.string s), .string ⟨#[47]⟩]) (v' := .tuple #[(.string s), .string ⟨#[]⟩, .bool false]) (by kernel_rfl) (by kernel_rfl) (by kernel_rfl) (fun w => cut_none s w hs hz)) (all_cons (callOK (f := 61) (args := [.string ⟨#[49]⟩, .int .i64 10, .int .i64 64]) (v := .tuple #[.int .i64 1, .nilIface]) (args' := #[.string ⟨#[49]⟩, .int .i64 10, .int .i64 64]) (v' := .tuple #[.int .i64 1, .nilIface]) (by kernel_rfl) (by kernel_rfl) (by kernel_rfl) (fun w => parse_known [49] 1 (by decide) (by decide) w)) (all_cons (callOKb (f := 37) (args := [.agg #[sy 0, .int .i64 1]]) (v := .tuple #[.string ⟨#[]⟩, .int .i64 1]) (args' := #[.agg #[.int .i64 (pvB s), .int .i64 1]]) (v' := .tuple #[.string ⟨#[]⟩, .int .i64 1]) (by kernel_rfl) (by kernel_rfl) (by kernel_rfl) (fun w1 hw1 => by have q := text_any (pvB s) 1 w1 (pv_bd _) ⟨by omega, by omega⟩ w0 ht hw1; unfold textF at q; rw [h1] at q; exact q)) all_nil))), all_nil, all_nil, all_nil, all_nil, all_nil, all_nil, all_nil, all_nil, all_nil, (all_cons (parseMemo (i := 0) (n := (sn 0)) (s := s) (ev := .nilIface) rfl rfl (by kernel_rfl) hs he (by unfold errOf; rw [h0]; rfl)) all_nil), all_nil, all_nil⟩ 1000 50 35 [oq 0] (.tuple #[.agg #[.int .i64 0, .int .i64 0], .int .i64 2]) (args' := #[(.string s)]) (v' := .tuple #[.agg #[.int .i64 0, .int .i64 0], .int .i64 2]) (by kernel_rfl) (by kernel_rfl) (by kernel_rfl) w hw
    · rcases h2 : (sameS (textB (pvB s) 1) s) with _ | _
      · have hr : ((parseF s) : Value) = .tuple #[.agg #[.int .i64 0, .int .i64 0], .int .i64 2] := by (refine parseF_no ?_; rw [okTx_of (bef_none hz) (aft_none hz), pv_one.1, h1, h2]; rfl)
        rw [hr]
        exact run_know (P := Tryd.prog) (ρ := env [(pvB s)] [(.string s), (.string (textB (pvB s) 1))] w0) (o := { bin := [(.neq, 9, oq 1, oq 0, .bool true)], calls := [(60, [oq 0, .string ⟨#[47]⟩], .tuple #[oq 0, .string ⟨#[]⟩, .bool false]), (61, [.string ⟨#[49]⟩, .int .i64 10, .int .i64 64], .tuple #[.int .i64 1, .nilIface]), (37, [.agg #[sy 0, .int .i64 1]], .tuple #[oq 1, .int .i64 0])], memo := [(61, [oq 0, .int .i64 10, .int .i64 64], [], .tuple #[sy 0, .nilIface], [])] }) ⟨(all_cons (strOK (op := .neq) (ty := 9) (x := oq 1) (y := oq 0) (r := .bool true) (v := .bool true) (a := (textB (pvB s) 1)) (b := s) (by kernel_rfl) rfl rfl rfl (fun w => strNe (by have q : sameS (textB (pvB s) 1) s = _ := h2; unfold sameS at q; rw [q]; try rfl) w)) all_nil), all_nil, all_nil, all_nil, (all_cons (callOK (f := 60) (args := [oq 0, .string ⟨#[47]⟩]) (v := .tuple #[oq 0, .string ⟨#[]⟩, .bool false]) (args' := #[(.string s), .string ⟨#[47]⟩]) (v' := .tuple #[(.string s), .string ⟨#[]⟩, .bool false]) (by kernel_rfl) (by kernel_rfl) (by kernel_rfl) (fun w => cut_none s w hs hz)) (all_cons (callOK (f := 61) (args := [.string ⟨#[49]⟩, .int .i64 10, .int .i64 64]) (v := .tuple #[.int .i64 1, .nilIface]) (args' := #[.string ⟨#[49]⟩, .int .i64 10, .int .i64 64]) (v' := .tuple #[.int .i64 1, .nilIface]) (by kernel_rfl) (by kernel_rfl) (by kernel_rfl) (fun w => parse_known [49] 1 (by decide) (by decide) w)) (all_cons (callOKb (f := 37) (args := [.agg #[sy 0, .int .i64 1]]) (v := .tuple #[oq 1, .int .i64 0]) (args' := #[.agg #[.int .i64 (pvB s), .int .i64 1]]) (v' := .tuple #[(.string (textB (pvB s) 1)), .int .i64 0]) (by kernel_rfl) (by kernel_rfl) (by kernel_rfl) (fun w1 hw1 => by have q := text_any (pvB s) 1 w1 (pv_bd _) ⟨by omega, by omega⟩ w0 ht hw1; unfold textF at q; rw [h1] at q; exact q)) all_nil))), all_nil, all_nil, all_nil, all_nil, all_nil, all_nil, all_nil, all_nil, all_nil, (all_cons (parseMemo (i := 0) (n := (sn 0)) (s := s) (ev := .nilIface) rfl rfl (by kernel_rfl) hs he (by unfold errOf; rw [h0]; rfl)) all_nil), all_nil, all_nil⟩ 1000 50 35 [oq 0] (.tuple #[.agg #[.int .i64 0, .int .i64 0], .int .i64 2]) (args' := #[(.string s)]) (v' := .tuple #[.agg #[.int .i64 0, .int .i64 0], .int .i64 2]) (by kernel_rfl) (by kernel_rfl) (by kernel_rfl) w hw
      · have hr : ((parseF s) : Value) = .tuple #[.agg #[.int .i64 (pvB s), .int .i64 1], .int .i64 0] := by (have q : okTx s = true := (by rw [okTx_of (bef_none hz) (aft_none hz), pv_one.1, h1, h2]; rfl); rw [parseF_yes q (bef_none hz) (aft_none hz)]; rw [pv_one.1])
        rw [hr]
        exact run_know (P := Tryd.prog) (ρ := env [(pvB s)] [(.string s), (.string (textB (pvB s) 1))] w0) (o := { bin := [(.neq, 9, oq 1, oq 0, .bool false)], calls := [(60, [oq 0, .string ⟨#[47]⟩], .tuple #[oq 0, .string ⟨#[]⟩, .bool false]), (61, [.string ⟨#[49]⟩, .int .i64 10, .int .i64 64], .tuple #[.int .i64 1, .nilIface]), (37, [.agg #[sy 0, .int .i64 1]], .tuple #[oq 1, .int .i64 0])], memo := [(61, [oq 0, .int .i64 10, .int .i64 64], [], .tuple #[sy 0, .nilIface], [])] }) ⟨(all_cons (strOK (op := .neq) (ty := 9) (x := oq 1) (y := oq 0) (r := .bool false) (v := .bool false) (a := (textB (pvB s) 1)) (b := s) (by kernel_rfl) rfl rfl rfl (fun w => strNe (by have q : sameS (textB (pvB s) 1) s = _ := h2; unfold sameS at q; rw [q]; try rfl) w)) all_nil), all_nil, all_nil, all_nil, (all_cons (callOK (f := 60) (args := [oq 0, .string ⟨#[47]⟩]) (v := .tuple #[oq 0, .string ⟨#[]⟩, .bool false]) (args' := #[(.string s), .string ⟨#[47]⟩]) (v' := .tuple #[(.string s), .string ⟨#[]⟩, .bool false]) (by kernel_rfl) (by kernel_rfl) (by kernel_rfl) (fun w => cut_none s w hs hz)) (all_cons (callOK (f := 61) (args := [.string ⟨#[49]⟩, .int .i64 10, .int .i64 64]) (v := .tuple #[.int .i64 1, .nilIface]) (args' := #[.string ⟨#[49]⟩, .int .i64 10, .int .i64 64]) (v' := .tuple #[.int .i64 1, .nilIface]) (by kernel_rfl) (by kernel_rfl) (by kernel_rfl) (fun w => parse_known [49] 1 (by decide) (by decide) w)) (all_cons (callOKb (f := 37) (args := [.agg #[sy 0, .int .i64 1]]) (v := .tuple #[oq 1, .int .i64 0]) (args' := #[.agg #[.int .i64 (pvB s), .int .i64 1]]) (v' := .tuple #[(.string (textB (pvB s) 1)), .int .i64 0]) (by kernel_rfl) (by kernel_rfl) (by kernel_rfl) (fun w1 hw1 => by have q := text_any (pvB s) 1 w1 (pv_bd _) ⟨by omega, by omega⟩ w0 ht hw1; unfold textF at q; rw [h1] at q; exact q)) all_nil))), all_nil, all_nil, all_nil, all_nil, all_nil, all_nil, all_nil, all_nil, all_nil, (all_cons (parseMemo (i := 0) (n := (sn 0)) (s := s) (ev := .nilIface) rfl rfl (by kernel_rfl) hs he (by unfold errOf; rw [h0]; rfl)) all_nil), all_nil, all_nil⟩ 1000 50 35 [oq 0] (.tuple #[.agg #[sy 0, .int .i64 1], .int .i64 0]) (args' := #[(.string s)]) (v' := .tuple #[.agg #[.int .i64 (pvB s), .int .i64 1], .int .i64 0]) (by kernel_rfl) (by kernel_rfl) (by kernel_rfl) w hw
theorem parse_any (s : ByteArray) (w : World) (hs : s.size ≤ 1000000000000) (w0 : World) (ht : Tab w0) (hw : Below w0.heap.size w0 w) (he : Errs w0) : Calls Tryd.prog 35 #[.string s] w fun e w' => e = .returned (parseF s) ∧ Below w.heap.size w w' := by
  rcases hz : slash s with _ | K
  · exact parse_none s w hs hz w0 ht hw he
  · exact parse_some s w hs K hz w0 ht hw he
def rpt0 : Tm := [[oq 0, undef, .pointer (some ⟨0, 0, none⟩), .bool false, sy 0, .int .i64 1, sy 1, undef, undef, undef, oq 0, sy 0, .bool false, undef, oq 0, sy 0], [anyV, anyV, anyV, anyV, anyV, anyV, anyV, anyV, anyV, anyV, undef, undef, undef, undef, undef, undef], [undef, undef, undef, undef, undef, undef, undef, undef, undef, undef, undef, undef, undef, undef, undef, undef], [undef, undef, undef, undef, undef, undef, undef, undef]]
def rpH0 : Heap := [some ⟨[.int .i64 0, .int .i64 0], 23⟩]
def rptA : Tm := [[oq 0, undef, .pointer (some ⟨0, 0, none⟩), .bool false, sy 0, .int .i64 1, .int .i64 0, undef, undef, undef, oq 0, sy 0, .bool false, undef, oq 0, sy 0], [undef, undef, undef, undef, undef, undef, undef, undef, undef, undef, undef, undef, undef, undef, undef, undef], [undef, undef, undef, undef, undef, undef, undef, undef, undef, undef, undef, undef, undef, undef, undef, undef], [undef, undef, undef, undef, undef, undef, undef, undef]]
def rpHA : Heap := [some ⟨[.int .i64 0, .int .i64 0], 23⟩]
def rpo0 : Orc := { bin := [(.lss, 3, .int .i64 (sn 1), .int .i64 (sn 0), .bool true), (.eql, 5, .int .u8 (sn 2), .int .u8 47, .bool false), (.add, 3, .int .i64 (sn 1), .int .i64 1, .int .i64 (sn 3))], idx := [(9, oq 0, .int .i64 (sn 1), .int .u8 (sn 2))], lens := [(true, oq 0, .int .i64 (sn 0))] }
def rpo1 : Orc := { bin := [(.lss, 3, .int .i64 (sn 1), .int .i64 (sn 0), .bool true), (.eql, 5, .int .u8 (sn 2), .int .u8 47, .bool true), (.add, 3, .int .i64 (sn 1), .int .i64 1, .int .i64 (sn 3))], idx := [(9, oq 0, .int .i64 (sn 1), .int .u8 (sn 2))], sli := [(9, oq 0, (some (sy 3)), none, oq 1)], lens := [(true, oq 0, .int .i64 (sn 0))], memo := [(61, [oq 1, .int .i64 10, .int .i64 64], [], .tuple #[sy 4, errV], [])] }
def rpo2 : Orc := { bin := [(.lss, 3, .int .i64 (sn 1), .int .i64 (sn 0), .bool true), (.eql, 5, .int .u8 (sn 2), .int .u8 47, .bool true), (.add, 3, .int .i64 (sn 1), .int .i64 1, .int .i64 (sn 3))], idx := [(9, oq 0, .int .i64 (sn 1), .int .u8 (sn 2))], sli := [(9, oq 0, (some (sy 3)), none, oq 1)], lens := [(true, oq 0, .int .i64 (sn 0))], memo := [(61, [oq 1, .int .i64 10, .int .i64 64], [], .tuple #[sy 4, .nilIface], [])] }
def rpo3 : Orc := { bin := [(.lss, 3, .int .i64 (sn 1), .int .i64 (sn 0), .bool false)], lens := [(true, oq 0, .int .i64 (sn 0))] }
noncomputable def rpE (s : ByteArray) (w0 : World) (i : Nat) : Env := env [(s.size : Int), (i : Int), (bt s i), ((i : Int) + 1), (pvB (s.extract (i + 1) s.size))] [(.string s), (.string (s.extract (i + 1) s.size))] w0
theorem rps0 : stepT Tryd.prog [0] (evBody Tryd.prog rpo0 1000 50 36 [false, true, false, true, true, true, true] rpt0 rpH0) .normal rpt0 rpH0 [.val 0 0, .num 1180591620717411303424 1180591620717411303424, .num 1180591620717411303427 1180591620717411303425] = true := by decide +kernel
theorem rpk0 (s : ByteArray) (w0 : World) (i : Nat) (hib : bd 0 1000000000000000 (i : Int)) (hn : bd 0 1000000000000000 (s.size : Int)) (hs : s.size ≤ 1000000000000) (he : Errs w0) (h0 : (decide ((s.size : Int) ≤ (i : Int))) = false) (h1 : ((bt s i) == 47) = false) : Know (rpE s w0 i) Tryd.prog rpo0 := by
  have bq0 : bd 1 1000000000000001 (((i : Int) + 1)) := bd_add hib (bd_lit (l := 1) (h := 1) rfl) rfl
  exact ⟨(all_cons (cmpOK (op := .lss) (ty := 3) (k := .i64) (n := (sn 1)) (m := (sn 0)) (t := true) (a := (i : Int)) (b := (s.size : Int)) (by kernel_rfl) (by kernel_rfl) (congrArg some ((lt_of_le h0)))) (all_cons (cmpOK (op := .eql) (ty := 5) (k := .u8) (n := (sn 2)) (m := 47) (t := false) (a := (bt s i)) (b := 47) (by kernel_rfl) (by kernel_rfl) (congrArg some (h1))) (all_cons (arOK (op := .add) (ty := 3) (k := .i64) (n := (sn 1)) (m := 1) (r := (sn 3)) (a := (i : Int)) (b := 1) (c := (((i : Int) + 1))) (d := (i : Int) + 1) (by kernel_rfl) (by kernel_rfl) (by kernel_rfl) rfl (wr_bd bq0 rfl)) all_nil))), all_nil, all_nil, all_nil, all_nil, all_nil, all_nil, (all_cons (sidxOK (i := 0) (j := (sn 1)) (r := (sn 2)) (k := i) rfl (by kernel_rfl) (by kernel_rfl) (by have g := of_decide_eq_false h0; omega) (by kernel_rfl)) all_nil), all_nil, all_nil, (all_cons (slenOK (i := 0) (r := (sn 0)) rfl (by kernel_rfl)) all_nil), all_nil, all_nil, all_nil, all_nil, all_nil, all_nil⟩
theorem rpk1 (s : ByteArray) (w0 : World) (i : Nat) (hib : bd 0 1000000000000000 (i : Int)) (hn : bd 0 1000000000000000 (s.size : Int)) (hs : s.size ≤ 1000000000000) (he : Errs w0) (h0 : (decide ((s.size : Int) ≤ (i : Int))) = false) (h1 : ((bt s i) == 47) = true) (h2 : (pokB (s.extract (i + 1) s.size)) = false) : Know (rpE s w0 i) Tryd.prog rpo1 := by
  have bq0 : bd 1 1000000000000001 (((i : Int) + 1)) := bd_add hib (bd_lit (l := 1) (h := 1) rfl) rfl
  exact ⟨(all_cons (cmpOK (op := .lss) (ty := 3) (k := .i64) (n := (sn 1)) (m := (sn 0)) (t := true) (a := (i : Int)) (b := (s.size : Int)) (by kernel_rfl) (by kernel_rfl) (congrArg some ((lt_of_le h0)))) (all_cons (cmpOK (op := .eql) (ty := 5) (k := .u8) (n := (sn 2)) (m := 47) (t := true) (a := (bt s i)) (b := 47) (by kernel_rfl) (by kernel_rfl) (congrArg some (h1))) (all_cons (arOK (op := .add) (ty := 3) (k := .i64) (n := (sn 1)) (m := 1) (r := (sn 3)) (a := (i : Int)) (b := 1) (c := (((i : Int) + 1))) (d := (i : Int) + 1) (by kernel_rfl) (by kernel_rfl) (by kernel_rfl) rfl (wr_bd bq0 rfl)) all_nil))), all_nil, all_nil, all_nil, all_nil, all_nil, all_nil, (all_cons (sidxOK (i := 0) (j := (sn 1)) (r := (sn 2)) (k := i) rfl (by kernel_rfl) (by kernel_rfl) (by have g := of_decide_eq_false h0; omega) (by kernel_rfl)) all_nil), (all_cons (ssliOK (ty := 9) (i := 0) (j := 1) (lo := (some (sy 3))) (hi := none) (l := (i + 1)) (h := s.size) (s := s) (by kernel_rfl) rfl (by show inst _ _ = Value.int .i64 _; kernel_rfl) rfl (by have g := of_decide_eq_false h0; omega) (Nat.le_refl _) (by kernel_rfl)) all_nil), all_nil, (all_cons (slenOK (i := 0) (r := (sn 0)) rfl (by kernel_rfl)) all_nil), all_nil, all_nil, all_nil, (all_cons (parseMemo (i := 1) (n := (sn 4)) (s := (s.extract (i + 1) s.size)) (ev := errV) rfl rfl (by kernel_rfl) (Nat.le_trans ext_size hs) he (by unfold errOf; rw [h2]; rfl)) all_nil), all_nil, all_nil⟩
theorem rpk2 (s : ByteArray) (w0 : World) (i : Nat) (hib : bd 0 1000000000000000 (i : Int)) (hn : bd 0 1000000000000000 (s.size : Int)) (hs : s.size ≤ 1000000000000) (he : Errs w0) (h0 : (decide ((s.size : Int) ≤ (i : Int))) = false) (h1 : ((bt s i) == 47) = true) (h2 : (pokB (s.extract (i + 1) s.size)) = true) : Know (rpE s w0 i) Tryd.prog rpo2 := by
  have bq0 : bd 1 1000000000000001 (((i : Int) + 1)) := bd_add hib (bd_lit (l := 1) (h := 1) rfl) rfl
  exact ⟨(all_cons (cmpOK (op := .lss) (ty := 3) (k := .i64) (n := (sn 1)) (m := (sn 0)) (t := true) (a := (i : Int)) (b := (s.size : Int)) (by kernel_rfl) (by kernel_rfl) (congrArg some ((lt_of_le h0)))) (all_cons (cmpOK (op := .eql) (ty := 5) (k := .u8) (n := (sn 2)) (m := 47) (t := true) (a := (bt s i)) (b := 47) (by kernel_rfl) (by kernel_rfl) (congrArg some (h1))) (all_cons (arOK (op := .add) (ty := 3) (k := .i64) (n := (sn 1)) (m := 1) (r := (sn 3)) (a := (i : Int)) (b := 1) (c := (((i : Int) + 1))) (d := (i : Int) + 1) (by kernel_rfl) (by kernel_rfl) (by kernel_rfl) rfl (wr_bd bq0 rfl)) all_nil))), all_nil, all_nil, all_nil, all_nil, all_nil, all_nil, (all_cons (sidxOK (i := 0) (j := (sn 1)) (r := (sn 2)) (k := i) rfl (by kernel_rfl) (by kernel_rfl) (by have g := of_decide_eq_false h0; omega) (by kernel_rfl)) all_nil), (all_cons (ssliOK (ty := 9) (i := 0) (j := 1) (lo := (some (sy 3))) (hi := none) (l := (i + 1)) (h := s.size) (s := s) (by kernel_rfl) rfl (by show inst _ _ = Value.int .i64 _; kernel_rfl) rfl (by have g := of_decide_eq_false h0; omega) (Nat.le_refl _) (by kernel_rfl)) all_nil), all_nil, (all_cons (slenOK (i := 0) (r := (sn 0)) rfl (by kernel_rfl)) all_nil), all_nil, all_nil, all_nil, (all_cons (parseMemo (i := 1) (n := (sn 4)) (s := (s.extract (i + 1) s.size)) (ev := .nilIface) rfl rfl (by kernel_rfl) (Nat.le_trans ext_size hs) he (by unfold errOf; rw [h2]; rfl)) all_nil), all_nil, all_nil⟩
theorem rpk3 (s : ByteArray) (w0 : World) (i : Nat) (hib : bd 0 1000000000000000 (i : Int)) (hn : bd 0 1000000000000000 (s.size : Int)) (hs : s.size ≤ 1000000000000) (he : Errs w0) (h0 : (decide ((s.size : Int) ≤ (i : Int))) = true) : Know (rpE s w0 i) Tryd.prog rpo3 := by
  exact ⟨(all_cons (cmpOK (op := .lss) (ty := 3) (k := .i64) (n := (sn 1)) (m := (sn 0)) (t := false) (a := (i : Int)) (b := (s.size : Int)) (by kernel_rfl) (by kernel_rfl) (congrArg some ((lt_of_le h0)))) all_nil), all_nil, all_nil, all_nil, all_nil, all_nil, all_nil, all_nil, all_nil, all_nil, (all_cons (slenOK (i := 0) (r := (sn 0)) rfl (by kernel_rfl)) all_nil), all_nil, all_nil, all_nil, all_nil, all_nil, all_nil⟩
def rptF_stop : Tm := [[oq 0, anyV, .pointer (some ⟨0, 0, none⟩), .bool false, sy 1, sy 2, sy 1, anyV, anyV, anyV, oq 0, sy 0, .bool false, anyV, oq 0, sy 0], [sy 1, oq 0, sy 0, .bool true, anyV, anyV, oq 0, sy 1, anyV, .bool true, sy 1, anyV, oq 0, sy 1, anyV, anyV], [anyV, sy 2, anyV, anyV, anyV, anyV, anyV, anyV, anyV, anyV, anyV, anyV, anyV, anyV, anyV, anyV], [anyV, anyV, anyV, anyV, anyV, anyV, anyV, anyV]]
def rpHF_stop : Heap := [some ⟨[.int .i64 0, .int .i64 0], 23⟩]
theorem rpf1_stop : stepT Tryd.prog [0] (evBody Tryd.prog rpo1 1000 50 36 [false, true, false, true, true, true, true] rpt0 rpH0) (.exit 0) rptF_stop rpHF_stop [.val 0 0, .num 1180591620717411303425 1180591620717411303425, .num 1180591620717411303428 1180591620717411303426, .num 1180591620717411303424 1180591620717411303424] = true := by decide +kernel
theorem rpf2_stop : stepT Tryd.prog [0] (evBody Tryd.prog rpo2 1000 50 36 [false, true, false, true, true, true, true] rpt0 rpH0) (.exit 0) rptF_stop rpHF_stop [.val 0 0, .num 1180591620717411303425 1180591620717411303425, .num 1180591620717411303428 1180591620717411303426, .num 1180591620717411303424 1180591620717411303424] = true := by decide +kernel
theorem rp_loop_stop (s : ByteArray) (w0 : World) (hs : s.size ≤ 1000000000000) (he : Errs w0) (K : Nat) (hz : slash s = some K) : LoopE (env [(s.size : Int), (K : Int), (pvB (s.extract (K + 1) s.size))] [(.string s)] w0) Tryd.prog (36, [false, true, false, true, true, true, true], rptA, rpHA, .exit 0, rptF_stop, rpHF_stop) := by
  refine loop_rule (σ := { st : Nat // st ≤ K }) (fun st => rpE s w0 st.1) (fun _ => rfl) (fun st => K - st.1) (fun _ => rpt0) (fun _ => rpH0) rfl (fun _ => by decide) (by decide) ?_ ⟨0, Nat.zero_le _⟩ [.val 0 0, .num 1180591620717411303424 1180591620717411303424, .num 0 1180591620717411303425] [0] (by decide +kernel) (by decide) ?_
  · rintro ⟨i, hi⟩
    rcases Nat.lt_or_ge i (K) with h | h
    · have hq := (slash_some hz).2.2 i h; have hlt : i < s.size := by { have := (slash_some hz).1; omega }; have hib : bd 0 1000000000000000 (i : Int) := ⟨by omega, by omega⟩; have hn : bd 0 1000000000000000 (s.size : Int) := ⟨by omega, by omega⟩
      rcases h0 : (decide ((s.size : Int) ≤ (i : Int))) with _ | _
      · rcases h1 : ((bt s i) == 47) with _ | _
        · refine .inl ⟨rpo0, 1000, 50, _, [0], ⟨i + 1, h⟩, (rpk0 s w0 i hib hn hs he h0 h1).ok, rps0, by decide, ?_, by show K - (i + 1) < K - i; omega⟩
          intro q hq
          simp only [List.mem_cons, List.not_mem_nil, or_false] at hq
          rcases hq with rfl | rfl | rfl
          · show (_ : Value) = _; kernel_rfl
          · show (_ : Int) = _; kernel_rfl
          · show (((i : Int) + 1) : Int) = (((i + 1 : Nat)) : Int); first | rfl | (omega)
        · rcases h2 : (pokB (s.extract (i + 1) s.size)) with _ | _
          · exfalso; (first | (have g := of_decide_eq_true h0; omega) | (rw [hq] at h1; cases h1))
          · exfalso; (first | (have g := of_decide_eq_true h0; omega) | (rw [hq] at h1; cases h1))
      · exfalso; (first | (have g := of_decide_eq_true h0; omega) | (rw [hq] at h1; cases h1))
    · have hE : K = i := by omega
      subst hE
      have hq : (bt s K == 47) = true := by { rw [(slash_some hz).2.1]; rfl }; have hlt : K < s.size := (slash_some hz).1; have hib : bd 0 1000000000000000 (K : Int) := ⟨by omega, by omega⟩; have hn : bd 0 1000000000000000 (s.size : Int) := ⟨by omega, by omega⟩
      rcases h0 : (decide ((s.size : Int) ≤ (K : Int))) with _ | _
      · rcases h1 : ((bt s K) == 47) with _ | _
        · exfalso; (first | (have g := of_decide_eq_true h0; omega) | (rw [hq] at h1; cases h1))
        · rcases h2 : (pokB (s.extract (K + 1) s.size)) with _ | _
          · refine .inr ⟨rpo1, 1000, 50, _, [0], (rpk1 s w0 (K) hib hn hs he h0 h1 h2).ok, rpf1_stop, by decide, ?_⟩
            intro q hq
            simp only [List.mem_cons, List.not_mem_nil, or_false] at hq
            rcases hq with rfl | rfl | rfl | rfl
            · show (_ : Value) = _; kernel_rfl
            · show (_ : Int) = _; kernel_rfl
            · show (_ : Int) = _; kernel_rfl
            · show (_ : Int) = _; kernel_rfl
          · refine .inr ⟨rpo2, 1000, 50, _, [0], (rpk2 s w0 (K) hib hn hs he h0 h1 h2).ok, rpf2_stop, by decide, ?_⟩
            intro q hq
            simp only [List.mem_cons, List.not_mem_nil, or_false] at hq
            rcases hq with rfl | rfl | rfl | rfl
            · show (_ : Value) = _; kernel_rfl
            · show (_ : Int) = _; kernel_rfl
            · show (_ : Int) = _; kernel_rfl
            · show (_ : Int) = _; kernel_rfl
      · exfalso; (first | (have g := of_decide_eq_true h0; omega) | (rw [hq] at h1; cases h1))
  · skip
    intro q hq
    simp only [List.mem_cons, List.not_mem_nil, or_false] at hq
    rcases hq with rfl | rfl | rfl
    · show (_ : Value) = _; kernel_rfl
    · show (_ : Int) = _; kernel_rfl
    · show (0 : Int) = (0 : Int); first | rfl | (omega)
def rptF_done : Tm := [[oq 0, anyV, .pointer (some ⟨0, 0, none⟩), .bool false, sy 0, .int .i64 1, anyV, anyV, anyV, anyV, oq 0, sy 0, .bool false, anyV, oq 0, sy 0], [anyV, oq 0, sy 0, .bool false, anyV, anyV, anyV, anyV, anyV, anyV, anyV, anyV, anyV, anyV, anyV, anyV], [anyV, anyV, anyV, anyV, anyV, anyV, anyV, anyV, anyV, anyV, anyV, anyV, anyV, anyV, anyV, anyV], [anyV, anyV, anyV, anyV, anyV, anyV, anyV, anyV]]
def rpHF_done : Heap := [some ⟨[.int .i64 0, .int .i64 0], 23⟩]
theorem rpf3_done : stepT Tryd.prog [0] (evBody Tryd.prog rpo3 1000 50 36 [false, true, false, true, true, true, true] rpt0 rpH0) (.exit 0) rptF_done rpHF_done [.val 0 0, .num 1180591620717411303424 1180591620717411303424] = true := by decide +kernel
theorem rp_loop_done (s : ByteArray) (w0 : World) (hs : s.size ≤ 1000000000000) (he : Errs w0) (hz : slash s = none) : LoopE (env [(s.size : Int)] [(.string s)] w0) Tryd.prog (36, [false, true, false, true, true, true, true], rptA, rpHA, .exit 0, rptF_done, rpHF_done) := by
  refine loop_rule (σ := { st : Nat // st ≤ s.size }) (fun st => rpE s w0 st.1) (fun _ => rfl) (fun st => s.size - st.1) (fun _ => rpt0) (fun _ => rpH0) rfl (fun _ => by decide) (by decide) ?_ ⟨0, Nat.zero_le _⟩ [.val 0 0, .num 1180591620717411303424 1180591620717411303424, .num 0 1180591620717411303425] [0] (by decide +kernel) (by decide) ?_
  · rintro ⟨i, hi⟩
    rcases Nat.lt_or_ge i (s.size) with h | h
    · have hq := slash_not hz i h; have hib : bd 0 1000000000000000 (i : Int) := ⟨by omega, by omega⟩; have hn : bd 0 1000000000000000 (s.size : Int) := ⟨by omega, by omega⟩
      rcases h0 : (decide ((s.size : Int) ≤ (i : Int))) with _ | _
      · rcases h1 : ((bt s i) == 47) with _ | _
        · refine .inl ⟨rpo0, 1000, 50, _, [0], ⟨i + 1, h⟩, (rpk0 s w0 i hib hn hs he h0 h1).ok, rps0, by decide, ?_, by show s.size - (i + 1) < s.size - i; omega⟩
          intro q hq
          simp only [List.mem_cons, List.not_mem_nil, or_false] at hq
          rcases hq with rfl | rfl | rfl
          · show (_ : Value) = _; kernel_rfl
          · show (_ : Int) = _; kernel_rfl
          · show (((i : Int) + 1) : Int) = (((i + 1 : Nat)) : Int); first | rfl | (omega)
        · rcases h2 : (pokB (s.extract (i + 1) s.size)) with _ | _
          · exfalso; (first | (have g := of_decide_eq_true h0; omega) | (rw [hq] at h1; cases h1))
          · exfalso; (first | (have g := of_decide_eq_true h0; omega) | (rw [hq] at h1; cases h1))
      · exfalso; (first | (have g := of_decide_eq_true h0; omega) | (rw [hq] at h1; cases h1))
    · have hE : s.size = i := by omega
      subst hE
      have hib : bd 0 1000000000000000 (s.size : Int) := ⟨by omega, by omega⟩; have hn : bd 0 1000000000000000 (s.size : Int) := ⟨by omega, by omega⟩
      rcases h0 : (decide ((s.size : Int) ≤ ((s.size) : Int))) with _ | _
      · rcases h1 : ((bt s (s.size)) == 47) with _ | _
        · exfalso; (first | (have g := of_decide_eq_true h0; omega) | (have g := of_decide_eq_false h0; omega))
        · rcases h2 : (pokB (s.extract ((s.size) + 1) s.size)) with _ | _
          · exfalso; (first | (have g := of_decide_eq_true h0; omega) | (have g := of_decide_eq_false h0; omega))
          · exfalso; (first | (have g := of_decide_eq_true h0; omega) | (have g := of_decide_eq_false h0; omega))
      · refine .inr ⟨rpo3, 1000, 50, _, [0], (rpk3 s w0 (s.size) hib hn hs he h0).ok, rpf3_done, by decide, ?_⟩
        intro q hq
        simp only [List.mem_cons, List.not_mem_nil, or_false] at hq
        rcases hq with rfl | rfl
        · show (_ : Value) = _; kernel_rfl
        · show (_ : Int) = _; kernel_rfl
  · skip
    intro q hq
    simp only [List.mem_cons, List.not_mem_nil, or_false] at hq
    rcases hq with rfl | rfl | rfl
    · show (_ : Value) = _; kernel_rfl
    · show (_ : Int) = _; kernel_rfl
    · show (0 : Int) = (0 : Int); first | rfl | (omega)
theorem bef_all {s : ByteArray} (hz : slash s = none) : befS s = s.extract 0 s.size := by
  rw [bef_none hz]
  apply ba_ext
  rw [ext_list]
  have : s.data.toList.length = s.size := Array.length_toList
  rw [Nat.sub_zero, List.drop_zero, List.take_of_length_le (by omega)]
def rparseF (s : ByteArray) : Value := if okTx s = true then .tuple #[.agg #[.int .i64 (pvB (befS s)), .int .i64 (pvB (aftS s))], .bool true] else .tuple #[.agg #[.int .i64 0, .int .i64 0], .bool false]
theorem rparseF_no {s : ByteArray} (h : okTx s = false) : rparseF s = .tuple #[.agg #[.int .i64 0, .int .i64 0], .bool false] := by unfold rparseF; rw [h]; rfl
theorem rparseF_yes {s b a : ByteArray} (h : okTx s = true) (hb : befS s = b) (ha : aftS s = a) : rparseF s = .tuple #[.agg #[.int .i64 (pvB b), .int .i64 (pvB a)], .bool true] := by unfold rparseF; rw [h, hb, ha]; rfl
theorem rparse_some (s : ByteArray) (w : World) (hs : s.size ≤ 1000000000000) (K : Nat) (hz : slash s = some K) (w0 : World) (ht : Tab w0) (hw : Below w0.heap.size w0 w) (he : Errs w0) : Calls Tryd.prog 36 #[.string s] w fun e w' => e = .returned (rparseF s) ∧ Below w.heap.size w w' := by
  have hn := sz_bd hs
  have hk : bd 0 1000000000000 (K : Int) := ⟨by omega, by have := (slash_some hz).1; omega⟩
  rcases h0 : (decide ((s.size : Int) ≤ 40)) with _ | _
  · have hr : ((rparseF s) : Value) = .tuple #[.agg #[.int .i64 0, .int .i64 0], .bool false] := by (refine rparseF_no ?_; rcases q : okTx s with _ | _; rfl; exact absurd (ok_short q) (by have g := of_decide_eq_false h0; omega))
    rw [hr]
    exact run_know (P := Tryd.prog) (ρ := env [(s.size : Int), (K : Int), (pvB (s.extract (K + 1) s.size))] [(.string s)] w0) (o := { bin := [(.gtr, 3, .int .i64 (sn 0), .int .i64 40, .bool true)], lens := [(true, oq 0, .int .i64 (sn 0))] }) ⟨(all_cons (cmpOK (op := .gtr) (ty := 3) (k := .i64) (n := (sn 0)) (m := 40) (t := true) (a := (s.size : Int)) (b := 40) (by kernel_rfl) (by kernel_rfl) (congrArg some ((gt_of_le h0)))) all_nil), all_nil, all_nil, all_nil, all_nil, all_nil, all_nil, all_nil, all_nil, all_nil, (all_cons (slenOK (i := 0) (r := (sn 0)) rfl (by kernel_rfl)) all_nil), all_nil, all_nil, all_nil, all_nil, all_nil, all_nil⟩ 1000 50 36 [oq 0] (.tuple #[.agg #[.int .i64 0, .int .i64 0], .bool false]) (args' := #[(.string s)]) (v' := .tuple #[.agg #[.int .i64 0, .int .i64 0], .bool false]) (by kernel_rfl) (by kernel_rfl) (by kernel_rfl) w hw
  · rcases h1 : (pokB (s.extract 0 K)) with _ | _
    · rcases h2 : (validB (pvB (s.extract 0 K)) (pvB (s.extract (K + 1) s.size))) with _ | _
      · have hr : ((rparseF s) : Value) = .tuple #[.agg #[.int .i64 0, .int .i64 0], .bool false] := by (refine rparseF_no ?_; rw [okTx_of (bef_some hz) (aft_some hz), h2]; rfl)
        rw [hr]
        exact run_know (P := Tryd.prog) (ρ := env [(s.size : Int), (K : Int), (pvB (s.extract (K + 1) s.size)), (pvB (s.extract 0 K))] [(.string s), (.string (s.extract 0 K))] w0) (o := { bin := [(.gtr, 3, .int .i64 (sn 0), .int .i64 40, .bool false)], calls := [(15, [.agg #[sy 3, sy 2]], .bool false)], sli := [(9, oq 0, none, (some (sy 1)), oq 1)], loops := [(36, [false, true, false, true, true, true, true], rptA, rpHA, .exit 0, rptF_stop, rpHF_stop)], lens := [(true, oq 0, .int .i64 (sn 0))], memo := [(61, [oq 1, .int .i64 10, .int .i64 64], [], .tuple #[sy 3, errV], [])] }) ⟨(all_cons (cmpOK (op := .gtr) (ty := 3) (k := .i64) (n := (sn 0)) (m := 40) (t := false) (a := (s.size : Int)) (b := 40) (by kernel_rfl) (by kernel_rfl) (congrArg some ((gt_of_le h0)))) all_nil), all_nil, all_nil, all_nil, (all_cons (callOK (f := 15) (args := [.agg #[sy 3, sy 2]]) (v := .bool false) (args' := #[.agg #[.int .i64 ((pvB (s.extract 0 K))), .int .i64 ((pvB (s.extract (K + 1) s.size)))]]) (v' := .bool false) (by kernel_rfl) (by kernel_rfl) (by kernel_rfl) (fun w => by have q := rvalid_any (pvB (s.extract 0 K)) (pvB (s.extract (K + 1) s.size)) w (pv_bd _) (pv_bd _); rw [h2] at q; exact q)) all_nil), all_nil, all_nil, all_nil, (all_cons (ssliOK (ty := 9) (i := 0) (j := 1) (lo := none) (hi := (some (sy 1))) (l := 0) (h := K) (s := s) (by kernel_rfl) rfl rfl (by show inst _ _ = Value.int .i64 _; kernel_rfl) (Nat.zero_le _) (by have := (slash_some hz).1; omega) (by kernel_rfl)) all_nil), (all_cons (loop_move (es := [.val 0 0, .num 1180591620717411303424 1180591620717411303424]) (es2 := [.val 0 0, .num 1180591620717411303425 1180591620717411303425, .num 1180591620717411303426 1180591620717411303426, .num 1180591620717411303424 1180591620717411303424]) (f := [0]) (f2 := [0]) (by rfl) (rp_loop_stop s w0 hs he K hz) (by decide +kernel) (by decide) (by intro q hq; simp only [List.mem_cons, List.not_mem_nil, or_false] at hq; rcases hq with rfl | rfl; (exact (show _ = _ by kernel_rfl)); (exact (show _ = _ by kernel_rfl))) (by decide +kernel) (by decide) (by decide) (by intro q hq; simp only [List.mem_cons, List.not_mem_nil, or_false] at hq; rcases hq with rfl | rfl | rfl | rfl; (exact (show _ = _ by kernel_rfl)); (exact (show _ = _ by kernel_rfl)); (exact (show _ = _ by kernel_rfl)); (exact (show _ = _ by kernel_rfl)))) all_nil), (all_cons (slenOK (i := 0) (r := (sn 0)) rfl (by kernel_rfl)) all_nil), all_nil, all_nil, all_nil, (all_cons (parseMemo (i := 1) (n := (sn 3)) (s := (s.extract 0 K)) (ev := errV) rfl rfl (by kernel_rfl) (Nat.le_trans ext_size hs) he (by unfold errOf; rw [h1]; rfl)) all_nil), all_nil, all_nil⟩ 1000 50 36 [oq 0] (.tuple #[.agg #[.int .i64 0, .int .i64 0], .bool false]) (args' := #[(.string s)]) (v' := .tuple #[.agg #[.int .i64 0, .int .i64 0], .bool false]) (by kernel_rfl) (by kernel_rfl) (by kernel_rfl) w hw
      · rcases h3 : (sameS (textB (pvB (s.extract 0 K)) (pvB (s.extract (K + 1) s.size))) s) with _ | _
        · have hr : ((rparseF s) : Value) = .tuple #[.agg #[.int .i64 0, .int .i64 0], .bool false] := by (refine rparseF_no ?_; rw [okTx_of (bef_some hz) (aft_some hz), h2, h3]; rfl)
          rw [hr]
          exact run_know (P := Tryd.prog) (ρ := env [(s.size : Int), (K : Int), (pvB (s.extract (K + 1) s.size)), (pvB (s.extract 0 K))] [(.string s), (.string (s.extract 0 K)), (.string (textB (pvB (s.extract 0 K)) (pvB (s.extract (K + 1) s.size))))] w0) (o := { bin := [(.gtr, 3, .int .i64 (sn 0), .int .i64 40, .bool false), (.neq, 9, oq 2, oq 0, .bool true)], calls := [(15, [.agg #[sy 3, sy 2]], .bool true), (38, [.agg #[sy 3, sy 2]], oq 2)], sli := [(9, oq 0, none, (some (sy 1)), oq 1)], loops := [(36, [false, true, false, true, true, true, true], rptA, rpHA, .exit 0, rptF_stop, rpHF_stop)], lens := [(true, oq 0, .int .i64 (sn 0))], memo := [(61, [oq 1, .int .i64 10, .int .i64 64], [], .tuple #[sy 3, errV], [])] }) ⟨(all_cons (cmpOK (op := .gtr) (ty := 3) (k := .i64) (n := (sn 0)) (m := 40) (t := false) (a := (s.size : Int)) (b := 40) (by kernel_rfl) (by kernel_rfl) (congrArg some ((gt_of_le h0)))) (all_cons (strOK (op := .neq) (ty := 9) (x := oq 2) (y := oq 0) (r := .bool true) (v := .bool true) (a := (textB (pvB (s.extract 0 K)) (pvB (s.extract (K + 1) s.size)))) (b := s) (by kernel_rfl) rfl rfl rfl (fun w => strNe (by have q : sameS (textB (pvB (s.extract 0 K)) (pvB (s.extract (K + 1) s.size))) s = _ := h3; unfold sameS at q; rw [q]; try rfl) w)) all_nil)), all_nil, all_nil, all_nil, (all_cons (callOK (f := 15) (args := [.agg #[sy 3, sy 2]]) (v := .bool true) (args' := #[.agg #[.int .i64 ((pvB (s.extract 0 K))), .int .i64 ((pvB (s.extract (K + 1) s.size)))]]) (v' := .bool true) (by kernel_rfl) (by kernel_rfl) (by kernel_rfl) (fun w => by have q := rvalid_any (pvB (s.extract 0 K)) (pvB (s.extract (K + 1) s.size)) w (pv_bd _) (pv_bd _); rw [h2] at q; exact q)) (all_cons (callOKb (f := 38) (args := [.agg #[sy 3, sy 2]]) (v := oq 2) (args' := #[.agg #[.int .i64 ((pvB (s.extract 0 K))), .int .i64 ((pvB (s.extract (K + 1) s.size)))]]) (v' := (.string (textB (pvB (s.extract 0 K)) (pvB (s.extract (K + 1) s.size))))) (by kernel_rfl) (by kernel_rfl) (by kernel_rfl) (fun w1 hw1 => rtext_any (pvB (s.extract 0 K)) (pvB (s.extract (K + 1) s.size)) w1 (pv_bd _) (pv_bd _) w0 ht hw1)) all_nil)), all_nil, all_nil, all_nil, (all_cons (ssliOK (ty := 9) (i := 0) (j := 1) (lo := none) (hi := (some (sy 1))) (l := 0) (h := K) (s := s) (by kernel_rfl) rfl rfl (by show inst _ _ = Value.int .i64 _; kernel_rfl) (Nat.zero_le _) (by have := (slash_some hz).1; omega) (by kernel_rfl)) all_nil), (all_cons (loop_move (es := [.val 0 0, .num 1180591620717411303424 1180591620717411303424]) (es2 := [.val 0 0, .num 1180591620717411303425 1180591620717411303425, .num 1180591620717411303426 1180591620717411303426, .num 1180591620717411303424 1180591620717411303424]) (f := [0]) (f2 := [0]) (by rfl) (rp_loop_stop s w0 hs he K hz) (by decide +kernel) (by decide) (by intro q hq; simp only [List.mem_cons, List.not_mem_nil, or_false] at hq; rcases hq with rfl | rfl; (exact (show _ = _ by kernel_rfl)); (exact (show _ = _ by kernel_rfl))) (by decide +kernel) (by decide) (by decide) (by intro q hq; simp only [List.mem_cons, List.not_mem_nil, or_false] at hq; rcases hq with rfl | rfl | rfl | rfl; (exact (show _ = _ by kernel_rfl)); (exact (show _ = _ by kernel_rfl)); (exact (show _ = _ by kernel_rfl)); (exact (show _ = _ by kernel_rfl)))) all_nil), (all_cons (slenOK (i := 0) (r := (sn 0)) rfl (by kernel_rfl)) all_nil), all_nil, all_nil, all_nil, (all_cons (parseMemo (i := 1) (n := (sn 3)) (s := (s.extract 0 K)) (ev := errV) rfl rfl (by kernel_rfl) (Nat.le_trans ext_size hs) he (by unfold errOf; rw [h1]; rfl)) all_nil), all_nil, all_nil⟩ 1000 50 36 [oq 0] (.tuple #[.agg #[.int .i64 0, .int .i64 0], .bool false]) (args' := #[(.string s)]) (v' := .tuple #[.agg #[.int .i64 0, .int .i64 0], .bool false]) (by kernel_rfl) (by kernel_rfl) (by kernel_rfl) w hw
        · have hr : ((rparseF s) : Value) = .tuple #[.agg #[.int .i64 ((pvB (s.extract 0 K))), .int .i64 ((pvB (s.extract (K + 1) s.size)))], .bool true] := by (have q : okTx s = true := (by rw [okTx_of (bef_some hz) (aft_some hz), h2, h3]; rfl); rw [rparseF_yes q (bef_some hz) (aft_some hz)])
          rw [hr]
          exact run_know (P := Tryd.prog) (ρ := env [(s.size : Int), (K : Int), (pvB (s.extract (K + 1) s.size)), (pvB (s.extract 0 K))] [(.string s), (.string (s.extract 0 K)), (.string (textB (pvB (s.extract 0 K)) (pvB (s.extract (K + 1) s.size))))] w0) (o := { bin := [(.gtr, 3, .int .i64 (sn 0), .int .i64 40, .bool false), (.neq, 9, oq 2, oq 0, .bool false)], calls := [(15, [.agg #[sy 3, sy 2]], .bool true), (38, [.agg #[sy 3, sy 2]], oq 2)], sli := [(9, oq 0, none, (some (sy 1)), oq 1)], loops := [(36, [false, true, false, true, true, true, true], rptA, rpHA, .exit 0, rptF_stop, rpHF_stop)], lens := [(true, oq 0, .int .i64 (sn 0))], memo := [(61, [oq 1, .int .i64 10, .int .i64 64], [], .tuple #[sy 3, errV], [])] }) ⟨(all_cons (cmpOK (op := .gtr) (ty := 3) (k := .i64) (n := (sn 0)) (m := 40) (t := false) (a := (s.size : Int)) (b := 40) (by kernel_rfl) (by kernel_rfl) (congrArg some ((gt_of_le h0)))) (all_cons (strOK (op := .neq) (ty := 9) (x := oq 2) (y := oq 0) (r := .bool false) (v := .bool false) (a := (textB (pvB (s.extract 0 K)) (pvB (s.extract (K + 1) s.size)))) (b := s) (by kernel_rfl) rfl rfl rfl (fun w => strNe (by have q : sameS (textB (pvB (s.extract 0 K)) (pvB (s.extract (K + 1) s.size))) s = _ := h3; unfold sameS at q; rw [q]; try rfl) w)) all_nil)), all_nil, all_nil, all_nil, (all_cons (callOK (f := 15) (args := [.agg #[sy 3, sy 2]]) (v := .bool true) (args' := #[.agg #[.int .i64 ((pvB (s.extract 0 K))), .int .i64 ((pvB (s.extract (K + 1) s.size)))]]) (v' := .bool true) (by kernel_rfl) (by kernel_rfl) (by kernel_rfl) (fun w => by have q := rvalid_any (pvB (s.extract 0 K)) (pvB (s.extract (K + 1) s.size)) w (pv_bd _) (pv_bd _); rw [h2] at q; exact q)) (all_cons (callOKb (f := 38) (args := [.agg #[sy 3, sy 2]]) (v := oq 2) (args' := #[.agg #[.int .i64 ((pvB (s.extract 0 K))), .int .i64 ((pvB (s.extract (K + 1) s.size)))]]) (v' := (.string (textB (pvB (s.extract 0 K)) (pvB (s.extract (K + 1) s.size))))) (by kernel_rfl) (by kernel_rfl) (by kernel_rfl) (fun w1 hw1 => rtext_any (pvB (s.extract 0 K)) (pvB (s.extract (K + 1) s.size)) w1 (pv_bd _) (pv_bd _) w0 ht hw1)) all_nil)), all_nil, all_nil, all_nil, (all_cons (ssliOK (ty := 9) (i := 0) (j := 1) (lo := none) (hi := (some (sy 1))) (l := 0) (h := K) (s := s) (by kernel_rfl) rfl rfl (by show inst _ _ = Value.int .i64 _; kernel_rfl) (Nat.zero_le _) (by have := (slash_some hz).1; omega) (by kernel_rfl)) all_nil), (all_cons (loop_move (es := [.val 0 0, .num 1180591620717411303424 1180591620717411303424]) (es2 := [.val 0 0, .num 1180591620717411303425 1180591620717411303425, .num 1180591620717411303426 1180591620717411303426, .num 1180591620717411303424 1180591620717411303424]) (f := [0]) (f2 := [0]) (by rfl) (rp_loop_stop s w0 hs he K hz) (by decide +kernel) (by decide) (by intro q hq; simp only [List.mem_cons, List.not_mem_nil, or_false] at hq; rcases hq with rfl | rfl; (exact (show _ = _ by kernel_rfl)); (exact (show _ = _ by kernel_rfl))) (by decide +kernel) (by decide) (by decide) (by intro q hq; simp only [List.mem_cons, List.not_mem_nil, or_false] at hq; rcases hq with rfl | rfl | rfl | rfl; (exact (show _ = _ by kernel_rfl)); (exact (show _ = _ by kernel_rfl)); (exact (show _ = _ by kernel_rfl)); (exact (show _ = _ by kernel_rfl)))) all_nil), (all_cons (slenOK (i := 0) (r := (sn 0)) rfl (by kernel_rfl)) all_nil), all_nil, all_nil, all_nil, (all_cons (parseMemo (i := 1) (n := (sn 3)) (s := (s.extract 0 K)) (ev := errV) rfl rfl (by kernel_rfl) (Nat.le_trans ext_size hs) he (by unfold errOf; rw [h1]; rfl)) all_nil), all_nil, all_nil⟩ 1000 50 36 [oq 0] (.tuple #[.agg #[sy 3, sy 2], .bool true]) (args' := #[(.string s)]) (v' := .tuple #[.agg #[.int .i64 ((pvB (s.extract 0 K))), .int .i64 ((pvB (s.extract (K + 1) s.size)))], .bool true]) (by kernel_rfl) (by kernel_rfl) (by kernel_rfl) w hw
    · rcases h2 : (validB (pvB (s.extract 0 K)) (pvB (s.extract (K + 1) s.size))) with _ | _
      · have hr : ((rparseF s) : Value) = .tuple #[.agg #[.int .i64 0, .int .i64 0], .bool false] := by (refine rparseF_no ?_; rw [okTx_of (bef_some hz) (aft_some hz), h2]; rfl)
        rw [hr]
        exact run_know (P := Tryd.prog) (ρ := env [(s.size : Int), (K : Int), (pvB (s.extract (K + 1) s.size)), (pvB (s.extract 0 K))] [(.string s), (.string (s.extract 0 K))] w0) (o := { bin := [(.gtr, 3, .int .i64 (sn 0), .int .i64 40, .bool false)], calls := [(15, [.agg #[sy 3, sy 2]], .bool false)], sli := [(9, oq 0, none, (some (sy 1)), oq 1)], loops := [(36, [false, true, false, true, true, true, true], rptA, rpHA, .exit 0, rptF_stop, rpHF_stop)], lens := [(true, oq 0, .int .i64 (sn 0))], memo := [(61, [oq 1, .int .i64 10, .int .i64 64], [], .tuple #[sy 3, .nilIface], [])] }) ⟨(all_cons (cmpOK (op := .gtr) (ty := 3) (k := .i64) (n := (sn 0)) (m := 40) (t := false) (a := (s.size : Int)) (b := 40) (by kernel_rfl) (by kernel_rfl) (congrArg some ((gt_of_le h0)))) all_nil), all_nil, all_nil, all_nil, (all_cons (callOK (f := 15) (args := [.agg #[sy 3, sy 2]]) (v := .bool false) (args' := #[.agg #[.int .i64 ((pvB (s.extract 0 K))), .int .i64 ((pvB (s.extract (K + 1) s.size)))]]) (v' := .bool false) (by kernel_rfl) (by kernel_rfl) (by kernel_rfl) (fun w => by have q := rvalid_any (pvB (s.extract 0 K)) (pvB (s.extract (K + 1) s.size)) w (pv_bd _) (pv_bd _); rw [h2] at q; exact q)) all_nil), all_nil, all_nil, all_nil, (all_cons (ssliOK (ty := 9) (i := 0) (j := 1) (lo := none) (hi := (some (sy 1))) (l := 0) (h := K) (s := s) (by kernel_rfl) rfl rfl (by show inst _ _ = Value.int .i64 _; kernel_rfl) (Nat.zero_le _) (by have := (slash_some hz).1; omega) (by kernel_rfl)) all_nil), (all_cons (loop_move (es := [.val 0 0, .num 1180591620717411303424 1180591620717411303424]) (es2 := [.val 0 0, .num 1180591620717411303425 1180591620717411303425, .num 1180591620717411303426 1180591620717411303426, .num 1180591620717411303424 1180591620717411303424]) (f := [0]) (f2 := [0]) (by rfl) (rp_loop_stop s w0 hs he K hz) (by decide +kernel) (by decide) (by intro q hq; simp only [List.mem_cons, List.not_mem_nil, or_false] at hq; rcases hq with rfl | rfl; (exact (show _ = _ by kernel_rfl)); (exact (show _ = _ by kernel_rfl))) (by decide +kernel) (by decide) (by decide) (by intro q hq; simp only [List.mem_cons, List.not_mem_nil, or_false] at hq; rcases hq with rfl | rfl | rfl | rfl; (exact (show _ = _ by kernel_rfl)); (exact (show _ = _ by kernel_rfl)); (exact (show _ = _ by kernel_rfl)); (exact (show _ = _ by kernel_rfl)))) all_nil), (all_cons (slenOK (i := 0) (r := (sn 0)) rfl (by kernel_rfl)) all_nil), all_nil, all_nil, all_nil, (all_cons (parseMemo (i := 1) (n := (sn 3)) (s := (s.extract 0 K)) (ev := .nilIface) rfl rfl (by kernel_rfl) (Nat.le_trans ext_size hs) he (by unfold errOf; rw [h1]; rfl)) all_nil), all_nil, all_nil⟩ 1000 50 36 [oq 0] (.tuple #[.agg #[.int .i64 0, .int .i64 0], .bool false]) (args' := #[(.string s)]) (v' := .tuple #[.agg #[.int .i64 0, .int .i64 0], .bool false]) (by kernel_rfl) (by kernel_rfl) (by kernel_rfl) w hw
      · rcases h3 : (sameS (textB (pvB (s.extract 0 K)) (pvB (s.extract (K + 1) s.size))) s) with _ | _
        · have hr : ((rparseF s) : Value) = .tuple #[.agg #[.int .i64 0, .int .i64 0], .bool false] := by (refine rparseF_no ?_; rw [okTx_of (bef_some hz) (aft_some hz), h2, h3]; rfl)
          rw [hr]
          exact run_know (P := Tryd.prog) (ρ := env [(s.size : Int), (K : Int), (pvB (s.extract (K + 1) s.size)), (pvB (s.extract 0 K))] [(.string s), (.string (s.extract 0 K)), (.string (textB (pvB (s.extract 0 K)) (pvB (s.extract (K + 1) s.size))))] w0) (o := { bin := [(.gtr, 3, .int .i64 (sn 0), .int .i64 40, .bool false), (.neq, 9, oq 2, oq 0, .bool true)], calls := [(15, [.agg #[sy 3, sy 2]], .bool true), (38, [.agg #[sy 3, sy 2]], oq 2)], sli := [(9, oq 0, none, (some (sy 1)), oq 1)], loops := [(36, [false, true, false, true, true, true, true], rptA, rpHA, .exit 0, rptF_stop, rpHF_stop)], lens := [(true, oq 0, .int .i64 (sn 0))], memo := [(61, [oq 1, .int .i64 10, .int .i64 64], [], .tuple #[sy 3, .nilIface], [])] }) ⟨(all_cons (cmpOK (op := .gtr) (ty := 3) (k := .i64) (n := (sn 0)) (m := 40) (t := false) (a := (s.size : Int)) (b := 40) (by kernel_rfl) (by kernel_rfl) (congrArg some ((gt_of_le h0)))) (all_cons (strOK (op := .neq) (ty := 9) (x := oq 2) (y := oq 0) (r := .bool true) (v := .bool true) (a := (textB (pvB (s.extract 0 K)) (pvB (s.extract (K + 1) s.size)))) (b := s) (by kernel_rfl) rfl rfl rfl (fun w => strNe (by have q : sameS (textB (pvB (s.extract 0 K)) (pvB (s.extract (K + 1) s.size))) s = _ := h3; unfold sameS at q; rw [q]; try rfl) w)) all_nil)), all_nil, all_nil, all_nil, (all_cons (callOK (f := 15) (args := [.agg #[sy 3, sy 2]]) (v := .bool true) (args' := #[.agg #[.int .i64 ((pvB (s.extract 0 K))), .int .i64 ((pvB (s.extract (K + 1) s.size)))]]) (v' := .bool true) (by kernel_rfl) (by kernel_rfl) (by kernel_rfl) (fun w => by have q := rvalid_any (pvB (s.extract 0 K)) (pvB (s.extract (K + 1) s.size)) w (pv_bd _) (pv_bd _); rw [h2] at q; exact q)) (all_cons (callOKb (f := 38) (args := [.agg #[sy 3, sy 2]]) (v := oq 2) (args' := #[.agg #[.int .i64 ((pvB (s.extract 0 K))), .int .i64 ((pvB (s.extract (K + 1) s.size)))]]) (v' := (.string (textB (pvB (s.extract 0 K)) (pvB (s.extract (K + 1) s.size))))) (by kernel_rfl) (by kernel_rfl) (by kernel_rfl) (fun w1 hw1 => rtext_any (pvB (s.extract 0 K)) (pvB (s.extract (K + 1) s.size)) w1 (pv_bd _) (pv_bd _) w0 ht hw1)) all_nil)), all_nil, all_nil, all_nil, (all_cons (ssliOK (ty := 9) (i := 0) (j := 1) (lo := none) (hi := (some (sy 1))) (l := 0) (h := K) (s := s) (by kernel_rfl) rfl rfl (by show inst _ _ = Value.int .i64 _; kernel_rfl) (Nat.zero_le _) (by have := (slash_some hz).1; omega) (by kernel_rfl)) all_nil), (all_cons (loop_move (es := [.val 0 0, .num 1180591620717411303424 1180591620717411303424]) (es2 := [.val 0 0, .num 1180591620717411303425 1180591620717411303425, .num 1180591620717411303426 1180591620717411303426, .num 1180591620717411303424 1180591620717411303424]) (f := [0]) (f2 := [0]) (by rfl) (rp_loop_stop s w0 hs he K hz) (by decide +kernel) (by decide) (by intro q hq; simp only [List.mem_cons, List.not_mem_nil, or_false] at hq; rcases hq with rfl | rfl; (exact (show _ = _ by kernel_rfl)); (exact (show _ = _ by kernel_rfl))) (by decide +kernel) (by decide) (by decide) (by intro q hq; simp only [List.mem_cons, List.not_mem_nil, or_false] at hq; rcases hq with rfl | rfl | rfl | rfl; (exact (show _ = _ by kernel_rfl)); (exact (show _ = _ by kernel_rfl)); (exact (show _ = _ by kernel_rfl)); (exact (show _ = _ by kernel_rfl)))) all_nil), (all_cons (slenOK (i := 0) (r := (sn 0)) rfl (by kernel_rfl)) all_nil), all_nil, all_nil, all_nil, (all_cons (parseMemo (i := 1) (n := (sn 3)) (s := (s.extract 0 K)) (ev := .nilIface) rfl rfl (by kernel_rfl) (Nat.le_trans ext_size hs) he (by unfold errOf; rw [h1]; rfl)) all_nil), all_nil, all_nil⟩ 1000 50 36 [oq 0] (.tuple #[.agg #[.int .i64 0, .int .i64 0], .bool false]) (args' := #[(.string s)]) (v' := .tuple #[.agg #[.int .i64 0, .int .i64 0], .bool false]) (by kernel_rfl) (by kernel_rfl) (by kernel_rfl) w hw
        · have hr : ((rparseF s) : Value) = .tuple #[.agg #[.int .i64 ((pvB (s.extract 0 K))), .int .i64 ((pvB (s.extract (K + 1) s.size)))], .bool true] := by (have q : okTx s = true := (by rw [okTx_of (bef_some hz) (aft_some hz), h2, h3]; rfl); rw [rparseF_yes q (bef_some hz) (aft_some hz)])
          rw [hr]
          exact run_know (P := Tryd.prog) (ρ := env [(s.size : Int), (K : Int), (pvB (s.extract (K + 1) s.size)), (pvB (s.extract 0 K))] [(.string s), (.string (s.extract 0 K)), (.string (textB (pvB (s.extract 0 K)) (pvB (s.extract (K + 1) s.size))))] w0) (o := { bin := [(.gtr, 3, .int .i64 (sn 0), .int .i64 40, .bool false), (.neq, 9, oq 2, oq 0, .bool false)], calls := [(15, [.agg #[sy 3, sy 2]], .bool true), (38, [.agg #[sy 3, sy 2]], oq 2)], sli := [(9, oq 0, none, (some (sy 1)), oq 1)], loops := [(36, [false, true, false, true, true, true, true], rptA, rpHA, .exit 0, rptF_stop, rpHF_stop)], lens := [(true, oq 0, .int .i64 (sn 0))], memo := [(61, [oq 1, .int .i64 10, .int .i64 64], [], .tuple #[sy 3, .nilIface], [])] }) ⟨(all_cons (cmpOK (op := .gtr) (ty := 3) (k := .i64) (n := (sn 0)) (m := 40) (t := false) (a := (s.size : Int)) (b := 40) (by kernel_rfl) (by kernel_rfl) (congrArg some ((gt_of_le h0)))) (all_cons (strOK (op := .neq) (ty := 9) (x := oq 2) (y := oq 0) (r := .bool false) (v := .bool false) (a := (textB (pvB (s.extract 0 K)) (pvB (s.extract (K + 1) s.size)))) (b := s) (by kernel_rfl) rfl rfl rfl (fun w => strNe (by have q : sameS (textB (pvB (s.extract 0 K)) (pvB (s.extract (K + 1) s.size))) s = _ := h3; unfold sameS at q; rw [q]; try rfl) w)) all_nil)), all_nil, all_nil, all_nil, (all_cons (callOK (f := 15) (args := [.agg #[sy 3, sy 2]]) (v := .bool true) (args' := #[.agg #[.int .i64 ((pvB (s.extract 0 K))), .int .i64 ((pvB (s.extract (K + 1) s.size)))]]) (v' := .bool true) (by kernel_rfl) (by kernel_rfl) (by kernel_rfl) (fun w => by have q := rvalid_any (pvB (s.extract 0 K)) (pvB (s.extract (K + 1) s.size)) w (pv_bd _) (pv_bd _); rw [h2] at q; exact q)) (all_cons (callOKb (f := 38) (args := [.agg #[sy 3, sy 2]]) (v := oq 2) (args' := #[.agg #[.int .i64 ((pvB (s.extract 0 K))), .int .i64 ((pvB (s.extract (K + 1) s.size)))]]) (v' := (.string (textB (pvB (s.extract 0 K)) (pvB (s.extract (K + 1) s.size))))) (by kernel_rfl) (by kernel_rfl) (by kernel_rfl) (fun w1 hw1 => rtext_any (pvB (s.extract 0 K)) (pvB (s.extract (K + 1) s.size)) w1 (pv_bd _) (pv_bd _) w0 ht hw1)) all_nil)), all_nil, all_nil, all_nil, (all_cons (ssliOK (ty := 9) (i := 0) (j := 1) (lo := none) (hi := (some (sy 1))) (l := 0) (h := K) (s := s) (by kernel_rfl) rfl rfl (by show inst _ _ = Value.int .i64 _; kernel_rfl) (Nat.zero_le _) (by have := (slash_some hz).1; omega) (by kernel_rfl)) all_nil), (all_cons (loop_move (es := [.val 0 0, .num 1180591620717411303424 1180591620717411303424]) (es2 := [.val 0 0, .num 1180591620717411303425 1180591620717411303425, .num 1180591620717411303426 1180591620717411303426, .num 1180591620717411303424 1180591620717411303424]) (f := [0]) (f2 := [0]) (by rfl) (rp_loop_stop s w0 hs he K hz) (by decide +kernel) (by decide) (by intro q hq; simp only [List.mem_cons, List.not_mem_nil, or_false] at hq; rcases hq with rfl | rfl; (exact (show _ = _ by kernel_rfl)); (exact (show _ = _ by kernel_rfl))) (by decide +kernel) (by decide) (by decide) (by intro q hq; simp only [List.mem_cons, List.not_mem_nil, or_false] at hq; rcases hq with rfl | rfl | rfl | rfl; (exact (show _ = _ by kernel_rfl)); (exact (show _ = _ by kernel_rfl)); (exact (show _ = _ by kernel_rfl)); (exact (show _ = _ by kernel_rfl)))) all_nil), (all_cons (slenOK (i := 0) (r := (sn 0)) rfl (by kernel_rfl)) all_nil), all_nil, all_nil, all_nil, (all_cons (parseMemo (i := 1) (n := (sn 3)) (s := (s.extract 0 K)) (ev := .nilIface) rfl rfl (by kernel_rfl) (Nat.le_trans ext_size hs) he (by unfold errOf; rw [h1]; rfl)) all_nil), all_nil, all_nil⟩ 1000 50 36 [oq 0] (.tuple #[.agg #[sy 3, sy 2], .bool true]) (args' := #[(.string s)]) (v' := .tuple #[.agg #[.int .i64 ((pvB (s.extract 0 K))), .int .i64 ((pvB (s.extract (K + 1) s.size)))], .bool true]) (by kernel_rfl) (by kernel_rfl) (by kernel_rfl) w hw
theorem rparse_none (s : ByteArray) (w : World) (hs : s.size ≤ 1000000000000) (hz : slash s = none) (w0 : World) (ht : Tab w0) (hw : Below w0.heap.size w0 w) (he : Errs w0) : Calls Tryd.prog 36 #[.string s] w fun e w' => e = .returned (rparseF s) ∧ Below w.heap.size w w' := by
  have hn := sz_bd hs
  rcases h0 : (decide ((s.size : Int) ≤ 40)) with _ | _
  · have hr : ((rparseF s) : Value) = .tuple #[.agg #[.int .i64 0, .int .i64 0], .bool false] := by (refine rparseF_no ?_; rcases q : okTx s with _ | _; rfl; exact absurd (ok_short q) (by have g := of_decide_eq_false h0; omega))
    rw [hr]
    exact run_know (P := Tryd.prog) (ρ := env [(s.size : Int)] [(.string s)] w0) (o := { bin := [(.gtr, 3, .int .i64 (sn 0), .int .i64 40, .bool true)], lens := [(true, oq 0, .int .i64 (sn 0))] }) ⟨(all_cons (cmpOK (op := .gtr) (ty := 3) (k := .i64) (n := (sn 0)) (m := 40) (t := true) (a := (s.size : Int)) (b := 40) (by kernel_rfl) (by kernel_rfl) (congrArg some ((gt_of_le h0)))) all_nil), all_nil, all_nil, all_nil, all_nil, all_nil, all_nil, all_nil, all_nil, all_nil, (all_cons (slenOK (i := 0) (r := (sn 0)) rfl (by kernel_rfl)) all_nil), all_nil, all_nil, all_nil, all_nil, all_nil, all_nil⟩ 1000 50 36 [oq 0] (.tuple #[.agg #[.int .i64 0, .int .i64 0], .bool false]) (args' := #[(.string s)]) (v' := .tuple #[.agg #[.int .i64 0, .int .i64 0], .bool false]) (by kernel_rfl) (by kernel_rfl) (by kernel_rfl) w hw
  · rcases h1 : (pokB (s.extract 0 s.size)) with _ | _
    · rcases h2 : (validB (pvB (s.extract 0 s.size)) 1) with _ | _
      · have hr : ((rparseF s) : Value) = .tuple #[.agg #[.int .i64 0, .int .i64 0], .bool false] := by (refine rparseF_no ?_; rw [okTx_of (bef_all hz) (aft_none hz), pv_one.1, h2]; rfl)
        rw [hr]
        exact run_know (P := Tryd.prog) (ρ := env [(s.size : Int), (pvB (s.extract 0 s.size))] [(.string s), (.string (s.extract 0 s.size))] w0) (o := { bin := [(.gtr, 3, .int .i64 (sn 0), .int .i64 40, .bool false)], calls := [(15, [.agg #[sy 1, .int .i64 1]], .bool false)], sli := [(9, oq 0, none, (some (sy 0)), oq 1)], loops := [(36, [false, true, false, true, true, true, true], rptA, rpHA, .exit 0, rptF_done, rpHF_done)], lens := [(true, oq 0, .int .i64 (sn 0))], memo := [(61, [oq 1, .int .i64 10, .int .i64 64], [], .tuple #[sy 1, errV], [])] }) ⟨(all_cons (cmpOK (op := .gtr) (ty := 3) (k := .i64) (n := (sn 0)) (m := 40) (t := false) (a := (s.size : Int)) (b := 40) (by kernel_rfl) (by kernel_rfl) (congrArg some ((gt_of_le h0)))) all_nil), all_nil, all_nil, all_nil, (all_cons (callOK (f := 15) (args := [.agg #[sy 1, .int .i64 1]]) (v := .bool false) (args' := #[.agg #[.int .i64 ((pvB (s.extract 0 s.size))), .int .i64 1]]) (v' := .bool false) (by kernel_rfl) (by kernel_rfl) (by kernel_rfl) (fun w => by have q := rvalid_any (pvB (s.extract 0 s.size)) 1 w (pv_bd _) ⟨by omega, by omega⟩; rw [h2] at q; exact q)) all_nil), all_nil, all_nil, all_nil, (all_cons (ssliOK (ty := 9) (i := 0) (j := 1) (lo := none) (hi := (some (sy 0))) (l := 0) (h := s.size) (s := s) (by kernel_rfl) rfl rfl (by show inst _ _ = Value.int .i64 _; kernel_rfl) (Nat.zero_le _) (Nat.le_refl _) (by kernel_rfl)) all_nil), (all_cons (loop_move (es := [.val 0 0, .num 1180591620717411303424 1180591620717411303424]) (es2 := [.val 0 0, .num 1180591620717411303424 1180591620717411303424]) (f := [0]) (f2 := [0]) (by rfl) (rp_loop_done s w0 hs he hz) (by decide +kernel) (by decide) (by intro q hq; simp only [List.mem_cons, List.not_mem_nil, or_false] at hq; rcases hq with rfl | rfl; (exact (show _ = _ by kernel_rfl)); (exact (show _ = _ by kernel_rfl))) (by decide +kernel) (by decide) (by decide) (by intro q hq; simp only [List.mem_cons, List.not_mem_nil, or_false] at hq; rcases hq with rfl | rfl; (exact (show _ = _ by kernel_rfl)); (exact (show _ = _ by kernel_rfl)))) all_nil), (all_cons (slenOK (i := 0) (r := (sn 0)) rfl (by kernel_rfl)) all_nil), all_nil, all_nil, all_nil, (all_cons (parseMemo (i := 1) (n := (sn 1)) (s := (s.extract 0 s.size)) (ev := errV) rfl rfl (by kernel_rfl) (Nat.le_trans ext_size hs) he (by unfold errOf; rw [h1]; rfl)) all_nil), all_nil, all_nil⟩ 1000 50 36 [oq 0] (.tuple #[.agg #[.int .i64 0, .int .i64 0], .bool false]) (args' := #[(.string s)]) (v' := .tuple #[.agg #[.int .i64 0, .int .i64 0], .bool false]) (by kernel_rfl) (by kernel_rfl) (by kernel_rfl) w hw
      · rcases h3 : (sameS (textB (pvB (s.extract 0 s.size)) 1) s) with _ | _
        · have hr : ((rparseF s) : Value) = .tuple #[.agg #[.int .i64 0, .int .i64 0], .bool false] := by (refine rparseF_no ?_; rw [okTx_of (bef_all hz) (aft_none hz), pv_one.1, h2, h3]; rfl)
          rw [hr]
          exact run_know (P := Tryd.prog) (ρ := env [(s.size : Int), (pvB (s.extract 0 s.size))] [(.string s), (.string (s.extract 0 s.size)), (.string (textB (pvB (s.extract 0 s.size)) 1))] w0) (o := { bin := [(.gtr, 3, .int .i64 (sn 0), .int .i64 40, .bool false), (.neq, 9, oq 2, oq 0, .bool true)], calls := [(15, [.agg #[sy 1, .int .i64 1]], .bool true), (38, [.agg #[sy 1, .int .i64 1]], oq 2)], sli := [(9, oq 0, none, (some (sy 0)), oq 1)], loops := [(36, [false, true, false, true, true, true, true], rptA, rpHA, .exit 0, rptF_done, rpHF_done)], lens := [(true, oq 0, .int .i64 (sn 0))], memo := [(61, [oq 1, .int .i64 10, .int .i64 64], [], .tuple #[sy 1, errV], [])] }) ⟨(all_cons (cmpOK (op := .gtr) (ty := 3) (k := .i64) (n := (sn 0)) (m := 40) (t := false) (a := (s.size : Int)) (b := 40) (by kernel_rfl) (by kernel_rfl) (congrArg some ((gt_of_le h0)))) (all_cons (strOK (op := .neq) (ty := 9) (x := oq 2) (y := oq 0) (r := .bool true) (v := .bool true) (a := (textB (pvB (s.extract 0 s.size)) 1)) (b := s) (by kernel_rfl) rfl rfl rfl (fun w => strNe (by have q : sameS (textB (pvB (s.extract 0 s.size)) 1) s = _ := h3; unfold sameS at q; rw [q]; try rfl) w)) all_nil)), all_nil, all_nil, all_nil, (all_cons (callOK (f := 15) (args := [.agg #[sy 1, .int .i64 1]]) (v := .bool true) (args' := #[.agg #[.int .i64 ((pvB (s.extract 0 s.size))), .int .i64 1]]) (v' := .bool true) (by kernel_rfl) (by kernel_rfl) (by kernel_rfl) (fun w => by have q := rvalid_any (pvB (s.extract 0 s.size)) 1 w (pv_bd _) ⟨by omega, by omega⟩; rw [h2] at q; exact q)) (all_cons (callOKb (f := 38) (args := [.agg #[sy 1, .int .i64 1]]) (v := oq 2) (args' := #[.agg #[.int .i64 ((pvB (s.extract 0 s.size))), .int .i64 1]]) (v' := (.string (textB (pvB (s.extract 0 s.size)) 1))) (by kernel_rfl) (by kernel_rfl) (by kernel_rfl) (fun w1 hw1 => rtext_any (pvB (s.extract 0 s.size)) 1 w1 (pv_bd _) ⟨by omega, by omega⟩ w0 ht hw1)) all_nil)), all_nil, all_nil, all_nil, (all_cons (ssliOK (ty := 9) (i := 0) (j := 1) (lo := none) (hi := (some (sy 0))) (l := 0) (h := s.size) (s := s) (by kernel_rfl) rfl rfl (by show inst _ _ = Value.int .i64 _; kernel_rfl) (Nat.zero_le _) (Nat.le_refl _) (by kernel_rfl)) all_nil), (all_cons (loop_move (es := [.val 0 0, .num 1180591620717411303424 1180591620717411303424]) (es2 := [.val 0 0, .num 1180591620717411303424 1180591620717411303424]) (f := [0]) (f2 := [0]) (by rfl) (rp_loop_done s w0 hs he hz) (by decide +kernel) (by decide) (by intro q hq; simp only [List.mem_cons, List.not_mem_nil, or_false] at hq; rcases hq with rfl | rfl; (exact (show _ = _ by kernel_rfl)); (exact (show _ = _ by kernel_rfl))) (by decide +kernel) (by decide) (by decide) (by intro q hq; simp only [List.mem_cons, List.not_mem_nil, or_false] at hq; rcases hq with rfl | rfl; (exact (show _ = _ by kernel_rfl)); (exact (show _ = _ by kernel_rfl)))) all_nil), (all_cons (slenOK (i := 0) (r := (sn 0)) rfl (by kernel_rfl)) all_nil), all_nil, all_nil, all_nil, (all_cons (parseMemo (i := 1) (n := (sn 1)) (s := (s.extract 0 s.size)) (ev := errV) rfl rfl (by kernel_rfl) (Nat.le_trans ext_size hs) he (by unfold errOf; rw [h1]; rfl)) all_nil), all_nil, all_nil⟩ 1000 50 36 [oq 0] (.tuple #[.agg #[.int .i64 0, .int .i64 0], .bool false]) (args' := #[(.string s)]) (v' := .tuple #[.agg #[.int .i64 0, .int .i64 0], .bool false]) (by kernel_rfl) (by kernel_rfl) (by kernel_rfl) w hw
        · have hr : ((rparseF s) : Value) = .tuple #[.agg #[.int .i64 ((pvB (s.extract 0 s.size))), .int .i64 1], .bool true] := by (have q : okTx s = true := (by rw [okTx_of (bef_all hz) (aft_none hz), pv_one.1, h2, h3]; rfl); rw [rparseF_yes q (bef_all hz) (aft_none hz)]; rw [pv_one.1])
          rw [hr]
          exact run_know (P := Tryd.prog) (ρ := env [(s.size : Int), (pvB (s.extract 0 s.size))] [(.string s), (.string (s.extract 0 s.size)), (.string (textB (pvB (s.extract 0 s.size)) 1))] w0) (o := { bin := [(.gtr, 3, .int .i64 (sn 0), .int .i64 40, .bool false), (.neq, 9, oq 2, oq 0, .bool false)], calls := [(15, [.agg #[sy 1, .int .i64 1]], .bool true), (38, [.agg #[sy 1, .int .i64 1]], oq 2)], sli := [(9, oq 0, none, (some (sy 0)), oq 1)], loops := [(36, [false, true, false, true, true, true, true], rptA, rpHA, .exit 0, rptF_done, rpHF_done)], lens := [(true, oq 0, .int .i64 (sn 0))], memo := [(61, [oq 1, .int .i64 10, .int .i64 64], [], .tuple #[sy 1, errV], [])] }) ⟨(all_cons (cmpOK (op := .gtr) (ty := 3) (k := .i64) (n := (sn 0)) (m := 40) (t := false) (a := (s.size : Int)) (b := 40) (by kernel_rfl) (by kernel_rfl) (congrArg some ((gt_of_le h0)))) (all_cons (strOK (op := .neq) (ty := 9) (x := oq 2) (y := oq 0) (r := .bool false) (v := .bool false) (a := (textB (pvB (s.extract 0 s.size)) 1)) (b := s) (by kernel_rfl) rfl rfl rfl (fun w => strNe (by have q : sameS (textB (pvB (s.extract 0 s.size)) 1) s = _ := h3; unfold sameS at q; rw [q]; try rfl) w)) all_nil)), all_nil, all_nil, all_nil, (all_cons (callOK (f := 15) (args := [.agg #[sy 1, .int .i64 1]]) (v := .bool true) (args' := #[.agg #[.int .i64 ((pvB (s.extract 0 s.size))), .int .i64 1]]) (v' := .bool true) (by kernel_rfl) (by kernel_rfl) (by kernel_rfl) (fun w => by have q := rvalid_any (pvB (s.extract 0 s.size)) 1 w (pv_bd _) ⟨by omega, by omega⟩; rw [h2] at q; exact q)) (all_cons (callOKb (f := 38) (args := [.agg #[sy 1, .int .i64 1]]) (v := oq 2) (args' := #[.agg #[.int .i64 ((pvB (s.extract 0 s.size))), .int .i64 1]]) (v' := (.string (textB (pvB (s.extract 0 s.size)) 1))) (by kernel_rfl) (by kernel_rfl) (by kernel_rfl) (fun w1 hw1 => rtext_any (pvB (s.extract 0 s.size)) 1 w1 (pv_bd _) ⟨by omega, by omega⟩ w0 ht hw1)) all_nil)), all_nil, all_nil, all_nil, (all_cons (ssliOK (ty := 9) (i := 0) (j := 1) (lo := none) (hi := (some (sy 0))) (l := 0) (h := s.size) (s := s) (by kernel_rfl) rfl rfl (by show inst _ _ = Value.int .i64 _; kernel_rfl) (Nat.zero_le _) (Nat.le_refl _) (by kernel_rfl)) all_nil), (all_cons (loop_move (es := [.val 0 0, .num 1180591620717411303424 1180591620717411303424]) (es2 := [.val 0 0, .num 1180591620717411303424 1180591620717411303424]) (f := [0]) (f2 := [0]) (by rfl) (rp_loop_done s w0 hs he hz) (by decide +kernel) (by decide) (by intro q hq; simp only [List.mem_cons, List.not_mem_nil, or_false] at hq; rcases hq with rfl | rfl; (exact (show _ = _ by kernel_rfl)); (exact (show _ = _ by kernel_rfl))) (by decide +kernel) (by decide) (by decide) (by intro q hq; simp only [List.mem_cons, List.not_mem_nil, or_false] at hq; rcases hq with rfl | rfl; (exact (show _ = _ by kernel_rfl)); (exact (show _ = _ by kernel_rfl)))) all_nil), (all_cons (slenOK (i := 0) (r := (sn 0)) rfl (by kernel_rfl)) all_nil), all_nil, all_nil, all_nil, (all_cons (parseMemo (i := 1) (n := (sn 1)) (s := (s.extract 0 s.size)) (ev := errV) rfl rfl (by kernel_rfl) (Nat.le_trans ext_size hs) he (by unfold errOf; rw [h1]; rfl)) all_nil), all_nil, all_nil⟩ 1000 50 36 [oq 0] (.tuple #[.agg #[sy 1, .int .i64 1], .bool true]) (args' := #[(.string s)]) (v' := .tuple #[.agg #[.int .i64 ((pvB (s.extract 0 s.size))), .int .i64 1], .bool true]) (by kernel_rfl) (by kernel_rfl) (by kernel_rfl) w hw
    · rcases h2 : (validB (pvB (s.extract 0 s.size)) 1) with _ | _
      · have hr : ((rparseF s) : Value) = .tuple #[.agg #[.int .i64 0, .int .i64 0], .bool false] := by (refine rparseF_no ?_; rw [okTx_of (bef_all hz) (aft_none hz), pv_one.1, h2]; rfl)
        rw [hr]
        exact run_know (P := Tryd.prog) (ρ := env [(s.size : Int), (pvB (s.extract 0 s.size))] [(.string s), (.string (s.extract 0 s.size))] w0) (o := { bin := [(.gtr, 3, .int .i64 (sn 0), .int .i64 40, .bool false)], calls := [(15, [.agg #[sy 1, .int .i64 1]], .bool false)], sli := [(9, oq 0, none, (some (sy 0)), oq 1)], loops := [(36, [false, true, false, true, true, true, true], rptA, rpHA, .exit 0, rptF_done, rpHF_done)], lens := [(true, oq 0, .int .i64 (sn 0))], memo := [(61, [oq 1, .int .i64 10, .int .i64 64], [], .tuple #[sy 1, .nilIface], [])] }) ⟨(all_cons (cmpOK (op := .gtr) (ty := 3) (k := .i64) (n := (sn 0)) (m := 40) (t := false) (a := (s.size : Int)) (b := 40) (by kernel_rfl) (by kernel_rfl) (congrArg some ((gt_of_le h0)))) all_nil), all_nil, all_nil, all_nil, (all_cons (callOK (f := 15) (args := [.agg #[sy 1, .int .i64 1]]) (v := .bool false) (args' := #[.agg #[.int .i64 ((pvB (s.extract 0 s.size))), .int .i64 1]]) (v' := .bool false) (by kernel_rfl) (by kernel_rfl) (by kernel_rfl) (fun w => by have q := rvalid_any (pvB (s.extract 0 s.size)) 1 w (pv_bd _) ⟨by omega, by omega⟩; rw [h2] at q; exact q)) all_nil), all_nil, all_nil, all_nil, (all_cons (ssliOK (ty := 9) (i := 0) (j := 1) (lo := none) (hi := (some (sy 0))) (l := 0) (h := s.size) (s := s) (by kernel_rfl) rfl rfl (by show inst _ _ = Value.int .i64 _; kernel_rfl) (Nat.zero_le _) (Nat.le_refl _) (by kernel_rfl)) all_nil), (all_cons (loop_move (es := [.val 0 0, .num 1180591620717411303424 1180591620717411303424]) (es2 := [.val 0 0, .num 1180591620717411303424 1180591620717411303424]) (f := [0]) (f2 := [0]) (by rfl) (rp_loop_done s w0 hs he hz) (by decide +kernel) (by decide) (by intro q hq; simp only [List.mem_cons, List.not_mem_nil, or_false] at hq; rcases hq with rfl | rfl; (exact (show _ = _ by kernel_rfl)); (exact (show _ = _ by kernel_rfl))) (by decide +kernel) (by decide) (by decide) (by intro q hq; simp only [List.mem_cons, List.not_mem_nil, or_false] at hq; rcases hq with rfl | rfl; (exact (show _ = _ by kernel_rfl)); (exact (show _ = _ by kernel_rfl)))) all_nil), (all_cons (slenOK (i := 0) (r := (sn 0)) rfl (by kernel_rfl)) all_nil), all_nil, all_nil, all_nil, (all_cons (parseMemo (i := 1) (n := (sn 1)) (s := (s.extract 0 s.size)) (ev := .nilIface) rfl rfl (by kernel_rfl) (Nat.le_trans ext_size hs) he (by unfold errOf; rw [h1]; rfl)) all_nil), all_nil, all_nil⟩ 1000 50 36 [oq 0] (.tuple #[.agg #[.int .i64 0, .int .i64 0], .bool false]) (args' := #[(.string s)]) (v' := .tuple #[.agg #[.int .i64 0, .int .i64 0], .bool false]) (by kernel_rfl) (by kernel_rfl) (by kernel_rfl) w hw
      · rcases h3 : (sameS (textB (pvB (s.extract 0 s.size)) 1) s) with _ | _
        · have hr : ((rparseF s) : Value) = .tuple #[.agg #[.int .i64 0, .int .i64 0], .bool false] := by (refine rparseF_no ?_; rw [okTx_of (bef_all hz) (aft_none hz), pv_one.1, h2, h3]; rfl)
          rw [hr]
          exact run_know (P := Tryd.prog) (ρ := env [(s.size : Int), (pvB (s.extract 0 s.size))] [(.string s), (.string (s.extract 0 s.size)), (.string (textB (pvB (s.extract 0 s.size)) 1))] w0) (o := { bin := [(.gtr, 3, .int .i64 (sn 0), .int .i64 40, .bool false), (.neq, 9, oq 2, oq 0, .bool true)], calls := [(15, [.agg #[sy 1, .int .i64 1]], .bool true), (38, [.agg #[sy 1, .int .i64 1]], oq 2)], sli := [(9, oq 0, none, (some (sy 0)), oq 1)], loops := [(36, [false, true, false, true, true, true, true], rptA, rpHA, .exit 0, rptF_done, rpHF_done)], lens := [(true, oq 0, .int .i64 (sn 0))], memo := [(61, [oq 1, .int .i64 10, .int .i64 64], [], .tuple #[sy 1, .nilIface], [])] }) ⟨(all_cons (cmpOK (op := .gtr) (ty := 3) (k := .i64) (n := (sn 0)) (m := 40) (t := false) (a := (s.size : Int)) (b := 40) (by kernel_rfl) (by kernel_rfl) (congrArg some ((gt_of_le h0)))) (all_cons (strOK (op := .neq) (ty := 9) (x := oq 2) (y := oq 0) (r := .bool true) (v := .bool true) (a := (textB (pvB (s.extract 0 s.size)) 1)) (b := s) (by kernel_rfl) rfl rfl rfl (fun w => strNe (by have q : sameS (textB (pvB (s.extract 0 s.size)) 1) s = _ := h3; unfold sameS at q; rw [q]; try rfl) w)) all_nil)), all_nil, all_nil, all_nil, (all_cons (callOK (f := 15) (args := [.agg #[sy 1, .int .i64 1]]) (v := .bool true) (args' := #[.agg #[.int .i64 ((pvB (s.extract 0 s.size))), .int .i64 1]]) (v' := .bool true) (by kernel_rfl) (by kernel_rfl) (by kernel_rfl) (fun w => by have q := rvalid_any (pvB (s.extract 0 s.size)) 1 w (pv_bd _) ⟨by omega, by omega⟩; rw [h2] at q; exact q)) (all_cons (callOKb (f := 38) (args := [.agg #[sy 1, .int .i64 1]]) (v := oq 2) (args' := #[.agg #[.int .i64 ((pvB (s.extract 0 s.size))), .int .i64 1]]) (v' := (.string (textB (pvB (s.extract 0 s.size)) 1))) (by kernel_rfl) (by kernel_rfl) (by kernel_rfl) (fun w1 hw1 => rtext_any (pvB (s.extract 0 s.size)) 1 w1 (pv_bd _) ⟨by omega, by omega⟩ w0 ht hw1)) all_nil)), all_nil, all_nil, all_nil, (all_cons (ssliOK (ty := 9) (i := 0) (j := 1) (lo := none) (hi := (some (sy 0))) (l := 0) (h := s.size) (s := s) (by kernel_rfl) rfl rfl (by show inst _ _ = Value.int .i64 _; kernel_rfl) (Nat.zero_le _) (Nat.le_refl _) (by kernel_rfl)) all_nil), (all_cons (loop_move (es := [.val 0 0, .num 1180591620717411303424 1180591620717411303424]) (es2 := [.val 0 0, .num 1180591620717411303424 1180591620717411303424]) (f := [0]) (f2 := [0]) (by rfl) (rp_loop_done s w0 hs he hz) (by decide +kernel) (by decide) (by intro q hq; simp only [List.mem_cons, List.not_mem_nil, or_false] at hq; rcases hq with rfl | rfl; (exact (show _ = _ by kernel_rfl)); (exact (show _ = _ by kernel_rfl))) (by decide +kernel) (by decide) (by decide) (by intro q hq; simp only [List.mem_cons, List.not_mem_nil, or_false] at hq; rcases hq with rfl | rfl; (exact (show _ = _ by kernel_rfl)); (exact (show _ = _ by kernel_rfl)))) all_nil), (all_cons (slenOK (i := 0) (r := (sn 0)) rfl (by kernel_rfl)) all_nil), all_nil, all_nil, all_nil, (all_cons (parseMemo (i := 1) (n := (sn 1)) (s := (s.extract 0 s.size)) (ev := .nilIface) rfl rfl (by kernel_rfl) (Nat.le_trans ext_size hs) he (by unfold errOf; rw [h1]; rfl)) all_nil), all_nil, all_nil⟩ 1000 50 36 [oq 0] (.tuple #[.agg #[.int .i64 0, .int .i64 0], .bool false]) (args' := #[(.string s)]) (v' := .tuple #[.agg #[.int .i64 0, .int .i64 0], .bool false]) (by kernel_rfl) (by kernel_rfl) (by kernel_rfl) w hw
        · have hr : ((rparseF s) : Value) = .tuple #[.agg #[.int .i64 ((pvB (s.extract 0 s.size))), .int .i64 1], .bool true] := by (have q : okTx s = true := (by rw [okTx_of (bef_all hz) (aft_none hz), pv_one.1, h2, h3]; rfl); rw [rparseF_yes q (bef_all hz) (aft_none hz)]; rw [pv_one.1])
          rw [hr]
          exact run_know (P := Tryd.prog) (ρ := env [(s.size : Int), (pvB (s.extract 0 s.size))] [(.string s), (.string (s.extract 0 s.size)), (.string (textB (pvB (s.extract 0 s.size)) 1))] w0) (o := { bin := [(.gtr, 3, .int .i64 (sn 0), .int .i64 40, .bool false), (.neq, 9, oq 2, oq 0, .bool false)], calls := [(15, [.agg #[sy 1, .int .i64 1]], .bool true), (38, [.agg #[sy 1, .int .i64 1]], oq 2)], sli := [(9, oq 0, none, (some (sy 0)), oq 1)], loops := [(36, [false, true, false, true, true, true, true], rptA, rpHA, .exit 0, rptF_done, rpHF_done)], lens := [(true, oq 0, .int .i64 (sn 0))], memo := [(61, [oq 1, .int .i64 10, .int .i64 64], [], .tuple #[sy 1, .nilIface], [])] }) ⟨(all_cons (cmpOK (op := .gtr) (ty := 3) (k := .i64) (n := (sn 0)) (m := 40) (t := false) (a := (s.size : Int)) (b := 40) (by kernel_rfl) (by kernel_rfl) (congrArg some ((gt_of_le h0)))) (all_cons (strOK (op := .neq) (ty := 9) (x := oq 2) (y := oq 0) (r := .bool false) (v := .bool false) (a := (textB (pvB (s.extract 0 s.size)) 1)) (b := s) (by kernel_rfl) rfl rfl rfl (fun w => strNe (by have q : sameS (textB (pvB (s.extract 0 s.size)) 1) s = _ := h3; unfold sameS at q; rw [q]; try rfl) w)) all_nil)), all_nil, all_nil, all_nil, (all_cons (callOK (f := 15) (args := [.agg #[sy 1, .int .i64 1]]) (v := .bool true) (args' := #[.agg #[.int .i64 ((pvB (s.extract 0 s.size))), .int .i64 1]]) (v' := .bool true) (by kernel_rfl) (by kernel_rfl) (by kernel_rfl) (fun w => by have q := rvalid_any (pvB (s.extract 0 s.size)) 1 w (pv_bd _) ⟨by omega, by omega⟩; rw [h2] at q; exact q)) (all_cons (callOKb (f := 38) (args := [.agg #[sy 1, .int .i64 1]]) (v := oq 2) (args' := #[.agg #[.int .i64 ((pvB (s.extract 0 s.size))), .int .i64 1]]) (v' := (.string (textB (pvB (s.extract 0 s.size)) 1))) (by kernel_rfl) (by kernel_rfl) (by kernel_rfl) (fun w1 hw1 => rtext_any (pvB (s.extract 0 s.size)) 1 w1 (pv_bd _) ⟨by omega, by omega⟩ w0 ht hw1)) all_nil)), all_nil, all_nil, all_nil, (all_cons (ssliOK (ty := 9) (i := 0) (j := 1) (lo := none) (hi := (some (sy 0))) (l := 0) (h := s.size) (s := s) (by kernel_rfl) rfl rfl (by show inst _ _ = Value.int .i64 _; kernel_rfl) (Nat.zero_le _) (Nat.le_refl _) (by kernel_rfl)) all_nil), (all_cons (loop_move (es := [.val 0 0, .num 1180591620717411303424 1180591620717411303424]) (es2 := [.val 0 0, .num 1180591620717411303424 1180591620717411303424]) (f := [0]) (f2 := [0]) (by rfl) (rp_loop_done s w0 hs he hz) (by decide +kernel) (by decide) (by intro q hq; simp only [List.mem_cons, List.not_mem_nil, or_false] at hq; rcases hq with rfl | rfl; (exact (show _ = _ by kernel_rfl)); (exact (show _ = _ by kernel_rfl))) (by decide +kernel) (by decide) (by decide) (by intro q hq; simp only [List.mem_cons, List.not_mem_nil, or_false] at hq; rcases hq with rfl | rfl; (exact (show _ = _ by kernel_rfl)); (exact (show _ = _ by kernel_rfl)))) all_nil), (all_cons (slenOK (i := 0) (r := (sn 0)) rfl (by kernel_rfl)) all_nil), all_nil, all_nil, all_nil, (all_cons (parseMemo (i := 1) (n := (sn 1)) (s := (s.extract 0 s.size)) (ev := .nilIface) rfl rfl (by kernel_rfl) (Nat.le_trans ext_size hs) he (by unfold errOf; rw [h1]; rfl)) all_nil), all_nil, all_nil⟩ 1000 50 36 [oq 0] (.tuple #[.agg #[sy 1, .int .i64 1], .bool true]) (args' := #[(.string s)]) (v' := .tuple #[.agg #[.int .i64 ((pvB (s.extract 0 s.size))), .int .i64 1], .bool true]) (by kernel_rfl) (by kernel_rfl) (by kernel_rfl) w hw
theorem rparse_any (s : ByteArray) (w : World) (hs : s.size ≤ 1000000000000) (w0 : World) (ht : Tab w0) (hw : Below w0.heap.size w0 w) (he : Errs w0) : Calls Tryd.prog 36 #[.string s] w fun e w' => e = .returned (rparseF s) ∧ Below w.heap.size w w' := by
  rcases hz : slash s with _ | K
  · exact rparse_none s w hs hz w0 ht hw he
  · exact rparse_some s w hs K hz w0 ht hw he
theorem sameS_rfl (s : ByteArray) : sameS s s = true := sameS_iff.2 rfl
theorem tx_in {n d : Int} (h : validB n d = true) : parseF (textB n d) = .tuple #[.agg #[.int .i64 n, .int .i64 d], .int .i64 0] := by
  have q := ok_text h
  rw [parseF_yes q.1 rfl rfl, q.2.1, q.2.2]
noncomputable def texts_lawE (n1 d1 : Int) (s : ByteArray) (w0 : World) : Env := env [n1, d1, (s.size : Int), (pvB (befS s)), (pvB (aftS s))] [(.string s), (.string (textB n1 d1))] w0
def texts_lawC : Orc := { bin := [(.eql, 9, oq 1, oq 1, .bool true), (.eql, 23, .agg #[sy 0, sy 1], .agg #[sy 0, sy 1], .bool true), (.neq, 23, .agg #[sy 3, sy 4], .agg #[sy 3, sy 4], .bool false)], calls := [(13, [], .bool true), (38, [.agg #[sy 0, sy 1]], oq 1)], lens := [(true, oq 0, .int .i64 (sn 2))] }
theorem texts_lawK (n1 d1 : Int) (s : ByteArray) (w0 : World) (hn1 : bd (-9223372036854775808) 9223372036854775807 n1) (hd1 : bd (-9223372036854775808) 9223372036854775807 d1) (hn : bd 0 9223372036854775807 (s.size : Int)) (ht : Tab w0) (he : Errs w0) : Know (texts_lawE n1 d1 s w0) Tryd.prog texts_lawC := by
  exact ⟨(all_cons (strOK (op := .eql) (ty := 9) (x := oq 1) (y := oq 1) (r := .bool true) (v := .bool true) (a := (textB n1 d1)) (b := (textB n1 d1)) (by kernel_rfl) rfl rfl rfl (fun w => strEq (by have q : sameS (textB n1 d1) (textB n1 d1) = _ := (sameS_rfl _); unfold sameS at q; rw [q]; try rfl) w))
      (all_cons (structOK (op := .eql) (ty := 23) (x := .agg #[sy 0, sy 1]) (y := .agg #[sy 0, sy 1]) (x' := .agg #[.int .i64 n1, .int .i64 d1]) (y' := .agg #[.int .i64 n1, .int .i64 d1]) (t := true) (by kernel_rfl) (by kernel_rfl) (by kernel_rfl) (by kernel_rfl) (fun p q w => frac_guard .eql p q _ _ w) (fun w => by have q := frac_eql n1 d1 n1 d1 w; rw [show ((n1 == n1) && (d1 == d1)) = true from (by simp)] at q; exact q))
      (all_cons (structOK (op := .neq) (ty := 23) (x := .agg #[sy 3, sy 4]) (y := .agg #[sy 3, sy 4]) (x' := .agg #[.int .i64 ((pvB (befS s))), .int .i64 ((pvB (aftS s)))]) (y' := .agg #[.int .i64 ((pvB (befS s))), .int .i64 ((pvB (aftS s)))]) (t := false) (by kernel_rfl) (by kernel_rfl) (by kernel_rfl) (by kernel_rfl) (fun p q w => frac_guard .neq p q _ _ w) (fun w => by have q := frac_neq ((pvB (befS s))) ((pvB (aftS s))) ((pvB (befS s))) ((pvB (aftS s))) w; rw [show ((((pvB (befS s))) == ((pvB (befS s)))) && (((pvB (aftS s))) == ((pvB (aftS s))))) = true from (by simp)] at q; exact q))
      all_nil))), all_nil, all_nil, all_nil, (all_cons (callOKb (f := 13) (args := []) (v := .bool true) (args' := #[]) (v' := .bool true) (by kernel_rfl) (by kernel_rfl) (by kernel_rfl) (fun w1 hw1 => awake_any w1 w0 ht hw1))
      (all_cons (callOKb (f := 38) (args := [.agg #[sy 0, sy 1]]) (v := oq 1) (args' := #[.agg #[.int .i64 n1, .int .i64 d1]]) (v' := (.string (textB n1 d1))) (by kernel_rfl) (by kernel_rfl) (by kernel_rfl) (fun w1 hw1 => rtext_any n1 d1 w1 hn1 hd1 w0 ht hw1))
      all_nil)), all_nil, all_nil, all_nil, all_nil, all_nil, (all_cons (slenOK (i := 0) (r := (sn 2)) rfl (by kernel_rfl))
      all_nil), all_nil, all_nil, all_nil, all_nil, all_nil, all_nil⟩
theorem texts_law (n1 d1 : Int) (s : ByteArray) (w w0 : World) (hn1 : bd (-9223372036854775808) 9223372036854775807 n1) (hd1 : bd (-9223372036854775808) 9223372036854775807 d1) (hn : bd 0 9223372036854775807 (s.size : Int)) (ht : Tab w0) (he : Errs w0) (hw : Below w0.heap.size w0 w) : Calls Tryd.prog 8 #[.agg #[.int .i64 n1, .int .i64 d1], (.string s)] w fun e w' => e = .returned (.bool true) ∧ Below w.heap.size w w' := by
  have KC := texts_lawK n1 d1 s w0 hn1 hd1 hn ht he
  rcases h0 : (decide ((s.size : Int) ≤ 100)) with _ | _
  · exact run_know (P := Tryd.prog) (ρ := texts_lawE n1 d1 s w0) (o := texts_lawC.app { bin := [(.gtr, 3, .int .i64 (sn 2), .int .i64 100, .bool true)] }) (KC.app ⟨(all_cons (cmpOK (op := .gtr) (ty := 3) (k := .i64) (n := (sn 2)) (m := 100) (t := true) (a := (s.size : Int)) (b := 100) (by kernel_rfl) (by kernel_rfl) (congrArg some ((gt_of_le h0)))) all_nil), all_nil, all_nil, all_nil, all_nil, all_nil, all_nil, all_nil, all_nil, all_nil, all_nil, all_nil, all_nil, all_nil, all_nil, all_nil, all_nil⟩) 1000 50 8 [.agg #[sy 0, sy 1], oq 0] (.bool true) (args' := #[.agg #[.int .i64 n1, .int .i64 d1], (.string s)]) (v' := .bool true) (by kernel_rfl) (by kernel_rfl) (by kernel_rfl) w hw
  · rcases h1 : (okTx s) with _ | _
    · rcases h2 : (validB n1 d1) with _ | _
      · exact run_know (P := Tryd.prog) (ρ := texts_lawE n1 d1 s w0) (o := texts_lawC.app { bin := [(.gtr, 3, .int .i64 (sn 2), .int .i64 100, .bool false)], calls := [(35, [oq 0], .tuple #[.agg #[.int .i64 0, .int .i64 0], .int .i64 2]), (36, [oq 0], .tuple #[.agg #[.int .i64 0, .int .i64 0], .bool false]), (37, [.agg #[sy 0, sy 1]], .tuple #[.string ⟨#[]⟩, .int .i64 1]), (15, [.agg #[sy 0, sy 1]], .bool false)] }) (KC.app ⟨(all_cons (cmpOK (op := .gtr) (ty := 3) (k := .i64) (n := (sn 2)) (m := 100) (t := false) (a := (s.size : Int)) (b := 100) (by kernel_rfl) (by kernel_rfl) (congrArg some ((gt_of_le h0)))) all_nil), all_nil, all_nil, all_nil, (all_cons (callOKb (f := 35) (args := [oq 0]) (v := .tuple #[.agg #[.int .i64 0, .int .i64 0], .int .i64 2]) (args' := #[(.string s)]) (v' := .tuple #[.agg #[.int .i64 0, .int .i64 0], .int .i64 2]) (by kernel_rfl) (by kernel_rfl) (by kernel_rfl) (fun w1 hw1 => by have q := parse_any s w1 (by have g := of_decide_eq_true h0; omega) w0 ht hw1 he; rw [parseF_no h1] at q; exact q)) (all_cons (callOKb (f := 36) (args := [oq 0]) (v := .tuple #[.agg #[.int .i64 0, .int .i64 0], .bool false]) (args' := #[(.string s)]) (v' := .tuple #[.agg #[.int .i64 0, .int .i64 0], .bool false]) (by kernel_rfl) (by kernel_rfl) (by kernel_rfl) (fun w1 hw1 => by have q := rparse_any s w1 (by have g := of_decide_eq_true h0; omega) w0 ht hw1 he; rw [rparseF_no h1] at q; exact q)) (all_cons (callOKb (f := 37) (args := [.agg #[sy 0, sy 1]]) (v := .tuple #[.string ⟨#[]⟩, .int .i64 1]) (args' := #[.agg #[.int .i64 n1, .int .i64 d1]]) (v' := .tuple #[.string ⟨#[]⟩, .int .i64 1]) (by kernel_rfl) (by kernel_rfl) (by kernel_rfl) (fun w1 hw1 => by have q := text_any n1 d1 w1 hn1 hd1 w0 ht hw1; unfold textF at q; rw [h2] at q; exact q)) (all_cons (callOK (f := 15) (args := [.agg #[sy 0, sy 1]]) (v := .bool false) (args' := #[.agg #[.int .i64 n1, .int .i64 d1]]) (v' := .bool false) (by kernel_rfl) (by kernel_rfl) (by kernel_rfl) (fun w => by have q := rvalid_any n1 d1 w hn1 hd1; rw [h2] at q; exact q)) all_nil)))), all_nil, all_nil, all_nil, all_nil, all_nil, all_nil, all_nil, all_nil, all_nil, all_nil, all_nil, all_nil⟩) 1000 50 8 [.agg #[sy 0, sy 1], oq 0] (.bool true) (args' := #[.agg #[.int .i64 n1, .int .i64 d1], (.string s)]) (v' := .bool true) (by kernel_rfl) (by kernel_rfl) (by kernel_rfl) w hw
      · exact run_know (P := Tryd.prog) (ρ := texts_lawE n1 d1 s w0) (o := texts_lawC.app { bin := [(.gtr, 3, .int .i64 (sn 2), .int .i64 100, .bool false)], calls := [(35, [oq 0], .tuple #[.agg #[.int .i64 0, .int .i64 0], .int .i64 2]), (36, [oq 0], .tuple #[.agg #[.int .i64 0, .int .i64 0], .bool false]), (37, [.agg #[sy 0, sy 1]], .tuple #[oq 1, .int .i64 0]), (15, [.agg #[sy 0, sy 1]], .bool true), (35, [oq 1], .tuple #[.agg #[sy 0, sy 1], .int .i64 0])] }) (KC.app ⟨(all_cons (cmpOK (op := .gtr) (ty := 3) (k := .i64) (n := (sn 2)) (m := 100) (t := false) (a := (s.size : Int)) (b := 100) (by kernel_rfl) (by kernel_rfl) (congrArg some ((gt_of_le h0)))) all_nil), all_nil, all_nil, all_nil, (all_cons (callOKb (f := 35) (args := [oq 0]) (v := .tuple #[.agg #[.int .i64 0, .int .i64 0], .int .i64 2]) (args' := #[(.string s)]) (v' := .tuple #[.agg #[.int .i64 0, .int .i64 0], .int .i64 2]) (by kernel_rfl) (by kernel_rfl) (by kernel_rfl) (fun w1 hw1 => by have q := parse_any s w1 (by have g := of_decide_eq_true h0; omega) w0 ht hw1 he; rw [parseF_no h1] at q; exact q)) (all_cons (callOKb (f := 36) (args := [oq 0]) (v := .tuple #[.agg #[.int .i64 0, .int .i64 0], .bool false]) (args' := #[(.string s)]) (v' := .tuple #[.agg #[.int .i64 0, .int .i64 0], .bool false]) (by kernel_rfl) (by kernel_rfl) (by kernel_rfl) (fun w1 hw1 => by have q := rparse_any s w1 (by have g := of_decide_eq_true h0; omega) w0 ht hw1 he; rw [rparseF_no h1] at q; exact q)) (all_cons (callOKb (f := 37) (args := [.agg #[sy 0, sy 1]]) (v := .tuple #[oq 1, .int .i64 0]) (args' := #[.agg #[.int .i64 n1, .int .i64 d1]]) (v' := .tuple #[(.string (textB n1 d1)), .int .i64 0]) (by kernel_rfl) (by kernel_rfl) (by kernel_rfl) (fun w1 hw1 => by have q := text_any n1 d1 w1 hn1 hd1 w0 ht hw1; unfold textF at q; rw [h2] at q; exact q)) (all_cons (callOK (f := 15) (args := [.agg #[sy 0, sy 1]]) (v := .bool true) (args' := #[.agg #[.int .i64 n1, .int .i64 d1]]) (v' := .bool true) (by kernel_rfl) (by kernel_rfl) (by kernel_rfl) (fun w => by have q := rvalid_any n1 d1 w hn1 hd1; rw [h2] at q; exact q)) (all_cons (callOKb (f := 35) (args := [oq 1]) (v := .tuple #[.agg #[sy 0, sy 1], .int .i64 0]) (args' := #[(.string (textB n1 d1))]) (v' := .tuple #[.agg #[.int .i64 n1, .int .i64 d1], .int .i64 0]) (by kernel_rfl) (by kernel_rfl) (by kernel_rfl) (fun w1 hw1 => by have q := parse_any (textB n1 d1) w1 (by have := text_size hn1 hd1; omega) w0 ht hw1 he; rw [tx_in h2] at q; exact q)) all_nil))))), all_nil, all_nil, all_nil, all_nil, all_nil, all_nil, all_nil, all_nil, all_nil, all_nil, all_nil, all_nil⟩) 1000 50 8 [.agg #[sy 0, sy 1], oq 0] (.bool true) (args' := #[.agg #[.int .i64 n1, .int .i64 d1], (.string s)]) (v' := .bool true) (by kernel_rfl) (by kernel_rfl) (by kernel_rfl) w hw
    · rcases h2 : (validB n1 d1) with _ | _
      · exact run_know (P := Tryd.prog) (ρ := texts_lawE n1 d1 s w0) (o := texts_lawC.app { bin := [(.gtr, 3, .int .i64 (sn 2), .int .i64 100, .bool false)], calls := [(35, [oq 0], .tuple #[.agg #[sy 3, sy 4], .int .i64 0]), (36, [oq 0], .tuple #[.agg #[sy 3, sy 4], .bool true]), (37, [.agg #[sy 0, sy 1]], .tuple #[.string ⟨#[]⟩, .int .i64 1]), (15, [.agg #[sy 0, sy 1]], .bool false)] }) (KC.app ⟨(all_cons (cmpOK (op := .gtr) (ty := 3) (k := .i64) (n := (sn 2)) (m := 100) (t := false) (a := (s.size : Int)) (b := 100) (by kernel_rfl) (by kernel_rfl) (congrArg some ((gt_of_le h0)))) all_nil), all_nil, all_nil, all_nil, (all_cons (callOKb (f := 35) (args := [oq 0]) (v := .tuple #[.agg #[sy 3, sy 4], .int .i64 0]) (args' := #[(.string s)]) (v' := .tuple #[.agg #[.int .i64 ((pvB (befS s))), .int .i64 ((pvB (aftS s)))], .int .i64 0]) (by kernel_rfl) (by kernel_rfl) (by kernel_rfl) (fun w1 hw1 => by have q := parse_any s w1 (by have g := of_decide_eq_true h0; omega) w0 ht hw1 he; rw [parseF_yes h1 rfl rfl] at q; exact q)) (all_cons (callOKb (f := 36) (args := [oq 0]) (v := .tuple #[.agg #[sy 3, sy 4], .bool true]) (args' := #[(.string s)]) (v' := .tuple #[.agg #[.int .i64 ((pvB (befS s))), .int .i64 ((pvB (aftS s)))], .bool true]) (by kernel_rfl) (by kernel_rfl) (by kernel_rfl) (fun w1 hw1 => by have q := rparse_any s w1 (by have g := of_decide_eq_true h0; omega) w0 ht hw1 he; rw [rparseF_yes h1 rfl rfl] at q; exact q)) (all_cons (callOKb (f := 37) (args := [.agg #[sy 0, sy 1]]) (v := .tuple #[.string ⟨#[]⟩, .int .i64 1]) (args' := #[.agg #[.int .i64 n1, .int .i64 d1]]) (v' := .tuple #[.string ⟨#[]⟩, .int .i64 1]) (by kernel_rfl) (by kernel_rfl) (by kernel_rfl) (fun w1 hw1 => by have q := text_any n1 d1 w1 hn1 hd1 w0 ht hw1; unfold textF at q; rw [h2] at q; exact q)) (all_cons (callOK (f := 15) (args := [.agg #[sy 0, sy 1]]) (v := .bool false) (args' := #[.agg #[.int .i64 n1, .int .i64 d1]]) (v' := .bool false) (by kernel_rfl) (by kernel_rfl) (by kernel_rfl) (fun w => by have q := rvalid_any n1 d1 w hn1 hd1; rw [h2] at q; exact q)) all_nil)))), all_nil, all_nil, all_nil, all_nil, all_nil, all_nil, all_nil, all_nil, all_nil, all_nil, all_nil, all_nil⟩) 1000 50 8 [.agg #[sy 0, sy 1], oq 0] (.bool true) (args' := #[.agg #[.int .i64 n1, .int .i64 d1], (.string s)]) (v' := .bool true) (by kernel_rfl) (by kernel_rfl) (by kernel_rfl) w hw
      · exact run_know (P := Tryd.prog) (ρ := texts_lawE n1 d1 s w0) (o := texts_lawC.app { bin := [(.gtr, 3, .int .i64 (sn 2), .int .i64 100, .bool false)], calls := [(35, [oq 0], .tuple #[.agg #[sy 3, sy 4], .int .i64 0]), (36, [oq 0], .tuple #[.agg #[sy 3, sy 4], .bool true]), (37, [.agg #[sy 0, sy 1]], .tuple #[oq 1, .int .i64 0]), (15, [.agg #[sy 0, sy 1]], .bool true), (35, [oq 1], .tuple #[.agg #[sy 0, sy 1], .int .i64 0])] }) (KC.app ⟨(all_cons (cmpOK (op := .gtr) (ty := 3) (k := .i64) (n := (sn 2)) (m := 100) (t := false) (a := (s.size : Int)) (b := 100) (by kernel_rfl) (by kernel_rfl) (congrArg some ((gt_of_le h0)))) all_nil), all_nil, all_nil, all_nil, (all_cons (callOKb (f := 35) (args := [oq 0]) (v := .tuple #[.agg #[sy 3, sy 4], .int .i64 0]) (args' := #[(.string s)]) (v' := .tuple #[.agg #[.int .i64 ((pvB (befS s))), .int .i64 ((pvB (aftS s)))], .int .i64 0]) (by kernel_rfl) (by kernel_rfl) (by kernel_rfl) (fun w1 hw1 => by have q := parse_any s w1 (by have g := of_decide_eq_true h0; omega) w0 ht hw1 he; rw [parseF_yes h1 rfl rfl] at q; exact q)) (all_cons (callOKb (f := 36) (args := [oq 0]) (v := .tuple #[.agg #[sy 3, sy 4], .bool true]) (args' := #[(.string s)]) (v' := .tuple #[.agg #[.int .i64 ((pvB (befS s))), .int .i64 ((pvB (aftS s)))], .bool true]) (by kernel_rfl) (by kernel_rfl) (by kernel_rfl) (fun w1 hw1 => by have q := rparse_any s w1 (by have g := of_decide_eq_true h0; omega) w0 ht hw1 he; rw [rparseF_yes h1 rfl rfl] at q; exact q)) (all_cons (callOKb (f := 37) (args := [.agg #[sy 0, sy 1]]) (v := .tuple #[oq 1, .int .i64 0]) (args' := #[.agg #[.int .i64 n1, .int .i64 d1]]) (v' := .tuple #[(.string (textB n1 d1)), .int .i64 0]) (by kernel_rfl) (by kernel_rfl) (by kernel_rfl) (fun w1 hw1 => by have q := text_any n1 d1 w1 hn1 hd1 w0 ht hw1; unfold textF at q; rw [h2] at q; exact q)) (all_cons (callOK (f := 15) (args := [.agg #[sy 0, sy 1]]) (v := .bool true) (args' := #[.agg #[.int .i64 n1, .int .i64 d1]]) (v' := .bool true) (by kernel_rfl) (by kernel_rfl) (by kernel_rfl) (fun w => by have q := rvalid_any n1 d1 w hn1 hd1; rw [h2] at q; exact q)) (all_cons (callOKb (f := 35) (args := [oq 1]) (v := .tuple #[.agg #[sy 0, sy 1], .int .i64 0]) (args' := #[(.string (textB n1 d1))]) (v' := .tuple #[.agg #[.int .i64 n1, .int .i64 d1], .int .i64 0]) (by kernel_rfl) (by kernel_rfl) (by kernel_rfl) (fun w1 hw1 => by have q := parse_any (textB n1 d1) w1 (by have := text_size hn1 hd1; omega) w0 ht hw1 he; rw [tx_in h2] at q; exact q)) all_nil))))), all_nil, all_nil, all_nil, all_nil, all_nil, all_nil, all_nil, all_nil, all_nil, all_nil, all_nil, all_nil⟩) 1000 50 8 [.agg #[sy 0, sy 1], oq 0] (.bool true) (args' := #[.agg #[.int .i64 n1, .int .i64 d1], (.string s)]) (v' := .bool true) (by kernel_rfl) (by kernel_rfl) (by kernel_rfl) w hw
theorem texts_row (n1 d1 : Int) (s : ByteArray) (w : World) (h1 : has2 n1 d1) (h2 : s.size ≤ 9223372036854775807) (ht : Tab w) (he : Errs w) : Calls Tryd.prog 8 #[.agg #[.int .i64 n1, .int .i64 d1], (.string s)] w fun e w' => e = .returned (.bool true) ∧ Below w.heap.size w w' :=
  texts_law n1 d1 s w w (has2_bd h1).1 (has2_bd h1).2 ⟨by omega, by omega⟩ ht he (Below.refl _ _)
end Go.Proofs.YtliabkeipieecaaDoor.Ev
