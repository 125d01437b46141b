/- fraction: sizes and greatest common divisors. -/
import Derived.Test.YtdmdpkmdilipaaaDoorSy5
namespace Go.Proofs.YtdmdpkmdilipaaaDoor.Ev
open Go.RowKit
set_option linter.unusedVariables false
set_option linter.unusedSimpArgs false
set_option maxRecDepth 8000

/-- the steps of Euclid's algorithm -/
def gs (a b : Nat) : Nat → Nat × Nat
  | 0 => (a, b)
  | i + 1 => ((gs a b i).2, (gs a b i).1 % (gs a b i).2)
theorem gs_lt {a b : Nat} (ha : a < 18446744073709551616) (hb : b < 18446744073709551616) : ∀ i, (gs a b i).1 < 18446744073709551616 ∧ (gs a b i).2 < 18446744073709551616
  | 0 => ⟨ha, hb⟩
  | i + 1 => ⟨(gs_lt ha hb i).2, Nat.lt_of_le_of_lt (Nat.mod_le _ _) (gs_lt ha hb i).1⟩
theorem gs_shift (a b : Nat) : ∀ i, gs a b (i + 1) = gs b (a % b) i
  | 0 => rfl
  | i + 1 => by
    have h := gs_shift a b i
    show ((gs a b (i + 1)).2, (gs a b (i + 1)).1 % (gs a b (i + 1)).2) = _
    rw [h]; rfl
theorem gs_end : ∀ (b a : Nat), ∃ K, (gs a b K).2 = 0 ∧ (∀ i, i < K → (gs a b i).2 ≠ 0) ∧ (gs a b K).1 = Nat.gcd a b := by
  intro b
  induction b using Nat.strongRecOn with
  | ind b ih =>
    intro a
    rcases Nat.eq_zero_or_pos b with rfl | hb
    · exact ⟨0, rfl, fun i h => by omega, by simp [gs]⟩
    · obtain ⟨K, h1, h2, h3⟩ := ih (a % b) (Nat.mod_lt _ hb) b
      refine ⟨K + 1, by rw [gs_shift]; exact h1, fun i hi => ?_, ?_⟩
      · cases i with
        | zero => show b ≠ 0; omega
        | succ i => rw [gs_shift]; exact h2 i (by omega)
      · rw [gs_shift, h3, Nat.gcd_comm a b, Nat.gcd_rec b a, Nat.gcd_comm]
theorem size_any (n : Int) (w : World) (hn : bd (-9223372036854775808) 9223372036854775807 n) : Calls Tryd.prog 40 #[.int .i64 n] w fun e w' => e = .returned (.int .u64 ((((n.natAbs) : Nat) : Int))) ∧ Below w.heap.size w w' := by
  have hn' := hn
  rcases h0 : (decide (n ≤ (-1))) with _ | _
  · exact run_know (P := Tryd.prog) (ρ := env [n, (((n.natAbs) : Nat) : Int)] [] w) (o := { bin := [(.lss, 2, .int .i64 (sn 0), .int .i64 0, .bool false)], conv := [(2, 45, sy 0, syk .u64 1)] }) ⟨(all_cons (cmpOK (op := .lss) (ty := 2) (k := .i64) (n := (sn 0)) (m := 0) (t := false) (a := n) (b := 0) (by kernel_rfl) (by kernel_rfl) (congrArg some ((lt_c h0 rfl)))) all_nil), all_nil, (all_cons (convOK (s := 2) (d := 45) (ds := .int .i64) (k := .i64) (l := .u64) (n := (sn 0)) (r := (sn 1)) (a := n) (c := ((((n.natAbs) : Nat) : Int))) (by kernel_rfl) (by kernel_rfl) (by kernel_rfl) (by kernel_rfl) (by rw [IntKind.wrap_u64]; have g := of_decide_eq_false h0; omega)) all_nil), all_nil, all_nil, all_nil, all_nil, all_nil, all_nil, all_nil, all_nil, all_nil, all_nil, all_nil, all_nil, all_nil, all_nil⟩ 1000 50 40 [sy 0] (syk .u64 1) (args' := #[.int .i64 n]) (v' := .int .u64 ((((n.natAbs) : Nat) : Int))) (by kernel_rfl) (by kernel_rfl) (by kernel_rfl) w (Below.refl _ _)
  · exact run_know (P := Tryd.prog) (ρ := env [n, (n + 18446744073709551616), (((n.natAbs) : Nat) : Int)] [] w) (o := { bin := [(.lss, 2, .int .i64 (sn 0), .int .i64 0, .bool true)], un := [(.neg, syk .u64 1, syk .u64 2)], conv := [(2, 45, sy 0, syk .u64 1)] }) ⟨(all_cons (cmpOK (op := .lss) (ty := 2) (k := .i64) (n := (sn 0)) (m := 0) (t := true) (a := n) (b := 0) (by kernel_rfl) (by kernel_rfl) (congrArg some ((lt_c h0 rfl)))) all_nil), (all_cons (unK (op := .neg) (x := syk .u64 1) (r := syk .u64 2) (by kernel_rfl) (v := .int .u64 (n + 18446744073709551616)) (v' := .int .u64 ((((n.natAbs) : Nat) : Int))) (by kernel_rfl) (by kernel_rfl) (fun w => u_neg (by rw [IntKind.wrap_u64]; have g := of_decide_eq_true h0; omega) w)) all_nil), (all_cons (convOK (s := 2) (d := 45) (ds := .int .i64) (k := .i64) (l := .u64) (n := (sn 0)) (r := (sn 1)) (a := n) (c := (n + 18446744073709551616)) (by kernel_rfl) (by kernel_rfl) (by kernel_rfl) (by kernel_rfl) (by rw [IntKind.wrap_u64]; have g := of_decide_eq_true h0; omega)) all_nil), all_nil, all_nil, all_nil, all_nil, all_nil, all_nil, all_nil, all_nil, all_nil, all_nil, all_nil, all_nil, all_nil, all_nil⟩ 1000 50 40 [sy 0] (syk .u64 2) (args' := #[.int .i64 n]) (v' := .int .u64 ((((n.natAbs) : Nat) : Int))) (by kernel_rfl) (by kernel_rfl) (by kernel_rfl) w (Below.refl _ _)
theorem rsize_any (n : Int) (w : World) (hn : bd (-9223372036854775808) 9223372036854775807 n) : Calls Tryd.prog 46 #[.int .i64 n] w fun e w' => e = .returned (.int .u64 ((((n.natAbs) : Nat) : Int))) ∧ Below w.heap.size w w' := by
  have hn' := hn
  rcases h0 : (decide (n ≤ (-1))) with _ | _
  · exact run_know (P := Tryd.prog) (ρ := env [n, (((n.natAbs) : Nat) : Int)] [] w) (o := { bin := [(.lss, 2, .int .i64 (sn 0), .int .i64 0, .bool false)], conv := [(2, 45, sy 0, syk .u64 1)] }) ⟨(all_cons (cmpOK (op := .lss) (ty := 2) (k := .i64) (n := (sn 0)) (m := 0) (t := false) (a := n) (b := 0) (by kernel_rfl) (by kernel_rfl) (congrArg some ((lt_c h0 rfl)))) all_nil), all_nil, (all_cons (convOK (s := 2) (d := 45) (ds := .int .i64) (k := .i64) (l := .u64) (n := (sn 0)) (r := (sn 1)) (a := n) (c := ((((n.natAbs) : Nat) : Int))) (by kernel_rfl) (by kernel_rfl) (by kernel_rfl) (by kernel_rfl) (by rw [IntKind.wrap_u64]; have g := of_decide_eq_false h0; omega)) all_nil), all_nil, all_nil, all_nil, all_nil, all_nil, all_nil, all_nil, all_nil, all_nil, all_nil, all_nil, all_nil, all_nil, all_nil⟩ 1000 50 46 [sy 0] (syk .u64 1) (args' := #[.int .i64 n]) (v' := .int .u64 ((((n.natAbs) : Nat) : Int))) (by kernel_rfl) (by kernel_rfl) (by kernel_rfl) w (Below.refl _ _)
  · exact run_know (P := Tryd.prog) (ρ := env [n, (n + 18446744073709551616), (((n.natAbs) : Nat) : Int)] [] w) (o := { bin := [(.lss, 2, .int .i64 (sn 0), .int .i64 0, .bool true)], un := [(.neg, syk .u64 1, syk .u64 2)], conv := [(2, 45, sy 0, syk .u64 1)] }) ⟨(all_cons (cmpOK (op := .lss) (ty := 2) (k := .i64) (n := (sn 0)) (m := 0) (t := true) (a := n) (b := 0) (by kernel_rfl) (by kernel_rfl) (congrArg some ((lt_c h0 rfl)))) all_nil), (all_cons (unK (op := .neg) (x := syk .u64 1) (r := syk .u64 2) (by kernel_rfl) (v := .int .u64 (n + 18446744073709551616)) (v' := .int .u64 ((((n.natAbs) : Nat) : Int))) (by kernel_rfl) (by kernel_rfl) (fun w => u_neg (by rw [IntKind.wrap_u64]; have g := of_decide_eq_true h0; omega) w)) all_nil), (all_cons (convOK (s := 2) (d := 45) (ds := .int .i64) (k := .i64) (l := .u64) (n := (sn 0)) (r := (sn 1)) (a := n) (c := (n + 18446744073709551616)) (by kernel_rfl) (by kernel_rfl) (by kernel_rfl) (by kernel_rfl) (by rw [IntKind.wrap_u64]; have g := of_decide_eq_true h0; omega)) all_nil), all_nil, all_nil, all_nil, all_nil, all_nil, all_nil, all_nil, all_nil, all_nil, all_nil, all_nil, all_nil, all_nil, all_nil⟩ 1000 50 46 [sy 0] (syk .u64 2) (args' := #[.int .i64 n]) (v' := .int .u64 ((((n.natAbs) : Nat) : Int))) (by kernel_rfl) (by kernel_rfl) (by kernel_rfl) w (Below.refl _ _)
def gcdPt0 : Tm := [[syk .u64 3, syk .u64 4, undef, undef, .int .u64 0, anyV, anyV, anyV, anyV, anyV, anyV, undef]]
def gcdPH0 : Heap := []
def gcdPtA : Tm := [[syk .u64 0, syk .u64 1, undef, undef, .int .u64 0, undef, undef, undef, undef, undef, undef, undef]]
def gcdPHA : Heap := []
def gcdPo0 : Orc := { bin := [(.neq, 45, .int .u64 (sn 4), .int .u64 0, .bool true), (.rem, 45, syk .u64 3, syk .u64 4, syk .u64 5)] }
def gcdPo1 : Orc := { bin := [(.neq, 45, .int .u64 (sn 4), .int .u64 0, .bool false)] }
noncomputable def gcdPE (w : World) (A B : Nat) (i : Nat) : Env := env [(((A) : Nat) : Int), (((B) : Nat) : Int), (i : Int), ((((gs A B i).1) : Nat) : Int), ((((gs A B i).2) : Nat) : Int), (((((gs A B i).1) % ((gs A B i).2)) : Nat) : Int)] [] w
theorem gcdPs0 : stepT Tryd.prog [] (evBody Tryd.prog gcdPo0 1000 50 39 [false, false, true] gcdPt0 gcdPH0) .normal gcdPt0 gcdPH0 [.num 1180591620717411303428 1180591620717411303427, .num 1180591620717411303429 1180591620717411303428] = true := by decide +kernel
theorem gcdPk0 (w : World) (A B : Nat) (i : Nat) (hA : A < 18446744073709551616) (hB : B < 18446744073709551616) (h0 : ((((((gs A B i).2) : Nat) : Int)) == 0) = false) : Know (gcdPE w A B i) Tryd.prog gcdPo0 := by
  exact ⟨(all_cons (cmpOK (op := .neq) (ty := 45) (k := .u64) (n := (sn 4)) (m := 0) (t := true) (a := (((((gs A B i).2) : Nat) : Int))) (b := 0) (by kernel_rfl) (by kernel_rfl) (congrArg some ((ne_of h0)))) (all_cons (binK (op := .rem) (ty := 45) (x := syk .u64 3) (y := syk .u64 4) (r := syk .u64 5) (by kernel_rfl) (k := .u64) (l := .u64) (a := (((((gs A B i).1) : Nat) : Int))) (b := (((((gs A B i).2) : Nat) : Int))) (v := .int .u64 ((((((gs A B i).1) % ((gs A B i).2)) : Nat) : Int))) (by kernel_rfl) (by kernel_rfl) (by kernel_rfl) (fun w => b_rem (a := (gs A B i).1) (b := (gs A B i).2) (by intro e; rw [e] at h0; simp at h0) w)) all_nil)), all_nil, all_nil, all_nil, all_nil, all_nil, all_nil, all_nil, all_nil, all_nil, all_nil, all_nil, all_nil, all_nil, all_nil, all_nil, all_nil⟩
theorem gcdPk1 (w : World) (A B : Nat) (i : Nat) (hA : A < 18446744073709551616) (hB : B < 18446744073709551616) (h0 : ((((((gs A B i).2) : Nat) : Int)) == 0) = true) : Know (gcdPE w A B i) Tryd.prog gcdPo1 := by
  exact ⟨(all_cons (cmpOK (op := .neq) (ty := 45) (k := .u64) (n := (sn 4)) (m := 0) (t := false) (a := (((((gs A B i).2) : Nat) : Int))) (b := 0) (by kernel_rfl) (by kernel_rfl) (congrArg some ((ne_of h0)))) all_nil), all_nil, all_nil, all_nil, all_nil, all_nil, all_nil, all_nil, all_nil, all_nil, all_nil, all_nil, all_nil, all_nil, all_nil, all_nil, all_nil⟩
def gcdPtF_done : Tm := [[syk .u64 2, anyV, anyV, anyV, .int .u64 0, anyV, .bool false, anyV, anyV, anyV, anyV, anyV]]
def gcdPHF_done : Heap := []
theorem gcdPf1_done : stepT Tryd.prog [] (evBody Tryd.prog gcdPo1 1000 50 39 [false, false, true] gcdPt0 gcdPH0) (.exit 0) gcdPtF_done gcdPHF_done [.num 1180591620717411303427 1180591620717411303426] = true := by decide +kernel
theorem gcdP_loop_done (w : World) (A B : Nat) (hA : A < 18446744073709551616) (hB : B < 18446744073709551616) (K : Nat) (h1 : (gs A B K).2 = 0) (h2 : ∀ i, i < K → (gs A B i).2 ≠ 0) : LoopE (env [(((A) : Nat) : Int), (((B) : Nat) : Int), (((gs A B K).1 : Nat) : Int)] [] w) Tryd.prog (39, [false, false, true], gcdPtA, gcdPHA, .exit 0, gcdPtF_done, gcdPHF_done) := by
  refine loop_rule (σ := { st : Nat // st ≤ K }) (fun st => gcdPE w A B st.1) (fun _ => rfl) (fun st => K - st.1) (fun _ => gcdPt0) (fun _ => gcdPH0) rfl (fun _ => by decide) (by decide) ?_ ⟨0, Nat.zero_le _⟩ [.num 1180591620717411303424 1180591620717411303427, .num 1180591620717411303425 1180591620717411303428] [] (by decide +kernel) (by decide) ?_
  · rintro ⟨i, hi⟩
    rcases Nat.lt_or_ge i (K) with h | h
    · have hq := h2 i h
      rcases h0 : ((((((gs A B i).2) : Nat) : Int)) == 0) with _ | _
      · refine .inl ⟨gcdPo0, 1000, 50, _, [], ⟨i + 1, h⟩, (gcdPk0 w A B i hA hB h0).ok, gcdPs0, by decide, ?_, by show K - (i + 1) < K - i; omega⟩
        intro q hq
        simp only [List.mem_cons, List.not_mem_nil, or_false] at hq
        rcases hq with rfl | rfl
        · show (((((gs A B i).2) : Nat) : Int) : Int) = ((((gs A B (i + 1)).1) : Nat) : Int); first | rfl | (omega)
        · show ((((((gs A B i).1) % ((gs A B i).2)) : Nat) : Int) : Int) = ((((gs A B (i + 1)).2) : Nat) : Int); first | rfl | (omega)
      · exfalso; (simp at h0; omega)
    · have hE : K = i := by omega
      subst hE
      have hq := h1
      rcases h0 : ((((((gs A B K).2) : Nat) : Int)) == 0) with _ | _
      · exfalso; (simp at h0; omega)
      · refine .inr ⟨gcdPo1, 1000, 50, _, [], (gcdPk1 w A B (K) hA hB h0).ok, gcdPf1_done, by decide, ?_⟩
        intro q hq
        simp only [List.mem_cons, List.not_mem_nil, or_false] at hq
        rcases hq with rfl
        · show (((((gs A B K).1) : Nat) : Int) : Int) = (((gs A B K).1 : Nat) : Int); first | rfl | (omega)
  · skip
    intro q hq
    simp only [List.mem_cons, List.not_mem_nil, or_false] at hq
    rcases hq with rfl | rfl
    · show ((((A) : Nat) : Int) : Int) = ((((gs A B 0).1) : Nat) : Int); first | rfl | (omega)
    · show ((((B) : Nat) : Int) : Int) = ((((gs A B 0).2) : Nat) : Int); first | rfl | (omega)
theorem gcdP_any (A B : Nat) (w : World) (hA : A < 18446744073709551616) (hB : B < 18446744073709551616) : Calls Tryd.prog 39 #[.int .u64 ((((A) : Nat) : Int)), .int .u64 ((((B) : Nat) : Int))] w fun e w' => e = .returned (.int .u64 ((((Nat.gcd A B) : Nat) : Int))) ∧ Below w.heap.size w w' := by
  obtain ⟨K, h1, h2, h3⟩ := gs_end B A
  rw [← h3]
  exact run_know (P := Tryd.prog) (ρ := env [(((A) : Nat) : Int), (((B) : Nat) : Int), (((gs A B K).1 : Nat) : Int)] [] w) (o := { loops := [(39, [false, false, true], gcdPtA, gcdPHA, .exit 0, gcdPtF_done, gcdPHF_done)] }) ⟨all_nil, all_nil, all_nil, all_nil, all_nil, all_nil, all_nil, all_nil, all_nil, (all_cons (gcdP_loop_done w A B hA hB K h1 h2) all_nil), all_nil, all_nil, all_nil, all_nil, all_nil, all_nil, all_nil⟩ 1000 50 39 [syk .u64 0, syk .u64 1] (syk .u64 2) (args' := #[.int .u64 ((((A) : Nat) : Int)), .int .u64 ((((B) : Nat) : Int))]) (v' := .int .u64 ((((gs A B K).1 : Nat) : Int))) (by kernel_rfl) (by kernel_rfl) (by kernel_rfl) w (Below.refl _ _)
def gcdRt0 : Tm := [[syk .u64 3, syk .u64 4, undef, undef, .int .u64 0, anyV, anyV, anyV, anyV, anyV, anyV, undef]]
def gcdRH0 : Heap := []
def gcdRtA : Tm := [[syk .u64 0, syk .u64 1, undef, undef, .int .u64 0, undef, undef, undef, undef, undef, undef, undef]]
def gcdRHA : Heap := []
def gcdRo0 : Orc := { bin := [(.neq, 45, .int .u64 (sn 4), .int .u64 0, .bool true), (.rem, 45, syk .u64 3, syk .u64 4, syk .u64 5)] }
def gcdRo1 : Orc := { bin := [(.neq, 45, .int .u64 (sn 4), .int .u64 0, .bool false)] }
noncomputable def gcdRE (w : World) (A B : Nat) (i : Nat) : Env := env [(((A) : Nat) : Int), (((B) : Nat) : Int), (i : Int), ((((gs A B i).1) : Nat) : Int), ((((gs A B i).2) : Nat) : Int), (((((gs A B i).1) % ((gs A B i).2)) : Nat) : Int)] [] w
theorem gcdRs0 : stepT Tryd.prog [] (evBody Tryd.prog gcdRo0 1000 50 45 [false, false, true] gcdRt0 gcdRH0) .normal gcdRt0 gcdRH0 [.num 1180591620717411303428 1180591620717411303427, .num 1180591620717411303429 1180591620717411303428] = true := by decide +kernel
theorem gcdRk0 (w : World) (A B : Nat) (i : Nat) (hA : A < 18446744073709551616) (hB : B < 18446744073709551616) (h0 : ((((((gs A B i).2) : Nat) : Int)) == 0) = false) : Know (gcdRE w A B i) Tryd.prog gcdRo0 := by
  exact ⟨(all_cons (cmpOK (op := .neq) (ty := 45) (k := .u64) (n := (sn 4)) (m := 0) (t := true) (a := (((((gs A B i).2) : Nat) : Int))) (b := 0) (by kernel_rfl) (by kernel_rfl) (congrArg some ((ne_of h0)))) (all_cons (binK (op := .rem) (ty := 45) (x := syk .u64 3) (y := syk .u64 4) (r := syk .u64 5) (by kernel_rfl) (k := .u64) (l := .u64) (a := (((((gs A B i).1) : Nat) : Int))) (b := (((((gs A B i).2) : Nat) : Int))) (v := .int .u64 ((((((gs A B i).1) % ((gs A B i).2)) : Nat) : Int))) (by kernel_rfl) (by kernel_rfl) (by kernel_rfl) (fun w => b_rem (a := (gs A B i).1) (b := (gs A B i).2) (by intro e; rw [e] at h0; simp at h0) w)) all_nil)), all_nil, all_nil, all_nil, all_nil, all_nil, all_nil, all_nil, all_nil, all_nil, all_nil, all_nil, all_nil, all_nil, all_nil, all_nil, all_nil⟩
theorem gcdRk1 (w : World) (A B : Nat) (i : Nat) (hA : A < 18446744073709551616) (hB : B < 18446744073709551616) (h0 : ((((((gs A B i).2) : Nat) : Int)) == 0) = true) : Know (gcdRE w A B i) Tryd.prog gcdRo1 := by
  exact ⟨(all_cons (cmpOK (op := .neq) (ty := 45) (k := .u64) (n := (sn 4)) (m := 0) (t := false) (a := (((((gs A B i).2) : Nat) : Int))) (b := 0) (by kernel_rfl) (by kernel_rfl) (congrArg some ((ne_of h0)))) all_nil), all_nil, all_nil, all_nil, all_nil, all_nil, all_nil, all_nil, all_nil, all_nil, all_nil, all_nil, all_nil, all_nil, all_nil, all_nil, all_nil⟩
def gcdRtF_done : Tm := [[syk .u64 2, anyV, anyV, anyV, .int .u64 0, anyV, .bool false, anyV, anyV, anyV, anyV, anyV]]
def gcdRHF_done : Heap := []
theorem gcdRf1_done : stepT Tryd.prog [] (evBody Tryd.prog gcdRo1 1000 50 45 [false, false, true] gcdRt0 gcdRH0) (.exit 0) gcdRtF_done gcdRHF_done [.num 1180591620717411303427 1180591620717411303426] = true := by decide +kernel
theorem gcdR_loop_done (w : World) (A B : Nat) (hA : A < 18446744073709551616) (hB : B < 18446744073709551616) (K : Nat) (h1 : (gs A B K).2 = 0) (h2 : ∀ i, i < K → (gs A B i).2 ≠ 0) : LoopE (env [(((A) : Nat) : Int), (((B) : Nat) : Int), (((gs A B K).1 : Nat) : Int)] [] w) Tryd.prog (45, [false, false, true], gcdRtA, gcdRHA, .exit 0, gcdRtF_done, gcdRHF_done) := by
  refine loop_rule (σ := { st : Nat // st ≤ K }) (fun st => gcdRE w A B st.1) (fun _ => rfl) (fun st => K - st.1) (fun _ => gcdRt0) (fun _ => gcdRH0) rfl (fun _ => by decide) (by decide) ?_ ⟨0, Nat.zero_le _⟩ [.num 1180591620717411303424 1180591620717411303427, .num 1180591620717411303425 1180591620717411303428] [] (by decide +kernel) (by decide) ?_
  · rintro ⟨i, hi⟩
    rcases Nat.lt_or_ge i (K) with h | h
    · have hq := h2 i h
      rcases h0 : ((((((gs A B i).2) : Nat) : Int)) == 0) with _ | _
      · refine .inl ⟨gcdRo0, 1000, 50, _, [], ⟨i + 1, h⟩, (gcdRk0 w A B i hA hB h0).ok, gcdRs0, by decide, ?_, by show K - (i + 1) < K - i; omega⟩
        intro q hq
        simp only [List.mem_cons, List.not_mem_nil, or_false] at hq
        rcases hq with rfl | rfl
        · show (((((gs A B i).2) : Nat) : Int) : Int) = ((((gs A B (i + 1)).1) : Nat) : Int); first | rfl | (omega)
        · show ((((((gs A B i).1) % ((gs A B i).2)) : Nat) : Int) : Int) = ((((gs A B (i + 1)).2) : Nat) : Int); first | rfl | (omega)
      · exfalso; (simp at h0; omega)
    · have hE : K = i := by omega
      subst hE
      have hq := h1
      rcases h0 : ((((((gs A B K).2) : Nat) : Int)) == 0) with _ | _
      · exfalso; (simp at h0; omega)
      · refine .inr ⟨gcdRo1, 1000, 50, _, [], (gcdRk1 w A B (K) hA hB h0).ok, gcdRf1_done, by decide, ?_⟩
        intro q hq
        simp only [List.mem_cons, List.not_mem_nil, or_false] at hq
        rcases hq with rfl
        · show (((((gs A B K).1) : Nat) : Int) : Int) = (((gs A B K).1 : Nat) : Int); first | rfl | (omega)
  · skip
    intro q hq
    simp only [List.mem_cons, List.not_mem_nil, or_false] at hq
    rcases hq with rfl | rfl
    · show ((((A) : Nat) : Int) : Int) = ((((gs A B 0).1) : Nat) : Int); first | rfl | (omega)
    · show ((((B) : Nat) : Int) : Int) = ((((gs A B 0).2) : Nat) : Int); first | rfl | (omega)
theorem gcdR_any (A B : Nat) (w : World) (hA : A < 18446744073709551616) (hB : B < 18446744073709551616) : Calls Tryd.prog 45 #[.int .u64 ((((A) : Nat) : Int)), .int .u64 ((((B) : Nat) : Int))] w fun e w' => e = .returned (.int .u64 ((((Nat.gcd A B) : Nat) : Int))) ∧ Below w.heap.size w w' := by
  obtain ⟨K, h1, h2, h3⟩ := gs_end B A
  rw [← h3]
  exact run_know (P := Tryd.prog) (ρ := env [(((A) : Nat) : Int), (((B) : Nat) : Int), (((gs A B K).1 : Nat) : Int)] [] w) (o := { loops := [(45, [false, false, true], gcdRtA, gcdRHA, .exit 0, gcdRtF_done, gcdRHF_done)] }) ⟨all_nil, all_nil, all_nil, all_nil, all_nil, all_nil, all_nil, all_nil, all_nil, (all_cons (gcdR_loop_done w A B hA hB K h1 h2) all_nil), all_nil, all_nil, all_nil, all_nil, all_nil, all_nil, all_nil⟩ 1000 50 45 [syk .u64 0, syk .u64 1] (syk .u64 2) (args' := #[.int .u64 ((((A) : Nat) : Int)), .int .u64 ((((B) : Nat) : Int))]) (v' := .int .u64 ((((gs A B K).1 : Nat) : Int))) (by kernel_rfl) (by kernel_rfl) (by kernel_rfl) w (Below.refl _ _)
end Go.Proofs.YtdmdpkmdilipaaaDoor.Ev
