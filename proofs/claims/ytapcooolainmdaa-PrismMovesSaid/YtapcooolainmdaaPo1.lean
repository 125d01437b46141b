/- polygon: allowed points. -/
import Derived.Test.YtapcooolainmdaaSl4
namespace Go.Proofs.Ytapcooolainmdaa.Ev
open Go.RowKit
set_option linter.unusedVariables false
set_option linter.unusedSimpArgs false
set_option maxRecDepth 8000

def okC (x : Int) : Bool := decide (-1000000 ≤ x) && decide (x ≤ 1000000)
def okP (X Y : Nat → Int) (k : Nat) : Bool := okC (X k) && okC (Y k)
def allN (q : Nat → Bool) (n : Nat) : Bool := (List.range n).all q
theorem allN_all {q : Nat → Bool} {n : Nat} (h : ∀ i, i < n → q i = true) : allN q n = true := by simp only [allN, List.all_eq_true, List.mem_range]; exact h
theorem allN_bad {q : Nat → Bool} {n k : Nat} (hk : k < n) (h : q k = false) : allN q n = false := by
  rcases g : allN q n with _ | _
  · rfl
  · simp only [allN, List.all_eq_true, List.mem_range] at g
    rw [g k hk] at h; cases h
def alt0 : Tm := [[oq 0, undef, .bool false, .func (.func 61) #[] #[], undef, anyV, oq 0, sy 0, sy 1, anyV, anyV, anyV, anyV, anyV, anyV, anyV], [anyV, anyV, anyV, anyV, anyV, anyV, anyV, anyV, anyV]]
def alH0 : Heap := []
def altA : Tm := [[oq 0, undef, .bool false, .func (.func 61) #[] #[], undef, undef, oq 0, sy 0, .int .i64 0, undef, undef, undef, undef, undef, undef, undef], [undef, undef, undef, undef, undef, undef, undef, undef, undef]]
def alHA : Heap := []
def alo0 : Orc := { bin := [(.lss, 3, .int .i64 (sn 1), .int .i64 (sn 0), .bool true), (.leq, 3, .int .i64 (-1000000), .int .i64 (sn 2), .bool true), (.leq, 3, .int .i64 (sn 2), .int .i64 1000000, .bool false)], lds := [(60, oq 1, .agg #[sy 2, sy 3])], ixa := [(22, oq 0, .int .i64 (sn 1), oq 1)], lens := [(false, oq 0, .int .i64 (sn 0))] }
def alo1 : Orc := { bin := [(.lss, 3, .int .i64 (sn 1), .int .i64 (sn 0), .bool true), (.leq, 3, .int .i64 (-1000000), .int .i64 (sn 2), .bool true), (.leq, 3, .int .i64 (sn 2), .int .i64 1000000, .bool true), (.leq, 3, .int .i64 (-1000000), .int .i64 (sn 3), .bool true), (.leq, 3, .int .i64 (sn 3), .int .i64 1000000, .bool false)], lds := [(60, oq 1, .agg #[sy 2, sy 3])], ixa := [(22, oq 0, .int .i64 (sn 1), oq 1)], lens := [(false, oq 0, .int .i64 (sn 0))] }
def alo2 : Orc := { bin := [(.lss, 3, .int .i64 (sn 1), .int .i64 (sn 0), .bool true), (.leq, 3, .int .i64 (-1000000), .int .i64 (sn 2), .bool true), (.leq, 3, .int .i64 (sn 2), .int .i64 1000000, .bool true), (.leq, 3, .int .i64 (-1000000), .int .i64 (sn 3), .bool true), (.leq, 3, .int .i64 (sn 3), .int .i64 1000000, .bool true), (.add, 3, .int .i64 (sn 1), .int .i64 1, .int .i64 (sn 4))], lds := [(60, oq 1, .agg #[sy 2, sy 3])], ixa := [(22, oq 0, .int .i64 (sn 1), oq 1)], lens := [(false, oq 0, .int .i64 (sn 0))] }
def alo3 : Orc := { bin := [(.lss, 3, .int .i64 (sn 1), .int .i64 (sn 0), .bool true), (.leq, 3, .int .i64 (-1000000), .int .i64 (sn 2), .bool true), (.leq, 3, .int .i64 (sn 2), .int .i64 1000000, .bool true), (.leq, 3, .int .i64 (-1000000), .int .i64 (sn 3), .bool false)], lds := [(60, oq 1, .agg #[sy 2, sy 3])], ixa := [(22, oq 0, .int .i64 (sn 1), oq 1)], lens := [(false, oq 0, .int .i64 (sn 0))] }
def alo4 : Orc := { bin := [(.lss, 3, .int .i64 (sn 1), .int .i64 (sn 0), .bool true), (.leq, 3, .int .i64 (-1000000), .int .i64 (sn 2), .bool false)], lds := [(60, oq 1, .agg #[sy 2, sy 3])], ixa := [(22, oq 0, .int .i64 (sn 1), oq 1)], lens := [(false, oq 0, .int .i64 (sn 0))] }
def alo5 : Orc := { bin := [(.lss, 3, .int .i64 (sn 1), .int .i64 (sn 0), .bool false)], lens := [(false, oq 0, .int .i64 (sn 0))] }
noncomputable def alE (a : Option Addr) (n c : Nat) (X Y : Nat → Int) (ptr : Nat → Addr) (w : World) (i : Nat) : Env := env [(n : Int), (i : Int), (X i), (Y i), ((i : Int) + 1)] [(.slice a n c), (.pointer (some (ptr i)))] w
theorem als2 : stepT Try.prog [] (evBody Try.prog alo2 1000 50 59 [false, true, false, true, true] alt0 alH0) .normal alt0 alH0 [.val 0 0, .num 1180591620717411303424 1180591620717411303424, .num 1180591620717411303428 1180591620717411303425] = true := by decide +kernel
theorem alk0 (a : Option Addr) (n c : Nat) (X Y : Nat → Int) (ptr : Nat → Addr) (w : World) (i : Nat) (hib : bd 0 1000000000000000 (i : Int)) (hn : bd 0 1000000000000 (n : Int)) (hS : Sl Try.prog w (.slice a n c) n 22 60 (fun k => .agg #[.int .i64 (X k), .int .i64 (Y k)]) ptr)  (h0 : (decide ((n : Int) ≤ (i : Int))) = false) (h1 : (decide ((X i) ≤ (-1000001))) = false) (h2 : (decide ((X i) ≤ 1000000)) = false) : Know (alE a n c X Y ptr w i) Try.prog alo0 := by
  exact ⟨(all_cons (cmpOK (op := .lss) (ty := 3) (k := .i64) (n := (sn 1)) (m := (sn 0)) (t := true) (a := (i : Int)) (b := (n : Int)) (by kernel_rfl) (by kernel_rfl) (congrArg some ((lt_of_le h0)))) (all_cons (cmpOK (op := .leq) (ty := 3) (k := .i64) (n := (-1000000)) (m := (sn 2)) (t := true) (a := (-1000000)) (b := (X i)) (by kernel_rfl) (by kernel_rfl) (congrArg some ((le_c h1 rfl)))) (all_cons (cmpOK (op := .leq) (ty := 3) (k := .i64) (n := (sn 2)) (m := 1000000) (t := false) (a := (X i)) (b := 1000000) (by kernel_rfl) (by kernel_rfl) (congrArg some (h2))) all_nil))), all_nil, all_nil, all_nil, all_nil, (all_cons (sldOK (j := 1) (k := i) (x := .agg #[sy 2, sy 3]) hS rfl (by have g := of_decide_eq_false h0; omega) (by kernel_rfl) (by show inst _ _ = _; kernel_rfl)) all_nil), (all_cons (sixOK (i := 0) (j := 1) (k := i) (r := (sn 1)) hS rfl (by kernel_rfl) rfl (by have g := of_decide_eq_false h0; omega)) all_nil), all_nil, all_nil, all_nil, (all_cons (lenOK (i := 0) (r := (sn 0)) (a := a) (c := c) rfl (by kernel_rfl)) all_nil), all_nil, all_nil, all_nil, all_nil, all_nil, all_nil, all_nil⟩
theorem alk1 (a : Option Addr) (n c : Nat) (X Y : Nat → Int) (ptr : Nat → Addr) (w : World) (i : Nat) (hib : bd 0 1000000000000000 (i : Int)) (hn : bd 0 1000000000000 (n : Int)) (hS : Sl Try.prog w (.slice a n c) n 22 60 (fun k => .agg #[.int .i64 (X k), .int .i64 (Y k)]) ptr)  (h0 : (decide ((n : Int) ≤ (i : Int))) = false) (h1 : (decide ((X i) ≤ (-1000001))) = false) (h2 : (decide ((X i) ≤ 1000000)) = true) (h3 : (decide ((Y i) ≤ (-1000001))) = false) (h4 : (decide ((Y i) ≤ 1000000)) = false) : Know (alE a n c X Y ptr w i) Try.prog alo1 := by
  exact ⟨(all_cons (cmpOK (op := .lss) (ty := 3) (k := .i64) (n := (sn 1)) (m := (sn 0)) (t := true) (a := (i : Int)) (b := (n : Int)) (by kernel_rfl) (by kernel_rfl) (congrArg some ((lt_of_le h0)))) (all_cons (cmpOK (op := .leq) (ty := 3) (k := .i64) (n := (-1000000)) (m := (sn 2)) (t := true) (a := (-1000000)) (b := (X i)) (by kernel_rfl) (by kernel_rfl) (congrArg some ((le_c h1 rfl)))) (all_cons (cmpOK (op := .leq) (ty := 3) (k := .i64) (n := (sn 2)) (m := 1000000) (t := true) (a := (X i)) (b := 1000000) (by kernel_rfl) (by kernel_rfl) (congrArg some (h2))) (all_cons (cmpOK (op := .leq) (ty := 3) (k := .i64) (n := (-1000000)) (m := (sn 3)) (t := true) (a := (-1000000)) (b := (Y i)) (by kernel_rfl) (by kernel_rfl) (congrArg some ((le_c h3 rfl)))) (all_cons (cmpOK (op := .leq) (ty := 3) (k := .i64) (n := (sn 3)) (m := 1000000) (t := false) (a := (Y i)) (b := 1000000) (by kernel_rfl) (by kernel_rfl) (congrArg some (h4))) all_nil))))), all_nil, all_nil, all_nil, all_nil, (all_cons (sldOK (j := 1) (k := i) (x := .agg #[sy 2, sy 3]) hS rfl (by have g := of_decide_eq_false h0; omega) (by kernel_rfl) (by show inst _ _ = _; kernel_rfl)) all_nil), (all_cons (sixOK (i := 0) (j := 1) (k := i) (r := (sn 1)) hS rfl (by kernel_rfl) rfl (by have g := of_decide_eq_false h0; omega)) all_nil), all_nil, all_nil, all_nil, (all_cons (lenOK (i := 0) (r := (sn 0)) (a := a) (c := c) rfl (by kernel_rfl)) all_nil), all_nil, all_nil, all_nil, all_nil, all_nil, all_nil, all_nil⟩
theorem alk2 (a : Option Addr) (n c : Nat) (X Y : Nat → Int) (ptr : Nat → Addr) (w : World) (i : Nat) (hib : bd 0 1000000000000000 (i : Int)) (hn : bd 0 1000000000000 (n : Int)) (hS : Sl Try.prog w (.slice a n c) n 22 60 (fun k => .agg #[.int .i64 (X k), .int .i64 (Y k)]) ptr)  (h0 : (decide ((n : Int) ≤ (i : Int))) = false) (h1 : (decide ((X i) ≤ (-1000001))) = false) (h2 : (decide ((X i) ≤ 1000000)) = true) (h3 : (decide ((Y i) ≤ (-1000001))) = false) (h4 : (decide ((Y i) ≤ 1000000)) = true) : Know (alE a n c X Y ptr w i) Try.prog alo2 := by
  have bq0 : bd 1 1000000000000001 (((i : Int) + 1)) := bd_add hib (bd_lit (l := 1) (h := 1) rfl) rfl
  exact ⟨(all_cons (cmpOK (op := .lss) (ty := 3) (k := .i64) (n := (sn 1)) (m := (sn 0)) (t := true) (a := (i : Int)) (b := (n : Int)) (by kernel_rfl) (by kernel_rfl) (congrArg some ((lt_of_le h0)))) (all_cons (cmpOK (op := .leq) (ty := 3) (k := .i64) (n := (-1000000)) (m := (sn 2)) (t := true) (a := (-1000000)) (b := (X i)) (by kernel_rfl) (by kernel_rfl) (congrArg some ((le_c h1 rfl)))) (all_cons (cmpOK (op := .leq) (ty := 3) (k := .i64) (n := (sn 2)) (m := 1000000) (t := true) (a := (X i)) (b := 1000000) (by kernel_rfl) (by kernel_rfl) (congrArg some (h2))) (all_cons (cmpOK (op := .leq) (ty := 3) (k := .i64) (n := (-1000000)) (m := (sn 3)) (t := true) (a := (-1000000)) (b := (Y i)) (by kernel_rfl) (by kernel_rfl) (congrArg some ((le_c h3 rfl)))) (all_cons (cmpOK (op := .leq) (ty := 3) (k := .i64) (n := (sn 3)) (m := 1000000) (t := true) (a := (Y i)) (b := 1000000) (by kernel_rfl) (by kernel_rfl) (congrArg some (h4))) (all_cons (arOK (op := .add) (ty := 3) (k := .i64) (n := (sn 1)) (m := 1) (r := (sn 4)) (a := (i : Int)) (b := 1) (c := (((i : Int) + 1))) (d := (i : Int) + 1) (by kernel_rfl) (by kernel_rfl) (by kernel_rfl) rfl (wr_bd bq0 rfl)) all_nil)))))), all_nil, all_nil, all_nil, all_nil, (all_cons (sldOK (j := 1) (k := i) (x := .agg #[sy 2, sy 3]) hS rfl (by have g := of_decide_eq_false h0; omega) (by kernel_rfl) (by show inst _ _ = _; kernel_rfl)) all_nil), (all_cons (sixOK (i := 0) (j := 1) (k := i) (r := (sn 1)) hS rfl (by kernel_rfl) rfl (by have g := of_decide_eq_false h0; omega)) all_nil), all_nil, all_nil, all_nil, (all_cons (lenOK (i := 0) (r := (sn 0)) (a := a) (c := c) rfl (by kernel_rfl)) all_nil), all_nil, all_nil, all_nil, all_nil, all_nil, all_nil, all_nil⟩
theorem alk3 (a : Option Addr) (n c : Nat) (X Y : Nat → Int) (ptr : Nat → Addr) (w : World) (i : Nat) (hib : bd 0 1000000000000000 (i : Int)) (hn : bd 0 1000000000000 (n : Int)) (hS : Sl Try.prog w (.slice a n c) n 22 60 (fun k => .agg #[.int .i64 (X k), .int .i64 (Y k)]) ptr)  (h0 : (decide ((n : Int) ≤ (i : Int))) = false) (h1 : (decide ((X i) ≤ (-1000001))) = false) (h2 : (decide ((X i) ≤ 1000000)) = true) (h3 : (decide ((Y i) ≤ (-1000001))) = true) : Know (alE a n c X Y ptr w i) Try.prog alo3 := by
  exact ⟨(all_cons (cmpOK (op := .lss) (ty := 3) (k := .i64) (n := (sn 1)) (m := (sn 0)) (t := true) (a := (i : Int)) (b := (n : Int)) (by kernel_rfl) (by kernel_rfl) (congrArg some ((lt_of_le h0)))) (all_cons (cmpOK (op := .leq) (ty := 3) (k := .i64) (n := (-1000000)) (m := (sn 2)) (t := true) (a := (-1000000)) (b := (X i)) (by kernel_rfl) (by kernel_rfl) (congrArg some ((le_c h1 rfl)))) (all_cons (cmpOK (op := .leq) (ty := 3) (k := .i64) (n := (sn 2)) (m := 1000000) (t := true) (a := (X i)) (b := 1000000) (by kernel_rfl) (by kernel_rfl) (congrArg some (h2))) (all_cons (cmpOK (op := .leq) (ty := 3) (k := .i64) (n := (-1000000)) (m := (sn 3)) (t := false) (a := (-1000000)) (b := (Y i)) (by kernel_rfl) (by kernel_rfl) (congrArg some ((le_c h3 rfl)))) all_nil)))), all_nil, all_nil, all_nil, all_nil, (all_cons (sldOK (j := 1) (k := i) (x := .agg #[sy 2, sy 3]) hS rfl (by have g := of_decide_eq_false h0; omega) (by kernel_rfl) (by show inst _ _ = _; kernel_rfl)) all_nil), (all_cons (sixOK (i := 0) (j := 1) (k := i) (r := (sn 1)) hS rfl (by kernel_rfl) rfl (by have g := of_decide_eq_false h0; omega)) all_nil), all_nil, all_nil, all_nil, (all_cons (lenOK (i := 0) (r := (sn 0)) (a := a) (c := c) rfl (by kernel_rfl)) all_nil), all_nil, all_nil, all_nil, all_nil, all_nil, all_nil, all_nil⟩
theorem alk4 (a : Option Addr) (n c : Nat) (X Y : Nat → Int) (ptr : Nat → Addr) (w : World) (i : Nat) (hib : bd 0 1000000000000000 (i : Int)) (hn : bd 0 1000000000000 (n : Int)) (hS : Sl Try.prog w (.slice a n c) n 22 60 (fun k => .agg #[.int .i64 (X k), .int .i64 (Y k)]) ptr)  (h0 : (decide ((n : Int) ≤ (i : Int))) = false) (h1 : (decide ((X i) ≤ (-1000001))) = true) : Know (alE a n c X Y ptr w i) Try.prog alo4 := by
  exact ⟨(all_cons (cmpOK (op := .lss) (ty := 3) (k := .i64) (n := (sn 1)) (m := (sn 0)) (t := true) (a := (i : Int)) (b := (n : Int)) (by kernel_rfl) (by kernel_rfl) (congrArg some ((lt_of_le h0)))) (all_cons (cmpOK (op := .leq) (ty := 3) (k := .i64) (n := (-1000000)) (m := (sn 2)) (t := false) (a := (-1000000)) (b := (X i)) (by kernel_rfl) (by kernel_rfl) (congrArg some ((le_c h1 rfl)))) all_nil)), all_nil, all_nil, all_nil, all_nil, (all_cons (sldOK (j := 1) (k := i) (x := .agg #[sy 2, sy 3]) hS rfl (by have g := of_decide_eq_false h0; omega) (by kernel_rfl) (by show inst _ _ = _; kernel_rfl)) all_nil), (all_cons (sixOK (i := 0) (j := 1) (k := i) (r := (sn 1)) hS rfl (by kernel_rfl) rfl (by have g := of_decide_eq_false h0; omega)) all_nil), all_nil, all_nil, all_nil, (all_cons (lenOK (i := 0) (r := (sn 0)) (a := a) (c := c) rfl (by kernel_rfl)) all_nil), all_nil, all_nil, all_nil, all_nil, all_nil, all_nil, all_nil⟩
theorem alk5 (a : Option Addr) (n c : Nat) (X Y : Nat → Int) (ptr : Nat → Addr) (w : World) (i : Nat) (hib : bd 0 1000000000000000 (i : Int)) (hn : bd 0 1000000000000 (n : Int)) (hS : Sl Try.prog w (.slice a n c) n 22 60 (fun k => .agg #[.int .i64 (X k), .int .i64 (Y k)]) ptr)  (h0 : (decide ((n : Int) ≤ (i : Int))) = true) : Know (alE a n c X Y ptr w i) Try.prog alo5 := by
  exact ⟨(all_cons (cmpOK (op := .lss) (ty := 3) (k := .i64) (n := (sn 1)) (m := (sn 0)) (t := false) (a := (i : Int)) (b := (n : Int)) (by kernel_rfl) (by kernel_rfl) (congrArg some ((lt_of_le h0)))) all_nil), all_nil, all_nil, all_nil, all_nil, all_nil, all_nil, all_nil, all_nil, all_nil, (all_cons (lenOK (i := 0) (r := (sn 0)) (a := a) (c := c) rfl (by kernel_rfl)) all_nil), all_nil, all_nil, all_nil, all_nil, all_nil, all_nil, all_nil⟩
def altF_bad : Tm := [[oq 0, anyV, .bool false, .func (.func 61) #[] #[], anyV, anyV, oq 0, sy 0, anyV, .bool true, anyV, anyV, .func (.func 61) #[] #[], anyV, anyV, anyV], [anyV, anyV, anyV, anyV, anyV, anyV, anyV, .bool true, anyV]]
def alHF_bad : Heap := []
theorem alf0_bad : stepT Try.prog [] (evBody Try.prog alo0 1000 50 59 [false, true, false, true, true] alt0 alH0) (.ret) altF_bad alHF_bad [.val 0 0, .num 1180591620717411303424 1180591620717411303424] = true := by decide +kernel
theorem alf1_bad : stepT Try.prog [] (evBody Try.prog alo1 1000 50 59 [false, true, false, true, true] alt0 alH0) (.ret) altF_bad alHF_bad [.val 0 0, .num 1180591620717411303424 1180591620717411303424] = true := by decide +kernel
theorem alf3_bad : stepT Try.prog [] (evBody Try.prog alo3 1000 50 59 [false, true, false, true, true] alt0 alH0) (.ret) altF_bad alHF_bad [.val 0 0, .num 1180591620717411303424 1180591620717411303424] = true := by decide +kernel
theorem alf4_bad : stepT Try.prog [] (evBody Try.prog alo4 1000 50 59 [false, true, false, true, true] alt0 alH0) (.ret) altF_bad alHF_bad [.val 0 0, .num 1180591620717411303424 1180591620717411303424] = true := by decide +kernel
theorem al_loop_bad (a : Option Addr) (n c : Nat) (X Y : Nat → Int) (ptr : Nat → Addr) (w : World) (hn0 : n ≤ 1000000000000) (hS : Sl Try.prog w (.slice a n c) n 22 60 (fun k => .agg #[.int .i64 (X k), .int .i64 (Y k)]) ptr) (K : Nat) (hK : K < n) (hq0 : okP X Y K = false) (hall : ∀ i, i < K → okP X Y i = true) : LoopE (env [(n : Int)] [(.slice a n c)] w) Try.prog (59, [false, true, false, true, true], altA, alHA, .ret, altF_bad, alHF_bad) := by
  refine loop_rule (σ := { st : Nat // st ≤ K }) (fun st => alE a n c X Y ptr w st.1) (fun _ => rfl) (fun st => K - st.1) (fun _ => alt0) (fun _ => alH0) rfl (fun _ => by decide) (by decide) ?_ ⟨0, Nat.zero_le _⟩ [.val 0 0, .num 1180591620717411303424 1180591620717411303424, .num 0 1180591620717411303425] [] (by decide +kernel) (by decide) ?_
  · rintro ⟨i, hle_⟩
    rcases Nat.lt_or_ge i (K) with h | h
    · have hib : bd 0 1000000000000000 (i : Int) := ⟨by omega, by omega⟩; have hn : bd 0 1000000000000 (n : Int) := ⟨by omega, by omega⟩; have hq := hall i h; clear hall
      rcases h0 : (decide ((n : Int) ≤ (i : Int))) with _ | _
      · rcases h1 : (decide ((X i) ≤ (-1000001))) with _ | _
        · rcases h2 : (decide ((X i) ≤ 1000000)) with _ | _
          · exfalso; (first | (have g := of_decide_eq_true h0; omega) | (have g := of_decide_eq_false h0; omega) | (simp [okP, okC] at hq; simp at *; omega))
          · rcases h3 : (decide ((Y i) ≤ (-1000001))) with _ | _
            · rcases h4 : (decide ((Y i) ≤ 1000000)) with _ | _
              · exfalso; (first | (have g := of_decide_eq_true h0; omega) | (have g := of_decide_eq_false h0; omega) | (simp [okP, okC] at hq; simp at *; omega))
              · refine .inl ⟨alo2, 1000, 50, _, [], ⟨i + 1, h⟩, (alk2 a n c X Y ptr w i hib hn hS h0 h1 h2 h3 h4).ok, als2, by decide, ?_, by show K - (i + 1) < K - i; omega⟩
                intro q hq
                simp only [List.mem_cons, List.not_mem_nil, or_false] at hq
                rcases hq with rfl | rfl | rfl
                · show (_ : Value) = _; kernel_rfl
                · show (_ : Int) = _; kernel_rfl
                · show (((i : Int) + 1) : Int) = (((i + 1 : Nat)) : Int); first | rfl | (omega)
            · exfalso; (first | (have g := of_decide_eq_true h0; omega) | (have g := of_decide_eq_false h0; omega) | (simp [okP, okC] at hq; simp at *; omega))
        · exfalso; (first | (have g := of_decide_eq_true h0; omega) | (have g := of_decide_eq_false h0; omega) | (simp [okP, okC] at hq; simp at *; omega))
      · exfalso; (first | (have g := of_decide_eq_true h0; omega) | (have g := of_decide_eq_false h0; omega) | (simp [okP, okC] at hq; simp at *; omega))
    · have hE : K = i := by omega
      subst hE
      have hib : bd 0 1000000000000000 (K : Int) := ⟨by omega, by omega⟩; have hn : bd 0 1000000000000 (n : Int) := ⟨by omega, by omega⟩; have hq := hq0; clear hall hq0
      rcases h0 : (decide ((n : Int) ≤ (K : Int))) with _ | _
      · rcases h1 : (decide ((X K) ≤ (-1000001))) with _ | _
        · rcases h2 : (decide ((X K) ≤ 1000000)) with _ | _
          · refine .inr ⟨alo0, 1000, 50, _, [], (alk0 a n c X Y ptr w (K) hib hn hS h0 h1 h2).ok, alf0_bad, by decide, ?_⟩
            intro q hq
            simp only [List.mem_cons, List.not_mem_nil, or_false] at hq
            rcases hq with rfl | rfl
            · show (_ : Value) = _; kernel_rfl
            · show (_ : Int) = _; kernel_rfl
          · rcases h3 : (decide ((Y K) ≤ (-1000001))) with _ | _
            · rcases h4 : (decide ((Y K) ≤ 1000000)) with _ | _
              · refine .inr ⟨alo1, 1000, 50, _, [], (alk1 a n c X Y ptr w (K) hib hn hS h0 h1 h2 h3 h4).ok, alf1_bad, by decide, ?_⟩
                intro q hq
                simp only [List.mem_cons, List.not_mem_nil, or_false] at hq
                rcases hq with rfl | rfl
                · show (_ : Value) = _; kernel_rfl
                · show (_ : Int) = _; kernel_rfl
              · exfalso; (first | (have g := of_decide_eq_true h0; omega) | (have g := of_decide_eq_false h0; omega) | (simp [okP, okC] at hq; simp at *; omega))
            · refine .inr ⟨alo3, 1000, 50, _, [], (alk3 a n c X Y ptr w (K) hib hn hS h0 h1 h2 h3).ok, alf3_bad, by decide, ?_⟩
              intro q hq
              simp only [List.mem_cons, List.not_mem_nil, or_false] at hq
              rcases hq with rfl | rfl
              · show (_ : Value) = _; kernel_rfl
              · show (_ : Int) = _; kernel_rfl
        · refine .inr ⟨alo4, 1000, 50, _, [], (alk4 a n c X Y ptr w (K) hib hn hS h0 h1).ok, alf4_bad, by decide, ?_⟩
          intro q hq
          simp only [List.mem_cons, List.not_mem_nil, or_false] at hq
          rcases hq with rfl | rfl
          · show (_ : Value) = _; kernel_rfl
          · show (_ : Int) = _; kernel_rfl
      · exfalso; (first | (have g := of_decide_eq_true h0; omega) | (have g := of_decide_eq_false h0; omega) | (simp [okP, okC] at hq; simp at *; omega))
  · skip
    intro q hq
    simp only [List.mem_cons, List.not_mem_nil, or_false] at hq
    rcases hq with rfl | rfl | rfl
    · show (_ : Value) = _; kernel_rfl
    · show (_ : Int) = _; kernel_rfl
    · show (0 : Int) = (0 : Int); first | rfl | (omega)
def altF_done : Tm := [[oq 0, anyV, .bool false, .func (.func 61) #[] #[], anyV, anyV, oq 0, sy 0, anyV, .bool false, anyV, anyV, anyV, anyV, anyV, anyV], [anyV, anyV, anyV, anyV, anyV, anyV, anyV, anyV, anyV]]
def alHF_done : Heap := []
theorem alf5_done : stepT Try.prog [] (evBody Try.prog alo5 1000 50 59 [false, true, false, true, true] alt0 alH0) (.exit 0) altF_done alHF_done [.val 0 0, .num 1180591620717411303424 1180591620717411303424] = true := by decide +kernel
theorem al_loop_done (a : Option Addr) (n c : Nat) (X Y : Nat → Int) (ptr : Nat → Addr) (w : World) (hn0 : n ≤ 1000000000000) (hS : Sl Try.prog w (.slice a n c) n 22 60 (fun k => .agg #[.int .i64 (X k), .int .i64 (Y k)]) ptr) (hall : ∀ i, i < n → okP X Y i = true) : LoopE (env [(n : Int)] [(.slice a n c)] w) Try.prog (59, [false, true, false, true, true], altA, alHA, .exit 0, altF_done, alHF_done) := by
  refine loop_rule (σ := { st : Nat // st ≤ n }) (fun st => alE a n c X Y ptr w st.1) (fun _ => rfl) (fun st => n - st.1) (fun _ => alt0) (fun _ => alH0) rfl (fun _ => by decide) (by decide) ?_ ⟨0, Nat.zero_le _⟩ [.val 0 0, .num 1180591620717411303424 1180591620717411303424, .num 0 1180591620717411303425] [] (by decide +kernel) (by decide) ?_
  · rintro ⟨i, hle_⟩
    rcases Nat.lt_or_ge i (n) with h | h
    · have hib : bd 0 1000000000000000 (i : Int) := ⟨by omega, by omega⟩; have hn : bd 0 1000000000000 (n : Int) := ⟨by omega, by omega⟩; have hq := hall i h; clear hall
      rcases h0 : (decide ((n : Int) ≤ (i : Int))) with _ | _
      · rcases h1 : (decide ((X i) ≤ (-1000001))) with _ | _
        · rcases h2 : (decide ((X i) ≤ 1000000)) with _ | _
          · exfalso; (first | (have g := of_decide_eq_true h0; omega) | (have g := of_decide_eq_false h0; omega) | (simp [okP, okC] at hq; simp at *; omega))
          · rcases h3 : (decide ((Y i) ≤ (-1000001))) with _ | _
            · rcases h4 : (decide ((Y i) ≤ 1000000)) with _ | _
              · exfalso; (first | (have g := of_decide_eq_true h0; omega) | (have g := of_decide_eq_false h0; omega) | (simp [okP, okC] at hq; simp at *; omega))
              · refine .inl ⟨alo2, 1000, 50, _, [], ⟨i + 1, h⟩, (alk2 a n c X Y ptr w i hib hn hS h0 h1 h2 h3 h4).ok, als2, by decide, ?_, by show n - (i + 1) < n - i; omega⟩
                intro q hq
                simp only [List.mem_cons, List.not_mem_nil, or_false] at hq
                rcases hq with rfl | rfl | rfl
                · show (_ : Value) = _; kernel_rfl
                · show (_ : Int) = _; kernel_rfl
                · show (((i : Int) + 1) : Int) = (((i + 1 : Nat)) : Int); first | rfl | (omega)
            · exfalso; (first | (have g := of_decide_eq_true h0; omega) | (have g := of_decide_eq_false h0; omega) | (simp [okP, okC] at hq; simp at *; omega))
        · exfalso; (first | (have g := of_decide_eq_true h0; omega) | (have g := of_decide_eq_false h0; omega) | (simp [okP, okC] at hq; simp at *; omega))
      · exfalso; (first | (have g := of_decide_eq_true h0; omega) | (have g := of_decide_eq_false h0; omega) | (simp [okP, okC] at hq; simp at *; omega))
    · have hE : n = i := by omega
      subst hE
      have hib : bd 0 1000000000000000 (n : Int) := ⟨by omega, by omega⟩; have hn : bd 0 1000000000000 (n : Int) := ⟨by omega, by omega⟩
      rcases h0 : (decide ((n : Int) ≤ (n : Int))) with _ | _
      · rcases h1 : (decide ((X n) ≤ (-1000001))) with _ | _
        · rcases h2 : (decide ((X n) ≤ 1000000)) with _ | _
          · exfalso; (first | (have g := of_decide_eq_true h0; omega) | (have g := of_decide_eq_false h0; omega) | (simp [okP, okC] at hq; simp at *; omega))
          · rcases h3 : (decide ((Y n) ≤ (-1000001))) with _ | _
            · rcases h4 : (decide ((Y n) ≤ 1000000)) with _ | _
              · exfalso; (first | (have g := of_decide_eq_true h0; omega) | (have g := of_decide_eq_false h0; omega) | (simp [okP, okC] at hq; simp at *; omega))
              · exfalso; (first | (have g := of_decide_eq_true h0; omega) | (have g := of_decide_eq_false h0; omega) | (simp [okP, okC] at hq; simp at *; omega))
            · exfalso; (first | (have g := of_decide_eq_true h0; omega) | (have g := of_decide_eq_false h0; omega) | (simp [okP, okC] at hq; simp at *; omega))
        · exfalso; (first | (have g := of_decide_eq_true h0; omega) | (have g := of_decide_eq_false h0; omega) | (simp [okP, okC] at hq; simp at *; omega))
      · refine .inr ⟨alo5, 1000, 50, _, [], (alk5 a n c X Y ptr w (n) hib hn hS h0).ok, alf5_done, by decide, ?_⟩
        intro q hq
        simp only [List.mem_cons, List.not_mem_nil, or_false] at hq
        rcases hq with rfl | rfl
        · show (_ : Value) = _; kernel_rfl
        · show (_ : Int) = _; kernel_rfl
  · skip
    intro q hq
    simp only [List.mem_cons, List.not_mem_nil, or_false] at hq
    rcases hq with rfl | rfl | rfl
    · show (_ : Value) = _; kernel_rfl
    · show (_ : Int) = _; kernel_rfl
    · show (0 : Int) = (0 : Int); first | rfl | (omega)
theorem allowed_any (a : Option Addr) (n c : Nat) (X Y : Nat → Int) (ptr : Nat → Addr) (w : World) (hn0 : n ≤ 1000000000000) (hS : Sl Try.prog w (.slice a n c) n 22 60 (fun k => .agg #[.int .i64 (X k), .int .i64 (Y k)]) ptr) : Calls Try.prog 59 #[.slice a n c] w fun e w' => e = .returned (.bool (allN (okP X Y) n)) ∧ Below w.heap.size w w' := by
  have hn : bd 0 1000000000000 (n : Int) := ⟨by omega, by omega⟩
  rcases least_fail (okP X Y) n with h | ⟨K, h1, h2, h3⟩
  · rw [allN_all h]
    exact run_know (P := Try.prog) (ρ := env [(n : Int)] [(.slice a n c)] w) (o := { loops := [(59, [false, true, false, true, true], altA, alHA, .exit 0, altF_done, alHF_done)], lens := [(false, oq 0, .int .i64 (sn 0))] }) ⟨all_nil, all_nil, all_nil, all_nil, all_nil, all_nil, all_nil, all_nil, all_nil, (all_cons (al_loop_done a n c X Y ptr w hn0 hS h) all_nil), (all_cons (lenOK (i := 0) (r := (sn 0)) (a := a) (c := c) rfl (by kernel_rfl)) all_nil), all_nil, all_nil, all_nil, all_nil, all_nil, all_nil, all_nil⟩ 1000 50 59 [oq 0] (.bool true) (args' := #[(.slice a n c)]) (v' := .bool true) (by kernel_rfl) (by kernel_rfl) (by kernel_rfl) w (Below.refl _ _)
  · rw [allN_bad h1 h2]
    exact run_know (P := Try.prog) (ρ := env [(n : Int)] [(.slice a n c)] w) (o := { loops := [(59, [false, true, false, true, true], altA, alHA, .ret, altF_bad, alHF_bad)], lens := [(false, oq 0, .int .i64 (sn 0))] }) ⟨all_nil, all_nil, all_nil, all_nil, all_nil, all_nil, all_nil, all_nil, all_nil, (all_cons (al_loop_bad a n c X Y ptr w hn0 hS K h1 h2 h3) all_nil), (all_cons (lenOK (i := 0) (r := (sn 0)) (a := a) (c := c) rfl (by kernel_rfl)) all_nil), all_nil, all_nil, all_nil, all_nil, all_nil, all_nil, all_nil⟩ 1000 50 59 [oq 0] (.bool false) (args' := #[(.slice a n c)]) (v' := .bool false) (by kernel_rfl) (by kernel_rfl) (by kernel_rfl) w (Below.refl _ _)
end Go.Proofs.Ytapcooolainmdaa.Ev
