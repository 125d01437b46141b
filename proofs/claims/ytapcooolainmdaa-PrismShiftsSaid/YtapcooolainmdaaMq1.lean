/- The part that pshifts_row needs. -/
import Derived.Test.YtapcooolainmdaaSl4
import Derived.Test.YtapcooolainmdaaSy5
import Derived.Laws.StructEq
import Derived.Test.YtapcooolainmdaaEvQ
import Derived.Test.YtapcooolainmdaaSlF
import Derived.Test.YtapcooolainmdaaSyA
import Derived.Test.YtapcooolainmdaaSlM
import Derived.Test.YtapcooolainmdaaSlL
import Derived.Test.YtapcooolainmdaaSlC
namespace Go.Proofs.Ytapcooolainmdaa.Ev
open Go.RowKit
set_option linter.unusedVariables false
set_option linter.unusedSimpArgs false
set_option maxRecDepth 8000
def okC (x : Int) : Bool := decide (-1000000 ≤ x) && decide (x ≤ 1000000)
def okP (X Y : Nat → Int) (k : Nat) : Bool := okC (X k) && okC (Y k)
def allN (q : Nat → Bool) (n : Nat) : Bool := (List.range n).all q
theorem allN_all {q : Nat → Bool} {n : Nat} (h : ∀ i, i < n → q i = true) : allN q n = true := by simp only [allN, List.all_eq_true, List.mem_range]; exact h
theorem allN_bad {q : Nat → Bool} {n k : Nat} (hk : k < n) (h : q k = false) : allN q n = false := by
  rcases g : allN q n with _ | _
  · rfl
  · simp only [allN, List.all_eq_true, List.mem_range] at g
    rw [g k hk] at h; cases h
def alt0 : Tm := [[oq 0, undef, .bool false, .func (.func 61) #[] #[], undef, anyV, oq 0, sy 0, sy 1, anyV, anyV, anyV, anyV, anyV, anyV, anyV], [anyV, anyV, anyV, anyV, anyV, anyV, anyV, anyV, anyV]]
def alH0 : Heap := []
def altA : Tm := [[oq 0, undef, .bool false, .func (.func 61) #[] #[], undef, undef, oq 0, sy 0, .int .i64 0, undef, undef, undef, undef, undef, undef, undef], [undef, undef, undef, undef, undef, undef, undef, undef, undef]]
def alHA : Heap := []
def alo0 : Orc := { bin := [(.lss, 3, .int .i64 (sn 1), .int .i64 (sn 0), .bool true), (.leq, 3, .int .i64 (-1000000), .int .i64 (sn 2), .bool true), (.leq, 3, .int .i64 (sn 2), .int .i64 1000000, .bool false)], lds := [(60, oq 1, .agg #[sy 2, sy 3])], ixa := [(22, oq 0, .int .i64 (sn 1), oq 1)], lens := [(false, oq 0, .int .i64 (sn 0))] }
def alo1 : Orc := { bin := [(.lss, 3, .int .i64 (sn 1), .int .i64 (sn 0), .bool true), (.leq, 3, .int .i64 (-1000000), .int .i64 (sn 2), .bool true), (.leq, 3, .int .i64 (sn 2), .int .i64 1000000, .bool true), (.leq, 3, .int .i64 (-1000000), .int .i64 (sn 3), .bool true), (.leq, 3, .int .i64 (sn 3), .int .i64 1000000, .bool false)], lds := [(60, oq 1, .agg #[sy 2, sy 3])], ixa := [(22, oq 0, .int .i64 (sn 1), oq 1)], lens := [(false, oq 0, .int .i64 (sn 0))] }
def alo2 : Orc := { bin := [(.lss, 3, .int .i64 (sn 1), .int .i64 (sn 0), .bool true), (.leq, 3, .int .i64 (-1000000), .int .i64 (sn 2), .bool true), (.leq, 3, .int .i64 (sn 2), .int .i64 1000000, .bool true), (.leq, 3, .int .i64 (-1000000), .int .i64 (sn 3), .bool true), (.leq, 3, .int .i64 (sn 3), .int .i64 1000000, .bool true), (.add, 3, .int .i64 (sn 1), .int .i64 1, .int .i64 (sn 4))], lds := [(60, oq 1, .agg #[sy 2, sy 3])], ixa := [(22, oq 0, .int .i64 (sn 1), oq 1)], lens := [(false, oq 0, .int .i64 (sn 0))] }
def alo3 : Orc := { bin := [(.lss, 3, .int .i64 (sn 1), .int .i64 (sn 0), .bool true), (.leq, 3, .int .i64 (-1000000), .int .i64 (sn 2), .bool true), (.leq, 3, .int .i64 (sn 2), .int .i64 1000000, .bool true), (.leq, 3, .int .i64 (-1000000), .int .i64 (sn 3), .bool false)], lds := [(60, oq 1, .agg #[sy 2, sy 3])], ixa := [(22, oq 0, .int .i64 (sn 1), oq 1)], lens := [(false, oq 0, .int .i64 (sn 0))] }
def alo4 : Orc := { bin := [(.lss, 3, .int .i64 (sn 1), .int .i64 (sn 0), .bool true), (.leq, 3, .int .i64 (-1000000), .int .i64 (sn 2), .bool false)], lds := [(60, oq 1, .agg #[sy 2, sy 3])], ixa := [(22, oq 0, .int .i64 (sn 1), oq 1)], lens := [(false, oq 0, .int .i64 (sn 0))] }
def alo5 : Orc := { bin := [(.lss, 3, .int .i64 (sn 1), .int .i64 (sn 0), .bool false)], lens := [(false, oq 0, .int .i64 (sn 0))] }
noncomputable def alE (a : Option Addr) (n c : Nat) (X Y : Nat → Int) (ptr : Nat → Addr) (w : World) (i : Nat) : Env := env [(n : Int), (i : Int), (X i), (Y i), ((i : Int) + 1)] [(.slice a n c), (.pointer (some (ptr i)))] w
theorem als2 : stepT Try.prog [] (evBody Try.prog alo2 1000 50 59 [false, true, false, true, true] alt0 alH0) .normal alt0 alH0 [.val 0 0, .num 1180591620717411303424 1180591620717411303424, .num 1180591620717411303428 1180591620717411303425] = true := by decide +kernel
theorem alk0 (a : Option Addr) (n c : Nat) (X Y : Nat → Int) (ptr : Nat → Addr) (w : World) (i : Nat) (hib : bd 0 1000000000000000 (i : Int)) (hn : bd 0 1000000000000 (n : Int)) (hS : Sl Try.prog w (.slice a n c) n 22 60 (fun k => .agg #[.int .i64 (X k), .int .i64 (Y k)]) ptr)  (h0 : (decide ((n : Int) ≤ (i : Int))) = false) (h1 : (decide ((X i) ≤ (-1000001))) = false) (h2 : (decide ((X i) ≤ 1000000)) = false) : Know (alE a n c X Y ptr w i) Try.prog alo0 := by
  exact ⟨(all_cons (cmpOK (op := .lss) (ty := 3) (k := .i64) (n := (sn 1)) (m := (sn 0)) (t := true) (a := (i : Int)) (b := (n : Int)) (by kernel_rfl) (by kernel_rfl) (congrArg some ((lt_of_le h0)))) (all_cons (cmpOK (op := .leq) (ty := 3) (k := .i64) (n := (-1000000)) (m := (sn 2)) (t := true) (a := (-1000000)) (b := (X i)) (by kernel_rfl) (by kernel_rfl) (congrArg some ((le_c h1 rfl)))) (all_cons (cmpOK (op := .leq) (ty := 3) (k := .i64) (n := (sn 2)) (m := 1000000) (t := false) (a := (X i)) (b := 1000000) (by kernel_rfl) (by kernel_rfl) (congrArg some (h2))) all_nil))), all_nil, all_nil, all_nil, all_nil, (all_cons (sldOK (j := 1) (k := i) (x := .agg #[sy 2, sy 3]) hS rfl (by have g := of_decide_eq_false h0; omega) (by kernel_rfl) (by show inst _ _ = _; kernel_rfl)) all_nil), (all_cons (sixOK (i := 0) (j := 1) (k := i) (r := (sn 1)) hS rfl (by kernel_rfl) rfl (by have g := of_decide_eq_false h0; omega)) all_nil), all_nil, all_nil, all_nil, (all_cons (lenOK (i := 0) (r := (sn 0)) (a := a) (c := c) rfl (by kernel_rfl)) all_nil), all_nil, all_nil, all_nil, all_nil, all_nil, all_nil, all_nil⟩
theorem alk1 (a : Option Addr) (n c : Nat) (X Y : Nat → Int) (ptr : Nat → Addr) (w : World) (i : Nat) (hib : bd 0 1000000000000000 (i : Int)) (hn : bd 0 1000000000000 (n : Int)) (hS : Sl Try.prog w (.slice a n c) n 22 60 (fun k => .agg #[.int .i64 (X k), .int .i64 (Y k)]) ptr)  (h0 : (decide ((n : Int) ≤ (i : Int))) = false) (h1 : (decide ((X i) ≤ (-1000001))) = false) (h2 : (decide ((X i) ≤ 1000000)) = true) (h3 : (decide ((Y i) ≤ (-1000001))) = false) (h4 : (decide ((Y i) ≤ 1000000)) = false) : Know (alE a n c X Y ptr w i) Try.prog alo1 := by
  exact ⟨(all_cons (cmpOK (op := .lss) (ty := 3) (k := .i64) (n := (sn 1)) (m := (sn 0)) (t := true) (a := (i : Int)) (b := (n : Int)) (by kernel_rfl) (by kernel_rfl) (congrArg some ((lt_of_le h0)))) (all_cons (cmpOK (op := .leq) (ty := 3) (k := .i64) (n := (-1000000)) (m := (sn 2)) (t := true) (a := (-1000000)) (b := (X i)) (by kernel_rfl) (by kernel_rfl) (congrArg some ((le_c h1 rfl)))) (all_cons (cmpOK (op := .leq) (ty := 3) (k := .i64) (n := (sn 2)) (m := 1000000) (t := true) (a := (X i)) (b := 1000000) (by kernel_rfl) (by kernel_rfl) (congrArg some (h2))) (all_cons (cmpOK (op := .leq) (ty := 3) (k := .i64) (n := (-1000000)) (m := (sn 3)) (t := true) (a := (-1000000)) (b := (Y i)) (by kernel_rfl) (by kernel_rfl) (congrArg some ((le_c h3 rfl)))) (all_cons (cmpOK (op := .leq) (ty := 3) (k := .i64) (n := (sn 3)) (m := 1000000) (t := false) (a := (Y i)) (b := 1000000) (by kernel_rfl) (by kernel_rfl) (congrArg some (h4))) all_nil))))), all_nil, all_nil, all_nil, all_nil, (all_cons (sldOK (j := 1) (k := i) (x := .agg #[sy 2, sy 3]) hS rfl (by have g := of_decide_eq_false h0; omega) (by kernel_rfl) (by show inst _ _ = _; kernel_rfl)) all_nil), (all_cons (sixOK (i := 0) (j := 1) (k := i) (r := (sn 1)) hS rfl (by kernel_rfl) rfl (by have g := of_decide_eq_false h0; omega)) all_nil), all_nil, all_nil, all_nil, (all_cons (lenOK (i := 0) (r := (sn 0)) (a := a) (c := c) rfl (by kernel_rfl)) all_nil), all_nil, all_nil, all_nil, all_nil, all_nil, all_nil, all_nil⟩
theorem alk2 (a : Option Addr) (n c : Nat) (X Y : Nat → Int) (ptr : Nat → Addr) (w : World) (i : Nat) (hib : bd 0 1000000000000000 (i : Int)) (hn : bd 0 1000000000000 (n : Int)) (hS : Sl Try.prog w (.slice a n c) n 22 60 (fun k => .agg #[.int .i64 (X k), .int .i64 (Y k)]) ptr)  (h0 : (decide ((n : Int) ≤ (i : Int))) = false) (h1 : (decide ((X i) ≤ (-1000001))) = false) (h2 : (decide ((X i) ≤ 1000000)) = true) (h3 : (decide ((Y i) ≤ (-1000001))) = false) (h4 : (decide ((Y i) ≤ 1000000)) = true) : Know (alE a n c X Y ptr w i) Try.prog alo2 := by
  have bq0 : bd 1 1000000000000001 (((i : Int) + 1)) := bd_add hib (bd_lit (l := 1) (h := 1) rfl) rfl
  exact ⟨(all_cons (cmpOK (op := .lss) (ty := 3) (k := .i64) (n := (sn 1)) (m := (sn 0)) (t := true) (a := (i : Int)) (b := (n : Int)) (by kernel_rfl) (by kernel_rfl) (congrArg some ((lt_of_le h0)))) (all_cons (cmpOK (op := .leq) (ty := 3) (k := .i64) (n := (-1000000)) (m := (sn 2)) (t := true) (a := (-1000000)) (b := (X i)) (by kernel_rfl) (by kernel_rfl) (congrArg some ((le_c h1 rfl)))) (all_cons (cmpOK (op := .leq) (ty := 3) (k := .i64) (n := (sn 2)) (m := 1000000) (t := true) (a := (X i)) (b := 1000000) (by kernel_rfl) (by kernel_rfl) (congrArg some (h2))) (all_cons (cmpOK (op := .leq) (ty := 3) (k := .i64) (n := (-1000000)) (m := (sn 3)) (t := true) (a := (-1000000)) (b := (Y i)) (by kernel_rfl) (by kernel_rfl) (congrArg some ((le_c h3 rfl)))) (all_cons (cmpOK (op := .leq) (ty := 3) (k := .i64) (n := (sn 3)) (m := 1000000) (t := true) (a := (Y i)) (b := 1000000) (by kernel_rfl) (by kernel_rfl) (congrArg some (h4))) (all_cons (arOK (op := .add) (ty := 3) (k := .i64) (n := (sn 1)) (m := 1) (r := (sn 4)) (a := (i : Int)) (b := 1) (c := (((i : Int) + 1))) (d := (i : Int) + 1) (by kernel_rfl) (by kernel_rfl) (by kernel_rfl) rfl (wr_bd bq0 rfl)) all_nil)))))), all_nil, all_nil, all_nil, all_nil, (all_cons (sldOK (j := 1) (k := i) (x := .agg #[sy 2, sy 3]) hS rfl (by have g := of_decide_eq_false h0; omega) (by kernel_rfl) (by show inst _ _ = _; kernel_rfl)) all_nil), (all_cons (sixOK (i := 0) (j := 1) (k := i) (r := (sn 1)) hS rfl (by kernel_rfl) rfl (by have g := of_decide_eq_false h0; omega)) all_nil), all_nil, all_nil, all_nil, (all_cons (lenOK (i := 0) (r := (sn 0)) (a := a) (c := c) rfl (by kernel_rfl)) all_nil), all_nil, all_nil, all_nil, all_nil, all_nil, all_nil, all_nil⟩
theorem alk3 (a : Option Addr) (n c : Nat) (X Y : Nat → Int) (ptr : Nat → Addr) (w : World) (i : Nat) (hib : bd 0 1000000000000000 (i : Int)) (hn : bd 0 1000000000000 (n : Int)) (hS : Sl Try.prog w (.slice a n c) n 22 60 (fun k => .agg #[.int .i64 (X k), .int .i64 (Y k)]) ptr)  (h0 : (decide ((n : Int) ≤ (i : Int))) = false) (h1 : (decide ((X i) ≤ (-1000001))) = false) (h2 : (decide ((X i) ≤ 1000000)) = true) (h3 : (decide ((Y i) ≤ (-1000001))) = true) : Know (alE a n c X Y ptr w i) Try.prog alo3 := by
  exact ⟨(all_cons (cmpOK (op := .lss) (ty := 3) (k := .i64) (n := (sn 1)) (m := (sn 0)) (t := true) (a := (i : Int)) (b := (n : Int)) (by kernel_rfl) (by kernel_rfl) (congrArg some ((lt_of_le h0)))) (all_cons (cmpOK (op := .leq) (ty := 3) (k := .i64) (n := (-1000000)) (m := (sn 2)) (t := true) (a := (-1000000)) (b := (X i)) (by kernel_rfl) (by kernel_rfl) (congrArg some ((le_c h1 rfl)))) (all_cons (cmpOK (op := .leq) (ty := 3) (k := .i64) (n := (sn 2)) (m := 1000000) (t := true) (a := (X i)) (b := 1000000) (by kernel_rfl) (by kernel_rfl) (congrArg some (h2))) (all_cons (cmpOK (op := .leq) (ty := 3) (k := .i64) (n := (-1000000)) (m := (sn 3)) (t := false) (a := (-1000000)) (b := (Y i)) (by kernel_rfl) (by kernel_rfl) (congrArg some ((le_c h3 rfl)))) all_nil)))), all_nil, all_nil, all_nil, all_nil, (all_cons (sldOK (j := 1) (k := i) (x := .agg #[sy 2, sy 3]) hS rfl (by have g := of_decide_eq_false h0; omega) (by kernel_rfl) (by show inst _ _ = _; kernel_rfl)) all_nil), (all_cons (sixOK (i := 0) (j := 1) (k := i) (r := (sn 1)) hS rfl (by kernel_rfl) rfl (by have g := of_decide_eq_false h0; omega)) all_nil), all_nil, all_nil, all_nil, (all_cons (lenOK (i := 0) (r := (sn 0)) (a := a) (c := c) rfl (by kernel_rfl)) all_nil), all_nil, all_nil, all_nil, all_nil, all_nil, all_nil, all_nil⟩
theorem alk4 (a : Option Addr) (n c : Nat) (X Y : Nat → Int) (ptr : Nat → Addr) (w : World) (i : Nat) (hib : bd 0 1000000000000000 (i : Int)) (hn : bd 0 1000000000000 (n : Int)) (hS : Sl Try.prog w (.slice a n c) n 22 60 (fun k => .agg #[.int .i64 (X k), .int .i64 (Y k)]) ptr)  (h0 : (decide ((n : Int) ≤ (i : Int))) = false) (h1 : (decide ((X i) ≤ (-1000001))) = true) : Know (alE a n c X Y ptr w i) Try.prog alo4 := by
  exact ⟨(all_cons (cmpOK (op := .lss) (ty := 3) (k := .i64) (n := (sn 1)) (m := (sn 0)) (t := true) (a := (i : Int)) (b := (n : Int)) (by kernel_rfl) (by kernel_rfl) (congrArg some ((lt_of_le h0)))) (all_cons (cmpOK (op := .leq) (ty := 3) (k := .i64) (n := (-1000000)) (m := (sn 2)) (t := false) (a := (-1000000)) (b := (X i)) (by kernel_rfl) (by kernel_rfl) (congrArg some ((le_c h1 rfl)))) all_nil)), all_nil, all_nil, all_nil, all_nil, (all_cons (sldOK (j := 1) (k := i) (x := .agg #[sy 2, sy 3]) hS rfl (by have g := of_decide_eq_false h0; omega) (by kernel_rfl) (by show inst _ _ = _; kernel_rfl)) all_nil), (all_cons (sixOK (i := 0) (j := 1) (k := i) (r := (sn 1)) hS rfl (by kernel_rfl) rfl (by have g := of_decide_eq_false h0; omega)) all_nil), all_nil, all_nil, all_nil, (all_cons (lenOK (i := 0) (r := (sn 0)) (a := a) (c := c) rfl (by kernel_rfl)) all_nil), all_nil, all_nil, all_nil, all_nil, all_nil, all_nil, all_nil⟩
theorem alk5 (a : Option Addr) (n c : Nat) (X Y : Nat → Int) (ptr : Nat → Addr) (w : World) (i : Nat) (hib : bd 0 1000000000000000 (i : Int)) (hn : bd 0 1000000000000 (n : Int)) (hS : Sl Try.prog w (.slice a n c) n 22 60 (fun k => .agg #[.int .i64 (X k), .int .i64 (Y k)]) ptr)  (h0 : (decide ((n : Int) ≤ (i : Int))) = true) : Know (alE a n c X Y ptr w i) Try.prog alo5 := by
  exact ⟨(all_cons (cmpOK (op := .lss) (ty := 3) (k := .i64) (n := (sn 1)) (m := (sn 0)) (t := false) (a := (i : Int)) (b := (n : Int)) (by kernel_rfl) (by kernel_rfl) (congrArg some ((lt_of_le h0)))) all_nil), all_nil, all_nil, all_nil, all_nil, all_nil, all_nil, all_nil, all_nil, all_nil, (all_cons (lenOK (i := 0) (r := (sn 0)) (a := a) (c := c) rfl (by kernel_rfl)) all_nil), all_nil, all_nil, all_nil, all_nil, all_nil, all_nil, all_nil⟩
def altF_bad : Tm := [[oq 0, anyV, .bool false, .func (.func 61) #[] #[], anyV, anyV, oq 0, sy 0, anyV, .bool true, anyV, anyV, .func (.func 61) #[] #[], anyV, anyV, anyV], [anyV, anyV, anyV, anyV, anyV, anyV, anyV, .bool true, anyV]]
def alHF_bad : Heap := []
theorem alf0_bad : stepT Try.prog [] (evBody Try.prog alo0 1000 50 59 [false, true, false, true, true] alt0 alH0) (.ret) altF_bad alHF_bad [.val 0 0, .num 1180591620717411303424 1180591620717411303424] = true := by decide +kernel
theorem alf1_bad : stepT Try.prog [] (evBody Try.prog alo1 1000 50 59 [false, true, false, true, true] alt0 alH0) (.ret) altF_bad alHF_bad [.val 0 0, .num 1180591620717411303424 1180591620717411303424] = true := by decide +kernel
theorem alf3_bad : stepT Try.prog [] (evBody Try.prog alo3 1000 50 59 [false, true, false, true, true] alt0 alH0) (.ret) altF_bad alHF_bad [.val 0 0, .num 1180591620717411303424 1180591620717411303424] = true := by decide +kernel
theorem alf4_bad : stepT Try.prog [] (evBody Try.prog alo4 1000 50 59 [false, true, false, true, true] alt0 alH0) (.ret) altF_bad alHF_bad [.val 0 0, .num 1180591620717411303424 1180591620717411303424] = true := by decide +kernel
theorem al_loop_bad (a : Option Addr) (n c : Nat) (X Y : Nat → Int) (ptr : Nat → Addr) (w : World) (hn0 : n ≤ 1000000000000) (hS : Sl Try.prog w (.slice a n c) n 22 60 (fun k => .agg #[.int .i64 (X k), .int .i64 (Y k)]) ptr) (K : Nat) (hK : K < n) (hq0 : okP X Y K = false) (hall : ∀ i, i < K → okP X Y i = true) : LoopE (env [(n : Int)] [(.slice a n c)] w) Try.prog (59, [false, true, false, true, true], altA, alHA, .ret, altF_bad, alHF_bad) := by
  refine loop_rule (σ := { st : Nat // st ≤ K }) (fun st => alE a n c X Y ptr w st.1) (fun _ => rfl) (fun st => K - st.1) (fun _ => alt0) (fun _ => alH0) rfl (fun _ => by decide) (by decide) ?_ ⟨0, Nat.zero_le _⟩ [.val 0 0, .num 1180591620717411303424 1180591620717411303424, .num 0 1180591620717411303425] [] (by decide +kernel) (by decide) ?_
  · rintro ⟨i, hle_⟩
    rcases Nat.lt_or_ge i (K) with h | h
    · have hib : bd 0 1000000000000000 (i : Int) := ⟨by omega, by omega⟩; have hn : bd 0 1000000000000 (n : Int) := ⟨by omega, by omega⟩; have hq := hall i h; clear hall
      rcases h0 : (decide ((n : Int) ≤ (i : Int))) with _ | _
      · rcases h1 : (decide ((X i) ≤ (-1000001))) with _ | _
        · rcases h2 : (decide ((X i) ≤ 1000000)) with _ | _
          · exfalso; (first | (have g := of_decide_eq_true h0; omega) | (have g := of_decide_eq_false h0; omega) | (simp [okP, okC] at hq; simp at *; omega))
          · rcases h3 : (decide ((Y i) ≤ (-1000001))) with _ | _
            · rcases h4 : (decide ((Y i) ≤ 1000000)) with _ | _
              · exfalso; (first | (have g := of_decide_eq_true h0; omega) | (have g := of_decide_eq_false h0; omega) | (simp [okP, okC] at hq; simp at *; omega))
              · refine .inl ⟨alo2, 1000, 50, _, [], ⟨i + 1, h⟩, (alk2 a n c X Y ptr w i hib hn hS h0 h1 h2 h3 h4).ok, als2, by decide, ?_, by show K - (i + 1) < K - i; omega⟩
                intro q hq
                simp only [List.mem_cons, List.not_mem_nil, or_false] at hq
                rcases hq with rfl | rfl | rfl
                · show (_ : Value) = _; kernel_rfl
                · show (_ : Int) = _; kernel_rfl
                · show (((i : Int) + 1) : Int) = (((i + 1 : Nat)) : Int); first | rfl | (omega)
            · exfalso; (first | (have g := of_decide_eq_true h0; omega) | (have g := of_decide_eq_false h0; omega) | (simp [okP, okC] at hq; simp at *; omega))
        · exfalso; (first | (have g := of_decide_eq_true h0; omega) | (have g := of_decide_eq_false h0; omega) | (simp [okP, okC] at hq; simp at *; omega))
      · exfalso; (first | (have g := of_decide_eq_true h0; omega) | (have g := of_decide_eq_false h0; omega) | (simp [okP, okC] at hq; simp at *; omega))
    · have hE : K = i := by omega
      subst hE
      have hib : bd 0 1000000000000000 (K : Int) := ⟨by omega, by omega⟩; have hn : bd 0 1000000000000 (n : Int) := ⟨by omega, by omega⟩; have hq := hq0; clear hall hq0
      rcases h0 : (decide ((n : Int) ≤ (K : Int))) with _ | _
      · rcases h1 : (decide ((X K) ≤ (-1000001))) with _ | _
        · rcases h2 : (decide ((X K) ≤ 1000000)) with _ | _
          · refine .inr ⟨alo0, 1000, 50, _, [], (alk0 a n c X Y ptr w (K) hib hn hS h0 h1 h2).ok, alf0_bad, by decide, ?_⟩
            intro q hq
            simp only [List.mem_cons, List.not_mem_nil, or_false] at hq
            rcases hq with rfl | rfl
            · show (_ : Value) = _; kernel_rfl
            · show (_ : Int) = _; kernel_rfl
          · rcases h3 : (decide ((Y K) ≤ (-1000001))) with _ | _
            · rcases h4 : (decide ((Y K) ≤ 1000000)) with _ | _
              · refine .inr ⟨alo1, 1000, 50, _, [], (alk1 a n c X Y ptr w (K) hib hn hS h0 h1 h2 h3 h4).ok, alf1_bad, by decide, ?_⟩
                intro q hq
                simp only [List.mem_cons, List.not_mem_nil, or_false] at hq
                rcases hq with rfl | rfl
                · show (_ : Value) = _; kernel_rfl
                · show (_ : Int) = _; kernel_rfl
              · exfalso; (first | (have g := of_decide_eq_true h0; omega) | (have g := of_decide_eq_false h0; omega) | (simp [okP, okC] at hq; simp at *; omega))
            · refine .inr ⟨alo3, 1000, 50, _, [], (alk3 a n c X Y ptr w (K) hib hn hS h0 h1 h2 h3).ok, alf3_bad, by decide, ?_⟩
              intro q hq
              simp only [List.mem_cons, List.not_mem_nil, or_false] at hq
              rcases hq with rfl | rfl
              · show (_ : Value) = _; kernel_rfl
              · show (_ : Int) = _; kernel_rfl
        · refine .inr ⟨alo4, 1000, 50, _, [], (alk4 a n c X Y ptr w (K) hib hn hS h0 h1).ok, alf4_bad, by decide, ?_⟩
          intro q hq
          simp only [List.mem_cons, List.not_mem_nil, or_false] at hq
          rcases hq with rfl | rfl
          · show (_ : Value) = _; kernel_rfl
          · show (_ : Int) = _; kernel_rfl
      · exfalso; (first | (have g := of_decide_eq_true h0; omega) | (have g := of_decide_eq_false h0; omega) | (simp [okP, okC] at hq; simp at *; omega))
  · skip
    intro q hq
    simp only [List.mem_cons, List.not_mem_nil, or_false] at hq
    rcases hq with rfl | rfl | rfl
    · show (_ : Value) = _; kernel_rfl
    · show (_ : Int) = _; kernel_rfl
    · show (0 : Int) = (0 : Int); first | rfl | (omega)
def altF_done : Tm := [[oq 0, anyV, .bool false, .func (.func 61) #[] #[], anyV, anyV, oq 0, sy 0, anyV, .bool false, anyV, anyV, anyV, anyV, anyV, anyV], [anyV, anyV, anyV, anyV, anyV, anyV, anyV, anyV, anyV]]
def alHF_done : Heap := []
theorem alf5_done : stepT Try.prog [] (evBody Try.prog alo5 1000 50 59 [false, true, false, true, true] alt0 alH0) (.exit 0) altF_done alHF_done [.val 0 0, .num 1180591620717411303424 1180591620717411303424] = true := by decide +kernel
theorem al_loop_done (a : Option Addr) (n c : Nat) (X Y : Nat → Int) (ptr : Nat → Addr) (w : World) (hn0 : n ≤ 1000000000000) (hS : Sl Try.prog w (.slice a n c) n 22 60 (fun k => .agg #[.int .i64 (X k), .int .i64 (Y k)]) ptr) (hall : ∀ i, i < n → okP X Y i = true) : LoopE (env [(n : Int)] [(.slice a n c)] w) Try.prog (59, [false, true, false, true, true], altA, alHA, .exit 0, altF_done, alHF_done) := by
  refine loop_rule (σ := { st : Nat // st ≤ n }) (fun st => alE a n c X Y ptr w st.1) (fun _ => rfl) (fun st => n - st.1) (fun _ => alt0) (fun _ => alH0) rfl (fun _ => by decide) (by decide) ?_ ⟨0, Nat.zero_le _⟩ [.val 0 0, .num 1180591620717411303424 1180591620717411303424, .num 0 1180591620717411303425] [] (by decide +kernel) (by decide) ?_
  · rintro ⟨i, hle_⟩
    rcases Nat.lt_or_ge i (n) with h | h
    · have hib : bd 0 1000000000000000 (i : Int) := ⟨by omega, by omega⟩; have hn : bd 0 1000000000000 (n : Int) := ⟨by omega, by omega⟩; have hq := hall i h; clear hall
      rcases h0 : (decide ((n : Int) ≤ (i : Int))) with _ | _
      · rcases h1 : (decide ((X i) ≤ (-1000001))) with _ | _
        · rcases h2 : (decide ((X i) ≤ 1000000)) with _ | _
          · exfalso; (first | (have g := of_decide_eq_true h0; omega) | (have g := of_decide_eq_false h0; omega) | (simp [okP, okC] at hq; simp at *; omega))
          · rcases h3 : (decide ((Y i) ≤ (-1000001))) with _ | _
            · rcases h4 : (decide ((Y i) ≤ 1000000)) with _ | _
              · exfalso; (first | (have g := of_decide_eq_true h0; omega) | (have g := of_decide_eq_false h0; omega) | (simp [okP, okC] at hq; simp at *; omega))
              · refine .inl ⟨alo2, 1000, 50, _, [], ⟨i + 1, h⟩, (alk2 a n c X Y ptr w i hib hn hS h0 h1 h2 h3 h4).ok, als2, by decide, ?_, by show n - (i + 1) < n - i; omega⟩
                intro q hq
                simp only [List.mem_cons, List.not_mem_nil, or_false] at hq
                rcases hq with rfl | rfl | rfl
                · show (_ : Value) = _; kernel_rfl
                · show (_ : Int) = _; kernel_rfl
                · show (((i : Int) + 1) : Int) = (((i + 1 : Nat)) : Int); first | rfl | (omega)
            · exfalso; (first | (have g := of_decide_eq_true h0; omega) | (have g := of_decide_eq_false h0; omega) | (simp [okP, okC] at hq; simp at *; omega))
        · exfalso; (first | (have g := of_decide_eq_true h0; omega) | (have g := of_decide_eq_false h0; omega) | (simp [okP, okC] at hq; simp at *; omega))
      · exfalso; (first | (have g := of_decide_eq_true h0; omega) | (have g := of_decide_eq_false h0; omega) | (simp [okP, okC] at hq; simp at *; omega))
    · have hE : n = i := by omega
      subst hE
      have hib : bd 0 1000000000000000 (n : Int) := ⟨by omega, by omega⟩; have hn : bd 0 1000000000000 (n : Int) := ⟨by omega, by omega⟩
      rcases h0 : (decide ((n : Int) ≤ (n : Int))) with _ | _
      · rcases h1 : (decide ((X n) ≤ (-1000001))) with _ | _
        · rcases h2 : (decide ((X n) ≤ 1000000)) with _ | _
          · exfalso; (first | (have g := of_decide_eq_true h0; omega) | (have g := of_decide_eq_false h0; omega) | (simp [okP, okC] at hq; simp at *; omega))
          · rcases h3 : (decide ((Y n) ≤ (-1000001))) with _ | _
            · rcases h4 : (decide ((Y n) ≤ 1000000)) with _ | _
              · exfalso; (first | (have g := of_decide_eq_true h0; omega) | (have g := of_decide_eq_false h0; omega) | (simp [okP, okC] at hq; simp at *; omega))
              · exfalso; (first | (have g := of_decide_eq_true h0; omega) | (have g := of_decide_eq_false h0; omega) | (simp [okP, okC] at hq; simp at *; omega))
            · exfalso; (first | (have g := of_decide_eq_true h0; omega) | (have g := of_decide_eq_false h0; omega) | (simp [okP, okC] at hq; simp at *; omega))
        · exfalso; (first | (have g := of_decide_eq_true h0; omega) | (have g := of_decide_eq_false h0; omega) | (simp [okP, okC] at hq; simp at *; omega))
      · refine .inr ⟨alo5, 1000, 50, _, [], (alk5 a n c X Y ptr w (n) hib hn hS h0).ok, alf5_done, by decide, ?_⟩
        intro q hq
        simp only [List.mem_cons, List.not_mem_nil, or_false] at hq
        rcases hq with rfl | rfl
        · show (_ : Value) = _; kernel_rfl
        · show (_ : Int) = _; kernel_rfl
  · skip
    intro q hq
    simp only [List.mem_cons, List.not_mem_nil, or_false] at hq
    rcases hq with rfl | rfl | rfl
    · show (_ : Value) = _; kernel_rfl
    · show (_ : Int) = _; kernel_rfl
    · show (0 : Int) = (0 : Int); first | rfl | (omega)
theorem allowed_any (a : Option Addr) (n c : Nat) (X Y : Nat → Int) (ptr : Nat → Addr) (w : World) (hn0 : n ≤ 1000000000000) (hS : Sl Try.prog w (.slice a n c) n 22 60 (fun k => .agg #[.int .i64 (X k), .int .i64 (Y k)]) ptr) : Calls Try.prog 59 #[.slice a n c] w fun e w' => e = .returned (.bool (allN (okP X Y) n)) ∧ Below w.heap.size w w' := by
  have hn : bd 0 1000000000000 (n : Int) := ⟨by omega, by omega⟩
  rcases least_fail (okP X Y) n with h | ⟨K, h1, h2, h3⟩
  · rw [allN_all h]
    exact run_know (P := Try.prog) (ρ := env [(n : Int)] [(.slice a n c)] w) (o := { loops := [(59, [false, true, false, true, true], altA, alHA, .exit 0, altF_done, alHF_done)], lens := [(false, oq 0, .int .i64 (sn 0))] }) ⟨all_nil, all_nil, all_nil, all_nil, all_nil, all_nil, all_nil, all_nil, all_nil, (all_cons (al_loop_done a n c X Y ptr w hn0 hS h) all_nil), (all_cons (lenOK (i := 0) (r := (sn 0)) (a := a) (c := c) rfl (by kernel_rfl)) all_nil), all_nil, all_nil, all_nil, all_nil, all_nil, all_nil, all_nil⟩ 1000 50 59 [oq 0] (.bool true) (args' := #[(.slice a n c)]) (v' := .bool true) (by kernel_rfl) (by kernel_rfl) (by kernel_rfl) w (Below.refl _ _)
  · rw [allN_bad h1 h2]
    exact run_know (P := Try.prog) (ρ := env [(n : Int)] [(.slice a n c)] w) (o := { loops := [(59, [false, true, false, true, true], altA, alHA, .ret, altF_bad, alHF_bad)], lens := [(false, oq 0, .int .i64 (sn 0))] }) ⟨all_nil, all_nil, all_nil, all_nil, all_nil, all_nil, all_nil, all_nil, all_nil, (all_cons (al_loop_bad a n c X Y ptr w hn0 hS K h1 h2 h3) all_nil), (all_cons (lenOK (i := 0) (r := (sn 0)) (a := a) (c := c) rfl (by kernel_rfl)) all_nil), all_nil, all_nil, all_nil, all_nil, all_nil, all_nil, all_nil⟩ 1000 50 59 [oq 0] (.bool false) (args' := #[(.slice a n c)]) (v' := .bool false) (by kernel_rfl) (by kernel_rfl) (by kernel_rfl) w (Below.refl _ _)
theorem pnt_same (d : Nat) (a0 a1 b0 b1 : Int) (w : World) : (Op.equalIn (d + 2) 60 (.agg #[.int .i64 a0, .int .i64 a1]) (.agg #[.int .i64 b0, .int .i64 b1])).run Try.prog w = .ok ((a0 == b0) && (a1 == b1)) w := by
  rw [run_equalIn_agg w (d + 1) 60 _ _ (by kernel_rfl) (by kernel_rfl)]
  have hf : (Try.prog.fieldsOf 60).toList.map (fun f => (f.name, f.type, f.offset)) = [("X", 3, 0), ("Y", 3, 1)] := by kernel_rfl
  generalize (Try.prog.fieldsOf 60).toList = fs at hf
  rcases fs with _ | ⟨f0, _ | ⟨f1, _ | ⟨h, r⟩⟩⟩ <;> simp at hf
  obtain ⟨⟨u0, v0, s0⟩, u1, v1, s1⟩ := hf
  have p0 : ∀ x0 x1 w, (part 3 #[.int .i64 x0, .int .i64 x1] 0).run Try.prog w = .ok (.int .i64 x0) w := fun _ _ _ => by kernel_rfl
  have q0 : ∀ x y w, (Op.equalIn (d + 1) 3 (.int .i64 x) (.int .i64 y)).run Try.prog w = .ok (x == y) w := fun x y w => run_equalIn_int w d 3 .i64 .i64 x y (by kernel_rfl)
  have p1 : ∀ x0 x1 w, (part 3 #[.int .i64 x0, .int .i64 x1] 1).run Try.prog w = .ok (.int .i64 x1) w := fun _ _ _ => by kernel_rfl
  have q1 : ∀ x y w, (Op.equalIn (d + 1) 3 (.int .i64 x) (.int .i64 y)).run Try.prog w = .ok (x == y) w := fun x y w => run_equalIn_int w d 3 .i64 .i64 x y (by kernel_rfl)
  simp only [Op.eqFields, Sem.run_bind]
  rw [u0, v0, s0, u1, v1, s1]
  rw [if_pos (by decide), Sem.run_bind, p0]
  simp only [Result.andThen_ok, Sem.run_bind]
  rw [p0]
  simp only [Result.andThen_ok, Sem.run_bind]
  rw [q0]
  simp only [Result.andThen_ok]
  rcases h0 : a0 == b0
  · simp
  simp only [Bool.not_true, Bool.false_eq_true, if_false, Bool.true_and]
  rw [if_pos (by decide), Sem.run_bind, p1]
  simp only [Result.andThen_ok, Sem.run_bind]
  rw [p1]
  simp only [Result.andThen_ok, Sem.run_bind]
  rw [q1]
  simp only [Result.andThen_ok]
  rcases h1 : a1 == b1
  · simp
  · simp
theorem pnt_eql (a0 a1 b0 b1 : Int) (w : World) : (binOp .eql 60 (.agg #[.int .i64 a0, .int .i64 a1]) (.agg #[.int .i64 b0, .int .i64 b1])).run Try.prog w = .ok (.bool ((a0 == b0) && (a1 == b1))) w := by
  rw [run_eql_struct, pnt_same 9998]; rfl
theorem pnt_guard (op : BinOp) (x y : Operand) (xs ys : Array Value) (w : World) : (eqGuard op 60 x y (.agg xs) (.agg ys)).run Try.prog w = .ok () w := run_eqGuard_agg w op _ x y xs ys (by kernel_rfl)
theorem i_rem {ty : TypeId} {a b c : Int} (h0 : b ≠ 0) (hq : Int.tmod a b = c) (w : World) : (binOp .rem ty (.int .i64 a) (.int .i64 b)).run Try.prog w = .ok (.int .i64 c) w := by
  subst hq; simp [binOp, Op.intArith, Op.intDiv, h0]
/-- the corner behind a corner -/
def nx (n i : Nat) : Nat := (i + 1) % n
theorem nx_lt {n i : Nat} (h : i < n) : nx n i < n := Nat.mod_lt _ (by omega)
theorem nx_rem {n i : Nat} (h : i < n) : Int.tmod ((i : Int) + 1) (n : Int) = ((nx n i : Nat) : Int) := by
  unfold nx
  rw [Int.tmod_eq_emod_of_nonneg (by omega)]
  rw [show ((i : Int) + 1) = ((i + 1 : Nat) : Int) from rfl]
  exact (Int.natCast_emod _ _).symm
def dupP (n : Nat) (X Y : Nat → Int) (i : Nat) : Bool := X i == X (nx n i) && Y i == Y (nx n i)
theorem next_any (a : Option Addr) (n c : Nat) (X Y : Nat → Int) (ptr : Nat → Addr) (w : World) (hn0 : n ≤ 1000000000000) (hS : Sl Try.prog w (.slice a n c) n 22 60 (fun k => .agg #[.int .i64 (X k), .int .i64 (Y k)]) ptr) (hP : Sl Try.prog w (.slice a n c) n 23 60 (fun k => .agg #[.int .i64 (X k), .int .i64 (Y k)]) ptr) (i : Nat) (hi : i < n) : Calls Try.prog 58 #[(.slice a n c), .int .i64 (i : Int)] w fun e w' => e = .returned (.agg #[.int .i64 ((X (nx n i))), .int .i64 ((Y (nx n i)))]) ∧ Below w.heap.size w w' := by
  have hn : bd 0 1000000000000 (n : Int) := ⟨by omega, by omega⟩
  have hib : bd 0 1000000000000 (i : Int) := ⟨by omega, by omega⟩
  have bq0 : bd 1 1000000000001 (((i : Int) + 1)) := bd_add hib (bd_lit (l := 1) (h := 1) rfl) rfl
  exact run_know (P := Try.prog) (ρ := env [(n : Int), (i : Int), ((i : Int) + 1), ((nx n i : Nat) : Int), (X (nx n i)), (Y (nx n i))] [(.slice a n c), (.pointer (some (ptr (nx n i))))] w) (o := { bin := [(.add, 3, .int .i64 (sn 1), .int .i64 1, .int .i64 (sn 2)), (.rem, 3, sy 2, sy 0, sy 3)], lds := [(60, oq 1, .agg #[sy 4, sy 5])], ixa := [(23, oq 0, .int .i64 (sn 3), oq 1)], lens := [(false, oq 0, .int .i64 (sn 0))] }) ⟨(all_cons (arOK (op := .add) (ty := 3) (k := .i64) (n := (sn 1)) (m := 1) (r := (sn 2)) (a := (i : Int)) (b := 1) (c := (((i : Int) + 1))) (d := (i : Int) + 1) (by kernel_rfl) (by kernel_rfl) (by kernel_rfl) rfl (wr_bd bq0 rfl)) (all_cons (binK (op := .rem) (ty := 3) (x := sy 2) (y := sy 0) (r := sy 3) (by kernel_rfl) (k := .i64) (l := .i64) (a := (((i : Int) + 1))) (b := (n : Int)) (v := .int .i64 (((nx n i : Nat) : Int))) (by kernel_rfl) (by kernel_rfl) (by kernel_rfl) (fun w => i_rem (by omega) (nx_rem hi) w)) all_nil)), all_nil, all_nil, all_nil, all_nil, (all_cons (sldOK (j := 1) (k := (nx n i)) (x := .agg #[sy 4, sy 5]) hP rfl (nx_lt hi) (by kernel_rfl) (by show inst _ _ = _; kernel_rfl)) all_nil), (all_cons (sixOK (i := 0) (j := 1) (k := (nx n i)) (r := (sn 3)) hP rfl (by kernel_rfl) rfl (nx_lt hi)) all_nil), all_nil, all_nil, all_nil, (all_cons (lenOK (i := 0) (r := (sn 0)) (a := a) (c := c) rfl (by kernel_rfl)) all_nil), all_nil, all_nil, all_nil, all_nil, all_nil, all_nil, all_nil⟩ 1000 50 58 [oq 0, sy 1] (.agg #[sy 4, sy 5]) (args' := #[(.slice a n c), .int .i64 (i : Int)]) (v' := .agg #[.int .i64 ((X (nx n i))), .int .i64 ((Y (nx n i)))]) (by kernel_rfl) (by kernel_rfl) (by kernel_rfl) w (Below.refl _ _)
def dut0 : Tm := [[oq 0, .slice none 0 0, undef, undef, .int .i64 0, anyV, anyV, .bool false, oq 0, sy 0, .bool false, .bool false, oq 0, sy 0, .bool false, .bool false], [oq 0, .bool true, .bool false, .bool false, .slice none 0 0, .bool true, .bool false, .bool false, oq 0, sy 0, sy 1, anyV, anyV, anyV, anyV, anyV], [anyV, anyV, anyV, anyV, anyV]]
def duH0 : Heap := []
def dutA : Tm := [[oq 0, .slice none 0 0, undef, undef, .int .i64 0, undef, undef, .bool false, oq 0, sy 0, .bool false, .bool false, oq 0, sy 0, .bool false, .bool false], [oq 0, .bool true, .bool false, .bool false, .slice none 0 0, .bool true, .bool false, .bool false, oq 0, sy 0, .int .i64 0, undef, undef, undef, undef, undef], [undef, undef, undef, undef, undef]]
def duHA : Heap := []
def duo0 : Orc := { bin := [(.lss, 3, .int .i64 (sn 1), .int .i64 (sn 0), .bool true), (.eql, 60, .agg #[sy 2, sy 3], .agg #[sy 4, sy 5], .bool false), (.add, 3, .int .i64 (sn 1), .int .i64 1, .int .i64 (sn 6))], calls := [(58, [oq 0, sy 1], .agg #[sy 4, sy 5])], lds := [(60, oq 1, .agg #[sy 2, sy 3])], ixa := [(23, oq 0, .int .i64 (sn 1), oq 1)], lens := [(false, oq 0, .int .i64 (sn 0))] }
def duo1 : Orc := { bin := [(.lss, 3, .int .i64 (sn 1), .int .i64 (sn 0), .bool true), (.eql, 60, .agg #[sy 2, sy 3], .agg #[sy 4, sy 5], .bool true)], calls := [(58, [oq 0, sy 1], .agg #[sy 4, sy 5])], lds := [(60, oq 1, .agg #[sy 2, sy 3])], ixa := [(23, oq 0, .int .i64 (sn 1), oq 1)], lens := [(false, oq 0, .int .i64 (sn 0))] }
def duo2 : Orc := { bin := [(.lss, 3, .int .i64 (sn 1), .int .i64 (sn 0), .bool false)], lens := [(false, oq 0, .int .i64 (sn 0))] }
noncomputable def duE (a : Option Addr) (n c : Nat) (X Y : Nat → Int) (ptr : Nat → Addr) (w : World) (i : Nat) : Env := env [(n : Int), (i : Int), (X i), (Y i), (X (nx n i)), (Y (nx n i)), ((i : Int) + 1)] [(.slice a n c), (.pointer (some (ptr i)))] w
theorem dus0 : stepT Try.prog [] (evBody Try.prog duo0 1000 50 52 [false, true, false, true, true] dut0 duH0) .normal dut0 duH0 [.val 0 0, .num 1180591620717411303424 1180591620717411303424, .num 1180591620717411303430 1180591620717411303425] = true := by decide +kernel
theorem duk0 (a : Option Addr) (n c : Nat) (X Y : Nat → Int) (ptr : Nat → Addr) (w : World) (i : Nat) (hib : bd 0 1000000000000000 (i : Int)) (hn : bd 0 1000000000000 (n : Int)) (hn0 : n ≤ 1000000000000) (hS : Sl Try.prog w (.slice a n c) n 22 60 (fun k => .agg #[.int .i64 (X k), .int .i64 (Y k)]) ptr) (hP : Sl Try.prog w (.slice a n c) n 23 60 (fun k => .agg #[.int .i64 (X k), .int .i64 (Y k)]) ptr) (h0 : (decide ((n : Int) ≤ (i : Int))) = false) (h1 : (dupP n X Y i) = false) : Know (duE a n c X Y ptr w i) Try.prog duo0 := by
  have bq0 : bd 1 1000000000000001 (((i : Int) + 1)) := bd_add hib (bd_lit (l := 1) (h := 1) rfl) rfl
  exact ⟨(all_cons (cmpOK (op := .lss) (ty := 3) (k := .i64) (n := (sn 1)) (m := (sn 0)) (t := true) (a := (i : Int)) (b := (n : Int)) (by kernel_rfl) (by kernel_rfl) (congrArg some ((lt_of_le h0)))) (all_cons (structOK (op := .eql) (ty := 60) (x := .agg #[sy 2, sy 3]) (y := .agg #[sy 4, sy 5]) (x' := .agg #[.int .i64 (X i), .int .i64 (Y i)]) (y' := .agg #[.int .i64 ((X (nx n i))), .int .i64 ((Y (nx n i)))]) (t := false) (by kernel_rfl) (by kernel_rfl) (by kernel_rfl) (by kernel_rfl) (fun p q w => pnt_guard .eql p q _ _ w) (fun w => by have q := pnt_eql (X i) (Y i) ((X (nx n i))) ((Y (nx n i))) w; rw [show (((X i) == ((X (nx n i)))) && ((Y i) == ((Y (nx n i))))) = false from (show ((X i == X (nx n i)) && (Y i == Y (nx n i))) = _ from h1)] at q; exact q)) (all_cons (arOK (op := .add) (ty := 3) (k := .i64) (n := (sn 1)) (m := 1) (r := (sn 6)) (a := (i : Int)) (b := 1) (c := (((i : Int) + 1))) (d := (i : Int) + 1) (by kernel_rfl) (by kernel_rfl) (by kernel_rfl) rfl (wr_bd bq0 rfl)) all_nil))), all_nil, all_nil, all_nil, (all_cons (callOKb (f := 58) (args := [oq 0, sy 1]) (v := .agg #[sy 4, sy 5]) (args' := #[(.slice a n c), .int .i64 (i : Int)]) (v' := .agg #[.int .i64 ((X (nx n i))), .int .i64 ((Y (nx n i)))]) (by kernel_rfl) (by kernel_rfl) (by kernel_rfl) (fun w1 hw1 => next_any a n c X Y ptr w1 hn0 (hS.mono hw1) (hP.mono hw1) i (by have g := of_decide_eq_false h0; omega))) all_nil), (all_cons (sldOK (j := 1) (k := i) (x := .agg #[sy 2, sy 3]) hP rfl (by have g := of_decide_eq_false h0; omega) (by kernel_rfl) (by show inst _ _ = _; kernel_rfl)) all_nil), (all_cons (sixOK (i := 0) (j := 1) (k := i) (r := (sn 1)) hP rfl (by kernel_rfl) rfl (by have g := of_decide_eq_false h0; omega)) all_nil), all_nil, all_nil, all_nil, (all_cons (lenOK (i := 0) (r := (sn 0)) (a := a) (c := c) rfl (by kernel_rfl)) all_nil), all_nil, all_nil, all_nil, all_nil, all_nil, all_nil, all_nil⟩
theorem duk1 (a : Option Addr) (n c : Nat) (X Y : Nat → Int) (ptr : Nat → Addr) (w : World) (i : Nat) (hib : bd 0 1000000000000000 (i : Int)) (hn : bd 0 1000000000000 (n : Int)) (hn0 : n ≤ 1000000000000) (hS : Sl Try.prog w (.slice a n c) n 22 60 (fun k => .agg #[.int .i64 (X k), .int .i64 (Y k)]) ptr) (hP : Sl Try.prog w (.slice a n c) n 23 60 (fun k => .agg #[.int .i64 (X k), .int .i64 (Y k)]) ptr) (h0 : (decide ((n : Int) ≤ (i : Int))) = false) (h1 : (dupP n X Y i) = true) : Know (duE a n c X Y ptr w i) Try.prog duo1 := by
  exact ⟨(all_cons (cmpOK (op := .lss) (ty := 3) (k := .i64) (n := (sn 1)) (m := (sn 0)) (t := true) (a := (i : Int)) (b := (n : Int)) (by kernel_rfl) (by kernel_rfl) (congrArg some ((lt_of_le h0)))) (all_cons (structOK (op := .eql) (ty := 60) (x := .agg #[sy 2, sy 3]) (y := .agg #[sy 4, sy 5]) (x' := .agg #[.int .i64 (X i), .int .i64 (Y i)]) (y' := .agg #[.int .i64 ((X (nx n i))), .int .i64 ((Y (nx n i)))]) (t := true) (by kernel_rfl) (by kernel_rfl) (by kernel_rfl) (by kernel_rfl) (fun p q w => pnt_guard .eql p q _ _ w) (fun w => by have q := pnt_eql (X i) (Y i) ((X (nx n i))) ((Y (nx n i))) w; rw [show (((X i) == ((X (nx n i)))) && ((Y i) == ((Y (nx n i))))) = true from (show ((X i == X (nx n i)) && (Y i == Y (nx n i))) = _ from h1)] at q; exact q)) all_nil)), all_nil, all_nil, all_nil, (all_cons (callOKb (f := 58) (args := [oq 0, sy 1]) (v := .agg #[sy 4, sy 5]) (args' := #[(.slice a n c), .int .i64 (i : Int)]) (v' := .agg #[.int .i64 ((X (nx n i))), .int .i64 ((Y (nx n i)))]) (by kernel_rfl) (by kernel_rfl) (by kernel_rfl) (fun w1 hw1 => next_any a n c X Y ptr w1 hn0 (hS.mono hw1) (hP.mono hw1) i (by have g := of_decide_eq_false h0; omega))) all_nil), (all_cons (sldOK (j := 1) (k := i) (x := .agg #[sy 2, sy 3]) hP rfl (by have g := of_decide_eq_false h0; omega) (by kernel_rfl) (by show inst _ _ = _; kernel_rfl)) all_nil), (all_cons (sixOK (i := 0) (j := 1) (k := i) (r := (sn 1)) hP rfl (by kernel_rfl) rfl (by have g := of_decide_eq_false h0; omega)) all_nil), all_nil, all_nil, all_nil, (all_cons (lenOK (i := 0) (r := (sn 0)) (a := a) (c := c) rfl (by kernel_rfl)) all_nil), all_nil, all_nil, all_nil, all_nil, all_nil, all_nil, all_nil⟩
theorem duk2 (a : Option Addr) (n c : Nat) (X Y : Nat → Int) (ptr : Nat → Addr) (w : World) (i : Nat) (hib : bd 0 1000000000000000 (i : Int)) (hn : bd 0 1000000000000 (n : Int)) (hn0 : n ≤ 1000000000000) (hS : Sl Try.prog w (.slice a n c) n 22 60 (fun k => .agg #[.int .i64 (X k), .int .i64 (Y k)]) ptr) (hP : Sl Try.prog w (.slice a n c) n 23 60 (fun k => .agg #[.int .i64 (X k), .int .i64 (Y k)]) ptr) (h0 : (decide ((n : Int) ≤ (i : Int))) = true) : Know (duE a n c X Y ptr w i) Try.prog duo2 := by
  exact ⟨(all_cons (cmpOK (op := .lss) (ty := 3) (k := .i64) (n := (sn 1)) (m := (sn 0)) (t := false) (a := (i : Int)) (b := (n : Int)) (by kernel_rfl) (by kernel_rfl) (congrArg some ((lt_of_le h0)))) all_nil), all_nil, all_nil, all_nil, all_nil, all_nil, all_nil, all_nil, all_nil, all_nil, (all_cons (lenOK (i := 0) (r := (sn 0)) (a := a) (c := c) rfl (by kernel_rfl)) all_nil), all_nil, all_nil, all_nil, all_nil, all_nil, all_nil, all_nil⟩
def dutF_bad : Tm := [[oq 0, .slice none 0 0, anyV, anyV, .int .i64 5, anyV, anyV, .bool false, oq 0, sy 0, .bool false, .bool false, oq 0, sy 0, .bool false, .bool false], [oq 0, .bool true, .bool false, .bool false, .slice none 0 0, .bool true, .bool false, .bool false, oq 0, sy 0, anyV, .bool true, anyV, anyV, anyV, anyV], [oq 0, anyV, anyV, .bool true, anyV]]
def duHF_bad : Heap := []
theorem duf1_bad : stepT Try.prog [] (evBody Try.prog duo1 1000 50 52 [false, true, false, true, true] dut0 duH0) (.ret) dutF_bad duHF_bad [.val 0 0, .num 1180591620717411303424 1180591620717411303424] = true := by decide +kernel
theorem du_loop_bad (a : Option Addr) (n c : Nat) (X Y : Nat → Int) (ptr : Nat → Addr) (w : World) (hn0 : n ≤ 1000000000000) (hS : Sl Try.prog w (.slice a n c) n 22 60 (fun k => .agg #[.int .i64 (X k), .int .i64 (Y k)]) ptr) (hP : Sl Try.prog w (.slice a n c) n 23 60 (fun k => .agg #[.int .i64 (X k), .int .i64 (Y k)]) ptr) (K : Nat) (hK : K < n) (hq0 : dupP n X Y K = true) (hall : ∀ i, i < K → dupP n X Y i = false) : LoopE (env [(n : Int)] [(.slice a n c)] w) Try.prog (52, [false, true, false, true, true], dutA, duHA, .ret, dutF_bad, duHF_bad) := by
  refine loop_rule (σ := { st : Nat // st ≤ K }) (fun st => duE a n c X Y ptr w st.1) (fun _ => rfl) (fun st => K - st.1) (fun _ => dut0) (fun _ => duH0) rfl (fun _ => by decide) (by decide) ?_ ⟨0, Nat.zero_le _⟩ [.val 0 0, .num 1180591620717411303424 1180591620717411303424, .num 0 1180591620717411303425] [] (by decide +kernel) (by decide) ?_
  · rintro ⟨i, hle_⟩
    rcases Nat.lt_or_ge i (K) with h | h
    · have hib : bd 0 1000000000000000 (i : Int) := ⟨by omega, by omega⟩; have hn : bd 0 1000000000000 (n : Int) := ⟨by omega, by omega⟩; have hq := hall i h; clear hall
      rcases h0 : (decide ((n : Int) ≤ (i : Int))) with _ | _
      · rcases h1 : (dupP n X Y i) with _ | _
        · refine .inl ⟨duo0, 1000, 50, _, [], ⟨i + 1, h⟩, (duk0 a n c X Y ptr w i hib hn hn0 hS hP h0 h1).ok, dus0, by decide, ?_, by show K - (i + 1) < K - i; omega⟩
          intro q hq
          simp only [List.mem_cons, List.not_mem_nil, or_false] at hq
          rcases hq with rfl | rfl | rfl
          · show (_ : Value) = _; kernel_rfl
          · show (_ : Int) = _; kernel_rfl
          · show (((i : Int) + 1) : Int) = (((i + 1 : Nat)) : Int); first | rfl | (omega)
        · exfalso; (first | (have g := of_decide_eq_true h0; omega) | (rw [hq] at h1; cases h1))
      · exfalso; (first | (have g := of_decide_eq_true h0; omega) | (rw [hq] at h1; cases h1))
    · have hE : K = i := by omega
      subst hE
      have hib : bd 0 1000000000000000 (K : Int) := ⟨by omega, by omega⟩; have hn : bd 0 1000000000000 (n : Int) := ⟨by omega, by omega⟩; have hq := hq0; clear hall hq0
      rcases h0 : (decide ((n : Int) ≤ (K : Int))) with _ | _
      · rcases h1 : (dupP n X Y K) with _ | _
        · exfalso; (first | (have g := of_decide_eq_true h0; omega) | (rw [hq] at h1; cases h1))
        · refine .inr ⟨duo1, 1000, 50, _, [], (duk1 a n c X Y ptr w (K) hib hn hn0 hS hP h0 h1).ok, duf1_bad, by decide, ?_⟩
          intro q hq
          simp only [List.mem_cons, List.not_mem_nil, or_false] at hq
          rcases hq with rfl | rfl
          · show (_ : Value) = _; kernel_rfl
          · show (_ : Int) = _; kernel_rfl
      · exfalso; (first | (have g := of_decide_eq_true h0; omega) | (rw [hq] at h1; cases h1))
  · skip
    intro q hq
    simp only [List.mem_cons, List.not_mem_nil, or_false] at hq
    rcases hq with rfl | rfl | rfl
    · show (_ : Value) = _; kernel_rfl
    · show (_ : Int) = _; kernel_rfl
    · show (0 : Int) = (0 : Int); first | rfl | (omega)
def dutF_done : Tm := [[oq 0, .slice none 0 0, anyV, anyV, .int .i64 0, anyV, anyV, .bool false, oq 0, sy 0, .bool false, .bool false, oq 0, sy 0, .bool false, .bool false], [oq 0, .bool true, .bool false, .bool false, .slice none 0 0, .bool true, .bool false, .bool false, oq 0, sy 0, anyV, .bool false, anyV, anyV, anyV, anyV], [anyV, anyV, anyV, anyV, anyV]]
def duHF_done : Heap := []
theorem duf2_done : stepT Try.prog [] (evBody Try.prog duo2 1000 50 52 [false, true, false, true, true] dut0 duH0) (.exit 1) dutF_done duHF_done [.val 0 0, .num 1180591620717411303424 1180591620717411303424] = true := by decide +kernel
theorem du_loop_done (a : Option Addr) (n c : Nat) (X Y : Nat → Int) (ptr : Nat → Addr) (w : World) (hn0 : n ≤ 1000000000000) (hS : Sl Try.prog w (.slice a n c) n 22 60 (fun k => .agg #[.int .i64 (X k), .int .i64 (Y k)]) ptr) (hP : Sl Try.prog w (.slice a n c) n 23 60 (fun k => .agg #[.int .i64 (X k), .int .i64 (Y k)]) ptr) (hall : ∀ i, i < n → dupP n X Y i = false) : LoopE (env [(n : Int)] [(.slice a n c)] w) Try.prog (52, [false, true, false, true, true], dutA, duHA, .exit 1, dutF_done, duHF_done) := by
  refine loop_rule (σ := { st : Nat // st ≤ n }) (fun st => duE a n c X Y ptr w st.1) (fun _ => rfl) (fun st => n - st.1) (fun _ => dut0) (fun _ => duH0) rfl (fun _ => by decide) (by decide) ?_ ⟨0, Nat.zero_le _⟩ [.val 0 0, .num 1180591620717411303424 1180591620717411303424, .num 0 1180591620717411303425] [] (by decide +kernel) (by decide) ?_
  · rintro ⟨i, hle_⟩
    rcases Nat.lt_or_ge i (n) with h | h
    · have hib : bd 0 1000000000000000 (i : Int) := ⟨by omega, by omega⟩; have hn : bd 0 1000000000000 (n : Int) := ⟨by omega, by omega⟩; have hq := hall i h; clear hall
      rcases h0 : (decide ((n : Int) ≤ (i : Int))) with _ | _
      · rcases h1 : (dupP n X Y i) with _ | _
        · refine .inl ⟨duo0, 1000, 50, _, [], ⟨i + 1, h⟩, (duk0 a n c X Y ptr w i hib hn hn0 hS hP h0 h1).ok, dus0, by decide, ?_, by show n - (i + 1) < n - i; omega⟩
          intro q hq
          simp only [List.mem_cons, List.not_mem_nil, or_false] at hq
          rcases hq with rfl | rfl | rfl
          · show (_ : Value) = _; kernel_rfl
          · show (_ : Int) = _; kernel_rfl
          · show (((i : Int) + 1) : Int) = (((i + 1 : Nat)) : Int); first | rfl | (omega)
        · exfalso; (first | (have g := of_decide_eq_true h0; omega) | (rw [hq] at h1; cases h1))
      · exfalso; (first | (have g := of_decide_eq_true h0; omega) | (rw [hq] at h1; cases h1))
    · have hE : n = i := by omega
      subst hE
      have hib : bd 0 1000000000000000 (n : Int) := ⟨by omega, by omega⟩; have hn : bd 0 1000000000000 (n : Int) := ⟨by omega, by omega⟩
      rcases h0 : (decide ((n : Int) ≤ (n : Int))) with _ | _
      · rcases h1 : (dupP n X Y n) with _ | _
        · exfalso; (have g := of_decide_eq_false h0; omega)
        · exfalso; (have g := of_decide_eq_false h0; omega)
      · refine .inr ⟨duo2, 1000, 50, _, [], (duk2 a n c X Y ptr w (n) hib hn hn0 hS hP h0).ok, duf2_done, by decide, ?_⟩
        intro q hq
        simp only [List.mem_cons, List.not_mem_nil, or_false] at hq
        rcases hq with rfl | rfl
        · show (_ : Value) = _; kernel_rfl
        · show (_ : Int) = _; kernel_rfl
  · skip
    intro q hq
    simp only [List.mem_cons, List.not_mem_nil, or_false] at hq
    rcases hq with rfl | rfl | rfl
    · show (_ : Value) = _; kernel_rfl
    · show (_ : Int) = _; kernel_rfl
    · show (0 : Int) = (0 : Int); first | rfl | (omega)
def allF (q : Nat → Bool) (n : Nat) : Bool := allN (fun i => !q i) n
def chkP (n : Nat) (X Y : Nat → Int) : Int := if decide ((n : Int) ≤ 64) = true then (if decide ((n : Int) ≤ 2) = true then 1 else (if allN (okP X Y) n = true then (if allF (dupP n X Y) n = true then 0 else 5) else 6)) else 7
theorem cw_done (a : Option Addr) (n c : Nat) (X Y : Nat → Int) (ptr : Nat → Addr) (w : World) (hn0 : n ≤ 1000000000000) (hS : Sl Try.prog w (.slice a n c) n 22 60 (fun k => .agg #[.int .i64 (X k), .int .i64 (Y k)]) ptr) (hP : Sl Try.prog w (.slice a n c) n 23 60 (fun k => .agg #[.int .i64 (X k), .int .i64 (Y k)]) ptr) (h : ∀ i, i < n → dupP n X Y i = false) : Calls Try.prog 52 #[.slice a n c, .slice none 0 0] w fun e w' => e = .returned (.int .i64 (chkP n X Y)) ∧ Below w.heap.size w w' := by
  have hn : bd 0 1000000000000 (n : Int) := ⟨by omega, by omega⟩
  rcases h0 : (decide ((n : Int) ≤ 64)) with _ | _
  · have hr : (.int .i64 (chkP n X Y) : Value) = .int .i64 7 := by (refine congrArg (Value.int .i64) ?_; have hF : allF (dupP n X Y) n = true := (allN_all (q := fun i => !dupP n X Y i) (fun i hi => by rw [h i hi]; rfl)); unfold chkP; simp only [h0, if_true, Bool.false_eq_true, if_false, reduceIte])
    try rw [hr]
    exact run_know (P := Try.prog) (ρ := env [(n : Int)] [(.slice a n c)] w) (o := { bin := [(.gtr, 3, .int .i64 (sn 0), .int .i64 64, .bool true)], lens := [(false, oq 0, .int .i64 (sn 0))] }) ⟨(all_cons (cmpOK (op := .gtr) (ty := 3) (k := .i64) (n := (sn 0)) (m := 64) (t := true) (a := (n : Int)) (b := 64) (by kernel_rfl) (by kernel_rfl) (congrArg some ((gt_of_le h0)))) all_nil), all_nil, all_nil, all_nil, all_nil, all_nil, all_nil, all_nil, all_nil, all_nil, (all_cons (lenOK (i := 0) (r := (sn 0)) (a := a) (c := c) rfl (by kernel_rfl)) all_nil), all_nil, all_nil, all_nil, all_nil, all_nil, all_nil, all_nil⟩ 1000 50 52 [oq 0, .slice none 0 0] (.int .i64 7) (args' := #[(.slice a n c), .slice none 0 0]) (v' := .int .i64 7) (by kernel_rfl) (by kernel_rfl) (by kernel_rfl) w (Below.refl _ _)
  · rcases h1 : (decide ((n : Int) ≤ 2)) with _ | _
    · rcases h2 : (allN (okP X Y) n) with _ | _
      · have hr : (.int .i64 (chkP n X Y) : Value) = .int .i64 6 := by (refine congrArg (Value.int .i64) ?_; have hF : allF (dupP n X Y) n = true := (allN_all (q := fun i => !dupP n X Y i) (fun i hi => by rw [h i hi]; rfl)); unfold chkP; simp only [h0, h1, h2, hF, if_true, Bool.false_eq_true, if_false, reduceIte])
        try rw [hr]
        exact run_know (P := Try.prog) (ρ := env [(n : Int)] [(.slice a n c)] w) (o := { bin := [(.gtr, 3, .int .i64 (sn 0), .int .i64 64, .bool false), (.lss, 3, .int .i64 (sn 0), .int .i64 3, .bool false)], calls := [(59, [oq 0], .bool false)], lens := [(false, oq 0, .int .i64 (sn 0))] }) ⟨(all_cons (cmpOK (op := .gtr) (ty := 3) (k := .i64) (n := (sn 0)) (m := 64) (t := false) (a := (n : Int)) (b := 64) (by kernel_rfl) (by kernel_rfl) (congrArg some ((gt_of_le h0)))) (all_cons (cmpOK (op := .lss) (ty := 3) (k := .i64) (n := (sn 0)) (m := 3) (t := false) (a := (n : Int)) (b := 3) (by kernel_rfl) (by kernel_rfl) (congrArg some ((lt_c h1 rfl)))) all_nil)), all_nil, all_nil, all_nil, (all_cons (callOKb (f := 59) (args := [oq 0]) (v := .bool false) (args' := #[(.slice a n c)]) (v' := .bool false) (by kernel_rfl) (by kernel_rfl) (by kernel_rfl) (fun w1 hw1 => by have q := allowed_any a n c X Y ptr w1 hn0 (hS.mono hw1); rw [h2] at q; exact q)) all_nil), all_nil, all_nil, all_nil, all_nil, all_nil, (all_cons (lenOK (i := 0) (r := (sn 0)) (a := a) (c := c) rfl (by kernel_rfl)) all_nil), all_nil, all_nil, all_nil, all_nil, all_nil, all_nil, all_nil⟩ 1000 50 52 [oq 0, .slice none 0 0] (.int .i64 6) (args' := #[(.slice a n c), .slice none 0 0]) (v' := .int .i64 6) (by kernel_rfl) (by kernel_rfl) (by kernel_rfl) w (Below.refl _ _)
      · have hr : (.int .i64 (chkP n X Y) : Value) = .int .i64 0 := by (refine congrArg (Value.int .i64) ?_; have hF : allF (dupP n X Y) n = true := (allN_all (q := fun i => !dupP n X Y i) (fun i hi => by rw [h i hi]; rfl)); unfold chkP; simp only [h0, h1, h2, hF, if_true, Bool.false_eq_true, if_false, reduceIte])
        try rw [hr]
        exact run_know (P := Try.prog) (ρ := env [(n : Int)] [(.slice a n c)] w) (o := { bin := [(.gtr, 3, .int .i64 (sn 0), .int .i64 64, .bool false), (.lss, 3, .int .i64 (sn 0), .int .i64 3, .bool false)], calls := [(59, [oq 0], .bool true)], loops := [(52, [false, true, false, true, true], dutA, duHA, .exit 1, dutF_done, duHF_done)], lens := [(false, oq 0, .int .i64 (sn 0))] }) ⟨(all_cons (cmpOK (op := .gtr) (ty := 3) (k := .i64) (n := (sn 0)) (m := 64) (t := false) (a := (n : Int)) (b := 64) (by kernel_rfl) (by kernel_rfl) (congrArg some ((gt_of_le h0)))) (all_cons (cmpOK (op := .lss) (ty := 3) (k := .i64) (n := (sn 0)) (m := 3) (t := false) (a := (n : Int)) (b := 3) (by kernel_rfl) (by kernel_rfl) (congrArg some ((lt_c h1 rfl)))) all_nil)), all_nil, all_nil, all_nil, (all_cons (callOKb (f := 59) (args := [oq 0]) (v := .bool true) (args' := #[(.slice a n c)]) (v' := .bool true) (by kernel_rfl) (by kernel_rfl) (by kernel_rfl) (fun w1 hw1 => by have q := allowed_any a n c X Y ptr w1 hn0 (hS.mono hw1); rw [h2] at q; exact q)) all_nil), all_nil, all_nil, all_nil, all_nil, (all_cons (loop_move (es := [.val 0 0, .num 1180591620717411303424 1180591620717411303424]) (es2 := [.val 0 0, .num 1180591620717411303424 1180591620717411303424]) (f := []) (f2 := []) (by rfl) (du_loop_done a n c X Y ptr w hn0 hS hP h) (by decide +kernel) (by decide) (by intro q hq; simp only [List.mem_cons, List.not_mem_nil, or_false] at hq; rcases hq with rfl | rfl; (exact (show _ = _ by kernel_rfl)); (exact (show _ = _ by kernel_rfl))) (by decide +kernel) (by decide) (by decide) (by intro q hq; simp only [List.mem_cons, List.not_mem_nil, or_false] at hq; rcases hq with rfl | rfl; (exact (show _ = _ by kernel_rfl)); (exact (show _ = _ by kernel_rfl)))) all_nil), (all_cons (lenOK (i := 0) (r := (sn 0)) (a := a) (c := c) rfl (by kernel_rfl)) all_nil), all_nil, all_nil, all_nil, all_nil, all_nil, all_nil, all_nil⟩ 1000 50 52 [oq 0, .slice none 0 0] (.int .i64 0) (args' := #[(.slice a n c), .slice none 0 0]) (v' := .int .i64 0) (by kernel_rfl) (by kernel_rfl) (by kernel_rfl) w (Below.refl _ _)
    · have hr : (.int .i64 (chkP n X Y) : Value) = .int .i64 1 := by (refine congrArg (Value.int .i64) ?_; have hF : allF (dupP n X Y) n = true := (allN_all (q := fun i => !dupP n X Y i) (fun i hi => by rw [h i hi]; rfl)); unfold chkP; simp only [h0, h1, if_true, Bool.false_eq_true, if_false, reduceIte])
      try rw [hr]
      exact run_know (P := Try.prog) (ρ := env [(n : Int)] [(.slice a n c)] w) (o := { bin := [(.gtr, 3, .int .i64 (sn 0), .int .i64 64, .bool false), (.lss, 3, .int .i64 (sn 0), .int .i64 3, .bool true)], lens := [(false, oq 0, .int .i64 (sn 0))] }) ⟨(all_cons (cmpOK (op := .gtr) (ty := 3) (k := .i64) (n := (sn 0)) (m := 64) (t := false) (a := (n : Int)) (b := 64) (by kernel_rfl) (by kernel_rfl) (congrArg some ((gt_of_le h0)))) (all_cons (cmpOK (op := .lss) (ty := 3) (k := .i64) (n := (sn 0)) (m := 3) (t := true) (a := (n : Int)) (b := 3) (by kernel_rfl) (by kernel_rfl) (congrArg some ((lt_c h1 rfl)))) all_nil)), all_nil, all_nil, all_nil, all_nil, all_nil, all_nil, all_nil, all_nil, all_nil, (all_cons (lenOK (i := 0) (r := (sn 0)) (a := a) (c := c) rfl (by kernel_rfl)) all_nil), all_nil, all_nil, all_nil, all_nil, all_nil, all_nil, all_nil⟩ 1000 50 52 [oq 0, .slice none 0 0] (.int .i64 1) (args' := #[(.slice a n c), .slice none 0 0]) (v' := .int .i64 1) (by kernel_rfl) (by kernel_rfl) (by kernel_rfl) w (Below.refl _ _)
theorem cw_bad (a : Option Addr) (n c : Nat) (X Y : Nat → Int) (ptr : Nat → Addr) (w : World) (hn0 : n ≤ 1000000000000) (hS : Sl Try.prog w (.slice a n c) n 22 60 (fun k => .agg #[.int .i64 (X k), .int .i64 (Y k)]) ptr) (hP : Sl Try.prog w (.slice a n c) n 23 60 (fun k => .agg #[.int .i64 (X k), .int .i64 (Y k)]) ptr) (K : Nat) (h1_ : K < n) (h2_ : dupP n X Y K = true) (h3_ : ∀ i, i < K → dupP n X Y i = false) : Calls Try.prog 52 #[.slice a n c, .slice none 0 0] w fun e w' => e = .returned (.int .i64 (chkP n X Y)) ∧ Below w.heap.size w w' := by
  have hn : bd 0 1000000000000 (n : Int) := ⟨by omega, by omega⟩
  rcases h0 : (decide ((n : Int) ≤ 64)) with _ | _
  · have hr : (.int .i64 (chkP n X Y) : Value) = .int .i64 7 := by (refine congrArg (Value.int .i64) ?_; have hF : allF (dupP n X Y) n = false := (allN_bad (q := fun i => !dupP n X Y i) h1_ (by rw [h2_]; rfl)); unfold chkP; simp only [h0, if_true, Bool.false_eq_true, if_false, reduceIte])
    try rw [hr]
    exact run_know (P := Try.prog) (ρ := env [(n : Int)] [(.slice a n c)] w) (o := { bin := [(.gtr, 3, .int .i64 (sn 0), .int .i64 64, .bool true)], lens := [(false, oq 0, .int .i64 (sn 0))] }) ⟨(all_cons (cmpOK (op := .gtr) (ty := 3) (k := .i64) (n := (sn 0)) (m := 64) (t := true) (a := (n : Int)) (b := 64) (by kernel_rfl) (by kernel_rfl) (congrArg some ((gt_of_le h0)))) all_nil), all_nil, all_nil, all_nil, all_nil, all_nil, all_nil, all_nil, all_nil, all_nil, (all_cons (lenOK (i := 0) (r := (sn 0)) (a := a) (c := c) rfl (by kernel_rfl)) all_nil), all_nil, all_nil, all_nil, all_nil, all_nil, all_nil, all_nil⟩ 1000 50 52 [oq 0, .slice none 0 0] (.int .i64 7) (args' := #[(.slice a n c), .slice none 0 0]) (v' := .int .i64 7) (by kernel_rfl) (by kernel_rfl) (by kernel_rfl) w (Below.refl _ _)
  · rcases h1 : (decide ((n : Int) ≤ 2)) with _ | _
    · rcases h2 : (allN (okP X Y) n) with _ | _
      · have hr : (.int .i64 (chkP n X Y) : Value) = .int .i64 6 := by (refine congrArg (Value.int .i64) ?_; have hF : allF (dupP n X Y) n = false := (allN_bad (q := fun i => !dupP n X Y i) h1_ (by rw [h2_]; rfl)); unfold chkP; simp only [h0, h1, h2, hF, if_true, Bool.false_eq_true, if_false, reduceIte])
        try rw [hr]
        exact run_know (P := Try.prog) (ρ := env [(n : Int)] [(.slice a n c)] w) (o := { bin := [(.gtr, 3, .int .i64 (sn 0), .int .i64 64, .bool false), (.lss, 3, .int .i64 (sn 0), .int .i64 3, .bool false)], calls := [(59, [oq 0], .bool false)], lens := [(false, oq 0, .int .i64 (sn 0))] }) ⟨(all_cons (cmpOK (op := .gtr) (ty := 3) (k := .i64) (n := (sn 0)) (m := 64) (t := false) (a := (n : Int)) (b := 64) (by kernel_rfl) (by kernel_rfl) (congrArg some ((gt_of_le h0)))) (all_cons (cmpOK (op := .lss) (ty := 3) (k := .i64) (n := (sn 0)) (m := 3) (t := false) (a := (n : Int)) (b := 3) (by kernel_rfl) (by kernel_rfl) (congrArg some ((lt_c h1 rfl)))) all_nil)), all_nil, all_nil, all_nil, (all_cons (callOKb (f := 59) (args := [oq 0]) (v := .bool false) (args' := #[(.slice a n c)]) (v' := .bool false) (by kernel_rfl) (by kernel_rfl) (by kernel_rfl) (fun w1 hw1 => by have q := allowed_any a n c X Y ptr w1 hn0 (hS.mono hw1); rw [h2] at q; exact q)) all_nil), all_nil, all_nil, all_nil, all_nil, all_nil, (all_cons (lenOK (i := 0) (r := (sn 0)) (a := a) (c := c) rfl (by kernel_rfl)) all_nil), all_nil, all_nil, all_nil, all_nil, all_nil, all_nil, all_nil⟩ 1000 50 52 [oq 0, .slice none 0 0] (.int .i64 6) (args' := #[(.slice a n c), .slice none 0 0]) (v' := .int .i64 6) (by kernel_rfl) (by kernel_rfl) (by kernel_rfl) w (Below.refl _ _)
      · have hr : (.int .i64 (chkP n X Y) : Value) = .int .i64 5 := by (refine congrArg (Value.int .i64) ?_; have hF : allF (dupP n X Y) n = false := (allN_bad (q := fun i => !dupP n X Y i) h1_ (by rw [h2_]; rfl)); unfold chkP; simp only [h0, h1, h2, hF, if_true, Bool.false_eq_true, if_false, reduceIte])
        try rw [hr]
        exact run_know (P := Try.prog) (ρ := env [(n : Int)] [(.slice a n c)] w) (o := { bin := [(.gtr, 3, .int .i64 (sn 0), .int .i64 64, .bool false), (.lss, 3, .int .i64 (sn 0), .int .i64 3, .bool false)], calls := [(59, [oq 0], .bool true)], loops := [(52, [false, true, false, true, true], dutA, duHA, .ret, dutF_bad, duHF_bad)], lens := [(false, oq 0, .int .i64 (sn 0))] }) ⟨(all_cons (cmpOK (op := .gtr) (ty := 3) (k := .i64) (n := (sn 0)) (m := 64) (t := false) (a := (n : Int)) (b := 64) (by kernel_rfl) (by kernel_rfl) (congrArg some ((gt_of_le h0)))) (all_cons (cmpOK (op := .lss) (ty := 3) (k := .i64) (n := (sn 0)) (m := 3) (t := false) (a := (n : Int)) (b := 3) (by kernel_rfl) (by kernel_rfl) (congrArg some ((lt_c h1 rfl)))) all_nil)), all_nil, all_nil, all_nil, (all_cons (callOKb (f := 59) (args := [oq 0]) (v := .bool true) (args' := #[(.slice a n c)]) (v' := .bool true) (by kernel_rfl) (by kernel_rfl) (by kernel_rfl) (fun w1 hw1 => by have q := allowed_any a n c X Y ptr w1 hn0 (hS.mono hw1); rw [h2] at q; exact q)) all_nil), all_nil, all_nil, all_nil, all_nil, (all_cons (loop_move (es := [.val 0 0, .num 1180591620717411303424 1180591620717411303424]) (es2 := [.val 0 0, .num 1180591620717411303424 1180591620717411303424]) (f := []) (f2 := []) (by rfl) (du_loop_bad a n c X Y ptr w hn0 hS hP K h1_ h2_ h3_) (by decide +kernel) (by decide) (by intro q hq; simp only [List.mem_cons, List.not_mem_nil, or_false] at hq; rcases hq with rfl | rfl; (exact (show _ = _ by kernel_rfl)); (exact (show _ = _ by kernel_rfl))) (by decide +kernel) (by decide) (by decide) (by intro q hq; simp only [List.mem_cons, List.not_mem_nil, or_false] at hq; rcases hq with rfl | rfl; (exact (show _ = _ by kernel_rfl)); (exact (show _ = _ by kernel_rfl)))) all_nil), (all_cons (lenOK (i := 0) (r := (sn 0)) (a := a) (c := c) rfl (by kernel_rfl)) all_nil), all_nil, all_nil, all_nil, all_nil, all_nil, all_nil, all_nil⟩ 1000 50 52 [oq 0, .slice none 0 0] (.int .i64 5) (args' := #[(.slice a n c), .slice none 0 0]) (v' := .int .i64 5) (by kernel_rfl) (by kernel_rfl) (by kernel_rfl) w (Below.refl _ _)
    · have hr : (.int .i64 (chkP n X Y) : Value) = .int .i64 1 := by (refine congrArg (Value.int .i64) ?_; have hF : allF (dupP n X Y) n = false := (allN_bad (q := fun i => !dupP n X Y i) h1_ (by rw [h2_]; rfl)); unfold chkP; simp only [h0, h1, if_true, Bool.false_eq_true, if_false, reduceIte])
      try rw [hr]
      exact run_know (P := Try.prog) (ρ := env [(n : Int)] [(.slice a n c)] w) (o := { bin := [(.gtr, 3, .int .i64 (sn 0), .int .i64 64, .bool false), (.lss, 3, .int .i64 (sn 0), .int .i64 3, .bool true)], lens := [(false, oq 0, .int .i64 (sn 0))] }) ⟨(all_cons (cmpOK (op := .gtr) (ty := 3) (k := .i64) (n := (sn 0)) (m := 64) (t := false) (a := (n : Int)) (b := 64) (by kernel_rfl) (by kernel_rfl) (congrArg some ((gt_of_le h0)))) (all_cons (cmpOK (op := .lss) (ty := 3) (k := .i64) (n := (sn 0)) (m := 3) (t := true) (a := (n : Int)) (b := 3) (by kernel_rfl) (by kernel_rfl) (congrArg some ((lt_c h1 rfl)))) all_nil)), all_nil, all_nil, all_nil, all_nil, all_nil, all_nil, all_nil, all_nil, all_nil, (all_cons (lenOK (i := 0) (r := (sn 0)) (a := a) (c := c) rfl (by kernel_rfl)) all_nil), all_nil, all_nil, all_nil, all_nil, all_nil, all_nil, all_nil⟩ 1000 50 52 [oq 0, .slice none 0 0] (.int .i64 1) (args' := #[(.slice a n c), .slice none 0 0]) (v' := .int .i64 1) (by kernel_rfl) (by kernel_rfl) (by kernel_rfl) w (Below.refl _ _)
theorem cw_any (a : Option Addr) (n c : Nat) (X Y : Nat → Int) (ptr : Nat → Addr) (w : World) (hn0 : n ≤ 1000000000000) (hS : Sl Try.prog w (.slice a n c) n 22 60 (fun k => .agg #[.int .i64 (X k), .int .i64 (Y k)]) ptr) (hP : Sl Try.prog w (.slice a n c) n 23 60 (fun k => .agg #[.int .i64 (X k), .int .i64 (Y k)]) ptr) : Calls Try.prog 52 #[(.slice a n c), .slice none 0 0] w fun e w' => e = .returned (.int .i64 (chkP n X Y)) ∧ Below w.heap.size w w' := by
  rcases least_fail (fun i => !dupP n X Y i) n with h | ⟨K, h1, h2, h3⟩
  · exact cw_done a n c X Y ptr w hn0 hS hP (fun i hi => by simpa using h i hi)
  · exact cw_bad a n c X Y ptr w hn0 hS hP K h1 (by simpa using h2) (fun i hi => by simpa using h3 i hi)
theorem pcheck_any (a : Option Addr) (n c : Nat) (X Y : Nat → Int) (ptr : Nat → Addr) (w : World) (hn0 : n ≤ 1000000000000) (hS : Sl Try.prog w (.slice a n c) n 22 60 (fun k => .agg #[.int .i64 (X k), .int .i64 (Y k)]) ptr) (hP : Sl Try.prog w (.slice a n c) n 23 60 (fun k => .agg #[.int .i64 (X k), .int .i64 (Y k)]) ptr) : Calls Try.prog 38 #[(.slice a n c)] w fun e w' => e = .returned (.int .i64 (chkP n X Y)) ∧ Below w.heap.size w w' := by
  exact run_know (P := Try.prog) (ρ := env [(chkP n X Y)] [(.slice a n c)] w) (o := { calls := [(52, [oq 0, .slice none 0 0], sy 0)] }) ⟨all_nil, all_nil, all_nil, all_nil, (all_cons (callOKb (f := 52) (args := [oq 0, .slice none 0 0]) (v := sy 0) (args' := #[(.slice a n c), .slice none 0 0]) (v' := .int .i64 (chkP n X Y)) (by kernel_rfl) (by kernel_rfl) (by kernel_rfl) (fun w1 hw1 => cw_any a n c X Y ptr w1 hn0 (hS.mono hw1) (hP.mono hw1))) all_nil), all_nil, all_nil, all_nil, all_nil, all_nil, all_nil, all_nil, all_nil, all_nil, all_nil, all_nil, all_nil, all_nil⟩ 1000 50 38 [oq 0] (sy 0) (args' := #[(.slice a n c)]) (v' := .int .i64 (chkP n X Y)) (by kernel_rfl) (by kernel_rfl) (by kernel_rfl) w (Below.refl _ _)
def cmpI (x y : Int) : Int := if x < y then -1 else if y < x then 1 else 0
def turnI (ax ay bx bY cx cy : Int) : Int := cmpI ((bx - ax) * (cy - ay)) ((bY - ay) * (cx - ax))
theorem cancel_nonneg {u s : Int} (hu : 0 < u) (h : 0 ≤ u * s) : 0 ≤ s := by
  by_cases hs : 0 ≤ s
  · exact hs
  · have := Int.mul_pos hu (show 0 < -s by omega)
    rw [Int.mul_neg] at this
    omega
theorem between {u v t s : Int} (hu : 0 < u) (e : u * s = v * t) (h0 : 0 ≤ t) (h1 : t ≤ u) : (0 ≤ v → 0 ≤ s ∧ s ≤ v) ∧ (v ≤ 0 → v ≤ s ∧ s ≤ 0) := by
  have e2 : u * (v - s) = v * (u - t) := by rw [Int.mul_sub, e, Int.mul_sub, Int.mul_comm u v]
  constructor
  · intro hv
    have a := cancel_nonneg hu (show 0 ≤ u * s by rw [e]; exact Int.mul_nonneg hv h0)
    have b := cancel_nonneg hu (show 0 ≤ u * (v - s) by rw [e2]; exact Int.mul_nonneg hv (by omega))
    omega
  · intro hv
    have a := cancel_nonneg hu (show 0 ≤ u * (-s) by rw [Int.mul_neg, e, ← Int.neg_mul]; exact Int.mul_nonneg (by omega) h0)
    have b := cancel_nonneg hu (show 0 ≤ u * (-(v - s)) by rw [Int.mul_neg, e2, ← Int.neg_mul]; exact Int.mul_nonneg (by omega) (by omega))
    omega
theorem edge {u v t s : Int} (hu : 0 < u) (e : u * s = v * t) : (t = 0 → s = 0) ∧ (t = u → s = v) := by
  constructor
  · intro h
    have := between hu e (by omega) (by omega)
    have := between (u := u) (v := -v) (t := t) (s := -s) hu (by rw [Int.mul_neg, e, Int.neg_mul]) (by omega) (by omega)
    subst h
    rw [Int.mul_zero] at e
    rcases Int.mul_eq_zero.1 e with h | h <;> omega
  · intro h
    have e2 : u * (v - s) = 0 := by rw [Int.mul_sub, e, h, Int.mul_comm u v]; omega
    rcases Int.mul_eq_zero.1 e2 with h | h <;> omega
theorem cmpI_pos {x y : Int} : cmpI x y = 1 ↔ y < x := by unfold cmpI; split <;> (try split) <;> constructor <;> intro <;> omega
theorem okC_bd {x : Int} (h : okC x = true) : bd (-1000000) 1000000 x := by simp only [okC, Bool.and_eq_true, decide_eq_true_eq] at h; exact ⟨by omega, by omega⟩
theorem allN_get {q : Nat → Bool} {n k : Nat} (h : allN q n = true) (hk : k < n) : q k = true := by
  simp only [allN, List.all_eq_true, List.mem_range] at h; exact h k hk
theorem hX_of {n : Nat} {X Y : Nat → Int} (h : allN (okP X Y) n = true) : ∀ k, k < n → bd (-1000000) 1000000 (X k) ∧ bd (-1000000) 1000000 (Y k) := by
  intro k hk
  have q := allN_get h hk
  simp only [okP, Bool.and_eq_true] at q
  exact ⟨okC_bd q.1, okC_bd q.2⟩
theorem nx2_lt {n i : Nat} (h : 0 < n) : (i + 2) % n < n := Nat.mod_lt _ h
theorem nx2_rem {n i : Nat} (h : 0 < n) : Int.tmod ((i : Int) + 2) (n : Int) = (((i + 2) % n : Nat) : Int) := by
  rw [Int.tmod_eq_emod_of_nonneg (by omega)]
  rw [show ((i : Int) + 2) = ((i + 2 : Nat) : Int) from rfl]
  exact (Int.natCast_emod _ _).symm
theorem turn_any (ax ay bx bY cx cy : Int) (w : World) (h_ax : bd (-1000000) 1000000 ax) (h_ay : bd (-1000000) 1000000 ay) (h_bx : bd (-1000000) 1000000 bx) (h_bY : bd (-1000000) 1000000 bY) (h_cx : bd (-1000000) 1000000 cx) (h_cy : bd (-1000000) 1000000 cy) : Calls Try.prog 63 #[.agg #[.int .i64 ax, .int .i64 ay], .agg #[.int .i64 bx, .int .i64 bY], .agg #[.int .i64 cx, .int .i64 cy]] w fun e w' => e = .returned (.int .i64 (turnI ax ay bx bY cx cy)) ∧ Below w.heap.size w w' := by
  rcases h0 : (decide ((((bY - ay) * (cx - ax))) ≤ (((bx - ax) * (cy - ay))))) with _ | _
  · have bq0 : bd (-2000000) 2000000 (bx - ax) := bd_sub h_bx h_ax rfl
    have bq1 : bd (-2000000) 2000000 (cy - ay) := bd_sub h_cy h_ay rfl
    have bq2 : bd (-4000000000000) 4000000000000 (((bx - ax) * (cy - ay))) := bd_mul bq0 bq1 2000000 2000000 rfl
    have bq3 : bd (-2000000) 2000000 (bY - ay) := bd_sub h_bY h_ay rfl
    have bq4 : bd (-2000000) 2000000 (cx - ax) := bd_sub h_cx h_ax rfl
    have bq5 : bd (-4000000000000) 4000000000000 (((bY - ay) * (cx - ax))) := bd_mul bq3 bq4 2000000 2000000 rfl
    have hr : (.int .i64 (turnI ax ay bx bY cx cy) : Value) = .int .i64 (-1) := by (clear w; refine congrArg (Value.int .i64) ?_; simp only [decide_eq_true_eq, decide_eq_false_iff_not, beq_iff_eq, beq_eq_false_iff_ne, ne_eq] at *; unfold turnI cmpI; (repeat' split) <;> omega)
    try rw [hr]
    exact run_know (P := Try.prog) (ρ := env [ax, ay, bx, bY, cx, cy, (bx - ax), (cy - ay), ((bx - ax) * (cy - ay)), (bY - ay), (cx - ax), ((bY - ay) * (cx - ax))] [] w) (o := { bin := [(.sub, 3, .int .i64 (sn 2), .int .i64 (sn 0), .int .i64 (sn 6)), (.sub, 3, .int .i64 (sn 5), .int .i64 (sn 1), .int .i64 (sn 7)), (.mul, 2, .int .i64 (sn 6), .int .i64 (sn 7), .int .i64 (sn 8)), (.sub, 3, .int .i64 (sn 3), .int .i64 (sn 1), .int .i64 (sn 9)), (.sub, 3, .int .i64 (sn 4), .int .i64 (sn 0), .int .i64 (sn 10)), (.mul, 2, .int .i64 (sn 9), .int .i64 (sn 10), .int .i64 (sn 11)), (.neq, 2, .int .i64 (sn 8), .int .i64 (sn 8), .bool false), (.neq, 2, .int .i64 (sn 11), .int .i64 (sn 11), .bool false), (.lss, 2, .int .i64 (sn 8), .int .i64 (sn 11), .bool true)], conv := [(3, 2, sy 6, sy 6), (3, 2, sy 7, sy 7), (3, 2, sy 9, sy 9), (3, 2, sy 10, sy 10)] }) ⟨(all_cons (arOK (op := .sub) (ty := 3) (k := .i64) (n := (sn 2)) (m := (sn 0)) (r := (sn 6)) (a := bx) (b := ax) (c := (bx - ax)) (d := bx - ax) (by kernel_rfl) (by kernel_rfl) (by kernel_rfl) rfl (wr_bd bq0 rfl)) (all_cons (arOK (op := .sub) (ty := 3) (k := .i64) (n := (sn 5)) (m := (sn 1)) (r := (sn 7)) (a := cy) (b := ay) (c := (cy - ay)) (d := cy - ay) (by kernel_rfl) (by kernel_rfl) (by kernel_rfl) rfl (wr_bd bq1 rfl)) (all_cons (arOK (op := .mul) (ty := 2) (k := .i64) (n := (sn 6)) (m := (sn 7)) (r := (sn 8)) (a := (bx - ax)) (b := (cy - ay)) (c := (((bx - ax) * (cy - ay)))) (d := (bx - ax) * (cy - ay)) (by kernel_rfl) (by kernel_rfl) (by kernel_rfl) rfl (wr_bd bq2 rfl)) (all_cons (arOK (op := .sub) (ty := 3) (k := .i64) (n := (sn 3)) (m := (sn 1)) (r := (sn 9)) (a := bY) (b := ay) (c := (bY - ay)) (d := bY - ay) (by kernel_rfl) (by kernel_rfl) (by kernel_rfl) rfl (wr_bd bq3 rfl)) (all_cons (arOK (op := .sub) (ty := 3) (k := .i64) (n := (sn 4)) (m := (sn 0)) (r := (sn 10)) (a := cx) (b := ax) (c := (cx - ax)) (d := cx - ax) (by kernel_rfl) (by kernel_rfl) (by kernel_rfl) rfl (wr_bd bq4 rfl)) (all_cons (arOK (op := .mul) (ty := 2) (k := .i64) (n := (sn 9)) (m := (sn 10)) (r := (sn 11)) (a := (bY - ay)) (b := (cx - ax)) (c := (((bY - ay) * (cx - ax)))) (d := (bY - ay) * (cx - ax)) (by kernel_rfl) (by kernel_rfl) (by kernel_rfl) rfl (wr_bd bq5 rfl)) (all_cons (cmpOK (op := .neq) (ty := 2) (k := .i64) (n := (sn 8)) (m := (sn 8)) (t := false) (a := (((bx - ax) * (cy - ay)))) (b := (((bx - ax) * (cy - ay)))) (by kernel_rfl) (by kernel_rfl) (congrArg some ((ne_of (show ((((bx - ax) * (cy - ay))) == (((bx - ax) * (cy - ay)))) = true by simp))))) (all_cons (cmpOK (op := .neq) (ty := 2) (k := .i64) (n := (sn 11)) (m := (sn 11)) (t := false) (a := (((bY - ay) * (cx - ax)))) (b := (((bY - ay) * (cx - ax)))) (by kernel_rfl) (by kernel_rfl) (congrArg some ((ne_of (show ((((bY - ay) * (cx - ax))) == (((bY - ay) * (cx - ax)))) = true by simp))))) (all_cons (cmpOK (op := .lss) (ty := 2) (k := .i64) (n := (sn 8)) (m := (sn 11)) (t := true) (a := (((bx - ax) * (cy - ay)))) (b := (((bY - ay) * (cx - ax)))) (by kernel_rfl) (by kernel_rfl) (congrArg some ((lt_of_le h0)))) all_nil))))))))), all_nil, (all_cons (convOK (s := 3) (d := 2) (ds := .int .i64) (k := .i64) (l := .i64) (n := (sn 6)) (r := (sn 6)) (a := (bx - ax)) (c := (bx - ax)) (by kernel_rfl) (by kernel_rfl) (by kernel_rfl) (by kernel_rfl) (wr_bd bq0 rfl)) (all_cons (convOK (s := 3) (d := 2) (ds := .int .i64) (k := .i64) (l := .i64) (n := (sn 7)) (r := (sn 7)) (a := (cy - ay)) (c := (cy - ay)) (by kernel_rfl) (by kernel_rfl) (by kernel_rfl) (by kernel_rfl) (wr_bd bq1 rfl)) (all_cons (convOK (s := 3) (d := 2) (ds := .int .i64) (k := .i64) (l := .i64) (n := (sn 9)) (r := (sn 9)) (a := (bY - ay)) (c := (bY - ay)) (by kernel_rfl) (by kernel_rfl) (by kernel_rfl) (by kernel_rfl) (wr_bd bq3 rfl)) (all_cons (convOK (s := 3) (d := 2) (ds := .int .i64) (k := .i64) (l := .i64) (n := (sn 10)) (r := (sn 10)) (a := (cx - ax)) (c := (cx - ax)) (by kernel_rfl) (by kernel_rfl) (by kernel_rfl) (by kernel_rfl) (wr_bd bq4 rfl)) all_nil)))), all_nil, all_nil, all_nil, all_nil, all_nil, all_nil, all_nil, all_nil, all_nil, all_nil, all_nil, all_nil, all_nil, all_nil, all_nil⟩ 1000 50 63 [.agg #[sy 0, sy 1], .agg #[sy 2, sy 3], .agg #[sy 4, sy 5]] (.int .i64 (-1)) (args' := #[.agg #[.int .i64 ax, .int .i64 ay], .agg #[.int .i64 bx, .int .i64 bY], .agg #[.int .i64 cx, .int .i64 cy]]) (v' := .int .i64 (-1)) (by kernel_rfl) (by kernel_rfl) (by kernel_rfl) w (Below.refl _ _)
  · rcases h1 : (decide ((((bx - ax) * (cy - ay))) ≤ (((bY - ay) * (cx - ax))))) with _ | _
    · have bq0 : bd (-2000000) 2000000 (bx - ax) := bd_sub h_bx h_ax rfl
      have bq1 : bd (-2000000) 2000000 (cy - ay) := bd_sub h_cy h_ay rfl
      have bq2 : bd (-4000000000000) 4000000000000 (((bx - ax) * (cy - ay))) := bd_mul bq0 bq1 2000000 2000000 rfl
      have bq3 : bd (-2000000) 2000000 (bY - ay) := bd_sub h_bY h_ay rfl
      have bq4 : bd (-2000000) 2000000 (cx - ax) := bd_sub h_cx h_ax rfl
      have bq5 : bd (-4000000000000) 4000000000000 (((bY - ay) * (cx - ax))) := bd_mul bq3 bq4 2000000 2000000 rfl
      have hr : (.int .i64 (turnI ax ay bx bY cx cy) : Value) = .int .i64 1 := by (clear w; refine congrArg (Value.int .i64) ?_; simp only [decide_eq_true_eq, decide_eq_false_iff_not, beq_iff_eq, beq_eq_false_iff_ne, ne_eq] at *; unfold turnI cmpI; (repeat' split) <;> omega)
      try rw [hr]
      exact run_know (P := Try.prog) (ρ := env [ax, ay, bx, bY, cx, cy, (bx - ax), (cy - ay), ((bx - ax) * (cy - ay)), (bY - ay), (cx - ax), ((bY - ay) * (cx - ax))] [] w) (o := { bin := [(.sub, 3, .int .i64 (sn 2), .int .i64 (sn 0), .int .i64 (sn 6)), (.sub, 3, .int .i64 (sn 5), .int .i64 (sn 1), .int .i64 (sn 7)), (.mul, 2, .int .i64 (sn 6), .int .i64 (sn 7), .int .i64 (sn 8)), (.sub, 3, .int .i64 (sn 3), .int .i64 (sn 1), .int .i64 (sn 9)), (.sub, 3, .int .i64 (sn 4), .int .i64 (sn 0), .int .i64 (sn 10)), (.mul, 2, .int .i64 (sn 9), .int .i64 (sn 10), .int .i64 (sn 11)), (.neq, 2, .int .i64 (sn 8), .int .i64 (sn 8), .bool false), (.neq, 2, .int .i64 (sn 11), .int .i64 (sn 11), .bool false), (.lss, 2, .int .i64 (sn 8), .int .i64 (sn 11), .bool false), (.gtr, 2, .int .i64 (sn 8), .int .i64 (sn 11), .bool true)], conv := [(3, 2, sy 6, sy 6), (3, 2, sy 7, sy 7), (3, 2, sy 9, sy 9), (3, 2, sy 10, sy 10)] }) ⟨(all_cons (arOK (op := .sub) (ty := 3) (k := .i64) (n := (sn 2)) (m := (sn 0)) (r := (sn 6)) (a := bx) (b := ax) (c := (bx - ax)) (d := bx - ax) (by kernel_rfl) (by kernel_rfl) (by kernel_rfl) rfl (wr_bd bq0 rfl)) (all_cons (arOK (op := .sub) (ty := 3) (k := .i64) (n := (sn 5)) (m := (sn 1)) (r := (sn 7)) (a := cy) (b := ay) (c := (cy - ay)) (d := cy - ay) (by kernel_rfl) (by kernel_rfl) (by kernel_rfl) rfl (wr_bd bq1 rfl)) (all_cons (arOK (op := .mul) (ty := 2) (k := .i64) (n := (sn 6)) (m := (sn 7)) (r := (sn 8)) (a := (bx - ax)) (b := (cy - ay)) (c := (((bx - ax) * (cy - ay)))) (d := (bx - ax) * (cy - ay)) (by kernel_rfl) (by kernel_rfl) (by kernel_rfl) rfl (wr_bd bq2 rfl)) (all_cons (arOK (op := .sub) (ty := 3) (k := .i64) (n := (sn 3)) (m := (sn 1)) (r := (sn 9)) (a := bY) (b := ay) (c := (bY - ay)) (d := bY - ay) (by kernel_rfl) (by kernel_rfl) (by kernel_rfl) rfl (wr_bd bq3 rfl)) (all_cons (arOK (op := .sub) (ty := 3) (k := .i64) (n := (sn 4)) (m := (sn 0)) (r := (sn 10)) (a := cx) (b := ax) (c := (cx - ax)) (d := cx - ax) (by kernel_rfl) (by kernel_rfl) (by kernel_rfl) rfl (wr_bd bq4 rfl)) (all_cons (arOK (op := .mul) (ty := 2) (k := .i64) (n := (sn 9)) (m := (sn 10)) (r := (sn 11)) (a := (bY - ay)) (b := (cx - ax)) (c := (((bY - ay) * (cx - ax)))) (d := (bY - ay) * (cx - ax)) (by kernel_rfl) (by kernel_rfl) (by kernel_rfl) rfl (wr_bd bq5 rfl)) (all_cons (cmpOK (op := .neq) (ty := 2) (k := .i64) (n := (sn 8)) (m := (sn 8)) (t := false) (a := (((bx - ax) * (cy - ay)))) (b := (((bx - ax) * (cy - ay)))) (by kernel_rfl) (by kernel_rfl) (congrArg some ((ne_of (show ((((bx - ax) * (cy - ay))) == (((bx - ax) * (cy - ay)))) = true by simp))))) (all_cons (cmpOK (op := .neq) (ty := 2) (k := .i64) (n := (sn 11)) (m := (sn 11)) (t := false) (a := (((bY - ay) * (cx - ax)))) (b := (((bY - ay) * (cx - ax)))) (by kernel_rfl) (by kernel_rfl) (congrArg some ((ne_of (show ((((bY - ay) * (cx - ax))) == (((bY - ay) * (cx - ax)))) = true by simp))))) (all_cons (cmpOK (op := .lss) (ty := 2) (k := .i64) (n := (sn 8)) (m := (sn 11)) (t := false) (a := (((bx - ax) * (cy - ay)))) (b := (((bY - ay) * (cx - ax)))) (by kernel_rfl) (by kernel_rfl) (congrArg some ((lt_of_le h0)))) (all_cons (cmpOK (op := .gtr) (ty := 2) (k := .i64) (n := (sn 8)) (m := (sn 11)) (t := true) (a := (((bx - ax) * (cy - ay)))) (b := (((bY - ay) * (cx - ax)))) (by kernel_rfl) (by kernel_rfl) (congrArg some ((gt_of_le h1)))) all_nil)))))))))), all_nil, (all_cons (convOK (s := 3) (d := 2) (ds := .int .i64) (k := .i64) (l := .i64) (n := (sn 6)) (r := (sn 6)) (a := (bx - ax)) (c := (bx - ax)) (by kernel_rfl) (by kernel_rfl) (by kernel_rfl) (by kernel_rfl) (wr_bd bq0 rfl)) (all_cons (convOK (s := 3) (d := 2) (ds := .int .i64) (k := .i64) (l := .i64) (n := (sn 7)) (r := (sn 7)) (a := (cy - ay)) (c := (cy - ay)) (by kernel_rfl) (by kernel_rfl) (by kernel_rfl) (by kernel_rfl) (wr_bd bq1 rfl)) (all_cons (convOK (s := 3) (d := 2) (ds := .int .i64) (k := .i64) (l := .i64) (n := (sn 9)) (r := (sn 9)) (a := (bY - ay)) (c := (bY - ay)) (by kernel_rfl) (by kernel_rfl) (by kernel_rfl) (by kernel_rfl) (wr_bd bq3 rfl)) (all_cons (convOK (s := 3) (d := 2) (ds := .int .i64) (k := .i64) (l := .i64) (n := (sn 10)) (r := (sn 10)) (a := (cx - ax)) (c := (cx - ax)) (by kernel_rfl) (by kernel_rfl) (by kernel_rfl) (by kernel_rfl) (wr_bd bq4 rfl)) all_nil)))), all_nil, all_nil, all_nil, all_nil, all_nil, all_nil, all_nil, all_nil, all_nil, all_nil, all_nil, all_nil, all_nil, all_nil, all_nil⟩ 1000 50 63 [.agg #[sy 0, sy 1], .agg #[sy 2, sy 3], .agg #[sy 4, sy 5]] (.int .i64 1) (args' := #[.agg #[.int .i64 ax, .int .i64 ay], .agg #[.int .i64 bx, .int .i64 bY], .agg #[.int .i64 cx, .int .i64 cy]]) (v' := .int .i64 1) (by kernel_rfl) (by kernel_rfl) (by kernel_rfl) w (Below.refl _ _)
    · have bq0 : bd (-2000000) 2000000 (bx - ax) := bd_sub h_bx h_ax rfl
      have bq1 : bd (-2000000) 2000000 (cy - ay) := bd_sub h_cy h_ay rfl
      have bq2 : bd (-4000000000000) 4000000000000 (((bx - ax) * (cy - ay))) := bd_mul bq0 bq1 2000000 2000000 rfl
      have bq3 : bd (-2000000) 2000000 (bY - ay) := bd_sub h_bY h_ay rfl
      have bq4 : bd (-2000000) 2000000 (cx - ax) := bd_sub h_cx h_ax rfl
      have bq5 : bd (-4000000000000) 4000000000000 (((bY - ay) * (cx - ax))) := bd_mul bq3 bq4 2000000 2000000 rfl
      have hr : (.int .i64 (turnI ax ay bx bY cx cy) : Value) = .int .i64 0 := by (clear w; refine congrArg (Value.int .i64) ?_; simp only [decide_eq_true_eq, decide_eq_false_iff_not, beq_iff_eq, beq_eq_false_iff_ne, ne_eq] at *; unfold turnI cmpI; (repeat' split) <;> omega)
      try rw [hr]
      exact run_know (P := Try.prog) (ρ := env [ax, ay, bx, bY, cx, cy, (bx - ax), (cy - ay), ((bx - ax) * (cy - ay)), (bY - ay), (cx - ax), ((bY - ay) * (cx - ax))] [] w) (o := { bin := [(.sub, 3, .int .i64 (sn 2), .int .i64 (sn 0), .int .i64 (sn 6)), (.sub, 3, .int .i64 (sn 5), .int .i64 (sn 1), .int .i64 (sn 7)), (.mul, 2, .int .i64 (sn 6), .int .i64 (sn 7), .int .i64 (sn 8)), (.sub, 3, .int .i64 (sn 3), .int .i64 (sn 1), .int .i64 (sn 9)), (.sub, 3, .int .i64 (sn 4), .int .i64 (sn 0), .int .i64 (sn 10)), (.mul, 2, .int .i64 (sn 9), .int .i64 (sn 10), .int .i64 (sn 11)), (.neq, 2, .int .i64 (sn 8), .int .i64 (sn 8), .bool false), (.neq, 2, .int .i64 (sn 11), .int .i64 (sn 11), .bool false), (.lss, 2, .int .i64 (sn 8), .int .i64 (sn 11), .bool false), (.gtr, 2, .int .i64 (sn 8), .int .i64 (sn 11), .bool false)], conv := [(3, 2, sy 6, sy 6), (3, 2, sy 7, sy 7), (3, 2, sy 9, sy 9), (3, 2, sy 10, sy 10)] }) ⟨(all_cons (arOK (op := .sub) (ty := 3) (k := .i64) (n := (sn 2)) (m := (sn 0)) (r := (sn 6)) (a := bx) (b := ax) (c := (bx - ax)) (d := bx - ax) (by kernel_rfl) (by kernel_rfl) (by kernel_rfl) rfl (wr_bd bq0 rfl)) (all_cons (arOK (op := .sub) (ty := 3) (k := .i64) (n := (sn 5)) (m := (sn 1)) (r := (sn 7)) (a := cy) (b := ay) (c := (cy - ay)) (d := cy - ay) (by kernel_rfl) (by kernel_rfl) (by kernel_rfl) rfl (wr_bd bq1 rfl)) (all_cons (arOK (op := .mul) (ty := 2) (k := .i64) (n := (sn 6)) (m := (sn 7)) (r := (sn 8)) (a := (bx - ax)) (b := (cy - ay)) (c := (((bx - ax) * (cy - ay)))) (d := (bx - ax) * (cy - ay)) (by kernel_rfl) (by kernel_rfl) (by kernel_rfl) rfl (wr_bd bq2 rfl)) (all_cons (arOK (op := .sub) (ty := 3) (k := .i64) (n := (sn 3)) (m := (sn 1)) (r := (sn 9)) (a := bY) (b := ay) (c := (bY - ay)) (d := bY - ay) (by kernel_rfl) (by kernel_rfl) (by kernel_rfl) rfl (wr_bd bq3 rfl)) (all_cons (arOK (op := .sub) (ty := 3) (k := .i64) (n := (sn 4)) (m := (sn 0)) (r := (sn 10)) (a := cx) (b := ax) (c := (cx - ax)) (d := cx - ax) (by kernel_rfl) (by kernel_rfl) (by kernel_rfl) rfl (wr_bd bq4 rfl)) (all_cons (arOK (op := .mul) (ty := 2) (k := .i64) (n := (sn 9)) (m := (sn 10)) (r := (sn 11)) (a := (bY - ay)) (b := (cx - ax)) (c := (((bY - ay) * (cx - ax)))) (d := (bY - ay) * (cx - ax)) (by kernel_rfl) (by kernel_rfl) (by kernel_rfl) rfl (wr_bd bq5 rfl)) (all_cons (cmpOK (op := .neq) (ty := 2) (k := .i64) (n := (sn 8)) (m := (sn 8)) (t := false) (a := (((bx - ax) * (cy - ay)))) (b := (((bx - ax) * (cy - ay)))) (by kernel_rfl) (by kernel_rfl) (congrArg some ((ne_of (show ((((bx - ax) * (cy - ay))) == (((bx - ax) * (cy - ay)))) = true by simp))))) (all_cons (cmpOK (op := .neq) (ty := 2) (k := .i64) (n := (sn 11)) (m := (sn 11)) (t := false) (a := (((bY - ay) * (cx - ax)))) (b := (((bY - ay) * (cx - ax)))) (by kernel_rfl) (by kernel_rfl) (congrArg some ((ne_of (show ((((bY - ay) * (cx - ax))) == (((bY - ay) * (cx - ax)))) = true by simp))))) (all_cons (cmpOK (op := .lss) (ty := 2) (k := .i64) (n := (sn 8)) (m := (sn 11)) (t := false) (a := (((bx - ax) * (cy - ay)))) (b := (((bY - ay) * (cx - ax)))) (by kernel_rfl) (by kernel_rfl) (congrArg some ((lt_of_le h0)))) (all_cons (cmpOK (op := .gtr) (ty := 2) (k := .i64) (n := (sn 8)) (m := (sn 11)) (t := false) (a := (((bx - ax) * (cy - ay)))) (b := (((bY - ay) * (cx - ax)))) (by kernel_rfl) (by kernel_rfl) (congrArg some ((gt_of_le h1)))) all_nil)))))))))), all_nil, (all_cons (convOK (s := 3) (d := 2) (ds := .int .i64) (k := .i64) (l := .i64) (n := (sn 6)) (r := (sn 6)) (a := (bx - ax)) (c := (bx - ax)) (by kernel_rfl) (by kernel_rfl) (by kernel_rfl) (by kernel_rfl) (wr_bd bq0 rfl)) (all_cons (convOK (s := 3) (d := 2) (ds := .int .i64) (k := .i64) (l := .i64) (n := (sn 7)) (r := (sn 7)) (a := (cy - ay)) (c := (cy - ay)) (by kernel_rfl) (by kernel_rfl) (by kernel_rfl) (by kernel_rfl) (wr_bd bq1 rfl)) (all_cons (convOK (s := 3) (d := 2) (ds := .int .i64) (k := .i64) (l := .i64) (n := (sn 9)) (r := (sn 9)) (a := (bY - ay)) (c := (bY - ay)) (by kernel_rfl) (by kernel_rfl) (by kernel_rfl) (by kernel_rfl) (wr_bd bq3 rfl)) (all_cons (convOK (s := 3) (d := 2) (ds := .int .i64) (k := .i64) (l := .i64) (n := (sn 10)) (r := (sn 10)) (a := (cx - ax)) (c := (cx - ax)) (by kernel_rfl) (by kernel_rfl) (by kernel_rfl) (by kernel_rfl) (wr_bd bq4 rfl)) all_nil)))), all_nil, all_nil, all_nil, all_nil, all_nil, all_nil, all_nil, all_nil, all_nil, all_nil, all_nil, all_nil, all_nil, all_nil, all_nil⟩ 1000 50 63 [.agg #[sy 0, sy 1], .agg #[sy 2, sy 3], .agg #[sy 4, sy 5]] (.int .i64 0) (args' := #[.agg #[.int .i64 ax, .int .i64 ay], .agg #[.int .i64 bx, .int .i64 bY], .agg #[.int .i64 cx, .int .i64 cy]]) (v' := .int .i64 0) (by kernel_rfl) (by kernel_rfl) (by kernel_rfl) w (Below.refl _ _)
theorem porient_any (ax ay bx bY cx cy : Int) (w : World) (h_ax : bd (-1000000) 1000000 ax) (h_ay : bd (-1000000) 1000000 ay) (h_bx : bd (-1000000) 1000000 bx) (h_bY : bd (-1000000) 1000000 bY) (h_cx : bd (-1000000) 1000000 cx) (h_cy : bd (-1000000) 1000000 cy) : Calls Try.prog 53 #[.agg #[.int .i64 ax, .int .i64 ay], .agg #[.int .i64 bx, .int .i64 bY], .agg #[.int .i64 cx, .int .i64 cy]] w fun e w' => e = .returned (.int .i64 (turnI ax ay bx bY cx cy)) ∧ Below w.heap.size w w' := by
  exact run_know (P := Try.prog) (ρ := env [ax, ay, bx, bY, cx, cy, (turnI ax ay bx bY cx cy)] [] w) (o := { bin := [(.lss, 3, .int .i64 (sn 0), .int .i64 (-1000000), .bool false), (.gtr, 3, .int .i64 (sn 0), .int .i64 1000000, .bool false), (.lss, 3, .int .i64 (sn 1), .int .i64 (-1000000), .bool false), (.gtr, 3, .int .i64 (sn 1), .int .i64 1000000, .bool false), (.lss, 3, .int .i64 (sn 2), .int .i64 (-1000000), .bool false), (.gtr, 3, .int .i64 (sn 2), .int .i64 1000000, .bool false), (.lss, 3, .int .i64 (sn 3), .int .i64 (-1000000), .bool false), (.gtr, 3, .int .i64 (sn 3), .int .i64 1000000, .bool false), (.lss, 3, .int .i64 (sn 4), .int .i64 (-1000000), .bool false), (.gtr, 3, .int .i64 (sn 4), .int .i64 1000000, .bool false), (.lss, 3, .int .i64 (sn 5), .int .i64 (-1000000), .bool false), (.gtr, 3, .int .i64 (sn 5), .int .i64 1000000, .bool false)], calls := [(63, [.agg #[sy 0, sy 1], .agg #[sy 2, sy 3], .agg #[sy 4, sy 5]], sy 6)] }) ⟨(all_cons (cmpOK (op := .lss) (ty := 3) (k := .i64) (n := (sn 0)) (m := (-1000000)) (t := false) (a := ax) (b := (-1000000)) (by kernel_rfl) (by kernel_rfl) (congrArg some ((lt_c (show decide (ax ≤ (-1000001)) = false by have q0 := h_ax; simp only [decide_eq_false_iff_not]; omega) rfl)))) (all_cons (cmpOK (op := .gtr) (ty := 3) (k := .i64) (n := (sn 0)) (m := 1000000) (t := false) (a := ax) (b := 1000000) (by kernel_rfl) (by kernel_rfl) (congrArg some ((gt_of_le (show decide (ax ≤ 1000000) = true by have q0 := h_ax; simp only [decide_eq_true_eq]; omega))))) (all_cons (cmpOK (op := .lss) (ty := 3) (k := .i64) (n := (sn 1)) (m := (-1000000)) (t := false) (a := ay) (b := (-1000000)) (by kernel_rfl) (by kernel_rfl) (congrArg some ((lt_c (show decide (ay ≤ (-1000001)) = false by have q0 := h_ay; simp only [decide_eq_false_iff_not]; omega) rfl)))) (all_cons (cmpOK (op := .gtr) (ty := 3) (k := .i64) (n := (sn 1)) (m := 1000000) (t := false) (a := ay) (b := 1000000) (by kernel_rfl) (by kernel_rfl) (congrArg some ((gt_of_le (show decide (ay ≤ 1000000) = true by have q0 := h_ay; simp only [decide_eq_true_eq]; omega))))) (all_cons (cmpOK (op := .lss) (ty := 3) (k := .i64) (n := (sn 2)) (m := (-1000000)) (t := false) (a := bx) (b := (-1000000)) (by kernel_rfl) (by kernel_rfl) (congrArg some ((lt_c (show decide (bx ≤ (-1000001)) = false by have q0 := h_bx; simp only [decide_eq_false_iff_not]; omega) rfl)))) (all_cons (cmpOK (op := .gtr) (ty := 3) (k := .i64) (n := (sn 2)) (m := 1000000) (t := false) (a := bx) (b := 1000000) (by kernel_rfl) (by kernel_rfl) (congrArg some ((gt_of_le (show decide (bx ≤ 1000000) = true by have q0 := h_bx; simp only [decide_eq_true_eq]; omega))))) (all_cons (cmpOK (op := .lss) (ty := 3) (k := .i64) (n := (sn 3)) (m := (-1000000)) (t := false) (a := bY) (b := (-1000000)) (by kernel_rfl) (by kernel_rfl) (congrArg some ((lt_c (show decide (bY ≤ (-1000001)) = false by have q0 := h_bY; simp only [decide_eq_false_iff_not]; omega) rfl)))) (all_cons (cmpOK (op := .gtr) (ty := 3) (k := .i64) (n := (sn 3)) (m := 1000000) (t := false) (a := bY) (b := 1000000) (by kernel_rfl) (by kernel_rfl) (congrArg some ((gt_of_le (show decide (bY ≤ 1000000) = true by have q0 := h_bY; simp only [decide_eq_true_eq]; omega))))) (all_cons (cmpOK (op := .lss) (ty := 3) (k := .i64) (n := (sn 4)) (m := (-1000000)) (t := false) (a := cx) (b := (-1000000)) (by kernel_rfl) (by kernel_rfl) (congrArg some ((lt_c (show decide (cx ≤ (-1000001)) = false by have q0 := h_cx; simp only [decide_eq_false_iff_not]; omega) rfl)))) (all_cons (cmpOK (op := .gtr) (ty := 3) (k := .i64) (n := (sn 4)) (m := 1000000) (t := false) (a := cx) (b := 1000000) (by kernel_rfl) (by kernel_rfl) (congrArg some ((gt_of_le (show decide (cx ≤ 1000000) = true by have q0 := h_cx; simp only [decide_eq_true_eq]; omega))))) (all_cons (cmpOK (op := .lss) (ty := 3) (k := .i64) (n := (sn 5)) (m := (-1000000)) (t := false) (a := cy) (b := (-1000000)) (by kernel_rfl) (by kernel_rfl) (congrArg some ((lt_c (show decide (cy ≤ (-1000001)) = false by have q0 := h_cy; simp only [decide_eq_false_iff_not]; omega) rfl)))) (all_cons (cmpOK (op := .gtr) (ty := 3) (k := .i64) (n := (sn 5)) (m := 1000000) (t := false) (a := cy) (b := 1000000) (by kernel_rfl) (by kernel_rfl) (congrArg some ((gt_of_le (show decide (cy ≤ 1000000) = true by have q0 := h_cy; simp only [decide_eq_true_eq]; omega))))) all_nil)))))))))))), all_nil, all_nil, all_nil, (all_cons (callOK (f := 63) (args := [.agg #[sy 0, sy 1], .agg #[sy 2, sy 3], .agg #[sy 4, sy 5]]) (v := sy 6) (args' := #[.agg #[.int .i64 ax, .int .i64 ay], .agg #[.int .i64 bx, .int .i64 bY], .agg #[.int .i64 cx, .int .i64 cy]]) (v' := .int .i64 (turnI ax ay bx bY cx cy)) (by kernel_rfl) (by kernel_rfl) (by kernel_rfl) (fun w => turn_any ax ay bx bY cx cy w h_ax h_ay h_bx h_bY h_cx h_cy)) all_nil), all_nil, all_nil, all_nil, all_nil, all_nil, all_nil, all_nil, all_nil, all_nil, all_nil, all_nil, all_nil, all_nil⟩ 1000 50 53 [.agg #[sy 0, sy 1], .agg #[sy 2, sy 3], .agg #[sy 4, sy 5]] (sy 6) (args' := #[.agg #[.int .i64 ax, .int .i64 ay], .agg #[.int .i64 bx, .int .i64 bY], .agg #[.int .i64 cx, .int .i64 cy]]) (v' := .int .i64 (turnI ax ay bx bY cx cy)) (by kernel_rfl) (by kernel_rfl) (by kernel_rfl) w (Below.refl _ _)
def leftP (n : Nat) (X Y : Nat → Int) (i : Nat) : Bool := turnI (X i) (Y i) (X (nx n i)) (Y (nx n i)) (X ((i + 2) % n)) (Y ((i + 2) % n)) == 1
def ascP (n : Nat) (Y : Nat → Int) (i : Nat) : Bool := decide (Y (nx n i) ≤ Y i) && !decide (Y ((i + 2) % n) ≤ Y (nx n i))
def cntN (n : Nat) (X Y : Nat → Int) : Nat → Int
  | 0 => 0
  | i + 1 => if ascP n Y i = true then cntN n X Y i + 1 else cntN n X Y i
theorem cntN_bd (n : Nat) (X Y : Nat → Int) (i : Nat) : 0 ≤ cntN n X Y i ∧ cntN n X Y i ≤ i := by
  induction i with
  | zero => simp [cntN]
  | succ i ih => unfold cntN; split <;> omega
def cvt0 : Tm := [[.func (.yield 0) #[] #[], .pointer (some ⟨4, 0, none⟩), undef, anyV, anyV, oq 0, sy 0, sy 1, anyV, anyV, anyV, anyV, anyV, anyV, anyV, anyV], [anyV, anyV, anyV, anyV, anyV, anyV, anyV, anyV, anyV, anyV, anyV]]
def cvH0 : Heap := [some ⟨[.int .i64 40, .agg #[.bool false, .bool true, .bool false, .bool true, .bool true], .int .i64 0, .int .i64 0, oq 0, .pointer (some ⟨1, 0, none⟩), .pointer (some ⟨2, 0, none⟩), .pointer (some ⟨3, 0, none⟩), undef, undef, undef, oq 0, .func (.func 54) #[] #[.pointer (some ⟨4, 0, none⟩)], undef, undef, undef, undef, undef, undef, undef, undef, undef, undef, undef, undef, undef, undef, undef, undef, undef, undef, undef, undef, undef, undef, undef, undef, undef, undef, undef, undef, undef, undef, undef, undef, undef, undef, undef, undef], 1329227995784915872903807060280344576⟩, some ⟨[oq 0], 23⟩, some ⟨[.bool false], 4⟩, some ⟨[sy 2], 3⟩, some ⟨[oq 0], 23⟩]
def cvtA : Tm := [[.func (.yield 0) #[] #[], .pointer (some ⟨4, 0, none⟩), undef, undef, undef, oq 0, sy 0, .int .i64 0, undef, undef, undef, undef, undef, undef, undef, undef], [undef, undef, undef, undef, undef, undef, undef, undef, undef, undef, undef]]
def cvHA : Heap := [some ⟨[.int .i64 40, .agg #[.bool false, .bool true, .bool false, .bool true, .bool true], .int .i64 0, .int .i64 0, oq 0, .pointer (some ⟨1, 0, none⟩), .pointer (some ⟨2, 0, none⟩), .pointer (some ⟨3, 0, none⟩), undef, undef, undef, oq 0, .func (.func 54) #[] #[.pointer (some ⟨4, 0, none⟩)], undef, undef, undef, undef, undef, undef, undef, undef, undef, undef, undef, undef, undef, undef, undef, undef, undef, undef, undef, undef, undef, undef, undef, undef, undef, undef, undef, undef, undef, undef, undef, undef, undef, undef, undef, undef], 1329227995784915872903807060280344576⟩, some ⟨[oq 0], 23⟩, some ⟨[.bool false], 4⟩, some ⟨[.int .i64 0], 3⟩, some ⟨[oq 0], 23⟩]
def cvo0 : Orc := { bin := [(.lss, 3, .int .i64 (sn 1), .int .i64 (sn 0), .bool true), (.add, 3, .int .i64 (sn 1), .int .i64 1, .int .i64 (sn 5)), (.rem, 3, sy 5, sy 0, sy 6), (.add, 3, .int .i64 (sn 1), .int .i64 2, .int .i64 (sn 9)), (.rem, 3, sy 9, sy 0, sy 10), (.neq, 3, .int .i64 (sn 13), .int .i64 1, .bool true)], calls := [(53, [.agg #[sy 3, sy 4], .agg #[sy 7, sy 8], .agg #[sy 11, sy 12]], sy 13)], lds := [(60, oq 1, .agg #[sy 3, sy 4]), (60, oq 2, .agg #[sy 7, sy 8]), (60, oq 3, .agg #[sy 11, sy 12])], ixa := [(23, oq 0, .int .i64 (sn 1), oq 1), (23, oq 0, .int .i64 (sn 6), oq 2), (23, oq 0, .int .i64 (sn 10), oq 3)], lens := [(false, oq 0, .int .i64 (sn 0))] }
def cvo1 : Orc := { bin := [(.lss, 3, .int .i64 (sn 1), .int .i64 (sn 0), .bool true), (.add, 3, .int .i64 (sn 1), .int .i64 1, .int .i64 (sn 5)), (.rem, 3, sy 5, sy 0, sy 6), (.add, 3, .int .i64 (sn 1), .int .i64 2, .int .i64 (sn 9)), (.rem, 3, sy 9, sy 0, sy 10), (.neq, 3, .int .i64 (sn 13), .int .i64 1, .bool false), (.leq, 3, .int .i64 (sn 8), .int .i64 (sn 4), .bool false)], calls := [(53, [.agg #[sy 3, sy 4], .agg #[sy 7, sy 8], .agg #[sy 11, sy 12]], sy 13)], lds := [(60, oq 1, .agg #[sy 3, sy 4]), (60, oq 2, .agg #[sy 7, sy 8]), (60, oq 3, .agg #[sy 11, sy 12])], ixa := [(23, oq 0, .int .i64 (sn 1), oq 1), (23, oq 0, .int .i64 (sn 6), oq 2), (23, oq 0, .int .i64 (sn 10), oq 3)], lens := [(false, oq 0, .int .i64 (sn 0))] }
def cvo2 : Orc := { bin := [(.lss, 3, .int .i64 (sn 1), .int .i64 (sn 0), .bool true), (.add, 3, .int .i64 (sn 1), .int .i64 1, .int .i64 (sn 5)), (.rem, 3, sy 5, sy 0, sy 6), (.add, 3, .int .i64 (sn 1), .int .i64 2, .int .i64 (sn 9)), (.rem, 3, sy 9, sy 0, sy 10), (.neq, 3, .int .i64 (sn 13), .int .i64 1, .bool false), (.leq, 3, .int .i64 (sn 8), .int .i64 (sn 4), .bool true), (.gtr, 3, .int .i64 (sn 12), .int .i64 (sn 8), .bool true), (.add, 3, .int .i64 (sn 2), .int .i64 1, .int .i64 (sn 14))], calls := [(53, [.agg #[sy 3, sy 4], .agg #[sy 7, sy 8], .agg #[sy 11, sy 12]], sy 13)], lds := [(60, oq 1, .agg #[sy 3, sy 4]), (60, oq 2, .agg #[sy 7, sy 8]), (60, oq 3, .agg #[sy 11, sy 12])], ixa := [(23, oq 0, .int .i64 (sn 1), oq 1), (23, oq 0, .int .i64 (sn 6), oq 2), (23, oq 0, .int .i64 (sn 10), oq 3)], lens := [(false, oq 0, .int .i64 (sn 0))] }
def cvo3 : Orc := { bin := [(.lss, 3, .int .i64 (sn 1), .int .i64 (sn 0), .bool true), (.add, 3, .int .i64 (sn 1), .int .i64 1, .int .i64 (sn 5)), (.rem, 3, sy 5, sy 0, sy 6), (.add, 3, .int .i64 (sn 1), .int .i64 2, .int .i64 (sn 9)), (.rem, 3, sy 9, sy 0, sy 10), (.neq, 3, .int .i64 (sn 13), .int .i64 1, .bool false), (.leq, 3, .int .i64 (sn 8), .int .i64 (sn 4), .bool true), (.gtr, 3, .int .i64 (sn 12), .int .i64 (sn 8), .bool false)], calls := [(53, [.agg #[sy 3, sy 4], .agg #[sy 7, sy 8], .agg #[sy 11, sy 12]], sy 13)], lds := [(60, oq 1, .agg #[sy 3, sy 4]), (60, oq 2, .agg #[sy 7, sy 8]), (60, oq 3, .agg #[sy 11, sy 12])], ixa := [(23, oq 0, .int .i64 (sn 1), oq 1), (23, oq 0, .int .i64 (sn 6), oq 2), (23, oq 0, .int .i64 (sn 10), oq 3)], lens := [(false, oq 0, .int .i64 (sn 0))] }
def cvo4 : Orc := { bin := [(.lss, 3, .int .i64 (sn 1), .int .i64 (sn 0), .bool false)], lens := [(false, oq 0, .int .i64 (sn 0))] }
noncomputable def cvE (a : Option Addr) (n c : Nat) (X Y : Nat → Int) (ptr : Nat → Addr) (w : World) (i : Nat) : Env := env [(n : Int), (i : Int), (cntN n X Y i), (X i), (Y i), ((i : Int) + 1), ((nx n i : Nat) : Int), (X (nx n i)), (Y (nx n i)), ((i : Int) + 2), ((((i + 2) % n : Nat)) : Int), (X (((i + 2) % n))), (Y (((i + 2) % n))), (turnI (X i) (Y i) ((X (nx n i))) ((Y (nx n i))) ((X (((i + 2) % n)))) ((Y (((i + 2) % n))))), ((cntN n X Y i) + 1)] [(.slice a n c), (.pointer (some (ptr i))), (.pointer (some (ptr (nx n i)))), (.pointer (some (ptr (((i + 2) % n)))))] w
theorem cvs1 : stepT Try.prog [0, 1, 2, 3, 4] (evBody Try.prog cvo1 1000 50 54 [false, true] cvt0 cvH0) .normal cvt0 cvH0 [.val 0 0, .num 1180591620717411303424 1180591620717411303424, .num 1180591620717411303429 1180591620717411303425, .num 1180591620717411303426 1180591620717411303426] = true := by decide +kernel
theorem cvs2 : stepT Try.prog [0, 1, 2, 3, 4] (evBody Try.prog cvo2 1000 50 54 [false, true] cvt0 cvH0) .normal cvt0 cvH0 [.val 0 0, .num 1180591620717411303424 1180591620717411303424, .num 1180591620717411303429 1180591620717411303425, .num 1180591620717411303438 1180591620717411303426] = true := by decide +kernel
theorem cvs3 : stepT Try.prog [0, 1, 2, 3, 4] (evBody Try.prog cvo3 1000 50 54 [false, true] cvt0 cvH0) .normal cvt0 cvH0 [.val 0 0, .num 1180591620717411303424 1180591620717411303424, .num 1180591620717411303429 1180591620717411303425, .num 1180591620717411303426 1180591620717411303426] = true := by decide +kernel
theorem cvk0 (a : Option Addr) (n c : Nat) (X Y : Nat → Int) (ptr : Nat → Addr) (w : World) (i : Nat) (hib : bd 0 1000000000000000 (i : Int)) (hcb : bd 0 1000000000000 (cntN n X Y i)) (hn : bd 0 1000000000000 (n : Int)) (hn0 : n ≤ 1000000000000) (hX : ∀ k, k < n → bd (-1000000) 1000000 (X k) ∧ bd (-1000000) 1000000 (Y k)) (hS : Sl Try.prog w (.slice a n c) n 22 60 (fun k => .agg #[.int .i64 (X k), .int .i64 (Y k)]) ptr) (hP : Sl Try.prog w (.slice a n c) n 23 60 (fun k => .agg #[.int .i64 (X k), .int .i64 (Y k)]) ptr)  (h0 : (decide ((n : Int) ≤ (i : Int))) = false) (h1 : (leftP n X Y i) = false) : Know (cvE a n c X Y ptr w i) Try.prog cvo0 := by
  have bq0 : bd 1 1000000000000001 (((i : Int) + 1)) := bd_add hib (bd_lit (l := 1) (h := 1) rfl) rfl
  have bq1 : bd 2 1000000000000002 (((i : Int) + 2)) := bd_add hib (bd_lit (l := 2) (h := 2) rfl) rfl
  exact ⟨(all_cons (cmpOK (op := .lss) (ty := 3) (k := .i64) (n := (sn 1)) (m := (sn 0)) (t := true) (a := (i : Int)) (b := (n : Int)) (by kernel_rfl) (by kernel_rfl) (congrArg some ((lt_of_le h0)))) (all_cons (arOK (op := .add) (ty := 3) (k := .i64) (n := (sn 1)) (m := 1) (r := (sn 5)) (a := (i : Int)) (b := 1) (c := (((i : Int) + 1))) (d := (i : Int) + 1) (by kernel_rfl) (by kernel_rfl) (by kernel_rfl) rfl (wr_bd bq0 rfl)) (all_cons (binK (op := .rem) (ty := 3) (x := sy 5) (y := sy 0) (r := sy 6) (by kernel_rfl) (k := .i64) (l := .i64) (a := (((i : Int) + 1))) (b := (n : Int)) (v := .int .i64 (((nx n i : Nat) : Int))) (by kernel_rfl) (by kernel_rfl) (by kernel_rfl) (fun w => i_rem (by have g := of_decide_eq_false h0; omega) (nx_rem (by have g := of_decide_eq_false h0; omega)) w)) (all_cons (arOK (op := .add) (ty := 3) (k := .i64) (n := (sn 1)) (m := 2) (r := (sn 9)) (a := (i : Int)) (b := 2) (c := (((i : Int) + 2))) (d := (i : Int) + 2) (by kernel_rfl) (by kernel_rfl) (by kernel_rfl) rfl (wr_bd bq1 rfl)) (all_cons (binK (op := .rem) (ty := 3) (x := sy 9) (y := sy 0) (r := sy 10) (by kernel_rfl) (k := .i64) (l := .i64) (a := (((i : Int) + 2))) (b := (n : Int)) (v := .int .i64 (((((i + 2) % n : Nat)) : Int))) (by kernel_rfl) (by kernel_rfl) (by kernel_rfl) (fun w => i_rem (by have g := of_decide_eq_false h0; omega) (nx2_rem (by have := (by have g := of_decide_eq_false h0; omega); omega)) w)) (all_cons (cmpOK (op := .neq) (ty := 3) (k := .i64) (n := (sn 13)) (m := 1) (t := true) (a := ((turnI (X i) (Y i) ((X (nx n i))) ((Y (nx n i))) ((X (((i + 2) % n)))) ((Y (((i + 2) % n))))))) (b := 1) (by kernel_rfl) (by kernel_rfl) (congrArg some ((ne_of (show (((turnI (X i) (Y i) ((X (nx n i))) ((Y (nx n i))) ((X (((i + 2) % n)))) ((Y (((i + 2) % n)))))) == 1) = false from (show ((turnI (X i) (Y i) ((X (nx n i))) ((Y (nx n i))) ((X (((i + 2) % n)))) ((Y (((i + 2) % n))))) == 1) = _ from h1)))))) all_nil)))))), all_nil, all_nil, all_nil, (all_cons (callOK (f := 53) (args := [.agg #[sy 3, sy 4], .agg #[sy 7, sy 8], .agg #[sy 11, sy 12]]) (v := sy 13) (args' := #[.agg #[.int .i64 (X i), .int .i64 (Y i)], .agg #[.int .i64 ((X (nx n i))), .int .i64 ((Y (nx n i)))], .agg #[.int .i64 ((X (((i + 2) % n)))), .int .i64 ((Y (((i + 2) % n))))]]) (v' := .int .i64 ((turnI (X i) (Y i) ((X (nx n i))) ((Y (nx n i))) ((X (((i + 2) % n)))) ((Y (((i + 2) % n))))))) (by kernel_rfl) (by kernel_rfl) (by kernel_rfl) (fun w => porient_any (X i) (Y i) ((X (nx n i))) ((Y (nx n i))) ((X (((i + 2) % n)))) ((Y (((i + 2) % n)))) w (hX _ (by have g := of_decide_eq_false h0; omega)).1 (hX _ (by have g := of_decide_eq_false h0; omega)).2 (hX _ (nx_lt (by have g := of_decide_eq_false h0; omega))).1 (hX _ (nx_lt (by have g := of_decide_eq_false h0; omega))).2 (hX _ (nx2_lt (by have := (by have g := of_decide_eq_false h0; omega); omega))).1 (hX _ (nx2_lt (by have := (by have g := of_decide_eq_false h0; omega); omega))).2)) all_nil), (all_cons (sldOK (j := 1) (k := i) (x := .agg #[sy 3, sy 4]) hP rfl (by have g := of_decide_eq_false h0; omega) (by kernel_rfl) (by show inst _ _ = _; kernel_rfl)) (all_cons (sldOK (j := 2) (k := (nx n i)) (x := .agg #[sy 7, sy 8]) hP rfl (nx_lt (by have g := of_decide_eq_false h0; omega)) (by kernel_rfl) (by show inst _ _ = _; kernel_rfl)) (all_cons (sldOK (j := 3) (k := ((i + 2) % n)) (x := .agg #[sy 11, sy 12]) hP rfl (nx2_lt (by have := (by have g := of_decide_eq_false h0; omega); omega)) (by kernel_rfl) (by show inst _ _ = _; kernel_rfl)) all_nil))), (all_cons (sixOK (i := 0) (j := 1) (k := i) (r := (sn 1)) hP rfl (by kernel_rfl) rfl (by have g := of_decide_eq_false h0; omega)) (all_cons (sixOK (i := 0) (j := 2) (k := (nx n i)) (r := (sn 6)) hP rfl (by kernel_rfl) rfl (nx_lt (by have g := of_decide_eq_false h0; omega))) (all_cons (sixOK (i := 0) (j := 3) (k := ((i + 2) % n)) (r := (sn 10)) hP rfl (by kernel_rfl) rfl (nx2_lt (by have := (by have g := of_decide_eq_false h0; omega); omega))) all_nil))), all_nil, all_nil, all_nil, (all_cons (lenOK (i := 0) (r := (sn 0)) (a := a) (c := c) rfl (by kernel_rfl)) all_nil), all_nil, all_nil, all_nil, all_nil, all_nil, all_nil, all_nil⟩
theorem cvk1 (a : Option Addr) (n c : Nat) (X Y : Nat → Int) (ptr : Nat → Addr) (w : World) (i : Nat) (hib : bd 0 1000000000000000 (i : Int)) (hcb : bd 0 1000000000000 (cntN n X Y i)) (hn : bd 0 1000000000000 (n : Int)) (hn0 : n ≤ 1000000000000) (hX : ∀ k, k < n → bd (-1000000) 1000000 (X k) ∧ bd (-1000000) 1000000 (Y k)) (hS : Sl Try.prog w (.slice a n c) n 22 60 (fun k => .agg #[.int .i64 (X k), .int .i64 (Y k)]) ptr) (hP : Sl Try.prog w (.slice a n c) n 23 60 (fun k => .agg #[.int .i64 (X k), .int .i64 (Y k)]) ptr)  (h0 : (decide ((n : Int) ≤ (i : Int))) = false) (h1 : (leftP n X Y i) = true) (h2 : (decide (((Y (nx n i))) ≤ (Y i))) = false) : Know (cvE a n c X Y ptr w i) Try.prog cvo1 := by
  have bq0 : bd 1 1000000000000001 (((i : Int) + 1)) := bd_add hib (bd_lit (l := 1) (h := 1) rfl) rfl
  have bq1 : bd 2 1000000000000002 (((i : Int) + 2)) := bd_add hib (bd_lit (l := 2) (h := 2) rfl) rfl
  exact ⟨(all_cons (cmpOK (op := .lss) (ty := 3) (k := .i64) (n := (sn 1)) (m := (sn 0)) (t := true) (a := (i : Int)) (b := (n : Int)) (by kernel_rfl) (by kernel_rfl) (congrArg some ((lt_of_le h0)))) (all_cons (arOK (op := .add) (ty := 3) (k := .i64) (n := (sn 1)) (m := 1) (r := (sn 5)) (a := (i : Int)) (b := 1) (c := (((i : Int) + 1))) (d := (i : Int) + 1) (by kernel_rfl) (by kernel_rfl) (by kernel_rfl) rfl (wr_bd bq0 rfl)) (all_cons (binK (op := .rem) (ty := 3) (x := sy 5) (y := sy 0) (r := sy 6) (by kernel_rfl) (k := .i64) (l := .i64) (a := (((i : Int) + 1))) (b := (n : Int)) (v := .int .i64 (((nx n i : Nat) : Int))) (by kernel_rfl) (by kernel_rfl) (by kernel_rfl) (fun w => i_rem (by have g := of_decide_eq_false h0; omega) (nx_rem (by have g := of_decide_eq_false h0; omega)) w)) (all_cons (arOK (op := .add) (ty := 3) (k := .i64) (n := (sn 1)) (m := 2) (r := (sn 9)) (a := (i : Int)) (b := 2) (c := (((i : Int) + 2))) (d := (i : Int) + 2) (by kernel_rfl) (by kernel_rfl) (by kernel_rfl) rfl (wr_bd bq1 rfl)) (all_cons (binK (op := .rem) (ty := 3) (x := sy 9) (y := sy 0) (r := sy 10) (by kernel_rfl) (k := .i64) (l := .i64) (a := (((i : Int) + 2))) (b := (n : Int)) (v := .int .i64 (((((i + 2) % n : Nat)) : Int))) (by kernel_rfl) (by kernel_rfl) (by kernel_rfl) (fun w => i_rem (by have g := of_decide_eq_false h0; omega) (nx2_rem (by have := (by have g := of_decide_eq_false h0; omega); omega)) w)) (all_cons (cmpOK (op := .neq) (ty := 3) (k := .i64) (n := (sn 13)) (m := 1) (t := false) (a := ((turnI (X i) (Y i) ((X (nx n i))) ((Y (nx n i))) ((X (((i + 2) % n)))) ((Y (((i + 2) % n))))))) (b := 1) (by kernel_rfl) (by kernel_rfl) (congrArg some ((ne_of (show (((turnI (X i) (Y i) ((X (nx n i))) ((Y (nx n i))) ((X (((i + 2) % n)))) ((Y (((i + 2) % n)))))) == 1) = true from (show ((turnI (X i) (Y i) ((X (nx n i))) ((Y (nx n i))) ((X (((i + 2) % n)))) ((Y (((i + 2) % n))))) == 1) = _ from h1)))))) (all_cons (cmpOK (op := .leq) (ty := 3) (k := .i64) (n := (sn 8)) (m := (sn 4)) (t := false) (a := ((Y (nx n i)))) (b := (Y i)) (by kernel_rfl) (by kernel_rfl) (congrArg some (h2))) all_nil))))))), all_nil, all_nil, all_nil, (all_cons (callOK (f := 53) (args := [.agg #[sy 3, sy 4], .agg #[sy 7, sy 8], .agg #[sy 11, sy 12]]) (v := sy 13) (args' := #[.agg #[.int .i64 (X i), .int .i64 (Y i)], .agg #[.int .i64 ((X (nx n i))), .int .i64 ((Y (nx n i)))], .agg #[.int .i64 ((X (((i + 2) % n)))), .int .i64 ((Y (((i + 2) % n))))]]) (v' := .int .i64 ((turnI (X i) (Y i) ((X (nx n i))) ((Y (nx n i))) ((X (((i + 2) % n)))) ((Y (((i + 2) % n))))))) (by kernel_rfl) (by kernel_rfl) (by kernel_rfl) (fun w => porient_any (X i) (Y i) ((X (nx n i))) ((Y (nx n i))) ((X (((i + 2) % n)))) ((Y (((i + 2) % n)))) w (hX _ (by have g := of_decide_eq_false h0; omega)).1 (hX _ (by have g := of_decide_eq_false h0; omega)).2 (hX _ (nx_lt (by have g := of_decide_eq_false h0; omega))).1 (hX _ (nx_lt (by have g := of_decide_eq_false h0; omega))).2 (hX _ (nx2_lt (by have := (by have g := of_decide_eq_false h0; omega); omega))).1 (hX _ (nx2_lt (by have := (by have g := of_decide_eq_false h0; omega); omega))).2)) all_nil), (all_cons (sldOK (j := 1) (k := i) (x := .agg #[sy 3, sy 4]) hP rfl (by have g := of_decide_eq_false h0; omega) (by kernel_rfl) (by show inst _ _ = _; kernel_rfl)) (all_cons (sldOK (j := 2) (k := (nx n i)) (x := .agg #[sy 7, sy 8]) hP rfl (nx_lt (by have g := of_decide_eq_false h0; omega)) (by kernel_rfl) (by show inst _ _ = _; kernel_rfl)) (all_cons (sldOK (j := 3) (k := ((i + 2) % n)) (x := .agg #[sy 11, sy 12]) hP rfl (nx2_lt (by have := (by have g := of_decide_eq_false h0; omega); omega)) (by kernel_rfl) (by show inst _ _ = _; kernel_rfl)) all_nil))), (all_cons (sixOK (i := 0) (j := 1) (k := i) (r := (sn 1)) hP rfl (by kernel_rfl) rfl (by have g := of_decide_eq_false h0; omega)) (all_cons (sixOK (i := 0) (j := 2) (k := (nx n i)) (r := (sn 6)) hP rfl (by kernel_rfl) rfl (nx_lt (by have g := of_decide_eq_false h0; omega))) (all_cons (sixOK (i := 0) (j := 3) (k := ((i + 2) % n)) (r := (sn 10)) hP rfl (by kernel_rfl) rfl (nx2_lt (by have := (by have g := of_decide_eq_false h0; omega); omega))) all_nil))), all_nil, all_nil, all_nil, (all_cons (lenOK (i := 0) (r := (sn 0)) (a := a) (c := c) rfl (by kernel_rfl)) all_nil), all_nil, all_nil, all_nil, all_nil, all_nil, all_nil, all_nil⟩
theorem cvk2 (a : Option Addr) (n c : Nat) (X Y : Nat → Int) (ptr : Nat → Addr) (w : World) (i : Nat) (hib : bd 0 1000000000000000 (i : Int)) (hcb : bd 0 1000000000000 (cntN n X Y i)) (hn : bd 0 1000000000000 (n : Int)) (hn0 : n ≤ 1000000000000) (hX : ∀ k, k < n → bd (-1000000) 1000000 (X k) ∧ bd (-1000000) 1000000 (Y k)) (hS : Sl Try.prog w (.slice a n c) n 22 60 (fun k => .agg #[.int .i64 (X k), .int .i64 (Y k)]) ptr) (hP : Sl Try.prog w (.slice a n c) n 23 60 (fun k => .agg #[.int .i64 (X k), .int .i64 (Y k)]) ptr)  (h0 : (decide ((n : Int) ≤ (i : Int))) = false) (h1 : (leftP n X Y i) = true) (h2 : (decide (((Y (nx n i))) ≤ (Y i))) = true) (h3 : (decide (((Y (((i + 2) % n)))) ≤ ((Y (nx n i))))) = false) : Know (cvE a n c X Y ptr w i) Try.prog cvo2 := by
  have bq0 : bd 1 1000000000000001 (((i : Int) + 1)) := bd_add hib (bd_lit (l := 1) (h := 1) rfl) rfl
  have bq1 : bd 2 1000000000000002 (((i : Int) + 2)) := bd_add hib (bd_lit (l := 2) (h := 2) rfl) rfl
  have bq2 : bd 1 1000000000001 (((cntN n X Y i) + 1)) := bd_add hcb (bd_lit (l := 1) (h := 1) rfl) rfl
  exact ⟨(all_cons (cmpOK (op := .lss) (ty := 3) (k := .i64) (n := (sn 1)) (m := (sn 0)) (t := true) (a := (i : Int)) (b := (n : Int)) (by kernel_rfl) (by kernel_rfl) (congrArg some ((lt_of_le h0)))) (all_cons (arOK (op := .add) (ty := 3) (k := .i64) (n := (sn 1)) (m := 1) (r := (sn 5)) (a := (i : Int)) (b := 1) (c := (((i : Int) + 1))) (d := (i : Int) + 1) (by kernel_rfl) (by kernel_rfl) (by kernel_rfl) rfl (wr_bd bq0 rfl)) (all_cons (binK (op := .rem) (ty := 3) (x := sy 5) (y := sy 0) (r := sy 6) (by kernel_rfl) (k := .i64) (l := .i64) (a := (((i : Int) + 1))) (b := (n : Int)) (v := .int .i64 (((nx n i : Nat) : Int))) (by kernel_rfl) (by kernel_rfl) (by kernel_rfl) (fun w => i_rem (by have g := of_decide_eq_false h0; omega) (nx_rem (by have g := of_decide_eq_false h0; omega)) w)) (all_cons (arOK (op := .add) (ty := 3) (k := .i64) (n := (sn 1)) (m := 2) (r := (sn 9)) (a := (i : Int)) (b := 2) (c := (((i : Int) + 2))) (d := (i : Int) + 2) (by kernel_rfl) (by kernel_rfl) (by kernel_rfl) rfl (wr_bd bq1 rfl)) (all_cons (binK (op := .rem) (ty := 3) (x := sy 9) (y := sy 0) (r := sy 10) (by kernel_rfl) (k := .i64) (l := .i64) (a := (((i : Int) + 2))) (b := (n : Int)) (v := .int .i64 (((((i + 2) % n : Nat)) : Int))) (by kernel_rfl) (by kernel_rfl) (by kernel_rfl) (fun w => i_rem (by have g := of_decide_eq_false h0; omega) (nx2_rem (by have := (by have g := of_decide_eq_false h0; omega); omega)) w)) (all_cons (cmpOK (op := .neq) (ty := 3) (k := .i64) (n := (sn 13)) (m := 1) (t := false) (a := ((turnI (X i) (Y i) ((X (nx n i))) ((Y (nx n i))) ((X (((i + 2) % n)))) ((Y (((i + 2) % n))))))) (b := 1) (by kernel_rfl) (by kernel_rfl) (congrArg some ((ne_of (show (((turnI (X i) (Y i) ((X (nx n i))) ((Y (nx n i))) ((X (((i + 2) % n)))) ((Y (((i + 2) % n)))))) == 1) = true from (show ((turnI (X i) (Y i) ((X (nx n i))) ((Y (nx n i))) ((X (((i + 2) % n)))) ((Y (((i + 2) % n))))) == 1) = _ from h1)))))) (all_cons (cmpOK (op := .leq) (ty := 3) (k := .i64) (n := (sn 8)) (m := (sn 4)) (t := true) (a := ((Y (nx n i)))) (b := (Y i)) (by kernel_rfl) (by kernel_rfl) (congrArg some (h2))) (all_cons (cmpOK (op := .gtr) (ty := 3) (k := .i64) (n := (sn 12)) (m := (sn 8)) (t := true) (a := ((Y (((i + 2) % n))))) (b := ((Y (nx n i)))) (by kernel_rfl) (by kernel_rfl) (congrArg some ((gt_of_le h3)))) (all_cons (arOK (op := .add) (ty := 3) (k := .i64) (n := (sn 2)) (m := 1) (r := (sn 14)) (a := (cntN n X Y i)) (b := 1) (c := (((cntN n X Y i) + 1))) (d := (cntN n X Y i) + 1) (by kernel_rfl) (by kernel_rfl) (by kernel_rfl) rfl (wr_bd bq2 rfl)) all_nil))))))))), all_nil, all_nil, all_nil, (all_cons (callOK (f := 53) (args := [.agg #[sy 3, sy 4], .agg #[sy 7, sy 8], .agg #[sy 11, sy 12]]) (v := sy 13) (args' := #[.agg #[.int .i64 (X i), .int .i64 (Y i)], .agg #[.int .i64 ((X (nx n i))), .int .i64 ((Y (nx n i)))], .agg #[.int .i64 ((X (((i + 2) % n)))), .int .i64 ((Y (((i + 2) % n))))]]) (v' := .int .i64 ((turnI (X i) (Y i) ((X (nx n i))) ((Y (nx n i))) ((X (((i + 2) % n)))) ((Y (((i + 2) % n))))))) (by kernel_rfl) (by kernel_rfl) (by kernel_rfl) (fun w => porient_any (X i) (Y i) ((X (nx n i))) ((Y (nx n i))) ((X (((i + 2) % n)))) ((Y (((i + 2) % n)))) w (hX _ (by have g := of_decide_eq_false h0; omega)).1 (hX _ (by have g := of_decide_eq_false h0; omega)).2 (hX _ (nx_lt (by have g := of_decide_eq_false h0; omega))).1 (hX _ (nx_lt (by have g := of_decide_eq_false h0; omega))).2 (hX _ (nx2_lt (by have := (by have g := of_decide_eq_false h0; omega); omega))).1 (hX _ (nx2_lt (by have := (by have g := of_decide_eq_false h0; omega); omega))).2)) all_nil), (all_cons (sldOK (j := 1) (k := i) (x := .agg #[sy 3, sy 4]) hP rfl (by have g := of_decide_eq_false h0; omega) (by kernel_rfl) (by show inst _ _ = _; kernel_rfl)) (all_cons (sldOK (j := 2) (k := (nx n i)) (x := .agg #[sy 7, sy 8]) hP rfl (nx_lt (by have g := of_decide_eq_false h0; omega)) (by kernel_rfl) (by show inst _ _ = _; kernel_rfl)) (all_cons (sldOK (j := 3) (k := ((i + 2) % n)) (x := .agg #[sy 11, sy 12]) hP rfl (nx2_lt (by have := (by have g := of_decide_eq_false h0; omega); omega)) (by kernel_rfl) (by show inst _ _ = _; kernel_rfl)) all_nil))), (all_cons (sixOK (i := 0) (j := 1) (k := i) (r := (sn 1)) hP rfl (by kernel_rfl) rfl (by have g := of_decide_eq_false h0; omega)) (all_cons (sixOK (i := 0) (j := 2) (k := (nx n i)) (r := (sn 6)) hP rfl (by kernel_rfl) rfl (nx_lt (by have g := of_decide_eq_false h0; omega))) (all_cons (sixOK (i := 0) (j := 3) (k := ((i + 2) % n)) (r := (sn 10)) hP rfl (by kernel_rfl) rfl (nx2_lt (by have := (by have g := of_decide_eq_false h0; omega); omega))) all_nil))), all_nil, all_nil, all_nil, (all_cons (lenOK (i := 0) (r := (sn 0)) (a := a) (c := c) rfl (by kernel_rfl)) all_nil), all_nil, all_nil, all_nil, all_nil, all_nil, all_nil, all_nil⟩
theorem cvk3 (a : Option Addr) (n c : Nat) (X Y : Nat → Int) (ptr : Nat → Addr) (w : World) (i : Nat) (hib : bd 0 1000000000000000 (i : Int)) (hcb : bd 0 1000000000000 (cntN n X Y i)) (hn : bd 0 1000000000000 (n : Int)) (hn0 : n ≤ 1000000000000) (hX : ∀ k, k < n → bd (-1000000) 1000000 (X k) ∧ bd (-1000000) 1000000 (Y k)) (hS : Sl Try.prog w (.slice a n c) n 22 60 (fun k => .agg #[.int .i64 (X k), .int .i64 (Y k)]) ptr) (hP : Sl Try.prog w (.slice a n c) n 23 60 (fun k => .agg #[.int .i64 (X k), .int .i64 (Y k)]) ptr)  (h0 : (decide ((n : Int) ≤ (i : Int))) = false) (h1 : (leftP n X Y i) = true) (h2 : (decide (((Y (nx n i))) ≤ (Y i))) = true) (h3 : (decide (((Y (((i + 2) % n)))) ≤ ((Y (nx n i))))) = true) : Know (cvE a n c X Y ptr w i) Try.prog cvo3 := by
  have bq0 : bd 1 1000000000000001 (((i : Int) + 1)) := bd_add hib (bd_lit (l := 1) (h := 1) rfl) rfl
  have bq1 : bd 2 1000000000000002 (((i : Int) + 2)) := bd_add hib (bd_lit (l := 2) (h := 2) rfl) rfl
  exact ⟨(all_cons (cmpOK (op := .lss) (ty := 3) (k := .i64) (n := (sn 1)) (m := (sn 0)) (t := true) (a := (i : Int)) (b := (n : Int)) (by kernel_rfl) (by kernel_rfl) (congrArg some ((lt_of_le h0)))) (all_cons (arOK (op := .add) (ty := 3) (k := .i64) (n := (sn 1)) (m := 1) (r := (sn 5)) (a := (i : Int)) (b := 1) (c := (((i : Int) + 1))) (d := (i : Int) + 1) (by kernel_rfl) (by kernel_rfl) (by kernel_rfl) rfl (wr_bd bq0 rfl)) (all_cons (binK (op := .rem) (ty := 3) (x := sy 5) (y := sy 0) (r := sy 6) (by kernel_rfl) (k := .i64) (l := .i64) (a := (((i : Int) + 1))) (b := (n : Int)) (v := .int .i64 (((nx n i : Nat) : Int))) (by kernel_rfl) (by kernel_rfl) (by kernel_rfl) (fun w => i_rem (by have g := of_decide_eq_false h0; omega) (nx_rem (by have g := of_decide_eq_false h0; omega)) w)) (all_cons (arOK (op := .add) (ty := 3) (k := .i64) (n := (sn 1)) (m := 2) (r := (sn 9)) (a := (i : Int)) (b := 2) (c := (((i : Int) + 2))) (d := (i : Int) + 2) (by kernel_rfl) (by kernel_rfl) (by kernel_rfl) rfl (wr_bd bq1 rfl)) (all_cons (binK (op := .rem) (ty := 3) (x := sy 9) (y := sy 0) (r := sy 10) (by kernel_rfl) (k := .i64) (l := .i64) (a := (((i : Int) + 2))) (b := (n : Int)) (v := .int .i64 (((((i + 2) % n : Nat)) : Int))) (by kernel_rfl) (by kernel_rfl) (by kernel_rfl) (fun w => i_rem (by have g := of_decide_eq_false h0; omega) (nx2_rem (by have := (by have g := of_decide_eq_false h0; omega); omega)) w)) (all_cons (cmpOK (op := .neq) (ty := 3) (k := .i64) (n := (sn 13)) (m := 1) (t := false) (a := ((turnI (X i) (Y i) ((X (nx n i))) ((Y (nx n i))) ((X (((i + 2) % n)))) ((Y (((i + 2) % n))))))) (b := 1) (by kernel_rfl) (by kernel_rfl) (congrArg some ((ne_of (show (((turnI (X i) (Y i) ((X (nx n i))) ((Y (nx n i))) ((X (((i + 2) % n)))) ((Y (((i + 2) % n)))))) == 1) = true from (show ((turnI (X i) (Y i) ((X (nx n i))) ((Y (nx n i))) ((X (((i + 2) % n)))) ((Y (((i + 2) % n))))) == 1) = _ from h1)))))) (all_cons (cmpOK (op := .leq) (ty := 3) (k := .i64) (n := (sn 8)) (m := (sn 4)) (t := true) (a := ((Y (nx n i)))) (b := (Y i)) (by kernel_rfl) (by kernel_rfl) (congrArg some (h2))) (all_cons (cmpOK (op := .gtr) (ty := 3) (k := .i64) (n := (sn 12)) (m := (sn 8)) (t := false) (a := ((Y (((i + 2) % n))))) (b := ((Y (nx n i)))) (by kernel_rfl) (by kernel_rfl) (congrArg some ((gt_of_le h3)))) all_nil)))))))), all_nil, all_nil, all_nil, (all_cons (callOK (f := 53) (args := [.agg #[sy 3, sy 4], .agg #[sy 7, sy 8], .agg #[sy 11, sy 12]]) (v := sy 13) (args' := #[.agg #[.int .i64 (X i), .int .i64 (Y i)], .agg #[.int .i64 ((X (nx n i))), .int .i64 ((Y (nx n i)))], .agg #[.int .i64 ((X (((i + 2) % n)))), .int .i64 ((Y (((i + 2) % n))))]]) (v' := .int .i64 ((turnI (X i) (Y i) ((X (nx n i))) ((Y (nx n i))) ((X (((i + 2) % n)))) ((Y (((i + 2) % n))))))) (by kernel_rfl) (by kernel_rfl) (by kernel_rfl) (fun w => porient_any (X i) (Y i) ((X (nx n i))) ((Y (nx n i))) ((X (((i + 2) % n)))) ((Y (((i + 2) % n)))) w (hX _ (by have g := of_decide_eq_false h0; omega)).1 (hX _ (by have g := of_decide_eq_false h0; omega)).2 (hX _ (nx_lt (by have g := of_decide_eq_false h0; omega))).1 (hX _ (nx_lt (by have g := of_decide_eq_false h0; omega))).2 (hX _ (nx2_lt (by have := (by have g := of_decide_eq_false h0; omega); omega))).1 (hX _ (nx2_lt (by have := (by have g := of_decide_eq_false h0; omega); omega))).2)) all_nil), (all_cons (sldOK (j := 1) (k := i) (x := .agg #[sy 3, sy 4]) hP rfl (by have g := of_decide_eq_false h0; omega) (by kernel_rfl) (by show inst _ _ = _; kernel_rfl)) (all_cons (sldOK (j := 2) (k := (nx n i)) (x := .agg #[sy 7, sy 8]) hP rfl (nx_lt (by have g := of_decide_eq_false h0; omega)) (by kernel_rfl) (by show inst _ _ = _; kernel_rfl)) (all_cons (sldOK (j := 3) (k := ((i + 2) % n)) (x := .agg #[sy 11, sy 12]) hP rfl (nx2_lt (by have := (by have g := of_decide_eq_false h0; omega); omega)) (by kernel_rfl) (by show inst _ _ = _; kernel_rfl)) all_nil))), (all_cons (sixOK (i := 0) (j := 1) (k := i) (r := (sn 1)) hP rfl (by kernel_rfl) rfl (by have g := of_decide_eq_false h0; omega)) (all_cons (sixOK (i := 0) (j := 2) (k := (nx n i)) (r := (sn 6)) hP rfl (by kernel_rfl) rfl (nx_lt (by have g := of_decide_eq_false h0; omega))) (all_cons (sixOK (i := 0) (j := 3) (k := ((i + 2) % n)) (r := (sn 10)) hP rfl (by kernel_rfl) rfl (nx2_lt (by have := (by have g := of_decide_eq_false h0; omega); omega))) all_nil))), all_nil, all_nil, all_nil, (all_cons (lenOK (i := 0) (r := (sn 0)) (a := a) (c := c) rfl (by kernel_rfl)) all_nil), all_nil, all_nil, all_nil, all_nil, all_nil, all_nil, all_nil⟩
theorem cvk4 (a : Option Addr) (n c : Nat) (X Y : Nat → Int) (ptr : Nat → Addr) (w : World) (i : Nat) (hib : bd 0 1000000000000000 (i : Int)) (hcb : bd 0 1000000000000 (cntN n X Y i)) (hn : bd 0 1000000000000 (n : Int)) (hn0 : n ≤ 1000000000000) (hX : ∀ k, k < n → bd (-1000000) 1000000 (X k) ∧ bd (-1000000) 1000000 (Y k)) (hS : Sl Try.prog w (.slice a n c) n 22 60 (fun k => .agg #[.int .i64 (X k), .int .i64 (Y k)]) ptr) (hP : Sl Try.prog w (.slice a n c) n 23 60 (fun k => .agg #[.int .i64 (X k), .int .i64 (Y k)]) ptr)  (h0 : (decide ((n : Int) ≤ (i : Int))) = true) : Know (cvE a n c X Y ptr w i) Try.prog cvo4 := by
  exact ⟨(all_cons (cmpOK (op := .lss) (ty := 3) (k := .i64) (n := (sn 1)) (m := (sn 0)) (t := false) (a := (i : Int)) (b := (n : Int)) (by kernel_rfl) (by kernel_rfl) (congrArg some ((lt_of_le h0)))) all_nil), all_nil, all_nil, all_nil, all_nil, all_nil, all_nil, all_nil, all_nil, all_nil, (all_cons (lenOK (i := 0) (r := (sn 0)) (a := a) (c := c) rfl (by kernel_rfl)) all_nil), all_nil, all_nil, all_nil, all_nil, all_nil, all_nil, all_nil⟩
def cvtF_bad : Tm := [[.func (.yield 0) #[] #[], .pointer (some ⟨4, 0, none⟩), anyV, anyV, anyV, oq 0, sy 0, anyV, .bool true, anyV, anyV, anyV, .func (.yield 0) #[] #[], anyV, anyV, oq 0], [anyV, anyV, oq 0, sy 0, anyV, anyV, anyV, anyV, .bool false, .bool true, anyV]]
def cvHF_bad : Heap := [some ⟨[.int .i64 40, .agg #[.bool false, .bool true, .bool false, .bool true, .bool true], .int .i64 1, .int .i64 1, oq 0, .pointer (some ⟨1, 0, none⟩), .pointer (some ⟨2, 0, none⟩), .pointer (some ⟨3, 0, none⟩), anyV, anyV, anyV, oq 0, .func (.func 54) #[] #[.pointer (some ⟨4, 0, none⟩)], anyV, anyV, anyV, anyV, anyV, anyV, anyV, anyV, anyV, anyV, anyV, anyV, anyV, anyV, anyV, anyV, anyV, anyV, anyV, anyV, anyV, anyV, anyV, anyV, anyV, anyV, anyV, anyV, anyV, anyV, anyV, anyV, anyV, anyV, anyV, anyV], 1329227995784915872903807060280344576⟩, some ⟨[oq 0], 23⟩, some ⟨[.bool false], 4⟩, none, some ⟨[oq 0], 23⟩]
theorem cvf0_bad : stepT Try.prog [0, 1, 2, 3, 4] (evBody Try.prog cvo0 1000 50 54 [false, true] cvt0 cvH0) (.ret) cvtF_bad cvHF_bad [.val 0 0, .num 1180591620717411303424 1180591620717411303424] = true := by decide +kernel
theorem cv_loop_bad (a : Option Addr) (n c : Nat) (X Y : Nat → Int) (ptr : Nat → Addr) (w : World) (hn0 : n ≤ 1000000000000) (hX : ∀ k, k < n → bd (-1000000) 1000000 (X k) ∧ bd (-1000000) 1000000 (Y k)) (hS : Sl Try.prog w (.slice a n c) n 22 60 (fun k => .agg #[.int .i64 (X k), .int .i64 (Y k)]) ptr) (hP : Sl Try.prog w (.slice a n c) n 23 60 (fun k => .agg #[.int .i64 (X k), .int .i64 (Y k)]) ptr) (K : Nat) (hK : K < n) (hq0 : leftP n X Y K = false) (hall : ∀ i, i < K → leftP n X Y i = true) : LoopE (env [(n : Int)] [(.slice a n c)] w) Try.prog (54, [false, true], cvtA, cvHA, .ret, cvtF_bad, cvHF_bad) := by
  refine loop_rule (σ := { st : Nat // st ≤ K }) (fun st => cvE a n c X Y ptr w st.1) (fun _ => rfl) (fun st => K - st.1) (fun _ => cvt0) (fun _ => cvH0) rfl (fun _ => by decide) (by decide) ?_ ⟨0, Nat.zero_le _⟩ [.val 0 0, .num 1180591620717411303424 1180591620717411303424, .num 0 1180591620717411303425, .num 0 1180591620717411303426] [0, 1, 2, 3, 4] (by decide +kernel) (by decide) ?_
  · rintro ⟨i, hle_⟩
    rcases Nat.lt_or_ge i (K) with h | h
    · have hib : bd 0 1000000000000000 (i : Int) := ⟨by omega, by omega⟩; have hn : bd 0 1000000000000 (n : Int) := ⟨by omega, by omega⟩; have hcb : bd 0 1000000000000 (cntN n X Y i) := (by have q := cntN_bd n X Y i; exact ⟨by omega, by omega⟩); have hq := hall i h; clear hall
      rcases h0 : (decide ((n : Int) ≤ (i : Int))) with _ | _
      · rcases h1 : (leftP n X Y i) with _ | _
        · exfalso; (first | (have g := of_decide_eq_true h0; omega) | (have g := of_decide_eq_false h0; omega) | (exact absurd (hq.symm.trans h1) (by decide)))
        · rcases h2 : (decide (((Y (nx n i))) ≤ (Y i))) with _ | _
          · refine .inl ⟨cvo1, 1000, 50, _, [0, 1, 2, 3, 4], ⟨i + 1, h⟩, (cvk1 a n c X Y ptr w i hib hcb hn hn0 hX hS hP h0 h1 h2).ok, cvs1, by decide, ?_, by show K - (i + 1) < K - i; omega⟩
            intro q hq
            simp only [List.mem_cons, List.not_mem_nil, or_false] at hq
            rcases hq with rfl | rfl | rfl | rfl
            · show (_ : Value) = _; kernel_rfl
            · show (_ : Int) = _; kernel_rfl
            · show (((i : Int) + 1) : Int) = (((i + 1 : Nat)) : Int); first | rfl | ((simp [cntN, ascP, *]))
            · show ((cntN n X Y i) : Int) = (cntN n X Y (i + 1)); first | rfl | ((simp [cntN, ascP, *]))
          · rcases h3 : (decide (((Y (((i + 2) % n)))) ≤ ((Y (nx n i))))) with _ | _
            · refine .inl ⟨cvo2, 1000, 50, _, [0, 1, 2, 3, 4], ⟨i + 1, h⟩, (cvk2 a n c X Y ptr w i hib hcb hn hn0 hX hS hP h0 h1 h2 h3).ok, cvs2, by decide, ?_, by show K - (i + 1) < K - i; omega⟩
              intro q hq
              simp only [List.mem_cons, List.not_mem_nil, or_false] at hq
              rcases hq with rfl | rfl | rfl | rfl
              · show (_ : Value) = _; kernel_rfl
              · show (_ : Int) = _; kernel_rfl
              · show (((i : Int) + 1) : Int) = (((i + 1 : Nat)) : Int); first | rfl | ((simp [cntN, ascP, *]))
              · show (((cntN n X Y i) + 1) : Int) = (cntN n X Y (i + 1)); first | rfl | ((simp [cntN, ascP, *]))
            · refine .inl ⟨cvo3, 1000, 50, _, [0, 1, 2, 3, 4], ⟨i + 1, h⟩, (cvk3 a n c X Y ptr w i hib hcb hn hn0 hX hS hP h0 h1 h2 h3).ok, cvs3, by decide, ?_, by show K - (i + 1) < K - i; omega⟩
              intro q hq
              simp only [List.mem_cons, List.not_mem_nil, or_false] at hq
              rcases hq with rfl | rfl | rfl | rfl
              · show (_ : Value) = _; kernel_rfl
              · show (_ : Int) = _; kernel_rfl
              · show (((i : Int) + 1) : Int) = (((i + 1 : Nat)) : Int); first | rfl | ((simp [cntN, ascP, *]))
              · show ((cntN n X Y i) : Int) = (cntN n X Y (i + 1)); first | rfl | ((simp [cntN, ascP, *]))
      · exfalso; (first | (have g := of_decide_eq_true h0; omega) | (have g := of_decide_eq_false h0; omega) | (exact absurd (hq.symm.trans h1) (by decide)))
    · have hE : K = i := by omega
      subst hE
      have hib : bd 0 1000000000000000 (K : Int) := ⟨by omega, by omega⟩; have hn : bd 0 1000000000000 (n : Int) := ⟨by omega, by omega⟩; have hcb : bd 0 1000000000000 (cntN n X Y K) := (by have q := cntN_bd n X Y K; exact ⟨by omega, by omega⟩); have hq := hq0; clear hall hq0
      rcases h0 : (decide ((n : Int) ≤ (K : Int))) with _ | _
      · rcases h1 : (leftP n X Y K) with _ | _
        · refine .inr ⟨cvo0, 1000, 50, _, [0, 1, 2, 3, 4], (cvk0 a n c X Y ptr w (K) hib hcb hn hn0 hX hS hP h0 h1).ok, cvf0_bad, by decide, ?_⟩
          intro q hq
          simp only [List.mem_cons, List.not_mem_nil, or_false] at hq
          rcases hq with rfl | rfl
          · show (_ : Value) = _; kernel_rfl
          · show (_ : Int) = _; kernel_rfl
        · rcases h2 : (decide (((Y (nx n K))) ≤ (Y K))) with _ | _
          · exfalso; (first | (have g := of_decide_eq_true h0; omega) | (have g := of_decide_eq_false h0; omega) | (exact absurd (hq.symm.trans h1) (by decide)))
          · rcases h3 : (decide (((Y (((K + 2) % n)))) ≤ ((Y (nx n K))))) with _ | _
            · exfalso; (first | (have g := of_decide_eq_true h0; omega) | (have g := of_decide_eq_false h0; omega) | (exact absurd (hq.symm.trans h1) (by decide)))
            · exfalso; (first | (have g := of_decide_eq_true h0; omega) | (have g := of_decide_eq_false h0; omega) | (exact absurd (hq.symm.trans h1) (by decide)))
      · exfalso; (first | (have g := of_decide_eq_true h0; omega) | (have g := of_decide_eq_false h0; omega) | (exact absurd (hq.symm.trans h1) (by decide)))
  · skip
    intro q hq
    simp only [List.mem_cons, List.not_mem_nil, or_false] at hq
    rcases hq with rfl | rfl | rfl | rfl
    · show (_ : Value) = _; kernel_rfl
    · show (_ : Int) = _; kernel_rfl
    · show (0 : Int) = (0 : Int); first | rfl | ((simp [cntN, ascP, *]))
    · show (0 : Int) = (cntN n X Y 0); first | rfl | ((simp [cntN, ascP, *]))
def cvtF_done : Tm := [[.func (.yield 0) #[] #[], .pointer (some ⟨4, 0, none⟩), anyV, anyV, anyV, oq 0, sy 0, anyV, .bool false, anyV, anyV, anyV, anyV, anyV, anyV, anyV], [anyV, anyV, anyV, anyV, anyV, anyV, anyV, anyV, anyV, anyV, anyV]]
def cvHF_done : Heap := [some ⟨[.int .i64 40, .agg #[.bool false, .bool true, .bool false, .bool true, .bool true], .int .i64 0, .int .i64 0, oq 0, .pointer (some ⟨1, 0, none⟩), .pointer (some ⟨2, 0, none⟩), .pointer (some ⟨3, 0, none⟩), anyV, anyV, anyV, oq 0, .func (.func 54) #[] #[.pointer (some ⟨4, 0, none⟩)], anyV, anyV, anyV, anyV, anyV, anyV, anyV, anyV, anyV, anyV, anyV, anyV, anyV, anyV, anyV, anyV, anyV, anyV, anyV, anyV, anyV, anyV, anyV, anyV, anyV, anyV, anyV, anyV, anyV, anyV, anyV, anyV, anyV, anyV, anyV, anyV], 1329227995784915872903807060280344576⟩, some ⟨[oq 0], 23⟩, some ⟨[.bool false], 4⟩, some ⟨[sy 1], 3⟩, some ⟨[oq 0], 23⟩]
theorem cvf4_done : stepT Try.prog [0, 1, 2, 3, 4] (evBody Try.prog cvo4 1000 50 54 [false, true] cvt0 cvH0) (.exit 0) cvtF_done cvHF_done [.val 0 0, .num 1180591620717411303424 1180591620717411303424, .num 1180591620717411303426 1180591620717411303425] = true := by decide +kernel
theorem cv_loop_done (a : Option Addr) (n c : Nat) (X Y : Nat → Int) (ptr : Nat → Addr) (w : World) (hn0 : n ≤ 1000000000000) (hX : ∀ k, k < n → bd (-1000000) 1000000 (X k) ∧ bd (-1000000) 1000000 (Y k)) (hS : Sl Try.prog w (.slice a n c) n 22 60 (fun k => .agg #[.int .i64 (X k), .int .i64 (Y k)]) ptr) (hP : Sl Try.prog w (.slice a n c) n 23 60 (fun k => .agg #[.int .i64 (X k), .int .i64 (Y k)]) ptr) (hall : ∀ i, i < n → leftP n X Y i = true) : LoopE (env [(n : Int), (cntN n X Y n)] [(.slice a n c)] w) Try.prog (54, [false, true], cvtA, cvHA, .exit 0, cvtF_done, cvHF_done) := by
  refine loop_rule (σ := { st : Nat // st ≤ n }) (fun st => cvE a n c X Y ptr w st.1) (fun _ => rfl) (fun st => n - st.1) (fun _ => cvt0) (fun _ => cvH0) rfl (fun _ => by decide) (by decide) ?_ ⟨0, Nat.zero_le _⟩ [.val 0 0, .num 1180591620717411303424 1180591620717411303424, .num 0 1180591620717411303425, .num 0 1180591620717411303426] [0, 1, 2, 3, 4] (by decide +kernel) (by decide) ?_
  · rintro ⟨i, hle_⟩
    rcases Nat.lt_or_ge i (n) with h | h
    · have hib : bd 0 1000000000000000 (i : Int) := ⟨by omega, by omega⟩; have hn : bd 0 1000000000000 (n : Int) := ⟨by omega, by omega⟩; have hcb : bd 0 1000000000000 (cntN n X Y i) := (by have q := cntN_bd n X Y i; exact ⟨by omega, by omega⟩); have hq := hall i h; clear hall
      rcases h0 : (decide ((n : Int) ≤ (i : Int))) with _ | _
      · rcases h1 : (leftP n X Y i) with _ | _
        · exfalso; (first | (have g := of_decide_eq_true h0; omega) | (have g := of_decide_eq_false h0; omega) | (exact absurd (hq.symm.trans h1) (by decide)))
        · rcases h2 : (decide (((Y (nx n i))) ≤ (Y i))) with _ | _
          · refine .inl ⟨cvo1, 1000, 50, _, [0, 1, 2, 3, 4], ⟨i + 1, h⟩, (cvk1 a n c X Y ptr w i hib hcb hn hn0 hX hS hP h0 h1 h2).ok, cvs1, by decide, ?_, by show n - (i + 1) < n - i; omega⟩
            intro q hq
            simp only [List.mem_cons, List.not_mem_nil, or_false] at hq
            rcases hq with rfl | rfl | rfl | rfl
            · show (_ : Value) = _; kernel_rfl
            · show (_ : Int) = _; kernel_rfl
            · show (((i : Int) + 1) : Int) = (((i + 1 : Nat)) : Int); first | rfl | ((simp [cntN, ascP, *]))
            · show ((cntN n X Y i) : Int) = (cntN n X Y (i + 1)); first | rfl | ((simp [cntN, ascP, *]))
          · rcases h3 : (decide (((Y (((i + 2) % n)))) ≤ ((Y (nx n i))))) with _ | _
            · refine .inl ⟨cvo2, 1000, 50, _, [0, 1, 2, 3, 4], ⟨i + 1, h⟩, (cvk2 a n c X Y ptr w i hib hcb hn hn0 hX hS hP h0 h1 h2 h3).ok, cvs2, by decide, ?_, by show n - (i + 1) < n - i; omega⟩
              intro q hq
              simp only [List.mem_cons, List.not_mem_nil, or_false] at hq
              rcases hq with rfl | rfl | rfl | rfl
              · show (_ : Value) = _; kernel_rfl
              · show (_ : Int) = _; kernel_rfl
              · show (((i : Int) + 1) : Int) = (((i + 1 : Nat)) : Int); first | rfl | ((simp [cntN, ascP, *]))
              · show (((cntN n X Y i) + 1) : Int) = (cntN n X Y (i + 1)); first | rfl | ((simp [cntN, ascP, *]))
            · refine .inl ⟨cvo3, 1000, 50, _, [0, 1, 2, 3, 4], ⟨i + 1, h⟩, (cvk3 a n c X Y ptr w i hib hcb hn hn0 hX hS hP h0 h1 h2 h3).ok, cvs3, by decide, ?_, by show n - (i + 1) < n - i; omega⟩
              intro q hq
              simp only [List.mem_cons, List.not_mem_nil, or_false] at hq
              rcases hq with rfl | rfl | rfl | rfl
              · show (_ : Value) = _; kernel_rfl
              · show (_ : Int) = _; kernel_rfl
              · show (((i : Int) + 1) : Int) = (((i + 1 : Nat)) : Int); first | rfl | ((simp [cntN, ascP, *]))
              · show ((cntN n X Y i) : Int) = (cntN n X Y (i + 1)); first | rfl | ((simp [cntN, ascP, *]))
      · exfalso; (first | (have g := of_decide_eq_true h0; omega) | (have g := of_decide_eq_false h0; omega) | (exact absurd (hq.symm.trans h1) (by decide)))
    · have hE : n = i := by omega
      subst hE
      have hib : bd 0 1000000000000000 (n : Int) := ⟨by omega, by omega⟩; have hn : bd 0 1000000000000 (n : Int) := ⟨by omega, by omega⟩; have hcb : bd 0 1000000000000 (cntN n X Y n) := (by have q := cntN_bd n X Y n; exact ⟨by omega, by omega⟩)
      rcases h0 : (decide ((n : Int) ≤ (n : Int))) with _ | _
      · rcases h1 : (leftP n X Y n) with _ | _
        · exfalso; (have g := of_decide_eq_false h0; omega)
        · rcases h2 : (decide (((Y (nx n n))) ≤ (Y n))) with _ | _
          · exfalso; (have g := of_decide_eq_false h0; omega)
          · rcases h3 : (decide (((Y (((n + 2) % n)))) ≤ ((Y (nx n n))))) with _ | _
            · exfalso; (have g := of_decide_eq_false h0; omega)
            · exfalso; (have g := of_decide_eq_false h0; omega)
      · refine .inr ⟨cvo4, 1000, 50, _, [0, 1, 2, 3, 4], (cvk4 a n c X Y ptr w (n) hib hcb hn hn0 hX hS hP h0).ok, cvf4_done, by decide, ?_⟩
        intro q hq
        simp only [List.mem_cons, List.not_mem_nil, or_false] at hq
        rcases hq with rfl | rfl | rfl
        · show (_ : Value) = _; kernel_rfl
        · show (_ : Int) = _; kernel_rfl
        · show (_ : Int) = _; kernel_rfl
  · skip
    intro q hq
    simp only [List.mem_cons, List.not_mem_nil, or_false] at hq
    rcases hq with rfl | rfl | rfl | rfl
    · show (_ : Value) = _; kernel_rfl
    · show (_ : Int) = _; kernel_rfl
    · show (0 : Int) = (0 : Int); first | rfl | ((simp [cntN, ascP, *]))
    · show (0 : Int) = (cntN n X Y 0); first | rfl | ((simp [cntN, ascP, *]))
def cvxP (n : Nat) (X Y : Nat → Int) : Bool := allN (leftP n X Y) n && (cntN n X Y n == 1)
theorem convex_any (a : Option Addr) (n c : Nat) (X Y : Nat → Int) (ptr : Nat → Addr) (w : World) (hn0 : n ≤ 1000000000000) (hX : ∀ k, k < n → bd (-1000000) 1000000 (X k) ∧ bd (-1000000) 1000000 (Y k)) (hS : Sl Try.prog w (.slice a n c) n 22 60 (fun k => .agg #[.int .i64 (X k), .int .i64 (Y k)]) ptr) (hP : Sl Try.prog w (.slice a n c) n 23 60 (fun k => .agg #[.int .i64 (X k), .int .i64 (Y k)]) ptr) : Calls Try.prog 40 #[.slice a n c] w fun e w' => e = .returned (.bool (cvxP n X Y)) ∧ Below w.heap.size w w' := by
  have hn : bd 0 1000000000000 (n : Int) := ⟨by omega, by omega⟩
  rcases least_fail (leftP n X Y) n with h | ⟨K, h1, h2, h3⟩
  · unfold cvxP
    rw [allN_all h, Bool.true_and]
    rcases hc : (cntN n X Y n == 1) with _ | _
    · exact run_know (P := Try.prog) (ρ := env [(n : Int), (cntN n X Y n)] [(.slice a n c)] w) (o := { bin := [(.eql, 3, .int .i64 (sn 1), .int .i64 1, .bool false)], loops := [(54, [false, true], cvtA, cvHA, .exit 0, cvtF_done, cvHF_done)], lens := [(false, oq 0, .int .i64 (sn 0))] }) ⟨(all_cons (cmpOK (op := .eql) (ty := 3) (k := .i64) (n := (sn 1)) (m := 1) (t := false) (a := (cntN n X Y n)) (b := 1) (by kernel_rfl) (by kernel_rfl) (congrArg some (hc))) all_nil), all_nil, all_nil, all_nil, all_nil, all_nil, all_nil, all_nil, all_nil, (all_cons (cv_loop_done a n c X Y ptr w hn0 hX hS hP h) all_nil), (all_cons (lenOK (i := 0) (r := (sn 0)) (a := a) (c := c) rfl (by kernel_rfl)) all_nil), all_nil, all_nil, all_nil, all_nil, all_nil, all_nil, all_nil⟩ 1000 50 40 [oq 0] (.bool false) (args' := #[(.slice a n c)]) (v' := .bool false) (by kernel_rfl) (by kernel_rfl) (by kernel_rfl) w (Below.refl _ _)
    · exact run_know (P := Try.prog) (ρ := env [(n : Int), (cntN n X Y n)] [(.slice a n c)] w) (o := { bin := [(.eql, 3, .int .i64 (sn 1), .int .i64 1, .bool true)], loops := [(54, [false, true], cvtA, cvHA, .exit 0, cvtF_done, cvHF_done)], lens := [(false, oq 0, .int .i64 (sn 0))] }) ⟨(all_cons (cmpOK (op := .eql) (ty := 3) (k := .i64) (n := (sn 1)) (m := 1) (t := true) (a := (cntN n X Y n)) (b := 1) (by kernel_rfl) (by kernel_rfl) (congrArg some (hc))) all_nil), all_nil, all_nil, all_nil, all_nil, all_nil, all_nil, all_nil, all_nil, (all_cons (cv_loop_done a n c X Y ptr w hn0 hX hS hP h) all_nil), (all_cons (lenOK (i := 0) (r := (sn 0)) (a := a) (c := c) rfl (by kernel_rfl)) all_nil), all_nil, all_nil, all_nil, all_nil, all_nil, all_nil, all_nil⟩ 1000 50 40 [oq 0] (.bool true) (args' := #[(.slice a n c)]) (v' := .bool true) (by kernel_rfl) (by kernel_rfl) (by kernel_rfl) w (Below.refl _ _)
  · unfold cvxP
    rw [allN_bad h1 h2, Bool.false_and]
    exact run_know (P := Try.prog) (ρ := env [(n : Int)] [(.slice a n c)] w) (o := { loops := [(54, [false, true], cvtA, cvHA, .ret, cvtF_bad, cvHF_bad)], lens := [(false, oq 0, .int .i64 (sn 0))] }) ⟨all_nil, all_nil, all_nil, all_nil, all_nil, all_nil, all_nil, all_nil, all_nil, (all_cons (cv_loop_bad a n c X Y ptr w hn0 hX hS hP K h1 h2 h3) all_nil), (all_cons (lenOK (i := 0) (r := (sn 0)) (a := a) (c := c) rfl (by kernel_rfl)) all_nil), all_nil, all_nil, all_nil, all_nil, all_nil, all_nil, all_nil⟩ 1000 50 40 [oq 0] (.bool false) (args' := #[(.slice a n c)]) (v' := .bool false) (by kernel_rfl) (by kernel_rfl) (by kernel_rfl) w (Below.refl _ _)
theorem ppos {z v : Int} (h : 0 < z * v) (hv : 0 ≤ v) : 0 < z := by
  rcases Int.lt_trichotomy z 0 with g | g | g
  · have := Int.mul_nonneg (show 0 ≤ -z by omega) hv
    rw [Int.neg_mul] at this; omega
  · rw [g, Int.zero_mul] at h; omega
  · exact g
theorem cnn {u s : Int} (hu : 0 < u) (h : 0 ≤ s * u) : 0 ≤ s := by
  by_cases hs : 0 ≤ s
  · exact hs
  · have := Int.mul_pos (show 0 < -s by omega) hu
    rw [Int.neg_mul] at this
    omega
def exN (x : Nat → Int) (k : Nat) : Int := x (k + 1) - x k
def crN (x y : Nat → Int) (p k : Nat) : Int := exN x p * exN y k - exN y p * exN x k
def FcN (x y : Nat → Int) (p j : Nat) : Int := exN x p * (y j - y p) - exN y p * (x j - x p)
section
variable {x y : Nat → Int} {n : Nat}
theorem crN_anti (p k : Nat) : crN x y p k = -crN x y k p := by unfold crN; grind
end
section
variable {x y : Nat → Int} {n : Nat}
theorem FcN_self (p : Nat) : FcN x y p p = 0 := by unfold FcN; grind
end
section
variable {x y : Nat → Int} {n : Nat}
theorem FcN_next (p : Nat) : FcN x y p (p + 1) = 0 := by unfold FcN exN; grind
end
section
variable {x y : Nat → Int} {n : Nat}
theorem FcN_succ (p j : Nat) : FcN x y p (j + 1) = FcN x y p j + crN x y p j := by unfold FcN crN exN; grind
end
section
variable {x y : Nat → Int} {n : Nat}
theorem cr_id (a b c : Nat) : crN x y a c * exN y b = crN x y a b * exN y c + crN x y b c * exN y a := by unfold crN; grind
end
section
variable {x y : Nat → Int} {n : Nat}
/-- in the middle of a block no edge is flat -/
theorem mid_up (hl : ∀ k, 0 < crN x y k (k + 1)) {s m : Nat} (hP : ∀ k, s ≤ k → k < m → 0 ≤ exN y k) (k : Nat) (h1 : s < k) (h2 : k + 1 < m) : 0 < exN y k := by
  have g0 := hP k (by omega) (by omega)
  by_cases h : exN y k = 0
  · exfalso
    obtain ⟨j, rfl⟩ : ∃ j, k = j + 1 := ⟨k - 1, by omega⟩
    have a := hl j
    have b := hl (j + 1)
    unfold crN at a b
    rw [h] at a b
    have g1 := hP j (by omega) (by omega)
    have g2 := hP (j + 1 + 1) (by omega) (by omega)
    have b1 := ppos (z := exN x (j + 1)) (v := exN y (j + 1 + 1)) (by grind) g2
    have a1 := ppos (z := -exN x (j + 1)) (v := exN y j) (by grind) g1
    omega
  · omega
end
section
variable {x y : Nat → Int} {n : Nat}
theorem blk_up (hl : ∀ k, 0 < crN x y k (k + 1)) {s m : Nat} (hP : ∀ k, s ≤ k → k < m → 0 ≤ exN y k) (p d : Nat) (h1 : s ≤ p) (h2 : p + 1 + d < m) : 0 ≤ crN x y p (p + 1 + d) := by
  induction d with
  | zero => exact Int.le_of_lt (hl p)
  | succ d ih =>
    have i1 := ih (by omega)
    have hb := mid_up hl hP (p + 1 + d) (by omega) (by omega)
    have e := cr_id (x := x) (y := y) p (p + 1 + d) (p + 1 + (d + 1))
    have k1 := Int.mul_nonneg i1 (hP (p + 1 + (d + 1)) (by omega) (by omega))
    have k2 := Int.mul_nonneg (Int.le_of_lt (hl (p + 1 + d))) (hP p (by omega) (by omega))
    rw [show p + 1 + d + 1 = p + 1 + (d + 1) from by omega] at k2
    exact cnn hb (by omega)
end
section
variable {x y : Nat → Int} {n : Nat}
theorem fwd (hl : ∀ k, 0 < crN x y k (k + 1)) {s m : Nat} (hP : ∀ k, s ≤ k → k < m → 0 ≤ exN y k) (p d : Nat) (h1 : s ≤ p) (h2 : p + 2 + d ≤ m) : 0 < FcN x y p (p + 2 + d) := by
  induction d with
  | zero => rw [show p + 2 + 0 = (p + 1) + 1 from by omega, FcN_succ, FcN_next]; have := hl p; omega
  | succ d ih =>
    rw [show p + 2 + (d + 1) = (p + 2 + d) + 1 from by omega, FcN_succ]
    have i1 := ih (by omega)
    have i2 := blk_up hl hP p (d + 1) h1 (by omega)
    rw [show p + 1 + (d + 1) = p + 2 + d from by omega] at i2
    omega
end
section
variable {x y : Nat → Int} {n : Nat}
theorem bwd (hl : ∀ k, 0 < crN x y k (k + 1)) {s m : Nat} (hP : ∀ k, s ≤ k → k < m → 0 ≤ exN y k) (p d i : Nat) (hi : i + 1 + d = p) (h1 : s ≤ i) (h2 : p < m) : 0 < FcN x y p i := by
  induction d generalizing i with
  | zero =>
    subst hi
    have e := FcN_succ (x := x) (y := y) (i + 1 + 0) i
    rw [show i + 1 + 0 = i + 1 from rfl] at e ⊢
    rw [FcN_self] at e
    have := hl i
    rw [crN_anti] at this
    omega
  | succ d ih =>
    have i1 := ih (i + 1) (by omega) (by omega)
    have e := FcN_succ (x := x) (y := y) p i
    have i2 := blk_up hl hP i (d + 1) h1 (by omega)
    rw [show i + 1 + (d + 1) = p from by omega, crN_anti] at i2
    omega
end
section
variable {x y : Nat → Int} {n : Nat}
theorem down_stays (hl : ∀ k, 0 < crN x y k (k + 1)) {m t : Nat} {p : Nat} (hp : 0 ≤ exN y p) (hQ : ∀ k, m ≤ k → k < t → exN y k ≤ 0) (k0 d : Nat) (h0 : m ≤ k0) (hk : crN x y p k0 < 0) (h1 : k0 + d < t) : crN x y p (k0 + d) ≤ 0 := by
  induction d with
  | zero => exact Int.le_of_lt hk
  | succ d ih =>
    have i1 := ih (by omega)
    have hc := hQ (k0 + d + 1) (by omega) (by omega)
    have hb0 := hQ (k0 + d) (by omega) (by omega)
    have hbc := hl (k0 + d)
    have hb : exN y (k0 + d) < 0 := by
      by_cases h : exN y (k0 + d) = 0
      · exfalso
        have b1 : 0 < -exN x (k0 + d) := by
          unfold crN at hbc
          rw [h] at hbc
          exact ppos (z := -exN x (k0 + d)) (v := -exN y (k0 + d + 1)) (by grind) (by omega)
        cases d with
        | zero =>
          rw [Nat.add_zero] at h b1
          unfold crN at hk
          rw [h] at hk
          have := Int.mul_nonneg hp (Int.le_of_lt b1)
          grind
        | succ d =>
          have a := hl (k0 + d)
          unfold crN at a
          rw [show k0 + d + 1 = k0 + (d + 1) from rfl, h] at a
          have g1 := hQ (k0 + d) (by omega) (by omega)
          have := Int.mul_nonneg (show 0 ≤ -exN y (k0 + d) by omega) (Int.le_of_lt b1)
          grind
      · omega
    have e := cr_id (x := x) (y := y) p (k0 + d) (k0 + d + 1)
    have k1 := Int.mul_nonneg (show 0 ≤ -crN x y p (k0 + d) by omega) (show 0 ≤ -exN y (k0 + d + 1) by omega)
    have k2 := Int.mul_nonneg (Int.le_of_lt hbc) hp
    have k3 : 0 ≤ -crN x y p (k0 + d + 1) * -exN y (k0 + d) := by grind
    have := cnn (show 0 < -exN y (k0 + d) by omega) k3
    rw [show k0 + (d + 1) = k0 + d + 1 from rfl]
    omega
end
section
variable {x y : Nat → Int} {n : Nat}
theorem mono_up {p a : Nat} (d : Nat) (h : ∀ k, a ≤ k → k < a + d → 0 ≤ crN x y p k) : FcN x y p a ≤ FcN x y p (a + d) := by
  induction d with
  | zero => exact Int.le_refl _
  | succ d ih =>
    have := ih (fun k h1 h2 => h k h1 (by omega))
    have q := h (a + d) (by omega) (by omega)
    rw [show a + (d + 1) = (a + d) + 1 from rfl, FcN_succ]; omega
end
section
variable {x y : Nat → Int} {n : Nat}
theorem mono_down {p a : Nat} (d : Nat) (h : ∀ k, a ≤ k → k < a + d → crN x y p k ≤ 0) : FcN x y p (a + d) ≤ FcN x y p a := by
  induction d with
  | zero => exact Int.le_refl _
  | succ d ih =>
    have := ih (fun k h1 h2 => h k h1 (by omega))
    have q := h (a + d) (by omega) (by omega)
    rw [show a + (d + 1) = (a + d) + 1 from rfl, FcN_succ]; omega
end
section
variable {x y : Nat → Int} {n : Nat}
theorem half_left (hx : ∀ k, x (k + n) = x k) (hy : ∀ k, y (k + n) = y k) (hl : ∀ k, 0 < crN x y k (k + 1)) {s m : Nat} (h1 : s < m) (h2 : m < s + n)
    (hP : ∀ k, s ≤ k → k < m → 0 ≤ exN y k) (hQ : ∀ k, m ≤ k → k < s + n → exN y k ≤ 0) (p j : Nat) (hp1 : s ≤ p) (hp2 : p < m) (hj1 : p + 2 ≤ j) (hj2 : j < p + n) : 0 < FcN x y p j := by
  have per : ∀ i, FcN x y p (i + n) = FcN x y p i := by intro i; unfold FcN; rw [hx, hy]
  by_cases c1 : j ≤ m
  · obtain ⟨d, rfl⟩ : ∃ d, j = p + 2 + d := ⟨j - (p + 2), by omega⟩
    exact fwd hl hP p d hp1 c1
  by_cases c2 : s + n ≤ j
  · obtain ⟨i, rfl⟩ : ∃ i, j = i + n := ⟨j - n, by omega⟩
    rw [per]
    exact bwd hl hP p (p - 1 - i) i (by omega) (by omega) hp2
  -- m < j < s + n
  have hm : 0 ≤ FcN x y p m ∧ (p + 1 < m → 0 < FcN x y p m) := by
    by_cases c : p + 1 < m
    · have := fwd hl hP p (m - (p + 2)) hp1 (by omega)
      rw [show p + 2 + (m - (p + 2)) = m from by omega] at this
      exact ⟨by omega, fun _ => this⟩
    · have e : m = p + 1 := by omega
      rw [e, FcN_next]
      exact ⟨by omega, fun h => by omega⟩
  by_cases cA : ∀ k, m ≤ k → k < j → 0 ≤ crN x y p k
  · by_cases c : p + 1 < m
    · have := mono_up (x := x) (y := y) (p := p) (a := m) (j - m) (fun k g1 g2 => cA k g1 (by omega))
      rw [show m + (j - m) = j from by omega] at this
      have := hm.2 c
      omega
    · have e : m = p + 1 := by omega
      have := mono_up (x := x) (y := y) (p := p) (a := p + 2) (j - (p + 2)) (fun k g1 g2 => cA k (by omega) (by omega))
      rw [show p + 2 + (j - (p + 2)) = j from by omega] at this
      have q : FcN x y p (p + 2) = FcN x y p (p + 1) + crN x y p (p + 1) := FcN_succ p (p + 1)
      rw [FcN_next] at q
      have := hl p
      omega
  · simp only [Classical.not_forall, Classical.not_imp, Int.not_le] at cA
    obtain ⟨k, g1, g2, g3⟩ := cA
    have st : ∀ l, j ≤ l → l < s + n → crN x y p l ≤ 0 := by
      intro l a1 a2
      have := down_stays hl (hP p hp1 hp2) hQ k (l - k) g1 g3 (by omega)
      rw [show k + (l - k) = l from by omega] at this
      exact this
    by_cases c : s < p
    · have := mono_down (x := x) (y := y) (p := p) (a := j) (s + n - j) (fun l a1 a2 => st l a1 (by omega))
      rw [show j + (s + n - j) = s + n from by omega, per] at this
      have := bwd hl hP p (p - 1 - s) s (by omega) (Nat.le_refl _) hp2
      omega
    · have e : s = p := by omega
      subst e
      have := mono_down (x := x) (y := y) (p := s) (a := j) (s + n - 1 - j) (fun l a1 a2 => st l a1 (by omega))
      rw [show j + (s + n - 1 - j) = s + n - 1 from by omega] at this
      have q : FcN x y s (s + n - 1 + 1) = FcN x y s (s + n - 1) + crN x y s (s + n - 1) := FcN_succ s (s + n - 1)
      rw [show s + n - 1 + 1 = s + n from by omega, per, FcN_self] at q
      have a := hl (s + n - 1)
      rw [show s + n - 1 + 1 = s + n from by omega] at a
      have a2 : crN x y (s + n - 1) (s + n) = crN x y (s + n - 1) s := by
        unfold crN exN
        rw [show s + n + 1 = s + 1 + n from by omega, hx, hy, hx, hy]
      rw [a2, crN_anti] at a
      omega
end
section
variable {x y : Nat → Int} {n : Nat}
theorem all_left (hx : ∀ k, x (k + n) = x k) (hy : ∀ k, y (k + n) = y k) (hl : ∀ k, 0 < crN x y k (k + 1)) {s m : Nat} (h1 : s < m) (h2 : m < s + n)
    (hP : ∀ k, s ≤ k → k < m → 0 ≤ exN y k) (hQ : ∀ k, m ≤ k → k < s + n → exN y k ≤ 0) (p j : Nat) (hp1 : s ≤ p) (hp2 : p < s + n) (hj1 : p + 2 ≤ j) (hj2 : j < p + n) : 0 < FcN x y p j := by
  by_cases c : p < m
  · exact half_left hx hy hl h1 h2 hP hQ p j hp1 c hj1 hj2
  · have eX : ∀ k, exN (fun i => -x i) k = -exN x k := by intro k; show -x (k + 1) - -x k = -(x (k + 1) - x k); omega
    have eY : ∀ k, exN (fun i => -y i) k = -exN y k := by intro k; show -y (k + 1) - -y k = -(y (k + 1) - y k); omega
    have eC : ∀ a b, crN (fun i => -x i) (fun i => -y i) a b = crN x y a b := by intro a b; unfold crN; rw [eX, eX, eY, eY]; grind
    have eF : FcN (fun i => -x i) (fun i => -y i) p j = FcN x y p j := by unfold FcN; rw [eX, eY]; grind
    rw [← eF]
    refine half_left (x := fun i => -x i) (y := fun i => -y i) (n := n) (fun k => by rw [hx]) (fun k => by rw [hy]) (fun k => by rw [eC]; exact hl k) (s := m) (m := s + n) h2 (by omega) (fun k g1 g2 => ?_) (fun k g1 g2 => ?_) p j (by omega) hp2 hj1 hj2
    · rw [eY]; have := hQ k g1 g2; omega
    · rw [eY]
      obtain ⟨i, rfl⟩ : ∃ i, k = i + n := ⟨k - n, by omega⟩
      have : exN y (i + n) = exN y i := by unfold exN; rw [show i + n + 1 = i + 1 + n from by omega, hy, hy]
      rw [this]
      have := hP i (by omega) (by omega); omega
end
section
variable {x y : Nat → Int} {n : Nat}
/-- one ascent: up, then down -/
theorem one_ascent (hy : ∀ k, y (k + n) = y k) {a : Nat} (ha : a < n) (h0 : exN y a ≤ 0) (h1 : 0 < exN y (a + 1)) (hu : ∀ b, b < n → exN y b ≤ 0 → 0 < exN y (b + 1) → b = a) :
    ∃ s m, s = a + 1 ∧ s < m ∧ m < s + n ∧ (∀ k, s ≤ k → k < m → 0 ≤ exN y k) ∧ (∀ k, m ≤ k → k < s + n → exN y k ≤ 0) := by
  have per : ∀ k, exN y (k + n) = exN y k := by intro k; unfold exN; rw [show k + n + 1 = k + 1 + n from by omega, hy, hy]
  have hn : 1 < n := by
    rcases Nat.lt_or_ge 1 n with h | h
    · exact h
    · have e : n = 1 := by omega
      subst e
      rw [per] at h1; omega
  -- the first edge that is not up
  have hex : ∃ d, exN y (a + 1 + d) ≤ 0 ∧ a + 1 + d < a + 1 + n := ⟨n - 1, by rw [show a + 1 + (n - 1) = a + n from by omega, per]; exact h0, by omega⟩
  have least : ∃ d, (exN y (a + 1 + d) ≤ 0 ∧ a + 1 + d < a + 1 + n) ∧ ∀ e, e < d → 0 < exN y (a + 1 + e) := by
    obtain ⟨d, hd⟩ := hex
    induction d using Nat.strongRecOn with
    | _ d ih =>
      by_cases c : ∃ e, e < d ∧ exN y (a + 1 + e) ≤ 0
      · obtain ⟨e, e1, e2⟩ := c
        exact ih e e1 ⟨e2, by omega⟩
      · refine ⟨d, hd, fun e he => ?_⟩
        have : ¬ exN y (a + 1 + e) ≤ 0 := fun q => c ⟨e, he, q⟩
        omega
  obtain ⟨d, ⟨d1, d2⟩, d3⟩ := least
  have hd0 : 0 < d := by
    rcases Nat.eq_zero_or_pos d with h | h
    · subst h; rw [Nat.add_zero] at d1; omega
    · exact h
  refine ⟨a + 1, a + 1 + d, rfl, by omega, d2, fun k g1 g2 => ?_, ?_⟩
  · have := d3 (k - (a + 1)) (by omega)
    rw [show a + 1 + (k - (a + 1)) = k from by omega] at this
    omega
  · have step : ∀ e, a + 1 + d + e < a + 1 + n → exN y (a + 1 + d + e) ≤ 0 := by
      intro e
      induction e with
      | zero => intro _; exact d1
      | succ e ih =>
        intro h
        have i1 := ih (by omega)
        by_cases c : 0 < exN y (a + 1 + d + (e + 1))
        · exfalso
          by_cases c2 : a + 1 + d + e < n
          · have := hu (a + 1 + d + e) c2 i1 c
            omega
          · obtain ⟨i, hi⟩ : ∃ i, a + 1 + d + e = i + n := ⟨a + 1 + d + e - n, by omega⟩
            rw [show a + 1 + d + (e + 1) = (a + 1 + d + e) + 1 from by omega, hi, show i + n + 1 = (i + 1) + n from by omega, per] at c
            rw [hi, per] at i1
            have := hu i (by omega) i1 c
            omega
        · omega
    intro k g1 g2
    have := step (k - (a + 1 + d)) (by omega)
    rw [show a + 1 + d + (k - (a + 1 + d)) = k from by omega] at this
    exact this
end
section
variable {x y : Nat → Int} {n : Nat}
/-- two ascents: not all corners are left of all edges -/
theorem two_ascents {a b : Nat} (hl : 0 < crN x y b (b + 1)) (hb0 : exN y b ≤ 0) (hb1 : 0 < exN y (b + 1))
    (hle : y a ≤ y (b + 1)) (h1 : 0 < FcN x y b a ∨ (a = b ∧ 0 < exN y b)) (h2 : 0 < FcN x y (b + 1) a ∨ y (b + 1) < y a) : False := by
  rcases h1 with h1 | ⟨_, h⟩
  · rcases h2 with h2 | h2
    · unfold FcN at h1 h2
      unfold crN at hl
      have e1 : exN x b * (y a - y b) - exN y b * (x a - x b) = exN x b * (y a - y (b + 1)) - exN y b * (x a - x (b + 1)) := by unfold exN; grind
      rw [e1] at h1
      generalize exN x b = p at *
      generalize exN y b = r at *
      generalize exN x (b + 1) = s at *
      generalize exN y (b + 1) = t at *
      generalize x a - x (b + 1) = u at *
      have hc : y a - y (b + 1) ≤ 0 := by omega
      generalize y a - y (b + 1) = c at *
      have k1 := Int.mul_pos h1 hb1
      have k2 := Int.mul_nonneg (Int.le_of_lt h2) (show 0 ≤ -r by omega)
      have k3 := Int.mul_nonneg (show 0 ≤ -c by omega) (Int.le_of_lt hl)
      grind
    · omega
  · omega
end
theorem cnt_zero (n : Nat) (X Y : Nat → Int) (m : Nat) : cntN n X Y m = 0 ↔ ∀ b, b < m → ascP n Y b = false := by
  induction m with
  | zero => simp [cntN]
  | succ m ih =>
    have bd := (cntN_bd n X Y m).1
    unfold cntN
    rcases h : ascP n Y m with _ | _
    · rw [if_neg (by simp), ih]
      constructor
      · intro g b hb
        rcases Nat.lt_or_ge b m with c | c
        · exact g b c
        · rw [show b = m from by omega]; exact h
      · intro g b hb; exact g b (by omega)
    · rw [if_pos rfl]
      constructor
      · intro g; omega
      · intro g; rw [g m (by omega)] at h; cases h
theorem cnt_one (n : Nat) (X Y : Nat → Int) (m : Nat) : cntN n X Y m = 1 ↔ ∃ a, a < m ∧ ascP n Y a = true ∧ ∀ b, b < m → ascP n Y b = true → b = a := by
  induction m with
  | zero => simp [cntN]
  | succ m ih =>
    unfold cntN
    rcases h : ascP n Y m with _ | _
    · rw [if_neg (by simp), ih]
      constructor
      · rintro ⟨a, h1, h2, h3⟩
        refine ⟨a, by omega, h2, fun b hb hq => ?_⟩
        rcases Nat.lt_or_ge b m with c | c
        · exact h3 b c hq
        · rw [show b = m from by omega] at hq; rw [hq] at h; cases h
      · rintro ⟨a, h1, h2, h3⟩
        refine ⟨a, ?_, h2, fun b hb hq => h3 b (by omega) hq⟩
        rcases Nat.lt_or_ge a m with c | c
        · exact c
        · rw [show a = m from by omega] at h2; rw [h2] at h; cases h
    · rw [if_pos rfl]
      have e : cntN n X Y m + 1 = 1 ↔ cntN n X Y m = 0 := by omega
      rw [e, cnt_zero]
      constructor
      · intro g
        refine ⟨m, by omega, h, fun b hb hq => ?_⟩
        rcases Nat.lt_or_ge b m with c | c
        · rw [g b c] at hq; cases hq
        · omega
      · rintro ⟨a, h1, h2, h3⟩ b hb
        have := h3 m (by omega) h
        rcases q : ascP n Y b with _ | _
        · rfl
        · have := h3 b (by omega) q; omega
/-- all other corners lie on the left of an edge -/
def lefA (n : Nat) (X Y : Nat → Int) (i j : Nat) : Bool := j == i || (j == nx n i || decide (0 < (X (nx n i) - X i) * (Y j - Y i) - (Y (nx n i) - Y i) * (X j - X i)))
def cvxR (n : Nat) (X Y : Nat → Int) : Bool := allN (fun i => allN (lefA n X Y i) n) n
theorem allN_iff {q : Nat → Bool} {n : Nat} : allN q n = true ↔ ∀ i, i < n → q i = true := ⟨fun h i hi => allN_get h hi, allN_all⟩
theorem mod1 (k n : Nat) : (k % n + 1) % n = (k + 1) % n := Nat.mod_add_mod k n 1
theorem cvxR_iff {n : Nat} {X Y : Nat → Int} : cvxR n X Y = true ↔ ∀ i, i < n → ∀ j, j < n → j ≠ i → j ≠ nx n i → 0 < FcN (fun k => X (k % n)) (fun k => Y (k % n)) i j := by
  unfold cvxR
  rw [allN_iff]
  have e : ∀ i, i < n → ∀ j, j < n → (lefA n X Y i j = true ↔ (j ≠ i → j ≠ nx n i → 0 < FcN (fun k => X (k % n)) (fun k => Y (k % n)) i j)) := by
    intro i hi j hj
    have q : FcN (fun k => X (k % n)) (fun k => Y (k % n)) i j = (X (nx n i) - X i) * (Y j - Y i) - (Y (nx n i) - Y i) * (X j - X i) := by
      show (X ((i + 1) % n) - X (i % n)) * (Y (j % n) - Y (i % n)) - (Y ((i + 1) % n) - Y (i % n)) * (X (j % n) - X (i % n)) = _
      rw [Nat.mod_eq_of_lt hi, Nat.mod_eq_of_lt hj]; rfl
    rw [q]
    unfold lefA
    simp only [Bool.or_eq_true, beq_iff_eq, decide_eq_true_eq]
    by_cases c1 : j = i <;> by_cases c2 : j = nx n i <;> simp [c1, c2]
  constructor
  · intro h i hi j hj
    exact (e i hi j hj).1 (allN_iff.1 (h i hi) j hj)
  · intro h i hi
    rw [allN_iff]
    intro j hj
    exact (e i hi j hj).2 (h i hi j hj)
theorem leftP_iff {n : Nat} {X Y : Nat → Int} {i : Nat} (hi : i < n) : leftP n X Y i = true ↔ 0 < crN (fun k => X (k % n)) (fun k => Y (k % n)) i (i + 1) := by
  unfold leftP turnI
  rw [beq_iff_eq, cmpI_pos]
  have q : crN (fun k => X (k % n)) (fun k => Y (k % n)) i (i + 1) = (X (nx n i) - X i) * (Y ((i + 2) % n) - Y (nx n i)) - (Y (nx n i) - Y i) * (X ((i + 2) % n) - X (nx n i)) := by
    show (X ((i + 1) % n) - X (i % n)) * (Y ((i + 1 + 1) % n) - Y ((i + 1) % n)) - (Y ((i + 1) % n) - Y (i % n)) * (X ((i + 1 + 1) % n) - X ((i + 1) % n)) = _
    rw [Nat.mod_eq_of_lt hi]; rfl
  rw [q]
  generalize X i = a at *
  generalize Y i = b at *
  generalize X (nx n i) = c at *
  generalize Y (nx n i) = d at *
  generalize X ((i + 2) % n) = e at *
  generalize Y ((i + 2) % n) = f at *
  have : (c - a) * (f - d) - (d - b) * (e - c) = (c - a) * (f - b) - (d - b) * (e - a) := by grind
  omega
theorem ascP_iff {n : Nat} {Y : Nat → Int} {i : Nat} (hi : i < n) : ascP n Y i = true ↔ exN (fun k => Y (k % n)) i ≤ 0 ∧ 0 < exN (fun k => Y (k % n)) (i + 1) := by
  unfold ascP
  have q1 : exN (fun k => Y (k % n)) i = Y (nx n i) - Y i := by
    show Y ((i + 1) % n) - Y (i % n) = _
    rw [Nat.mod_eq_of_lt hi]; rfl
  have q2 : exN (fun k => Y (k % n)) (i + 1) = Y ((i + 2) % n) - Y (nx n i) := rfl
  rw [q1, q2]
  simp only [Bool.and_eq_true, Bool.not_eq_true', decide_eq_true_eq, decide_eq_false_iff_not]
  omega
section
variable {n : Nat} {X Y : Nat → Int}
theorem per_x (X : Nat → Int) (n k : Nat) : (fun k => X (k % n)) (k + n) = (fun k => X (k % n)) k := by show X ((k + n) % n) = X (k % n); rw [Nat.add_mod_right]
end
section
variable {n : Nat} {X Y : Nat → Int}
theorem cr_mod (k : Nat) : crN (fun k => X (k % n)) (fun k => Y (k % n)) k (k + 1) = crN (fun k => X (k % n)) (fun k => Y (k % n)) (k % n) (k % n + 1) := by
  show (X ((k + 1) % n) - X (k % n)) * (Y ((k + 1 + 1) % n) - Y ((k + 1) % n)) - (Y ((k + 1) % n) - Y (k % n)) * (X ((k + 1 + 1) % n) - X ((k + 1) % n)) =
    (X ((k % n + 1) % n) - X (k % n % n)) * (Y ((k % n + 1 + 1) % n) - Y ((k % n + 1) % n)) - (Y ((k % n + 1) % n) - Y (k % n % n)) * (X ((k % n + 1 + 1) % n) - X ((k % n + 1) % n))
  rw [Nat.mod_mod, mod1, show k % n + 1 + 1 = k % n + 2 from rfl, show (k % n + 2) % n = (k + 2) % n from Nat.mod_add_mod k n 2]
end
section
variable {n : Nat} {X Y : Nat → Int}
theorem cvx_to (hn : 3 ≤ n) (h : cvxP n X Y = true) : cvxR n X Y = true := by
  unfold cvxP at h
  rw [Bool.and_eq_true, beq_iff_eq, allN_iff, cnt_one] at h
  obtain ⟨hL, a, ha, ha2, hu⟩ := h
  obtain ⟨h0, h1⟩ := (ascP_iff ha).1 ha2
  have hl : ∀ k, 0 < crN (fun k => X (k % n)) (fun k => Y (k % n)) k (k + 1) := fun k => by
    rw [cr_mod]; exact (leftP_iff (Nat.mod_lt _ (by omega))).1 (hL _ (Nat.mod_lt _ (by omega)))
  obtain ⟨s, m, hs, g1, g2, hP, hQ⟩ := one_ascent (y := fun k => Y (k % n)) (n := n) (per_x Y n) ha h0 h1 (fun b hb q1 q2 => hu b hb ((ascP_iff hb).2 ⟨q1, q2⟩))
  rw [cvxR_iff]
  intro i hi j hj c1 c2
  -- a place of i and one of j behind it
  obtain ⟨p, p1, p2, pe⟩ : ∃ p, s ≤ p ∧ p < s + n ∧ p % n = i := by
    by_cases c : s ≤ i
    · exact ⟨i, c, by omega, Nat.mod_eq_of_lt hi⟩
    · exact ⟨i + n, by omega, by omega, by rw [Nat.add_mod_right]; exact Nat.mod_eq_of_lt hi⟩
  obtain ⟨q, q1, q2, qe⟩ : ∃ q, p ≤ q ∧ q < p + n ∧ q % n = j := by
    have hdm := Nat.div_add_mod p n
    by_cases c : i ≤ j
    · refine ⟨p + (j - i), by omega, by omega, ?_⟩
      rw [← Nat.mod_add_mod, pe, show i + (j - i) = j from by omega]; exact Nat.mod_eq_of_lt hj
    · refine ⟨p + (n + j - i), by omega, by omega, ?_⟩
      rw [← Nat.mod_add_mod, pe, show i + (n + j - i) = j + n from by omega, Nat.add_mod_right]; exact Nat.mod_eq_of_lt hj
  have n1 : q ≠ p := by rintro rfl; exact c1 (qe.symm.trans pe)
  have n2 : q ≠ p + 1 := by
    rintro rfl
    apply c2
    rw [← qe, ← pe]
    exact (mod1 p n).symm
  have r := all_left (x := fun k => X (k % n)) (y := fun k => Y (k % n)) (per_x X n) (per_x Y n) hl g1 g2 hP hQ p q p1 p2 (by omega) q2
  have e : FcN (fun k => X (k % n)) (fun k => Y (k % n)) p q = FcN (fun k => X (k % n)) (fun k => Y (k % n)) i j := by
    show (X ((p + 1) % n) - X (p % n)) * (Y (q % n) - Y (p % n)) - (Y ((p + 1) % n) - Y (p % n)) * (X (q % n) - X (p % n)) =
      (X ((i + 1) % n) - X (i % n)) * (Y (j % n) - Y (i % n)) - (Y ((i + 1) % n) - Y (i % n)) * (X (j % n) - X (i % n))
    rw [← mod1 p n, pe, qe, Nat.mod_eq_of_lt hi, Nat.mod_eq_of_lt hj]
  rw [← e]; exact r
end
section
variable {n : Nat} {X Y : Nat → Int}
theorem cvx_from (hn : 3 ≤ n) (h : cvxR n X Y = true) : cvxP n X Y = true := by
  rw [cvxR_iff] at h
  have hL : ∀ i, i < n → leftP n X Y i = true := by
    intro i hi
    rw [leftP_iff hi]
    have hj : (i + 2) % n < n := Nat.mod_lt _ (by omega)
    have q := h i hi ((i + 2) % n) hj (by
        intro e
        by_cases c : i + 2 < n
        · rw [Nat.mod_eq_of_lt c] at e; omega
        · rw [Nat.mod_eq_sub_mod (by omega), Nat.mod_eq_of_lt (by omega)] at e; omega) (by
        intro e
        unfold nx at e
        by_cases c : i + 2 < n
        · rw [Nat.mod_eq_of_lt c, Nat.mod_eq_of_lt (by omega)] at e; omega
        · rw [Nat.mod_eq_sub_mod (by omega), Nat.mod_eq_of_lt (show i + 2 - n < n by omega)] at e
          by_cases c2 : i + 1 < n
          · rw [Nat.mod_eq_of_lt c2] at e; omega
          · rw [Nat.mod_eq_sub_mod (show n ≤ i + 1 by omega), Nat.mod_eq_of_lt (show i + 1 - n < n by omega)] at e; omega)
    have e : FcN (fun k => X (k % n)) (fun k => Y (k % n)) i ((i + 2) % n) = FcN (fun k => X (k % n)) (fun k => Y (k % n)) i (i + 1) + crN (fun k => X (k % n)) (fun k => Y (k % n)) i (i + 1) := by
      rw [← FcN_succ]
      show (X ((i + 1) % n) - X (i % n)) * (Y ((i + 2) % n % n) - Y (i % n)) - (Y ((i + 1) % n) - Y (i % n)) * (X ((i + 2) % n % n) - X (i % n)) = _
      rw [Nat.mod_mod]; rfl
    rw [FcN_next] at e
    omega
  have hl : ∀ k, 0 < crN (fun k => X (k % n)) (fun k => Y (k % n)) k (k + 1) := fun k => by
    rw [cr_mod]; exact (leftP_iff (Nat.mod_lt _ (by omega))).1 (hL _ (Nat.mod_lt _ (by omega)))
  have perE : ∀ k, exN (fun k => Y (k % n)) (k % n) = exN (fun k => Y (k % n)) k := by
    intro k
    show Y ((k % n + 1) % n) - Y (k % n % n) = Y ((k + 1) % n) - Y (k % n)
    rw [mod1, Nat.mod_mod]
  have perE1 : ∀ k, exN (fun k => Y (k % n)) (k % n + 1) = exN (fun k => Y (k % n)) (k + 1) := by
    intro k
    show Y ((k % n + 1 + 1) % n) - Y ((k % n + 1) % n) = Y ((k + 1 + 1) % n) - Y ((k + 1) % n)
    rw [mod1, show k % n + 1 + 1 = k % n + 2 from rfl, show (k % n + 2) % n = (k + 2) % n from Nat.mod_add_mod k n 2]
  -- there is an ascent
  have ex : ∃ b, b < n ∧ ascP n Y b = true := by
    apply Classical.byContradiction
    intro hne
    have no : ∀ k, exN (fun k => Y (k % n)) k ≤ 0 → exN (fun k => Y (k % n)) (k + 1) ≤ 0 := by
      intro k hk
      apply Classical.byContradiction
      intro h2
      exact hne ⟨k % n, Nat.mod_lt _ (by omega), (ascP_iff (Nat.mod_lt _ (by omega))).2 ⟨by rw [perE]; exact hk, by rw [perE1]; omega⟩⟩
    have cyc : (fun k => Y (k % n)) (0 + n) = (fun k => Y (k % n)) 0 := per_x Y n 0
    by_cases hd : ∃ k, exN (fun k => Y (k % n)) k ≤ 0
    · obtain ⟨k0, hk0⟩ := hd
      have all : ∀ d, exN (fun k => Y (k % n)) (k0 + d) ≤ 0 := by
        intro d
        induction d with
        | zero => exact hk0
        | succ d ih => exact no _ ih
      have dec : ∀ d, (fun k => Y (k % n)) (k0 + d) ≤ (fun k => Y (k % n)) k0 := by
        intro d
        induction d with
        | zero => exact Int.le_refl _
        | succ d ih =>
          have := all d
          have e : exN (fun k => Y (k % n)) (k0 + d) = (fun k => Y (k % n)) (k0 + (d + 1)) - (fun k => Y (k % n)) (k0 + d) := rfl
          omega
      have dec2 : ∀ d, d ≤ n → (fun k => Y (k % n)) (k0 + n) ≤ (fun k => Y (k % n)) (k0 + (n - d)) := by
        intro d
        induction d with
        | zero => intro _; exact Int.le_refl _
        | succ d ih =>
          intro hd
          have i1 := ih (by omega)
          have := all (n - (d + 1))
          have e : exN (fun k => Y (k % n)) (k0 + (n - (d + 1))) = (fun k => Y (k % n)) (k0 + (n - (d + 1)) + 1) - (fun k => Y (k % n)) (k0 + (n - (d + 1))) := rfl
          rw [show k0 + (n - (d + 1)) + 1 = k0 + (n - d) from by omega] at e
          omega
      have flat : ∀ d, d ≤ n → (fun k => Y (k % n)) (k0 + d) = (fun k => Y (k % n)) k0 := by
        intro d hd
        have a1 := dec d
        have a2 := dec2 (n - d) (by omega)
        rw [show n - (n - d) = d from by omega, per_x Y n k0] at a2
        omega
      have e0 : exN (fun k => Y (k % n)) k0 = 0 := by
        have a := flat 1 (by omega)
        have e : exN (fun k => Y (k % n)) k0 = (fun k => Y (k % n)) (k0 + 1) - (fun k => Y (k % n)) k0 := rfl
        omega
      have e1 : exN (fun k => Y (k % n)) (k0 + 1) = 0 := by
        have a := flat 1 (by omega)
        have b := flat 2 (by omega)
        have e : exN (fun k => Y (k % n)) (k0 + 1) = (fun k => Y (k % n)) (k0 + 2) - (fun k => Y (k % n)) (k0 + 1) := rfl
        omega
      have c := hl k0
      unfold crN at c
      rw [e0, e1] at c
      simp at c
    · have up : ∀ k, 0 < exN (fun k => Y (k % n)) k := by
        intro k
        apply Classical.byContradiction
        intro q
        exact hd ⟨k, by omega⟩
      have inc : ∀ d, (fun k => Y (k % n)) 0 + d ≤ (fun k => Y (k % n)) (0 + d) := by
        intro d
        induction d with
        | zero => simp
        | succ d ih =>
          have := up d
          have e : exN (fun k => Y (k % n)) d = (fun k => Y (k % n)) (0 + (d + 1)) - (fun k => Y (k % n)) (0 + d) := by
            show (fun k => Y (k % n)) (d + 1) - (fun k => Y (k % n)) d = _
            rw [Nat.zero_add, Nat.zero_add]
          omega
      have := inc n
      rw [cyc] at this
      omega
  -- and there are no two
  have two : ∀ a b, a < n → b < n → ascP n Y a = true → ascP n Y b = true → a ≠ b → Y ((a + 1) % n) ≤ Y ((b + 1) % n) → False := by
    intro a b ha hb qa qb hab hle
    obtain ⟨a0, a1⟩ := (ascP_iff ha).1 qa
    obtain ⟨b0, b1⟩ := (ascP_iff hb).1 qb
    have hv : (a + 1) % n < n := Nat.mod_lt _ (by omega)
    have hw : (b + 1) % n < n := Nat.mod_lt _ (by omega)
    have hvw : (a + 1) % n ≠ (b + 1) % n := by
      intro e
      apply hab
      by_cases c1 : a + 1 < n <;> by_cases c2 : b + 1 < n
      · rw [Nat.mod_eq_of_lt c1, Nat.mod_eq_of_lt c2] at e; omega
      · rw [Nat.mod_eq_of_lt c1, show b + 1 = n from by omega, Nat.mod_self] at e; omega
      · rw [show a + 1 = n from by omega, Nat.mod_self, Nat.mod_eq_of_lt c2] at e; omega
      · omega
    refine two_ascents (x := fun k => X (k % n)) (y := fun k => Y (k % n)) (a := (a + 1) % n) (b := b) (hl b) b0 b1 (by show Y ((a + 1) % n % n) ≤ Y ((b + 1) % n); rw [Nat.mod_mod]; exact hle) ?_ ?_
    · by_cases c : (a + 1) % n = b
      · refine .inr ⟨c, ?_⟩
        rw [← c, perE]; exact a1
      · exact .inl (h b hb _ hv c hvw)
    · by_cases c : (a + 1) % n = (b + 2) % n
      · refine .inr ?_
        have e : exN (fun k => Y (k % n)) (b + 1) = Y ((b + 2) % n) - Y ((b + 1) % n) := rfl
        show Y ((b + 1) % n) < Y ((a + 1) % n % n)
        rw [Nat.mod_mod, c]; omega
      · refine .inl ?_
        have q := h _ hw _ hv hvw (by unfold nx; rw [mod1]; exact c)
        have e : FcN (fun k => X (k % n)) (fun k => Y (k % n)) ((b + 1) % n) ((a + 1) % n) = FcN (fun k => X (k % n)) (fun k => Y (k % n)) (b + 1) ((a + 1) % n) := by
          show (X (((b + 1) % n + 1) % n) - X ((b + 1) % n % n)) * (Y ((a + 1) % n % n) - Y ((b + 1) % n % n)) - (Y (((b + 1) % n + 1) % n) - Y ((b + 1) % n % n)) * (X ((a + 1) % n % n) - X ((b + 1) % n % n)) =
            (X ((b + 1 + 1) % n) - X ((b + 1) % n)) * (Y ((a + 1) % n % n) - Y ((b + 1) % n)) - (Y ((b + 1 + 1) % n) - Y ((b + 1) % n)) * (X ((a + 1) % n % n) - X ((b + 1) % n))
          rw [mod1, Nat.mod_mod]
        rw [← e]; exact q
  unfold cvxP
  rw [Bool.and_eq_true, beq_iff_eq, allN_iff, cnt_one]
  obtain ⟨a, ha, qa⟩ := ex
  refine ⟨hL, a, ha, qa, fun b hb qb => ?_⟩
  apply Classical.byContradiction
  intro hne
  rcases Int.le_total (Y ((a + 1) % n)) (Y ((b + 1) % n)) with c | c
  · exact two a b ha hb qa qb (fun e => hne e.symm) c
  · exact two b a hb ha qb qa hne c
end
section
variable {n : Nat} {X Y : Nat → Int}
theorem cvx_eq (hn : 3 ≤ n) : cvxP n X Y = cvxR n X Y := by
  rcases h1 : cvxP n X Y with _ | _ <;> rcases h2 : cvxR n X Y with _ | _
  · rfl
  · rw [cvx_from hn h2] at h1; cases h1
  · rw [cvx_to hn h1] at h2; cases h2
  · rfl
end
def chkPr (n : Nat) (X Y : Nat → Int) (lo hi : Int) : Int := if decide ((n : Int) ≤ 64) = true then (if decide ((n : Int) ≤ 2) = true then 1 else (if allN (okP X Y) n = true then (if okC lo = true then (if okC hi = true then (if decide (hi ≤ lo) = true then 1 else (if cvxR n X Y = true then 0 else 1)) else 6) else 6) else 6)) else 7
def rcP (X2 Y2 : Nat → Int) (ax ay bx bY : Int) (k : Nat) : Bool := turnI ax ay bx bY (X2 k) (Y2 k) == 1
/-- some corner lies on the left of an edge -/
def rcB (n2 : Nat) (X2 Y2 : Nat → Int) (ax ay bx bY : Int) : Bool := !(allF (rcP X2 Y2 ax ay bx bY) n2)
theorem prchk_any (a : Option Addr) (n c : Nat) (X Y : Nat → Int) (ptr : Nat → Addr) (lo hi : Int) (w : World) (hn0 : n ≤ 1000000000000) (hS : Sl Try.prog w (.slice a n c) n 22 60 (fun k => .agg #[.int .i64 (X k), .int .i64 (Y k)]) ptr) (hP : Sl Try.prog w (.slice a n c) n 23 60 (fun k => .agg #[.int .i64 (X k), .int .i64 (Y k)]) ptr) : Calls Try.prog 14 #[.agg #[(.slice a n c), .int .i64 lo, .int .i64 hi]] w fun e w' => e = .returned (.int .i64 (chkPr n X Y lo hi)) ∧ Below w.heap.size w w' := by
  have hn : bd 0 1000000000000 (n : Int) := ⟨by omega, by omega⟩
  rcases h0 : (decide ((n : Int) ≤ 64)) with _ | _
  · have hr : (.int .i64 (chkPr n X Y lo hi) : Value) = .int .i64 7 := by (refine congrArg (Value.int .i64) ?_; unfold chkPr; simp only [h0, if_true, Bool.false_eq_true, if_false, reduceIte])
    try rw [hr]
    exact run_know (P := Try.prog) (ρ := env [(n : Int), lo, hi] [(.slice a n c)] w) (o := { calls := [(38, [oq 0], .int .i64 7)] }) ⟨all_nil, all_nil, all_nil, all_nil, (all_cons (callOKb (f := 38) (args := [oq 0]) (v := .int .i64 7) (args' := #[(.slice a n c)]) (v' := .int .i64 7) (by kernel_rfl) (by kernel_rfl) (by kernel_rfl) (fun w1 hw1 => by have q := pcheck_any a n c X Y ptr w1 hn0 (hS.mono hw1) (hP.mono hw1); rw [show chkP n X Y = 7 from (by unfold chkP; simp [h0])] at q; exact q)) all_nil), all_nil, all_nil, all_nil, all_nil, all_nil, all_nil, all_nil, all_nil, all_nil, all_nil, all_nil, all_nil, all_nil⟩ 1000 50 14 [.agg #[oq 0, sy 1, sy 2]] (.int .i64 7) (args' := #[.agg #[(.slice a n c), .int .i64 lo, .int .i64 hi]]) (v' := .int .i64 7) (by kernel_rfl) (by kernel_rfl) (by kernel_rfl) w (Below.refl _ _)
  · rcases h1 : (decide ((n : Int) ≤ 2)) with _ | _
    · rcases h2 : (allN (okP X Y) n) with _ | _
      · have hr : (.int .i64 (chkPr n X Y lo hi) : Value) = .int .i64 6 := by (refine congrArg (Value.int .i64) ?_; unfold chkPr; simp only [h0, h1, h2, if_true, Bool.false_eq_true, if_false, reduceIte])
        try rw [hr]
        exact run_know (P := Try.prog) (ρ := env [(n : Int), lo, hi] [(.slice a n c)] w) (o := { calls := [(38, [oq 0], .int .i64 6)] }) ⟨all_nil, all_nil, all_nil, all_nil, (all_cons (callOKb (f := 38) (args := [oq 0]) (v := .int .i64 6) (args' := #[(.slice a n c)]) (v' := .int .i64 6) (by kernel_rfl) (by kernel_rfl) (by kernel_rfl) (fun w1 hw1 => by have q := pcheck_any a n c X Y ptr w1 hn0 (hS.mono hw1) (hP.mono hw1); rw [show chkP n X Y = 6 from (by unfold chkP; simp [h0, h1, h2])] at q; exact q)) all_nil), all_nil, all_nil, all_nil, all_nil, all_nil, all_nil, all_nil, all_nil, all_nil, all_nil, all_nil, all_nil, all_nil⟩ 1000 50 14 [.agg #[oq 0, sy 1, sy 2]] (.int .i64 6) (args' := #[.agg #[(.slice a n c), .int .i64 lo, .int .i64 hi]]) (v' := .int .i64 6) (by kernel_rfl) (by kernel_rfl) (by kernel_rfl) w (Below.refl _ _)
      · rcases h3 : (allF (dupP n X Y) n) with _ | _
        · rcases h4 : (okC lo) with _ | _
          · rcases h5 : (decide (lo ≤ (-1000001))) with _ | _
            · have hr : (.int .i64 (chkPr n X Y lo hi) : Value) = .int .i64 6 := by (refine congrArg (Value.int .i64) ?_; unfold chkPr; simp only [h0, h1, h2, h3, h4, if_true, Bool.false_eq_true, if_false, reduceIte])
              try rw [hr]
              exact run_know (P := Try.prog) (ρ := env [(n : Int), lo, hi] [(.slice a n c)] w) (o := { bin := [(.lss, 3, .int .i64 (sn 1), .int .i64 (-1000000), .bool false), (.gtr, 3, .int .i64 (sn 1), .int .i64 1000000, .bool true)], calls := [(38, [oq 0], .int .i64 5)] }) ⟨(all_cons (cmpOK (op := .lss) (ty := 3) (k := .i64) (n := (sn 1)) (m := (-1000000)) (t := false) (a := lo) (b := (-1000000)) (by kernel_rfl) (by kernel_rfl) (congrArg some ((lt_c h5 rfl)))) (all_cons (cmpOK (op := .gtr) (ty := 3) (k := .i64) (n := (sn 1)) (m := 1000000) (t := true) (a := lo) (b := 1000000) (by kernel_rfl) (by kernel_rfl) (congrArg some ((gt_of_le (show decide (lo ≤ 1000000) = false from (by have q := h4; simp only [okC, Bool.and_eq_true, Bool.and_eq_false_iff, decide_eq_true_eq, decide_eq_false_iff_not] at q ⊢; have g0 := h5; (try simp only [decide_eq_true_eq, decide_eq_false_iff_not] at *); omega)))))) all_nil)), all_nil, all_nil, all_nil, (all_cons (callOKb (f := 38) (args := [oq 0]) (v := .int .i64 5) (args' := #[(.slice a n c)]) (v' := .int .i64 5) (by kernel_rfl) (by kernel_rfl) (by kernel_rfl) (fun w1 hw1 => by have q := pcheck_any a n c X Y ptr w1 hn0 (hS.mono hw1) (hP.mono hw1); rw [show chkP n X Y = 5 from (by unfold chkP; simp [h0, h1, h2, h3])] at q; exact q)) all_nil), all_nil, all_nil, all_nil, all_nil, all_nil, all_nil, all_nil, all_nil, all_nil, all_nil, all_nil, all_nil, all_nil⟩ 1000 50 14 [.agg #[oq 0, sy 1, sy 2]] (.int .i64 6) (args' := #[.agg #[(.slice a n c), .int .i64 lo, .int .i64 hi]]) (v' := .int .i64 6) (by kernel_rfl) (by kernel_rfl) (by kernel_rfl) w (Below.refl _ _)
            · have hr : (.int .i64 (chkPr n X Y lo hi) : Value) = .int .i64 6 := by (refine congrArg (Value.int .i64) ?_; unfold chkPr; simp only [h0, h1, h2, h3, h4, if_true, Bool.false_eq_true, if_false, reduceIte])
              try rw [hr]
              exact run_know (P := Try.prog) (ρ := env [(n : Int), lo, hi] [(.slice a n c)] w) (o := { bin := [(.lss, 3, .int .i64 (sn 1), .int .i64 (-1000000), .bool true)], calls := [(38, [oq 0], .int .i64 5)] }) ⟨(all_cons (cmpOK (op := .lss) (ty := 3) (k := .i64) (n := (sn 1)) (m := (-1000000)) (t := true) (a := lo) (b := (-1000000)) (by kernel_rfl) (by kernel_rfl) (congrArg some ((lt_c h5 rfl)))) all_nil), all_nil, all_nil, all_nil, (all_cons (callOKb (f := 38) (args := [oq 0]) (v := .int .i64 5) (args' := #[(.slice a n c)]) (v' := .int .i64 5) (by kernel_rfl) (by kernel_rfl) (by kernel_rfl) (fun w1 hw1 => by have q := pcheck_any a n c X Y ptr w1 hn0 (hS.mono hw1) (hP.mono hw1); rw [show chkP n X Y = 5 from (by unfold chkP; simp [h0, h1, h2, h3])] at q; exact q)) all_nil), all_nil, all_nil, all_nil, all_nil, all_nil, all_nil, all_nil, all_nil, all_nil, all_nil, all_nil, all_nil, all_nil⟩ 1000 50 14 [.agg #[oq 0, sy 1, sy 2]] (.int .i64 6) (args' := #[.agg #[(.slice a n c), .int .i64 lo, .int .i64 hi]]) (v' := .int .i64 6) (by kernel_rfl) (by kernel_rfl) (by kernel_rfl) w (Below.refl _ _)
          · rcases h5 : (okC hi) with _ | _
            · rcases h6 : (decide (hi ≤ (-1000001))) with _ | _
              · have hr : (.int .i64 (chkPr n X Y lo hi) : Value) = .int .i64 6 := by (refine congrArg (Value.int .i64) ?_; unfold chkPr; simp only [h0, h1, h2, h3, h4, h5, if_true, Bool.false_eq_true, if_false, reduceIte])
                try rw [hr]
                exact run_know (P := Try.prog) (ρ := env [(n : Int), lo, hi] [(.slice a n c)] w) (o := { bin := [(.lss, 3, .int .i64 (sn 1), .int .i64 (-1000000), .bool false), (.gtr, 3, .int .i64 (sn 1), .int .i64 1000000, .bool false), (.lss, 3, .int .i64 (sn 2), .int .i64 (-1000000), .bool false), (.gtr, 3, .int .i64 (sn 2), .int .i64 1000000, .bool true)], calls := [(38, [oq 0], .int .i64 5)] }) ⟨(all_cons (cmpOK (op := .lss) (ty := 3) (k := .i64) (n := (sn 1)) (m := (-1000000)) (t := false) (a := lo) (b := (-1000000)) (by kernel_rfl) (by kernel_rfl) (congrArg some ((lt_c (show decide (lo ≤ (-1000001)) = false from (by have q := h4; simp only [okC, Bool.and_eq_true, Bool.and_eq_false_iff, decide_eq_true_eq, decide_eq_false_iff_not] at q ⊢; (try simp only [decide_eq_true_eq, decide_eq_false_iff_not] at *); omega)) rfl)))) (all_cons (cmpOK (op := .gtr) (ty := 3) (k := .i64) (n := (sn 1)) (m := 1000000) (t := false) (a := lo) (b := 1000000) (by kernel_rfl) (by kernel_rfl) (congrArg some ((gt_of_le (show decide (lo ≤ 1000000) = true from (by have q := h4; simp only [okC, Bool.and_eq_true, Bool.and_eq_false_iff, decide_eq_true_eq, decide_eq_false_iff_not] at q ⊢; (try simp only [decide_eq_true_eq, decide_eq_false_iff_not] at *); omega)))))) (all_cons (cmpOK (op := .lss) (ty := 3) (k := .i64) (n := (sn 2)) (m := (-1000000)) (t := false) (a := hi) (b := (-1000000)) (by kernel_rfl) (by kernel_rfl) (congrArg some ((lt_c h6 rfl)))) (all_cons (cmpOK (op := .gtr) (ty := 3) (k := .i64) (n := (sn 2)) (m := 1000000) (t := true) (a := hi) (b := 1000000) (by kernel_rfl) (by kernel_rfl) (congrArg some ((gt_of_le (show decide (hi ≤ 1000000) = false from (by have q := h5; simp only [okC, Bool.and_eq_true, Bool.and_eq_false_iff, decide_eq_true_eq, decide_eq_false_iff_not] at q ⊢; have g0 := h6; (try simp only [decide_eq_true_eq, decide_eq_false_iff_not] at *); omega)))))) all_nil)))), all_nil, all_nil, all_nil, (all_cons (callOKb (f := 38) (args := [oq 0]) (v := .int .i64 5) (args' := #[(.slice a n c)]) (v' := .int .i64 5) (by kernel_rfl) (by kernel_rfl) (by kernel_rfl) (fun w1 hw1 => by have q := pcheck_any a n c X Y ptr w1 hn0 (hS.mono hw1) (hP.mono hw1); rw [show chkP n X Y = 5 from (by unfold chkP; simp [h0, h1, h2, h3])] at q; exact q)) all_nil), all_nil, all_nil, all_nil, all_nil, all_nil, all_nil, all_nil, all_nil, all_nil, all_nil, all_nil, all_nil, all_nil⟩ 1000 50 14 [.agg #[oq 0, sy 1, sy 2]] (.int .i64 6) (args' := #[.agg #[(.slice a n c), .int .i64 lo, .int .i64 hi]]) (v' := .int .i64 6) (by kernel_rfl) (by kernel_rfl) (by kernel_rfl) w (Below.refl _ _)
              · have hr : (.int .i64 (chkPr n X Y lo hi) : Value) = .int .i64 6 := by (refine congrArg (Value.int .i64) ?_; unfold chkPr; simp only [h0, h1, h2, h3, h4, h5, if_true, Bool.false_eq_true, if_false, reduceIte])
                try rw [hr]
                exact run_know (P := Try.prog) (ρ := env [(n : Int), lo, hi] [(.slice a n c)] w) (o := { bin := [(.lss, 3, .int .i64 (sn 1), .int .i64 (-1000000), .bool false), (.gtr, 3, .int .i64 (sn 1), .int .i64 1000000, .bool false), (.lss, 3, .int .i64 (sn 2), .int .i64 (-1000000), .bool true)], calls := [(38, [oq 0], .int .i64 5)] }) ⟨(all_cons (cmpOK (op := .lss) (ty := 3) (k := .i64) (n := (sn 1)) (m := (-1000000)) (t := false) (a := lo) (b := (-1000000)) (by kernel_rfl) (by kernel_rfl) (congrArg some ((lt_c (show decide (lo ≤ (-1000001)) = false from (by have q := h4; simp only [okC, Bool.and_eq_true, Bool.and_eq_false_iff, decide_eq_true_eq, decide_eq_false_iff_not] at q ⊢; (try simp only [decide_eq_true_eq, decide_eq_false_iff_not] at *); omega)) rfl)))) (all_cons (cmpOK (op := .gtr) (ty := 3) (k := .i64) (n := (sn 1)) (m := 1000000) (t := false) (a := lo) (b := 1000000) (by kernel_rfl) (by kernel_rfl) (congrArg some ((gt_of_le (show decide (lo ≤ 1000000) = true from (by have q := h4; simp only [okC, Bool.and_eq_true, Bool.and_eq_false_iff, decide_eq_true_eq, decide_eq_false_iff_not] at q ⊢; (try simp only [decide_eq_true_eq, decide_eq_false_iff_not] at *); omega)))))) (all_cons (cmpOK (op := .lss) (ty := 3) (k := .i64) (n := (sn 2)) (m := (-1000000)) (t := true) (a := hi) (b := (-1000000)) (by kernel_rfl) (by kernel_rfl) (congrArg some ((lt_c h6 rfl)))) all_nil))), all_nil, all_nil, all_nil, (all_cons (callOKb (f := 38) (args := [oq 0]) (v := .int .i64 5) (args' := #[(.slice a n c)]) (v' := .int .i64 5) (by kernel_rfl) (by kernel_rfl) (by kernel_rfl) (fun w1 hw1 => by have q := pcheck_any a n c X Y ptr w1 hn0 (hS.mono hw1) (hP.mono hw1); rw [show chkP n X Y = 5 from (by unfold chkP; simp [h0, h1, h2, h3])] at q; exact q)) all_nil), all_nil, all_nil, all_nil, all_nil, all_nil, all_nil, all_nil, all_nil, all_nil, all_nil, all_nil, all_nil, all_nil⟩ 1000 50 14 [.agg #[oq 0, sy 1, sy 2]] (.int .i64 6) (args' := #[.agg #[(.slice a n c), .int .i64 lo, .int .i64 hi]]) (v' := .int .i64 6) (by kernel_rfl) (by kernel_rfl) (by kernel_rfl) w (Below.refl _ _)
            · rcases h6 : (decide (hi ≤ lo)) with _ | _
              · rcases h7 : (cvxR n X Y) with _ | _
                · have hX : ∀ k, k < n → bd (-1000000) 1000000 (X k) ∧ bd (-1000000) 1000000 (Y k) := hX_of h2
                  have hn3 : 3 ≤ n := (by have g := of_decide_eq_false h1; omega)
                  have hr : (.int .i64 (chkPr n X Y lo hi) : Value) = .int .i64 1 := by (refine congrArg (Value.int .i64) ?_; unfold chkPr; simp only [h0, h1, h2, h3, h4, h5, h6, h7, if_true, Bool.false_eq_true, if_false, reduceIte])
                  try rw [hr]
                  exact run_know (P := Try.prog) (ρ := env [(n : Int), lo, hi] [(.slice a n c)] w) (o := { bin := [(.lss, 3, .int .i64 (sn 1), .int .i64 (-1000000), .bool false), (.gtr, 3, .int .i64 (sn 1), .int .i64 1000000, .bool false), (.lss, 3, .int .i64 (sn 2), .int .i64 (-1000000), .bool false), (.gtr, 3, .int .i64 (sn 2), .int .i64 1000000, .bool false), (.geq, 3, .int .i64 (sn 1), .int .i64 (sn 2), .bool false)], calls := [(38, [oq 0], .int .i64 5), (40, [oq 0], .bool false)] }) ⟨(all_cons (cmpOK (op := .lss) (ty := 3) (k := .i64) (n := (sn 1)) (m := (-1000000)) (t := false) (a := lo) (b := (-1000000)) (by kernel_rfl) (by kernel_rfl) (congrArg some ((lt_c (show decide (lo ≤ (-1000001)) = false from (by have q := h4; simp only [okC, Bool.and_eq_true, Bool.and_eq_false_iff, decide_eq_true_eq, decide_eq_false_iff_not] at q ⊢; (try simp only [decide_eq_true_eq, decide_eq_false_iff_not] at *); omega)) rfl)))) (all_cons (cmpOK (op := .gtr) (ty := 3) (k := .i64) (n := (sn 1)) (m := 1000000) (t := false) (a := lo) (b := 1000000) (by kernel_rfl) (by kernel_rfl) (congrArg some ((gt_of_le (show decide (lo ≤ 1000000) = true from (by have q := h4; simp only [okC, Bool.and_eq_true, Bool.and_eq_false_iff, decide_eq_true_eq, decide_eq_false_iff_not] at q ⊢; (try simp only [decide_eq_true_eq, decide_eq_false_iff_not] at *); omega)))))) (all_cons (cmpOK (op := .lss) (ty := 3) (k := .i64) (n := (sn 2)) (m := (-1000000)) (t := false) (a := hi) (b := (-1000000)) (by kernel_rfl) (by kernel_rfl) (congrArg some ((lt_c (show decide (hi ≤ (-1000001)) = false from (by have q := h5; simp only [okC, Bool.and_eq_true, Bool.and_eq_false_iff, decide_eq_true_eq, decide_eq_false_iff_not] at q ⊢; (try simp only [decide_eq_true_eq, decide_eq_false_iff_not] at *); omega)) rfl)))) (all_cons (cmpOK (op := .gtr) (ty := 3) (k := .i64) (n := (sn 2)) (m := 1000000) (t := false) (a := hi) (b := 1000000) (by kernel_rfl) (by kernel_rfl) (congrArg some ((gt_of_le (show decide (hi ≤ 1000000) = true from (by have q := h5; simp only [okC, Bool.and_eq_true, Bool.and_eq_false_iff, decide_eq_true_eq, decide_eq_false_iff_not] at q ⊢; (try simp only [decide_eq_true_eq, decide_eq_false_iff_not] at *); omega)))))) (all_cons (cmpOK (op := .geq) (ty := 3) (k := .i64) (n := (sn 1)) (m := (sn 2)) (t := false) (a := lo) (b := hi) (by kernel_rfl) (by kernel_rfl) (congrArg some (h6))) all_nil))))), all_nil, all_nil, all_nil, (all_cons (callOKb (f := 38) (args := [oq 0]) (v := .int .i64 5) (args' := #[(.slice a n c)]) (v' := .int .i64 5) (by kernel_rfl) (by kernel_rfl) (by kernel_rfl) (fun w1 hw1 => by have q := pcheck_any a n c X Y ptr w1 hn0 (hS.mono hw1) (hP.mono hw1); rw [show chkP n X Y = 5 from (by unfold chkP; simp [h0, h1, h2, h3])] at q; exact q)) (all_cons (callOKb (f := 40) (args := [oq 0]) (v := .bool false) (args' := #[(.slice a n c)]) (v' := .bool false) (by kernel_rfl) (by kernel_rfl) (by kernel_rfl) (fun w1 hw1 => by have q := convex_any a n c X Y ptr w1 hn0 hX (hS.mono hw1) (hP.mono hw1); rw [cvx_eq hn3, h7] at q; exact q)) all_nil)), all_nil, all_nil, all_nil, all_nil, all_nil, all_nil, all_nil, all_nil, all_nil, all_nil, all_nil, all_nil, all_nil⟩ 1000 50 14 [.agg #[oq 0, sy 1, sy 2]] (.int .i64 1) (args' := #[.agg #[(.slice a n c), .int .i64 lo, .int .i64 hi]]) (v' := .int .i64 1) (by kernel_rfl) (by kernel_rfl) (by kernel_rfl) w (Below.refl _ _)
                · have hX : ∀ k, k < n → bd (-1000000) 1000000 (X k) ∧ bd (-1000000) 1000000 (Y k) := hX_of h2
                  have hn3 : 3 ≤ n := (by have g := of_decide_eq_false h1; omega)
                  have hr : (.int .i64 (chkPr n X Y lo hi) : Value) = .int .i64 0 := by (refine congrArg (Value.int .i64) ?_; unfold chkPr; simp only [h0, h1, h2, h3, h4, h5, h6, h7, if_true, Bool.false_eq_true, if_false, reduceIte])
                  try rw [hr]
                  exact run_know (P := Try.prog) (ρ := env [(n : Int), lo, hi] [(.slice a n c)] w) (o := { bin := [(.lss, 3, .int .i64 (sn 1), .int .i64 (-1000000), .bool false), (.gtr, 3, .int .i64 (sn 1), .int .i64 1000000, .bool false), (.lss, 3, .int .i64 (sn 2), .int .i64 (-1000000), .bool false), (.gtr, 3, .int .i64 (sn 2), .int .i64 1000000, .bool false), (.geq, 3, .int .i64 (sn 1), .int .i64 (sn 2), .bool false)], calls := [(38, [oq 0], .int .i64 5), (40, [oq 0], .bool true)] }) ⟨(all_cons (cmpOK (op := .lss) (ty := 3) (k := .i64) (n := (sn 1)) (m := (-1000000)) (t := false) (a := lo) (b := (-1000000)) (by kernel_rfl) (by kernel_rfl) (congrArg some ((lt_c (show decide (lo ≤ (-1000001)) = false from (by have q := h4; simp only [okC, Bool.and_eq_true, Bool.and_eq_false_iff, decide_eq_true_eq, decide_eq_false_iff_not] at q ⊢; (try simp only [decide_eq_true_eq, decide_eq_false_iff_not] at *); omega)) rfl)))) (all_cons (cmpOK (op := .gtr) (ty := 3) (k := .i64) (n := (sn 1)) (m := 1000000) (t := false) (a := lo) (b := 1000000) (by kernel_rfl) (by kernel_rfl) (congrArg some ((gt_of_le (show decide (lo ≤ 1000000) = true from (by have q := h4; simp only [okC, Bool.and_eq_true, Bool.and_eq_false_iff, decide_eq_true_eq, decide_eq_false_iff_not] at q ⊢; (try simp only [decide_eq_true_eq, decide_eq_false_iff_not] at *); omega)))))) (all_cons (cmpOK (op := .lss) (ty := 3) (k := .i64) (n := (sn 2)) (m := (-1000000)) (t := false) (a := hi) (b := (-1000000)) (by kernel_rfl) (by kernel_rfl) (congrArg some ((lt_c (show decide (hi ≤ (-1000001)) = false from (by have q := h5; simp only [okC, Bool.and_eq_true, Bool.and_eq_false_iff, decide_eq_true_eq, decide_eq_false_iff_not] at q ⊢; (try simp only [decide_eq_true_eq, decide_eq_false_iff_not] at *); omega)) rfl)))) (all_cons (cmpOK (op := .gtr) (ty := 3) (k := .i64) (n := (sn 2)) (m := 1000000) (t := false) (a := hi) (b := 1000000) (by kernel_rfl) (by kernel_rfl) (congrArg some ((gt_of_le (show decide (hi ≤ 1000000) = true from (by have q := h5; simp only [okC, Bool.and_eq_true, Bool.and_eq_false_iff, decide_eq_true_eq, decide_eq_false_iff_not] at q ⊢; (try simp only [decide_eq_true_eq, decide_eq_false_iff_not] at *); omega)))))) (all_cons (cmpOK (op := .geq) (ty := 3) (k := .i64) (n := (sn 1)) (m := (sn 2)) (t := false) (a := lo) (b := hi) (by kernel_rfl) (by kernel_rfl) (congrArg some (h6))) all_nil))))), all_nil, all_nil, all_nil, (all_cons (callOKb (f := 38) (args := [oq 0]) (v := .int .i64 5) (args' := #[(.slice a n c)]) (v' := .int .i64 5) (by kernel_rfl) (by kernel_rfl) (by kernel_rfl) (fun w1 hw1 => by have q := pcheck_any a n c X Y ptr w1 hn0 (hS.mono hw1) (hP.mono hw1); rw [show chkP n X Y = 5 from (by unfold chkP; simp [h0, h1, h2, h3])] at q; exact q)) (all_cons (callOKb (f := 40) (args := [oq 0]) (v := .bool true) (args' := #[(.slice a n c)]) (v' := .bool true) (by kernel_rfl) (by kernel_rfl) (by kernel_rfl) (fun w1 hw1 => by have q := convex_any a n c X Y ptr w1 hn0 hX (hS.mono hw1) (hP.mono hw1); rw [cvx_eq hn3, h7] at q; exact q)) all_nil)), all_nil, all_nil, all_nil, all_nil, all_nil, all_nil, all_nil, all_nil, all_nil, all_nil, all_nil, all_nil, all_nil⟩ 1000 50 14 [.agg #[oq 0, sy 1, sy 2]] (.int .i64 0) (args' := #[.agg #[(.slice a n c), .int .i64 lo, .int .i64 hi]]) (v' := .int .i64 0) (by kernel_rfl) (by kernel_rfl) (by kernel_rfl) w (Below.refl _ _)
              · have hr : (.int .i64 (chkPr n X Y lo hi) : Value) = .int .i64 1 := by (refine congrArg (Value.int .i64) ?_; unfold chkPr; simp only [h0, h1, h2, h3, h4, h5, h6, if_true, Bool.false_eq_true, if_false, reduceIte])
                try rw [hr]
                exact run_know (P := Try.prog) (ρ := env [(n : Int), lo, hi] [(.slice a n c)] w) (o := { bin := [(.lss, 3, .int .i64 (sn 1), .int .i64 (-1000000), .bool false), (.gtr, 3, .int .i64 (sn 1), .int .i64 1000000, .bool false), (.lss, 3, .int .i64 (sn 2), .int .i64 (-1000000), .bool false), (.gtr, 3, .int .i64 (sn 2), .int .i64 1000000, .bool false), (.geq, 3, .int .i64 (sn 1), .int .i64 (sn 2), .bool true)], calls := [(38, [oq 0], .int .i64 5)] }) ⟨(all_cons (cmpOK (op := .lss) (ty := 3) (k := .i64) (n := (sn 1)) (m := (-1000000)) (t := false) (a := lo) (b := (-1000000)) (by kernel_rfl) (by kernel_rfl) (congrArg some ((lt_c (show decide (lo ≤ (-1000001)) = false from (by have q := h4; simp only [okC, Bool.and_eq_true, Bool.and_eq_false_iff, decide_eq_true_eq, decide_eq_false_iff_not] at q ⊢; (try simp only [decide_eq_true_eq, decide_eq_false_iff_not] at *); omega)) rfl)))) (all_cons (cmpOK (op := .gtr) (ty := 3) (k := .i64) (n := (sn 1)) (m := 1000000) (t := false) (a := lo) (b := 1000000) (by kernel_rfl) (by kernel_rfl) (congrArg some ((gt_of_le (show decide (lo ≤ 1000000) = true from (by have q := h4; simp only [okC, Bool.and_eq_true, Bool.and_eq_false_iff, decide_eq_true_eq, decide_eq_false_iff_not] at q ⊢; (try simp only [decide_eq_true_eq, decide_eq_false_iff_not] at *); omega)))))) (all_cons (cmpOK (op := .lss) (ty := 3) (k := .i64) (n := (sn 2)) (m := (-1000000)) (t := false) (a := hi) (b := (-1000000)) (by kernel_rfl) (by kernel_rfl) (congrArg some ((lt_c (show decide (hi ≤ (-1000001)) = false from (by have q := h5; simp only [okC, Bool.and_eq_true, Bool.and_eq_false_iff, decide_eq_true_eq, decide_eq_false_iff_not] at q ⊢; (try simp only [decide_eq_true_eq, decide_eq_false_iff_not] at *); omega)) rfl)))) (all_cons (cmpOK (op := .gtr) (ty := 3) (k := .i64) (n := (sn 2)) (m := 1000000) (t := false) (a := hi) (b := 1000000) (by kernel_rfl) (by kernel_rfl) (congrArg some ((gt_of_le (show decide (hi ≤ 1000000) = true from (by have q := h5; simp only [okC, Bool.and_eq_true, Bool.and_eq_false_iff, decide_eq_true_eq, decide_eq_false_iff_not] at q ⊢; (try simp only [decide_eq_true_eq, decide_eq_false_iff_not] at *); omega)))))) (all_cons (cmpOK (op := .geq) (ty := 3) (k := .i64) (n := (sn 1)) (m := (sn 2)) (t := true) (a := lo) (b := hi) (by kernel_rfl) (by kernel_rfl) (congrArg some (h6))) all_nil))))), all_nil, all_nil, all_nil, (all_cons (callOKb (f := 38) (args := [oq 0]) (v := .int .i64 5) (args' := #[(.slice a n c)]) (v' := .int .i64 5) (by kernel_rfl) (by kernel_rfl) (by kernel_rfl) (fun w1 hw1 => by have q := pcheck_any a n c X Y ptr w1 hn0 (hS.mono hw1) (hP.mono hw1); rw [show chkP n X Y = 5 from (by unfold chkP; simp [h0, h1, h2, h3])] at q; exact q)) all_nil), all_nil, all_nil, all_nil, all_nil, all_nil, all_nil, all_nil, all_nil, all_nil, all_nil, all_nil, all_nil, all_nil⟩ 1000 50 14 [.agg #[oq 0, sy 1, sy 2]] (.int .i64 1) (args' := #[.agg #[(.slice a n c), .int .i64 lo, .int .i64 hi]]) (v' := .int .i64 1) (by kernel_rfl) (by kernel_rfl) (by kernel_rfl) w (Below.refl _ _)
        · rcases h4 : (okC lo) with _ | _
          · rcases h5 : (decide (lo ≤ (-1000001))) with _ | _
            · have hr : (.int .i64 (chkPr n X Y lo hi) : Value) = .int .i64 6 := by (refine congrArg (Value.int .i64) ?_; unfold chkPr; simp only [h0, h1, h2, h3, h4, if_true, Bool.false_eq_true, if_false, reduceIte])
              try rw [hr]
              exact run_know (P := Try.prog) (ρ := env [(n : Int), lo, hi] [(.slice a n c)] w) (o := { bin := [(.lss, 3, .int .i64 (sn 1), .int .i64 (-1000000), .bool false), (.gtr, 3, .int .i64 (sn 1), .int .i64 1000000, .bool true)], calls := [(38, [oq 0], .int .i64 0)] }) ⟨(all_cons (cmpOK (op := .lss) (ty := 3) (k := .i64) (n := (sn 1)) (m := (-1000000)) (t := false) (a := lo) (b := (-1000000)) (by kernel_rfl) (by kernel_rfl) (congrArg some ((lt_c h5 rfl)))) (all_cons (cmpOK (op := .gtr) (ty := 3) (k := .i64) (n := (sn 1)) (m := 1000000) (t := true) (a := lo) (b := 1000000) (by kernel_rfl) (by kernel_rfl) (congrArg some ((gt_of_le (show decide (lo ≤ 1000000) = false from (by have q := h4; simp only [okC, Bool.and_eq_true, Bool.and_eq_false_iff, decide_eq_true_eq, decide_eq_false_iff_not] at q ⊢; have g0 := h5; (try simp only [decide_eq_true_eq, decide_eq_false_iff_not] at *); omega)))))) all_nil)), all_nil, all_nil, all_nil, (all_cons (callOKb (f := 38) (args := [oq 0]) (v := .int .i64 0) (args' := #[(.slice a n c)]) (v' := .int .i64 0) (by kernel_rfl) (by kernel_rfl) (by kernel_rfl) (fun w1 hw1 => by have q := pcheck_any a n c X Y ptr w1 hn0 (hS.mono hw1) (hP.mono hw1); rw [show chkP n X Y = 0 from (by unfold chkP; simp [h0, h1, h2, h3])] at q; exact q)) all_nil), all_nil, all_nil, all_nil, all_nil, all_nil, all_nil, all_nil, all_nil, all_nil, all_nil, all_nil, all_nil, all_nil⟩ 1000 50 14 [.agg #[oq 0, sy 1, sy 2]] (.int .i64 6) (args' := #[.agg #[(.slice a n c), .int .i64 lo, .int .i64 hi]]) (v' := .int .i64 6) (by kernel_rfl) (by kernel_rfl) (by kernel_rfl) w (Below.refl _ _)
            · have hr : (.int .i64 (chkPr n X Y lo hi) : Value) = .int .i64 6 := by (refine congrArg (Value.int .i64) ?_; unfold chkPr; simp only [h0, h1, h2, h3, h4, if_true, Bool.false_eq_true, if_false, reduceIte])
              try rw [hr]
              exact run_know (P := Try.prog) (ρ := env [(n : Int), lo, hi] [(.slice a n c)] w) (o := { bin := [(.lss, 3, .int .i64 (sn 1), .int .i64 (-1000000), .bool true)], calls := [(38, [oq 0], .int .i64 0)] }) ⟨(all_cons (cmpOK (op := .lss) (ty := 3) (k := .i64) (n := (sn 1)) (m := (-1000000)) (t := true) (a := lo) (b := (-1000000)) (by kernel_rfl) (by kernel_rfl) (congrArg some ((lt_c h5 rfl)))) all_nil), all_nil, all_nil, all_nil, (all_cons (callOKb (f := 38) (args := [oq 0]) (v := .int .i64 0) (args' := #[(.slice a n c)]) (v' := .int .i64 0) (by kernel_rfl) (by kernel_rfl) (by kernel_rfl) (fun w1 hw1 => by have q := pcheck_any a n c X Y ptr w1 hn0 (hS.mono hw1) (hP.mono hw1); rw [show chkP n X Y = 0 from (by unfold chkP; simp [h0, h1, h2, h3])] at q; exact q)) all_nil), all_nil, all_nil, all_nil, all_nil, all_nil, all_nil, all_nil, all_nil, all_nil, all_nil, all_nil, all_nil, all_nil⟩ 1000 50 14 [.agg #[oq 0, sy 1, sy 2]] (.int .i64 6) (args' := #[.agg #[(.slice a n c), .int .i64 lo, .int .i64 hi]]) (v' := .int .i64 6) (by kernel_rfl) (by kernel_rfl) (by kernel_rfl) w (Below.refl _ _)
          · rcases h5 : (okC hi) with _ | _
            · rcases h6 : (decide (hi ≤ (-1000001))) with _ | _
              · have hr : (.int .i64 (chkPr n X Y lo hi) : Value) = .int .i64 6 := by (refine congrArg (Value.int .i64) ?_; unfold chkPr; simp only [h0, h1, h2, h3, h4, h5, if_true, Bool.false_eq_true, if_false, reduceIte])
                try rw [hr]
                exact run_know (P := Try.prog) (ρ := env [(n : Int), lo, hi] [(.slice a n c)] w) (o := { bin := [(.lss, 3, .int .i64 (sn 1), .int .i64 (-1000000), .bool false), (.gtr, 3, .int .i64 (sn 1), .int .i64 1000000, .bool false), (.lss, 3, .int .i64 (sn 2), .int .i64 (-1000000), .bool false), (.gtr, 3, .int .i64 (sn 2), .int .i64 1000000, .bool true)], calls := [(38, [oq 0], .int .i64 0)] }) ⟨(all_cons (cmpOK (op := .lss) (ty := 3) (k := .i64) (n := (sn 1)) (m := (-1000000)) (t := false) (a := lo) (b := (-1000000)) (by kernel_rfl) (by kernel_rfl) (congrArg some ((lt_c (show decide (lo ≤ (-1000001)) = false from (by have q := h4; simp only [okC, Bool.and_eq_true, Bool.and_eq_false_iff, decide_eq_true_eq, decide_eq_false_iff_not] at q ⊢; (try simp only [decide_eq_true_eq, decide_eq_false_iff_not] at *); omega)) rfl)))) (all_cons (cmpOK (op := .gtr) (ty := 3) (k := .i64) (n := (sn 1)) (m := 1000000) (t := false) (a := lo) (b := 1000000) (by kernel_rfl) (by kernel_rfl) (congrArg some ((gt_of_le (show decide (lo ≤ 1000000) = true from (by have q := h4; simp only [okC, Bool.and_eq_true, Bool.and_eq_false_iff, decide_eq_true_eq, decide_eq_false_iff_not] at q ⊢; (try simp only [decide_eq_true_eq, decide_eq_false_iff_not] at *); omega)))))) (all_cons (cmpOK (op := .lss) (ty := 3) (k := .i64) (n := (sn 2)) (m := (-1000000)) (t := false) (a := hi) (b := (-1000000)) (by kernel_rfl) (by kernel_rfl) (congrArg some ((lt_c h6 rfl)))) (all_cons (cmpOK (op := .gtr) (ty := 3) (k := .i64) (n := (sn 2)) (m := 1000000) (t := true) (a := hi) (b := 1000000) (by kernel_rfl) (by kernel_rfl) (congrArg some ((gt_of_le (show decide (hi ≤ 1000000) = false from (by have q := h5; simp only [okC, Bool.and_eq_true, Bool.and_eq_false_iff, decide_eq_true_eq, decide_eq_false_iff_not] at q ⊢; have g0 := h6; (try simp only [decide_eq_true_eq, decide_eq_false_iff_not] at *); omega)))))) all_nil)))), all_nil, all_nil, all_nil, (all_cons (callOKb (f := 38) (args := [oq 0]) (v := .int .i64 0) (args' := #[(.slice a n c)]) (v' := .int .i64 0) (by kernel_rfl) (by kernel_rfl) (by kernel_rfl) (fun w1 hw1 => by have q := pcheck_any a n c X Y ptr w1 hn0 (hS.mono hw1) (hP.mono hw1); rw [show chkP n X Y = 0 from (by unfold chkP; simp [h0, h1, h2, h3])] at q; exact q)) all_nil), all_nil, all_nil, all_nil, all_nil, all_nil, all_nil, all_nil, all_nil, all_nil, all_nil, all_nil, all_nil, all_nil⟩ 1000 50 14 [.agg #[oq 0, sy 1, sy 2]] (.int .i64 6) (args' := #[.agg #[(.slice a n c), .int .i64 lo, .int .i64 hi]]) (v' := .int .i64 6) (by kernel_rfl) (by kernel_rfl) (by kernel_rfl) w (Below.refl _ _)
              · have hr : (.int .i64 (chkPr n X Y lo hi) : Value) = .int .i64 6 := by (refine congrArg (Value.int .i64) ?_; unfold chkPr; simp only [h0, h1, h2, h3, h4, h5, if_true, Bool.false_eq_true, if_false, reduceIte])
                try rw [hr]
                exact run_know (P := Try.prog) (ρ := env [(n : Int), lo, hi] [(.slice a n c)] w) (o := { bin := [(.lss, 3, .int .i64 (sn 1), .int .i64 (-1000000), .bool false), (.gtr, 3, .int .i64 (sn 1), .int .i64 1000000, .bool false), (.lss, 3, .int .i64 (sn 2), .int .i64 (-1000000), .bool true)], calls := [(38, [oq 0], .int .i64 0)] }) ⟨(all_cons (cmpOK (op := .lss) (ty := 3) (k := .i64) (n := (sn 1)) (m := (-1000000)) (t := false) (a := lo) (b := (-1000000)) (by kernel_rfl) (by kernel_rfl) (congrArg some ((lt_c (show decide (lo ≤ (-1000001)) = false from (by have q := h4; simp only [okC, Bool.and_eq_true, Bool.and_eq_false_iff, decide_eq_true_eq, decide_eq_false_iff_not] at q ⊢; (try simp only [decide_eq_true_eq, decide_eq_false_iff_not] at *); omega)) rfl)))) (all_cons (cmpOK (op := .gtr) (ty := 3) (k := .i64) (n := (sn 1)) (m := 1000000) (t := false) (a := lo) (b := 1000000) (by kernel_rfl) (by kernel_rfl) (congrArg some ((gt_of_le (show decide (lo ≤ 1000000) = true from (by have q := h4; simp only [okC, Bool.and_eq_true, Bool.and_eq_false_iff, decide_eq_true_eq, decide_eq_false_iff_not] at q ⊢; (try simp only [decide_eq_true_eq, decide_eq_false_iff_not] at *); omega)))))) (all_cons (cmpOK (op := .lss) (ty := 3) (k := .i64) (n := (sn 2)) (m := (-1000000)) (t := true) (a := hi) (b := (-1000000)) (by kernel_rfl) (by kernel_rfl) (congrArg some ((lt_c h6 rfl)))) all_nil))), all_nil, all_nil, all_nil, (all_cons (callOKb (f := 38) (args := [oq 0]) (v := .int .i64 0) (args' := #[(.slice a n c)]) (v' := .int .i64 0) (by kernel_rfl) (by kernel_rfl) (by kernel_rfl) (fun w1 hw1 => by have q := pcheck_any a n c X Y ptr w1 hn0 (hS.mono hw1) (hP.mono hw1); rw [show chkP n X Y = 0 from (by unfold chkP; simp [h0, h1, h2, h3])] at q; exact q)) all_nil), all_nil, all_nil, all_nil, all_nil, all_nil, all_nil, all_nil, all_nil, all_nil, all_nil, all_nil, all_nil, all_nil⟩ 1000 50 14 [.agg #[oq 0, sy 1, sy 2]] (.int .i64 6) (args' := #[.agg #[(.slice a n c), .int .i64 lo, .int .i64 hi]]) (v' := .int .i64 6) (by kernel_rfl) (by kernel_rfl) (by kernel_rfl) w (Below.refl _ _)
            · rcases h6 : (decide (hi ≤ lo)) with _ | _
              · rcases h7 : (cvxR n X Y) with _ | _
                · have hX : ∀ k, k < n → bd (-1000000) 1000000 (X k) ∧ bd (-1000000) 1000000 (Y k) := hX_of h2
                  have hn3 : 3 ≤ n := (by have g := of_decide_eq_false h1; omega)
                  have hr : (.int .i64 (chkPr n X Y lo hi) : Value) = .int .i64 1 := by (refine congrArg (Value.int .i64) ?_; unfold chkPr; simp only [h0, h1, h2, h3, h4, h5, h6, h7, if_true, Bool.false_eq_true, if_false, reduceIte])
                  try rw [hr]
                  exact run_know (P := Try.prog) (ρ := env [(n : Int), lo, hi] [(.slice a n c)] w) (o := { bin := [(.lss, 3, .int .i64 (sn 1), .int .i64 (-1000000), .bool false), (.gtr, 3, .int .i64 (sn 1), .int .i64 1000000, .bool false), (.lss, 3, .int .i64 (sn 2), .int .i64 (-1000000), .bool false), (.gtr, 3, .int .i64 (sn 2), .int .i64 1000000, .bool false), (.geq, 3, .int .i64 (sn 1), .int .i64 (sn 2), .bool false)], calls := [(38, [oq 0], .int .i64 0), (40, [oq 0], .bool false)] }) ⟨(all_cons (cmpOK (op := .lss) (ty := 3) (k := .i64) (n := (sn 1)) (m := (-1000000)) (t := false) (a := lo) (b := (-1000000)) (by kernel_rfl) (by kernel_rfl) (congrArg some ((lt_c (show decide (lo ≤ (-1000001)) = false from (by have q := h4; simp only [okC, Bool.and_eq_true, Bool.and_eq_false_iff, decide_eq_true_eq, decide_eq_false_iff_not] at q ⊢; (try simp only [decide_eq_true_eq, decide_eq_false_iff_not] at *); omega)) rfl)))) (all_cons (cmpOK (op := .gtr) (ty := 3) (k := .i64) (n := (sn 1)) (m := 1000000) (t := false) (a := lo) (b := 1000000) (by kernel_rfl) (by kernel_rfl) (congrArg some ((gt_of_le (show decide (lo ≤ 1000000) = true from (by have q := h4; simp only [okC, Bool.and_eq_true, Bool.and_eq_false_iff, decide_eq_true_eq, decide_eq_false_iff_not] at q ⊢; (try simp only [decide_eq_true_eq, decide_eq_false_iff_not] at *); omega)))))) (all_cons (cmpOK (op := .lss) (ty := 3) (k := .i64) (n := (sn 2)) (m := (-1000000)) (t := false) (a := hi) (b := (-1000000)) (by kernel_rfl) (by kernel_rfl) (congrArg some ((lt_c (show decide (hi ≤ (-1000001)) = false from (by have q := h5; simp only [okC, Bool.and_eq_true, Bool.and_eq_false_iff, decide_eq_true_eq, decide_eq_false_iff_not] at q ⊢; (try simp only [decide_eq_true_eq, decide_eq_false_iff_not] at *); omega)) rfl)))) (all_cons (cmpOK (op := .gtr) (ty := 3) (k := .i64) (n := (sn 2)) (m := 1000000) (t := false) (a := hi) (b := 1000000) (by kernel_rfl) (by kernel_rfl) (congrArg some ((gt_of_le (show decide (hi ≤ 1000000) = true from (by have q := h5; simp only [okC, Bool.and_eq_true, Bool.and_eq_false_iff, decide_eq_true_eq, decide_eq_false_iff_not] at q ⊢; (try simp only [decide_eq_true_eq, decide_eq_false_iff_not] at *); omega)))))) (all_cons (cmpOK (op := .geq) (ty := 3) (k := .i64) (n := (sn 1)) (m := (sn 2)) (t := false) (a := lo) (b := hi) (by kernel_rfl) (by kernel_rfl) (congrArg some (h6))) all_nil))))), all_nil, all_nil, all_nil, (all_cons (callOKb (f := 38) (args := [oq 0]) (v := .int .i64 0) (args' := #[(.slice a n c)]) (v' := .int .i64 0) (by kernel_rfl) (by kernel_rfl) (by kernel_rfl) (fun w1 hw1 => by have q := pcheck_any a n c X Y ptr w1 hn0 (hS.mono hw1) (hP.mono hw1); rw [show chkP n X Y = 0 from (by unfold chkP; simp [h0, h1, h2, h3])] at q; exact q)) (all_cons (callOKb (f := 40) (args := [oq 0]) (v := .bool false) (args' := #[(.slice a n c)]) (v' := .bool false) (by kernel_rfl) (by kernel_rfl) (by kernel_rfl) (fun w1 hw1 => by have q := convex_any a n c X Y ptr w1 hn0 hX (hS.mono hw1) (hP.mono hw1); rw [cvx_eq hn3, h7] at q; exact q)) all_nil)), all_nil, all_nil, all_nil, all_nil, all_nil, all_nil, all_nil, all_nil, all_nil, all_nil, all_nil, all_nil, all_nil⟩ 1000 50 14 [.agg #[oq 0, sy 1, sy 2]] (.int .i64 1) (args' := #[.agg #[(.slice a n c), .int .i64 lo, .int .i64 hi]]) (v' := .int .i64 1) (by kernel_rfl) (by kernel_rfl) (by kernel_rfl) w (Below.refl _ _)
                · have hX : ∀ k, k < n → bd (-1000000) 1000000 (X k) ∧ bd (-1000000) 1000000 (Y k) := hX_of h2
                  have hn3 : 3 ≤ n := (by have g := of_decide_eq_false h1; omega)
                  have hr : (.int .i64 (chkPr n X Y lo hi) : Value) = .int .i64 0 := by (refine congrArg (Value.int .i64) ?_; unfold chkPr; simp only [h0, h1, h2, h3, h4, h5, h6, h7, if_true, Bool.false_eq_true, if_false, reduceIte])
                  try rw [hr]
                  exact run_know (P := Try.prog) (ρ := env [(n : Int), lo, hi] [(.slice a n c)] w) (o := { bin := [(.lss, 3, .int .i64 (sn 1), .int .i64 (-1000000), .bool false), (.gtr, 3, .int .i64 (sn 1), .int .i64 1000000, .bool false), (.lss, 3, .int .i64 (sn 2), .int .i64 (-1000000), .bool false), (.gtr, 3, .int .i64 (sn 2), .int .i64 1000000, .bool false), (.geq, 3, .int .i64 (sn 1), .int .i64 (sn 2), .bool false)], calls := [(38, [oq 0], .int .i64 0), (40, [oq 0], .bool true)] }) ⟨(all_cons (cmpOK (op := .lss) (ty := 3) (k := .i64) (n := (sn 1)) (m := (-1000000)) (t := false) (a := lo) (b := (-1000000)) (by kernel_rfl) (by kernel_rfl) (congrArg some ((lt_c (show decide (lo ≤ (-1000001)) = false from (by have q := h4; simp only [okC, Bool.and_eq_true, Bool.and_eq_false_iff, decide_eq_true_eq, decide_eq_false_iff_not] at q ⊢; (try simp only [decide_eq_true_eq, decide_eq_false_iff_not] at *); omega)) rfl)))) (all_cons (cmpOK (op := .gtr) (ty := 3) (k := .i64) (n := (sn 1)) (m := 1000000) (t := false) (a := lo) (b := 1000000) (by kernel_rfl) (by kernel_rfl) (congrArg some ((gt_of_le (show decide (lo ≤ 1000000) = true from (by have q := h4; simp only [okC, Bool.and_eq_true, Bool.and_eq_false_iff, decide_eq_true_eq, decide_eq_false_iff_not] at q ⊢; (try simp only [decide_eq_true_eq, decide_eq_false_iff_not] at *); omega)))))) (all_cons (cmpOK (op := .lss) (ty := 3) (k := .i64) (n := (sn 2)) (m := (-1000000)) (t := false) (a := hi) (b := (-1000000)) (by kernel_rfl) (by kernel_rfl) (congrArg some ((lt_c (show decide (hi ≤ (-1000001)) = false from (by have q := h5; simp only [okC, Bool.and_eq_true, Bool.and_eq_false_iff, decide_eq_true_eq, decide_eq_false_iff_not] at q ⊢; (try simp only [decide_eq_true_eq, decide_eq_false_iff_not] at *); omega)) rfl)))) (all_cons (cmpOK (op := .gtr) (ty := 3) (k := .i64) (n := (sn 2)) (m := 1000000) (t := false) (a := hi) (b := 1000000) (by kernel_rfl) (by kernel_rfl) (congrArg some ((gt_of_le (show decide (hi ≤ 1000000) = true from (by have q := h5; simp only [okC, Bool.and_eq_true, Bool.and_eq_false_iff, decide_eq_true_eq, decide_eq_false_iff_not] at q ⊢; (try simp only [decide_eq_true_eq, decide_eq_false_iff_not] at *); omega)))))) (all_cons (cmpOK (op := .geq) (ty := 3) (k := .i64) (n := (sn 1)) (m := (sn 2)) (t := false) (a := lo) (b := hi) (by kernel_rfl) (by kernel_rfl) (congrArg some (h6))) all_nil))))), all_nil, all_nil, all_nil, (all_cons (callOKb (f := 38) (args := [oq 0]) (v := .int .i64 0) (args' := #[(.slice a n c)]) (v' := .int .i64 0) (by kernel_rfl) (by kernel_rfl) (by kernel_rfl) (fun w1 hw1 => by have q := pcheck_any a n c X Y ptr w1 hn0 (hS.mono hw1) (hP.mono hw1); rw [show chkP n X Y = 0 from (by unfold chkP; simp [h0, h1, h2, h3])] at q; exact q)) (all_cons (callOKb (f := 40) (args := [oq 0]) (v := .bool true) (args' := #[(.slice a n c)]) (v' := .bool true) (by kernel_rfl) (by kernel_rfl) (by kernel_rfl) (fun w1 hw1 => by have q := convex_any a n c X Y ptr w1 hn0 hX (hS.mono hw1) (hP.mono hw1); rw [cvx_eq hn3, h7] at q; exact q)) all_nil)), all_nil, all_nil, all_nil, all_nil, all_nil, all_nil, all_nil, all_nil, all_nil, all_nil, all_nil, all_nil, all_nil⟩ 1000 50 14 [.agg #[oq 0, sy 1, sy 2]] (.int .i64 0) (args' := #[.agg #[(.slice a n c), .int .i64 lo, .int .i64 hi]]) (v' := .int .i64 0) (by kernel_rfl) (by kernel_rfl) (by kernel_rfl) w (Below.refl _ _)
              · have hr : (.int .i64 (chkPr n X Y lo hi) : Value) = .int .i64 1 := by (refine congrArg (Value.int .i64) ?_; unfold chkPr; simp only [h0, h1, h2, h3, h4, h5, h6, if_true, Bool.false_eq_true, if_false, reduceIte])
                try rw [hr]
                exact run_know (P := Try.prog) (ρ := env [(n : Int), lo, hi] [(.slice a n c)] w) (o := { bin := [(.lss, 3, .int .i64 (sn 1), .int .i64 (-1000000), .bool false), (.gtr, 3, .int .i64 (sn 1), .int .i64 1000000, .bool false), (.lss, 3, .int .i64 (sn 2), .int .i64 (-1000000), .bool false), (.gtr, 3, .int .i64 (sn 2), .int .i64 1000000, .bool false), (.geq, 3, .int .i64 (sn 1), .int .i64 (sn 2), .bool true)], calls := [(38, [oq 0], .int .i64 0)] }) ⟨(all_cons (cmpOK (op := .lss) (ty := 3) (k := .i64) (n := (sn 1)) (m := (-1000000)) (t := false) (a := lo) (b := (-1000000)) (by kernel_rfl) (by kernel_rfl) (congrArg some ((lt_c (show decide (lo ≤ (-1000001)) = false from (by have q := h4; simp only [okC, Bool.and_eq_true, Bool.and_eq_false_iff, decide_eq_true_eq, decide_eq_false_iff_not] at q ⊢; (try simp only [decide_eq_true_eq, decide_eq_false_iff_not] at *); omega)) rfl)))) (all_cons (cmpOK (op := .gtr) (ty := 3) (k := .i64) (n := (sn 1)) (m := 1000000) (t := false) (a := lo) (b := 1000000) (by kernel_rfl) (by kernel_rfl) (congrArg some ((gt_of_le (show decide (lo ≤ 1000000) = true from (by have q := h4; simp only [okC, Bool.and_eq_true, Bool.and_eq_false_iff, decide_eq_true_eq, decide_eq_false_iff_not] at q ⊢; (try simp only [decide_eq_true_eq, decide_eq_false_iff_not] at *); omega)))))) (all_cons (cmpOK (op := .lss) (ty := 3) (k := .i64) (n := (sn 2)) (m := (-1000000)) (t := false) (a := hi) (b := (-1000000)) (by kernel_rfl) (by kernel_rfl) (congrArg some ((lt_c (show decide (hi ≤ (-1000001)) = false from (by have q := h5; simp only [okC, Bool.and_eq_true, Bool.and_eq_false_iff, decide_eq_true_eq, decide_eq_false_iff_not] at q ⊢; (try simp only [decide_eq_true_eq, decide_eq_false_iff_not] at *); omega)) rfl)))) (all_cons (cmpOK (op := .gtr) (ty := 3) (k := .i64) (n := (sn 2)) (m := 1000000) (t := false) (a := hi) (b := 1000000) (by kernel_rfl) (by kernel_rfl) (congrArg some ((gt_of_le (show decide (hi ≤ 1000000) = true from (by have q := h5; simp only [okC, Bool.and_eq_true, Bool.and_eq_false_iff, decide_eq_true_eq, decide_eq_false_iff_not] at q ⊢; (try simp only [decide_eq_true_eq, decide_eq_false_iff_not] at *); omega)))))) (all_cons (cmpOK (op := .geq) (ty := 3) (k := .i64) (n := (sn 1)) (m := (sn 2)) (t := true) (a := lo) (b := hi) (by kernel_rfl) (by kernel_rfl) (congrArg some (h6))) all_nil))))), all_nil, all_nil, all_nil, (all_cons (callOKb (f := 38) (args := [oq 0]) (v := .int .i64 0) (args' := #[(.slice a n c)]) (v' := .int .i64 0) (by kernel_rfl) (by kernel_rfl) (by kernel_rfl) (fun w1 hw1 => by have q := pcheck_any a n c X Y ptr w1 hn0 (hS.mono hw1) (hP.mono hw1); rw [show chkP n X Y = 0 from (by unfold chkP; simp [h0, h1, h2, h3])] at q; exact q)) all_nil), all_nil, all_nil, all_nil, all_nil, all_nil, all_nil, all_nil, all_nil, all_nil, all_nil, all_nil, all_nil, all_nil⟩ 1000 50 14 [.agg #[oq 0, sy 1, sy 2]] (.int .i64 1) (args' := #[.agg #[(.slice a n c), .int .i64 lo, .int .i64 hi]]) (v' := .int .i64 1) (by kernel_rfl) (by kernel_rfl) (by kernel_rfl) w (Below.refl _ _)
    · have hr : (.int .i64 (chkPr n X Y lo hi) : Value) = .int .i64 1 := by (refine congrArg (Value.int .i64) ?_; unfold chkPr; simp only [h0, h1, if_true, Bool.false_eq_true, if_false, reduceIte])
      try rw [hr]
      exact run_know (P := Try.prog) (ρ := env [(n : Int), lo, hi] [(.slice a n c)] w) (o := { calls := [(38, [oq 0], .int .i64 1)] }) ⟨all_nil, all_nil, all_nil, all_nil, (all_cons (callOKb (f := 38) (args := [oq 0]) (v := .int .i64 1) (args' := #[(.slice a n c)]) (v' := .int .i64 1) (by kernel_rfl) (by kernel_rfl) (by kernel_rfl) (fun w1 hw1 => by have q := pcheck_any a n c X Y ptr w1 hn0 (hS.mono hw1) (hP.mono hw1); rw [show chkP n X Y = 1 from (by unfold chkP; simp [h0, h1])] at q; exact q)) all_nil), all_nil, all_nil, all_nil, all_nil, all_nil, all_nil, all_nil, all_nil, all_nil, all_nil, all_nil, all_nil, all_nil⟩ 1000 50 14 [.agg #[oq 0, sy 1, sy 2]] (.int .i64 1) (args' := #[.agg #[(.slice a n c), .int .i64 lo, .int .i64 hi]]) (v' := .int .i64 1) (by kernel_rfl) (by kernel_rfl) (by kernel_rfl) w (Below.refl _ _)
def ret0 : Tm := [[.agg #[sy 1, sy 2, sy 3, sy 4], oq 0, .int .i64 1, .pointer (some ⟨0, 0, none⟩), undef, undef, .bool false, undef, anyV, oq 0, sy 0, sy 5, anyV, anyV, anyV, anyV], [anyV, anyV, anyV, anyV, anyV, anyV, anyV, anyV]]
def reH0 : Heap := [some ⟨[sy 1, sy 2, sy 3, sy 4], 73⟩]
def retA : Tm := [[.agg #[sy 1, sy 2, sy 3, sy 4], oq 0, .int .i64 1, .pointer (some ⟨0, 0, none⟩), undef, undef, .bool false, undef, undef, oq 0, sy 0, .int .i64 0, undef, undef, undef, undef], [undef, undef, undef, undef, undef, undef, undef, undef]]
def reHA : Heap := [some ⟨[sy 1, sy 2, sy 3, sy 4], 73⟩]
def reo0 : Orc := { bin := [(.lss, 3, .int .i64 (sn 5), .int .i64 (sn 0), .bool true), (.eql, 3, .int .i64 (sn 8), .int .i64 1, .bool false), (.add, 3, .int .i64 (sn 5), .int .i64 1, .int .i64 (sn 9))], calls := [(53, [.agg #[sy 1, sy 2], .agg #[sy 3, sy 4], .agg #[sy 6, sy 7]], sy 8)], lds := [(60, oq 1, .agg #[sy 6, sy 7])], ixa := [(23, oq 0, .int .i64 (sn 5), oq 1)], lens := [(false, oq 0, .int .i64 (sn 0))] }
def reo1 : Orc := { bin := [(.lss, 3, .int .i64 (sn 5), .int .i64 (sn 0), .bool true), (.eql, 3, .int .i64 (sn 8), .int .i64 1, .bool true)], calls := [(53, [.agg #[sy 1, sy 2], .agg #[sy 3, sy 4], .agg #[sy 6, sy 7]], sy 8)], lds := [(60, oq 1, .agg #[sy 6, sy 7])], ixa := [(23, oq 0, .int .i64 (sn 5), oq 1)], lens := [(false, oq 0, .int .i64 (sn 0))] }
def reo2 : Orc := { bin := [(.lss, 3, .int .i64 (sn 5), .int .i64 (sn 0), .bool false)], lens := [(false, oq 0, .int .i64 (sn 0))] }
noncomputable def reE (a2 : Option Addr) (n2 c2 : Nat) (X2 Y2 : Nat → Int) (ptr2 : Nat → Addr) (ax ay bx bY : Int) (w : World) (k : Nat) : Env := env [(n2 : Int), ax, ay, bx, bY, (k : Int), (X2 k), (Y2 k), (turnI ax ay bx bY (X2 k) (Y2 k)), ((k : Int) + 1)] [(.slice a2 n2 c2), (.pointer (some (ptr2 k)))] w
theorem res0 : stepT Try.prog [0] (evBody Try.prog reo0 1000 50 46 [false, true, false, true] ret0 reH0) .normal ret0 reH0 [.num 1180591620717411303425 1180591620717411303425, .num 1180591620717411303426 1180591620717411303426, .num 1180591620717411303427 1180591620717411303427, .num 1180591620717411303428 1180591620717411303428, .val 0 0, .num 1180591620717411303424 1180591620717411303424, .num 1180591620717411303433 1180591620717411303429] = true := by decide +kernel
theorem rek0 (a2 : Option Addr) (n2 c2 : Nat) (X2 Y2 : Nat → Int) (ptr2 : Nat → Addr) (ax ay bx bY : Int) (w : World) (k : Nat) (hib : bd 0 1000000000000000 (k : Int)) (hm : bd 0 1000000000000 (n2 : Int)) (hn2 : n2 ≤ 1000000000000) (hX2 : ∀ k, k < n2 → bd (-1000000) 1000000 (X2 k) ∧ bd (-1000000) 1000000 (Y2 k)) (h_ax : bd (-1000000) 1000000 ax) (h_ay : bd (-1000000) 1000000 ay) (h_bx : bd (-1000000) 1000000 bx) (h_bY : bd (-1000000) 1000000 bY) (hS2 : Sl Try.prog w (.slice a2 n2 c2) n2 22 60 (fun k => .agg #[.int .i64 (X2 k), .int .i64 (Y2 k)]) ptr2) (hP2 : Sl Try.prog w (.slice a2 n2 c2) n2 23 60 (fun k => .agg #[.int .i64 (X2 k), .int .i64 (Y2 k)]) ptr2)  (h0 : (decide ((n2 : Int) ≤ (k : Int))) = false) (h1 : (rcP X2 Y2 ax ay bx bY k) = false) : Know (reE a2 n2 c2 X2 Y2 ptr2 ax ay bx bY w k) Try.prog reo0 := by
  have bq0 : bd 1 1000000000000001 (((k : Int) + 1)) := bd_add hib (bd_lit (l := 1) (h := 1) rfl) rfl
  exact ⟨(all_cons (cmpOK (op := .lss) (ty := 3) (k := .i64) (n := (sn 5)) (m := (sn 0)) (t := true) (a := (k : Int)) (b := (n2 : Int)) (by kernel_rfl) (by kernel_rfl) (congrArg some ((lt_of_le h0)))) (all_cons (cmpOK (op := .eql) (ty := 3) (k := .i64) (n := (sn 8)) (m := 1) (t := false) (a := ((turnI ax ay bx bY (X2 k) (Y2 k)))) (b := 1) (by kernel_rfl) (by kernel_rfl) (congrArg some ((show (((turnI ax ay bx bY (X2 k) (Y2 k))) == 1) = false from (show ((turnI ax ay bx bY (X2 k) (Y2 k)) == 1) = _ from h1))))) (all_cons (arOK (op := .add) (ty := 3) (k := .i64) (n := (sn 5)) (m := 1) (r := (sn 9)) (a := (k : Int)) (b := 1) (c := (((k : Int) + 1))) (d := (k : Int) + 1) (by kernel_rfl) (by kernel_rfl) (by kernel_rfl) rfl (wr_bd bq0 rfl)) all_nil))), all_nil, all_nil, all_nil, (all_cons (callOK (f := 53) (args := [.agg #[sy 1, sy 2], .agg #[sy 3, sy 4], .agg #[sy 6, sy 7]]) (v := sy 8) (args' := #[.agg #[.int .i64 ax, .int .i64 ay], .agg #[.int .i64 bx, .int .i64 bY], .agg #[.int .i64 (X2 k), .int .i64 (Y2 k)]]) (v' := .int .i64 ((turnI ax ay bx bY (X2 k) (Y2 k)))) (by kernel_rfl) (by kernel_rfl) (by kernel_rfl) (fun w => porient_any ax ay bx bY (X2 k) (Y2 k) w h_ax h_ay h_bx h_bY (hX2 _ (by have g := of_decide_eq_false h0; omega)).1 (hX2 _ (by have g := of_decide_eq_false h0; omega)).2)) all_nil), (all_cons (sldOK (j := 1) (k := k) (x := .agg #[sy 6, sy 7]) hP2 rfl (by have g := of_decide_eq_false h0; omega) (by kernel_rfl) (by show inst _ _ = _; kernel_rfl)) all_nil), (all_cons (sixOK (i := 0) (j := 1) (k := k) (r := (sn 5)) hP2 rfl (by kernel_rfl) rfl (by have g := of_decide_eq_false h0; omega)) all_nil), all_nil, all_nil, all_nil, (all_cons (lenOK (i := 0) (r := (sn 0)) (a := a2) (c := c2) rfl (by kernel_rfl)) all_nil), all_nil, all_nil, all_nil, all_nil, all_nil, all_nil, all_nil⟩
theorem rek1 (a2 : Option Addr) (n2 c2 : Nat) (X2 Y2 : Nat → Int) (ptr2 : Nat → Addr) (ax ay bx bY : Int) (w : World) (k : Nat) (hib : bd 0 1000000000000000 (k : Int)) (hm : bd 0 1000000000000 (n2 : Int)) (hn2 : n2 ≤ 1000000000000) (hX2 : ∀ k, k < n2 → bd (-1000000) 1000000 (X2 k) ∧ bd (-1000000) 1000000 (Y2 k)) (h_ax : bd (-1000000) 1000000 ax) (h_ay : bd (-1000000) 1000000 ay) (h_bx : bd (-1000000) 1000000 bx) (h_bY : bd (-1000000) 1000000 bY) (hS2 : Sl Try.prog w (.slice a2 n2 c2) n2 22 60 (fun k => .agg #[.int .i64 (X2 k), .int .i64 (Y2 k)]) ptr2) (hP2 : Sl Try.prog w (.slice a2 n2 c2) n2 23 60 (fun k => .agg #[.int .i64 (X2 k), .int .i64 (Y2 k)]) ptr2)  (h0 : (decide ((n2 : Int) ≤ (k : Int))) = false) (h1 : (rcP X2 Y2 ax ay bx bY k) = true) : Know (reE a2 n2 c2 X2 Y2 ptr2 ax ay bx bY w k) Try.prog reo1 := by
  exact ⟨(all_cons (cmpOK (op := .lss) (ty := 3) (k := .i64) (n := (sn 5)) (m := (sn 0)) (t := true) (a := (k : Int)) (b := (n2 : Int)) (by kernel_rfl) (by kernel_rfl) (congrArg some ((lt_of_le h0)))) (all_cons (cmpOK (op := .eql) (ty := 3) (k := .i64) (n := (sn 8)) (m := 1) (t := true) (a := ((turnI ax ay bx bY (X2 k) (Y2 k)))) (b := 1) (by kernel_rfl) (by kernel_rfl) (congrArg some ((show (((turnI ax ay bx bY (X2 k) (Y2 k))) == 1) = true from (show ((turnI ax ay bx bY (X2 k) (Y2 k)) == 1) = _ from h1))))) all_nil)), all_nil, all_nil, all_nil, (all_cons (callOK (f := 53) (args := [.agg #[sy 1, sy 2], .agg #[sy 3, sy 4], .agg #[sy 6, sy 7]]) (v := sy 8) (args' := #[.agg #[.int .i64 ax, .int .i64 ay], .agg #[.int .i64 bx, .int .i64 bY], .agg #[.int .i64 (X2 k), .int .i64 (Y2 k)]]) (v' := .int .i64 ((turnI ax ay bx bY (X2 k) (Y2 k)))) (by kernel_rfl) (by kernel_rfl) (by kernel_rfl) (fun w => porient_any ax ay bx bY (X2 k) (Y2 k) w h_ax h_ay h_bx h_bY (hX2 _ (by have g := of_decide_eq_false h0; omega)).1 (hX2 _ (by have g := of_decide_eq_false h0; omega)).2)) all_nil), (all_cons (sldOK (j := 1) (k := k) (x := .agg #[sy 6, sy 7]) hP2 rfl (by have g := of_decide_eq_false h0; omega) (by kernel_rfl) (by show inst _ _ = _; kernel_rfl)) all_nil), (all_cons (sixOK (i := 0) (j := 1) (k := k) (r := (sn 5)) hP2 rfl (by kernel_rfl) rfl (by have g := of_decide_eq_false h0; omega)) all_nil), all_nil, all_nil, all_nil, (all_cons (lenOK (i := 0) (r := (sn 0)) (a := a2) (c := c2) rfl (by kernel_rfl)) all_nil), all_nil, all_nil, all_nil, all_nil, all_nil, all_nil, all_nil⟩
theorem rek2 (a2 : Option Addr) (n2 c2 : Nat) (X2 Y2 : Nat → Int) (ptr2 : Nat → Addr) (ax ay bx bY : Int) (w : World) (k : Nat) (hib : bd 0 1000000000000000 (k : Int)) (hm : bd 0 1000000000000 (n2 : Int)) (hn2 : n2 ≤ 1000000000000) (hX2 : ∀ k, k < n2 → bd (-1000000) 1000000 (X2 k) ∧ bd (-1000000) 1000000 (Y2 k)) (h_ax : bd (-1000000) 1000000 ax) (h_ay : bd (-1000000) 1000000 ay) (h_bx : bd (-1000000) 1000000 bx) (h_bY : bd (-1000000) 1000000 bY) (hS2 : Sl Try.prog w (.slice a2 n2 c2) n2 22 60 (fun k => .agg #[.int .i64 (X2 k), .int .i64 (Y2 k)]) ptr2) (hP2 : Sl Try.prog w (.slice a2 n2 c2) n2 23 60 (fun k => .agg #[.int .i64 (X2 k), .int .i64 (Y2 k)]) ptr2)  (h0 : (decide ((n2 : Int) ≤ (k : Int))) = true) : Know (reE a2 n2 c2 X2 Y2 ptr2 ax ay bx bY w k) Try.prog reo2 := by
  exact ⟨(all_cons (cmpOK (op := .lss) (ty := 3) (k := .i64) (n := (sn 5)) (m := (sn 0)) (t := false) (a := (k : Int)) (b := (n2 : Int)) (by kernel_rfl) (by kernel_rfl) (congrArg some ((lt_of_le h0)))) all_nil), all_nil, all_nil, all_nil, all_nil, all_nil, all_nil, all_nil, all_nil, all_nil, (all_cons (lenOK (i := 0) (r := (sn 0)) (a := a2) (c := c2) rfl (by kernel_rfl)) all_nil), all_nil, all_nil, all_nil, all_nil, all_nil, all_nil, all_nil⟩
def retF_hit : Tm := [[.agg #[sy 1, sy 2, sy 3, sy 4], oq 0, .int .i64 1, .pointer (some ⟨0, 0, none⟩), anyV, anyV, .bool true, anyV, anyV, oq 0, sy 0, anyV, .bool true, anyV, anyV, .pointer (some ⟨0, 0, none⟩)], [.agg #[sy 1, sy 2], .pointer (some ⟨0, 2, none⟩), .agg #[sy 3, sy 4], anyV, anyV, .int .i64 1, .bool true, anyV]]
def reHF_hit : Heap := [some ⟨[sy 1, sy 2, sy 3, sy 4], 73⟩]
theorem ref1_hit : stepT Try.prog [0] (evBody Try.prog reo1 1000 50 46 [false, true, false, true] ret0 reH0) (.ret) retF_hit reHF_hit [.num 1180591620717411303425 1180591620717411303425, .num 1180591620717411303426 1180591620717411303426, .num 1180591620717411303427 1180591620717411303427, .num 1180591620717411303428 1180591620717411303428, .val 0 0, .num 1180591620717411303424 1180591620717411303424] = true := by decide +kernel
theorem re_loop_hit (a2 : Option Addr) (n2 c2 : Nat) (X2 Y2 : Nat → Int) (ptr2 : Nat → Addr) (ax ay bx bY : Int) (w : World) (hn2 : n2 ≤ 1000000000000) (hX2 : ∀ k, k < n2 → bd (-1000000) 1000000 (X2 k) ∧ bd (-1000000) 1000000 (Y2 k)) (h_ax : bd (-1000000) 1000000 ax) (h_ay : bd (-1000000) 1000000 ay) (h_bx : bd (-1000000) 1000000 bx) (h_bY : bd (-1000000) 1000000 bY) (hS2 : Sl Try.prog w (.slice a2 n2 c2) n2 22 60 (fun k => .agg #[.int .i64 (X2 k), .int .i64 (Y2 k)]) ptr2) (hP2 : Sl Try.prog w (.slice a2 n2 c2) n2 23 60 (fun k => .agg #[.int .i64 (X2 k), .int .i64 (Y2 k)]) ptr2) (K : Nat) (hK : K < n2) (hq0 : rcP X2 Y2 ax ay bx bY K = true) (hall : ∀ k, k < K → rcP X2 Y2 ax ay bx bY k = false) : LoopE (env [(n2 : Int), ax, ay, bx, bY] [(.slice a2 n2 c2)] w) Try.prog (46, [false, true, false, true], retA, reHA, .ret, retF_hit, reHF_hit) := by
  refine loop_rule (σ := { st : Nat // st ≤ K }) (fun st => reE a2 n2 c2 X2 Y2 ptr2 ax ay bx bY w st.1) (fun _ => rfl) (fun st => K - st.1) (fun _ => ret0) (fun _ => reH0) rfl (fun _ => by decide) (by decide) ?_ ⟨0, Nat.zero_le _⟩ [.num 1180591620717411303425 1180591620717411303425, .num 1180591620717411303426 1180591620717411303426, .num 1180591620717411303427 1180591620717411303427, .num 1180591620717411303428 1180591620717411303428, .val 0 0, .num 1180591620717411303424 1180591620717411303424, .num 0 1180591620717411303429] [0] (by decide +kernel) (by decide) ?_
  · rintro ⟨k, hle_⟩
    rcases Nat.lt_or_ge k (K) with h | h
    · have hib : bd 0 1000000000000000 (k : Int) := ⟨by omega, by omega⟩; have hm : bd 0 1000000000000 (n2 : Int) := ⟨by omega, by omega⟩; have hq := hall k h; clear hall
      rcases h0 : (decide ((n2 : Int) ≤ (k : Int))) with _ | _
      · rcases h1 : (rcP X2 Y2 ax ay bx bY k) with _ | _
        · refine .inl ⟨reo0, 1000, 50, _, [0], ⟨k + 1, h⟩, (rek0 a2 n2 c2 X2 Y2 ptr2 ax ay bx bY w k hib hm hn2 hX2 h_ax h_ay h_bx h_bY hS2 hP2 h0 h1).ok, res0, by decide, ?_, by show K - (k + 1) < K - k; omega⟩
          intro q hq
          simp only [List.mem_cons, List.not_mem_nil, or_false] at hq
          rcases hq with rfl | rfl | rfl | rfl | rfl | rfl | rfl
          · show (_ : Int) = _; kernel_rfl
          · show (_ : Int) = _; kernel_rfl
          · show (_ : Int) = _; kernel_rfl
          · show (_ : Int) = _; kernel_rfl
          · show (_ : Value) = _; kernel_rfl
          · show (_ : Int) = _; kernel_rfl
          · show (((k : Int) + 1) : Int) = (((k + 1 : Nat)) : Int); first | rfl | (omega)
        · exfalso; (first | (have g := of_decide_eq_true h0; omega) | (have g := of_decide_eq_false h0; omega) | (exact absurd (hq.symm.trans h1) (by decide)))
      · exfalso; (first | (have g := of_decide_eq_true h0; omega) | (have g := of_decide_eq_false h0; omega) | (exact absurd (hq.symm.trans h1) (by decide)))
    · have hE : K = k := by omega
      subst hE
      have hib : bd 0 1000000000000000 (K : Int) := ⟨by omega, by omega⟩; have hm : bd 0 1000000000000 (n2 : Int) := ⟨by omega, by omega⟩; have hq := hq0; clear hall hq0
      rcases h0 : (decide ((n2 : Int) ≤ (K : Int))) with _ | _
      · rcases h1 : (rcP X2 Y2 ax ay bx bY K) with _ | _
        · exfalso; (first | (have g := of_decide_eq_true h0; omega) | (have g := of_decide_eq_false h0; omega) | (exact absurd (hq.symm.trans h1) (by decide)))
        · refine .inr ⟨reo1, 1000, 50, _, [0], (rek1 a2 n2 c2 X2 Y2 ptr2 ax ay bx bY w (K) hib hm hn2 hX2 h_ax h_ay h_bx h_bY hS2 hP2 h0 h1).ok, ref1_hit, by decide, ?_⟩
          intro q hq
          simp only [List.mem_cons, List.not_mem_nil, or_false] at hq
          rcases hq with rfl | rfl | rfl | rfl | rfl | rfl
          · show (_ : Int) = _; kernel_rfl
          · show (_ : Int) = _; kernel_rfl
          · show (_ : Int) = _; kernel_rfl
          · show (_ : Int) = _; kernel_rfl
          · show (_ : Value) = _; kernel_rfl
          · show (_ : Int) = _; kernel_rfl
      · exfalso; (first | (have g := of_decide_eq_true h0; omega) | (have g := of_decide_eq_false h0; omega) | (exact absurd (hq.symm.trans h1) (by decide)))
  · skip
    intro q hq
    simp only [List.mem_cons, List.not_mem_nil, or_false] at hq
    rcases hq with rfl | rfl | rfl | rfl | rfl | rfl | rfl
    · show (_ : Int) = _; kernel_rfl
    · show (_ : Int) = _; kernel_rfl
    · show (_ : Int) = _; kernel_rfl
    · show (_ : Int) = _; kernel_rfl
    · show (_ : Value) = _; kernel_rfl
    · show (_ : Int) = _; kernel_rfl
    · show (0 : Int) = (0 : Int); first | rfl | (omega)
def retF_done : Tm := [[.agg #[sy 1, sy 2, sy 3, sy 4], oq 0, .int .i64 1, .pointer (some ⟨0, 0, none⟩), anyV, anyV, .bool false, anyV, anyV, oq 0, sy 0, anyV, .bool false, anyV, anyV, anyV], [anyV, anyV, anyV, anyV, anyV, anyV, anyV, anyV]]
def reHF_done : Heap := [some ⟨[sy 1, sy 2, sy 3, sy 4], 73⟩]
theorem ref2_done : stepT Try.prog [0] (evBody Try.prog reo2 1000 50 46 [false, true, false, true] ret0 reH0) (.exit 0) retF_done reHF_done [.num 1180591620717411303425 1180591620717411303425, .num 1180591620717411303426 1180591620717411303426, .num 1180591620717411303427 1180591620717411303427, .num 1180591620717411303428 1180591620717411303428, .val 0 0, .num 1180591620717411303424 1180591620717411303424] = true := by decide +kernel
theorem re_loop_done (a2 : Option Addr) (n2 c2 : Nat) (X2 Y2 : Nat → Int) (ptr2 : Nat → Addr) (ax ay bx bY : Int) (w : World) (hn2 : n2 ≤ 1000000000000) (hX2 : ∀ k, k < n2 → bd (-1000000) 1000000 (X2 k) ∧ bd (-1000000) 1000000 (Y2 k)) (h_ax : bd (-1000000) 1000000 ax) (h_ay : bd (-1000000) 1000000 ay) (h_bx : bd (-1000000) 1000000 bx) (h_bY : bd (-1000000) 1000000 bY) (hS2 : Sl Try.prog w (.slice a2 n2 c2) n2 22 60 (fun k => .agg #[.int .i64 (X2 k), .int .i64 (Y2 k)]) ptr2) (hP2 : Sl Try.prog w (.slice a2 n2 c2) n2 23 60 (fun k => .agg #[.int .i64 (X2 k), .int .i64 (Y2 k)]) ptr2) (hall : ∀ k, k < n2 → rcP X2 Y2 ax ay bx bY k = false) : LoopE (env [(n2 : Int), ax, ay, bx, bY] [(.slice a2 n2 c2)] w) Try.prog (46, [false, true, false, true], retA, reHA, .exit 0, retF_done, reHF_done) := by
  refine loop_rule (σ := { st : Nat // st ≤ n2 }) (fun st => reE a2 n2 c2 X2 Y2 ptr2 ax ay bx bY w st.1) (fun _ => rfl) (fun st => n2 - st.1) (fun _ => ret0) (fun _ => reH0) rfl (fun _ => by decide) (by decide) ?_ ⟨0, Nat.zero_le _⟩ [.num 1180591620717411303425 1180591620717411303425, .num 1180591620717411303426 1180591620717411303426, .num 1180591620717411303427 1180591620717411303427, .num 1180591620717411303428 1180591620717411303428, .val 0 0, .num 1180591620717411303424 1180591620717411303424, .num 0 1180591620717411303429] [0] (by decide +kernel) (by decide) ?_
  · rintro ⟨k, hle_⟩
    rcases Nat.lt_or_ge k (n2) with h | h
    · have hib : bd 0 1000000000000000 (k : Int) := ⟨by omega, by omega⟩; have hm : bd 0 1000000000000 (n2 : Int) := ⟨by omega, by omega⟩; have hq := hall k h; clear hall
      rcases h0 : (decide ((n2 : Int) ≤ (k : Int))) with _ | _
      · rcases h1 : (rcP X2 Y2 ax ay bx bY k) with _ | _
        · refine .inl ⟨reo0, 1000, 50, _, [0], ⟨k + 1, h⟩, (rek0 a2 n2 c2 X2 Y2 ptr2 ax ay bx bY w k hib hm hn2 hX2 h_ax h_ay h_bx h_bY hS2 hP2 h0 h1).ok, res0, by decide, ?_, by show n2 - (k + 1) < n2 - k; omega⟩
          intro q hq
          simp only [List.mem_cons, List.not_mem_nil, or_false] at hq
          rcases hq with rfl | rfl | rfl | rfl | rfl | rfl | rfl
          · show (_ : Int) = _; kernel_rfl
          · show (_ : Int) = _; kernel_rfl
          · show (_ : Int) = _; kernel_rfl
          · show (_ : Int) = _; kernel_rfl
          · show (_ : Value) = _; kernel_rfl
          · show (_ : Int) = _; kernel_rfl
          · show (((k : Int) + 1) : Int) = (((k + 1 : Nat)) : Int); first | rfl | (omega)
        · exfalso; (first | (have g := of_decide_eq_true h0; omega) | (have g := of_decide_eq_false h0; omega) | (exact absurd (hq.symm.trans h1) (by decide)))
      · exfalso; (first | (have g := of_decide_eq_true h0; omega) | (have g := of_decide_eq_false h0; omega) | (exact absurd (hq.symm.trans h1) (by decide)))
    · have hE : n2 = k := by omega
      subst hE
      have hib : bd 0 1000000000000000 (n2 : Int) := ⟨by omega, by omega⟩; have hm : bd 0 1000000000000 (n2 : Int) := ⟨by omega, by omega⟩
      rcases h0 : (decide ((n2 : Int) ≤ (n2 : Int))) with _ | _
      · rcases h1 : (rcP X2 Y2 ax ay bx bY n2) with _ | _
        · exfalso; (have g := of_decide_eq_false h0; omega)
        · exfalso; (have g := of_decide_eq_false h0; omega)
      · refine .inr ⟨reo2, 1000, 50, _, [0], (rek2 a2 n2 c2 X2 Y2 ptr2 ax ay bx bY w (n2) hib hm hn2 hX2 h_ax h_ay h_bx h_bY hS2 hP2 h0).ok, ref2_done, by decide, ?_⟩
        intro q hq
        simp only [List.mem_cons, List.not_mem_nil, or_false] at hq
        rcases hq with rfl | rfl | rfl | rfl | rfl | rfl
        · show (_ : Int) = _; kernel_rfl
        · show (_ : Int) = _; kernel_rfl
        · show (_ : Int) = _; kernel_rfl
        · show (_ : Int) = _; kernel_rfl
        · show (_ : Value) = _; kernel_rfl
        · show (_ : Int) = _; kernel_rfl
  · skip
    intro q hq
    simp only [List.mem_cons, List.not_mem_nil, or_false] at hq
    rcases hq with rfl | rfl | rfl | rfl | rfl | rfl | rfl
    · show (_ : Int) = _; kernel_rfl
    · show (_ : Int) = _; kernel_rfl
    · show (_ : Int) = _; kernel_rfl
    · show (_ : Int) = _; kernel_rfl
    · show (_ : Value) = _; kernel_rfl
    · show (_ : Int) = _; kernel_rfl
    · show (0 : Int) = (0 : Int); first | rfl | (omega)
theorem reaches_any (a2 : Option Addr) (n2 c2 : Nat) (X2 Y2 : Nat → Int) (ptr2 : Nat → Addr) (ax ay bx bY : Int) (w : World) (hn2 : n2 ≤ 1000000000000) (hX2 : ∀ k, k < n2 → bd (-1000000) 1000000 (X2 k) ∧ bd (-1000000) 1000000 (Y2 k)) (h_ax : bd (-1000000) 1000000 ax) (h_ay : bd (-1000000) 1000000 ay) (h_bx : bd (-1000000) 1000000 bx) (h_bY : bd (-1000000) 1000000 bY) (hS2 : Sl Try.prog w (.slice a2 n2 c2) n2 22 60 (fun k => .agg #[.int .i64 (X2 k), .int .i64 (Y2 k)]) ptr2) (hP2 : Sl Try.prog w (.slice a2 n2 c2) n2 23 60 (fun k => .agg #[.int .i64 (X2 k), .int .i64 (Y2 k)]) ptr2) : Calls Try.prog 46 #[.agg #[.int .i64 ax, .int .i64 ay, .int .i64 bx, .int .i64 bY], (.slice a2 n2 c2), .int .i64 1] w fun e w' => e = .returned (.bool (rcB n2 X2 Y2 ax ay bx bY)) ∧ Below w.heap.size w w' := by
  have hm : bd 0 1000000000000 (n2 : Int) := ⟨by omega, by omega⟩
  rcases least_fail (fun k => !rcP X2 Y2 ax ay bx bY k) n2 with h | ⟨K, h1, h2, h3⟩
  · rw [show rcB n2 X2 Y2 ax ay bx bY = false from by unfold rcB allF; rw [allN_all h]; rfl]
    exact run_know (P := Try.prog) (ρ := env [(n2 : Int), ax, ay, bx, bY] [(.slice a2 n2 c2)] w) (o := { loops := [(46, [false, true, false, true], retA, reHA, .exit 0, retF_done, reHF_done)], lens := [(false, oq 0, .int .i64 (sn 0))] }) ⟨all_nil, all_nil, all_nil, all_nil, all_nil, all_nil, all_nil, all_nil, all_nil, (all_cons (re_loop_done a2 n2 c2 X2 Y2 ptr2 ax ay bx bY w hn2 hX2 h_ax h_ay h_bx h_bY hS2 hP2 (fun k hk => by simpa using h k hk)) all_nil), (all_cons (lenOK (i := 0) (r := (sn 0)) (a := a2) (c := c2) rfl (by kernel_rfl)) all_nil), all_nil, all_nil, all_nil, all_nil, all_nil, all_nil, all_nil⟩ 1000 50 46 [.agg #[sy 1, sy 2, sy 3, sy 4], oq 0, .int .i64 1] (.bool false) (args' := #[.agg #[.int .i64 ax, .int .i64 ay, .int .i64 bx, .int .i64 bY], (.slice a2 n2 c2), .int .i64 1]) (v' := .bool false) (by kernel_rfl) (by kernel_rfl) (by kernel_rfl) w (Below.refl _ _)
  · rw [show rcB n2 X2 Y2 ax ay bx bY = true from by unfold rcB allF; rw [allN_bad h1 h2]; rfl]
    exact run_know (P := Try.prog) (ρ := env [(n2 : Int), ax, ay, bx, bY] [(.slice a2 n2 c2)] w) (o := { loops := [(46, [false, true, false, true], retA, reHA, .ret, retF_hit, reHF_hit)], lens := [(false, oq 0, .int .i64 (sn 0))] }) ⟨all_nil, all_nil, all_nil, all_nil, all_nil, all_nil, all_nil, all_nil, all_nil, (all_cons (re_loop_hit a2 n2 c2 X2 Y2 ptr2 ax ay bx bY w hn2 hX2 h_ax h_ay h_bx h_bY hS2 hP2 K h1 (by simpa using h2) (fun k hk => by simpa using h3 k hk)) all_nil), (all_cons (lenOK (i := 0) (r := (sn 0)) (a := a2) (c := c2) rfl (by kernel_rfl)) all_nil), all_nil, all_nil, all_nil, all_nil, all_nil, all_nil, all_nil⟩ 1000 50 46 [.agg #[sy 1, sy 2, sy 3, sy 4], oq 0, .int .i64 1] (.bool true) (args' := #[.agg #[.int .i64 ax, .int .i64 ay, .int .i64 bx, .int .i64 bY], (.slice a2 n2 c2), .int .i64 1]) (v' := .bool true) (by kernel_rfl) (by kernel_rfl) (by kernel_rfl) w (Below.refl _ _)
def ort (ax ay bx bY cx cy : Int) : Int := if (bx - ax) * (cy - ay) < (bY - ay) * (cx - ax) then -1 else if (bY - ay) * (cx - ax) < (bx - ax) * (cy - ay) then 1 else 0
end Go.Proofs.Ytapcooolainmdaa.Ev
