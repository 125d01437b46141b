/- polygon: the reference's Check: equal neighbours. -/
import Derived.Test.YtehgnkgcimdgjaaPo4
import Derived.Test.YtehgnkgcimdgjaaEvQ
namespace Go.Proofs.Ytehgnkgcimdgjaa.Ev
open Go.RowKit
set_option linter.unusedVariables false
set_option linter.unusedSimpArgs false
set_option maxRecDepth 8000
def rdt0 : Tm := [[oq 0, anyV, .int .i64 0, anyV, sy 1, oq 0, sy 0, .bool false, oq 0, sy 0, .bool false, anyV, oq 0, sy 0, .bool false, anyV], [anyV, anyV, anyV, anyV, anyV, anyV, anyV, anyV, anyV, anyV, anyV, anyV, anyV, anyV, anyV, anyV], [anyV, anyV, anyV, anyV, anyV, anyV, anyV, anyV]]
def rdH0 : Heap := []
def rdtA : Tm := [[oq 0, anyV, .int .i64 0, anyV, .int .i64 0, oq 0, sy 0, .bool false, oq 0, sy 0, .bool false, anyV, oq 0, sy 0, .bool false, anyV], [anyV, anyV, anyV, anyV, anyV, anyV, anyV, anyV, anyV, anyV, anyV, anyV, anyV, anyV, anyV, anyV], [anyV, anyV, anyV, anyV, anyV, anyV, anyV, anyV]]
def rdHA : Heap := []
def rdo0 : Orc := { bin := [(.lss, 3, .int .i64 (sn 1), .int .i64 (sn 0), .bool true), (.eql, 31, .agg #[sy 2, sy 3], .agg #[sy 5, sy 6], .bool false), (.add, 3, .int .i64 (sn 1), .int .i64 1, .int .i64 (sn 7))], calls := [(37, [oq 0, sy 1], sy 4)], lds := [(31, oq 1, .agg #[sy 2, sy 3]), (31, oq 2, .agg #[sy 5, sy 6])], ixa := [(23, oq 0, .int .i64 (sn 1), oq 1), (23, oq 0, .int .i64 (sn 4), oq 2)], lens := [(false, oq 0, .int .i64 (sn 0))] }
def rdo1 : Orc := { bin := [(.lss, 3, .int .i64 (sn 1), .int .i64 (sn 0), .bool true), (.eql, 31, .agg #[sy 2, sy 3], .agg #[sy 5, sy 6], .bool true)], calls := [(37, [oq 0, sy 1], sy 4)], lds := [(31, oq 1, .agg #[sy 2, sy 3]), (31, oq 2, .agg #[sy 5, sy 6])], ixa := [(23, oq 0, .int .i64 (sn 1), oq 1), (23, oq 0, .int .i64 (sn 4), oq 2)], lens := [(false, oq 0, .int .i64 (sn 0))] }
def rdo2 : Orc := { bin := [(.lss, 3, .int .i64 (sn 1), .int .i64 (sn 0), .bool false)], lens := [(false, oq 0, .int .i64 (sn 0))] }
noncomputable def rdE (a : Option Addr) (n c : Nat) (X Y : Nat → Int) (ptr : Nat → Addr) (w : World) (i : Nat) : Env := env [(n : Int), (i : Int), (X i), (Y i), ((nx n i : Nat) : Int), (X (nx n i)), (Y (nx n i)), ((i : Int) + 1)] [(.slice a n c), (.pointer (some (ptr i))), (.pointer (some (ptr (nx n i))))] w
theorem rds0 : stepT Try.prog [] (evBody Try.prog rdo0 1000 50 13 [false, true, false, true, true, true, true] rdt0 rdH0) .normal rdt0 rdH0 [.val 0 0, .num 1180591620717411303431 1180591620717411303425, .num 1180591620717411303424 1180591620717411303424] = true := by decide +kernel
theorem rdk0 (a : Option Addr) (n c : Nat) (X Y : Nat → Int) (ptr : Nat → Addr) (w : World) (i : Nat) (hib : bd 0 1000000000000000 (i : Int)) (hn : bd 0 1000000000000 (n : Int)) (hn0 : n ≤ 1000000000000) (hS : Sl Try.prog w (.slice a n c) n 22 31 (fun k => .agg #[.int .i64 (X k), .int .i64 (Y k)]) ptr) (hP : Sl Try.prog w (.slice a n c) n 23 31 (fun k => .agg #[.int .i64 (X k), .int .i64 (Y k)]) ptr) (h0 : (decide ((n : Int) ≤ (i : Int))) = false) (h1 : (dupP n X Y i) = false) : Know (rdE a n c X Y ptr w i) Try.prog rdo0 := by
  have bq0 : bd 1 1000000000000001 (((i : Int) + 1)) := bd_add hib (bd_lit (l := 1) (h := 1) rfl) rfl
  exact ⟨(all_cons (cmpOK (op := .lss) (ty := 3) (k := .i64) (n := (sn 1)) (m := (sn 0)) (t := true) (a := (i : Int)) (b := (n : Int)) (by kernel_rfl) (by kernel_rfl) (congrArg some ((lt_of_le h0)))) (all_cons (structOK (op := .eql) (ty := 31) (x := .agg #[sy 2, sy 3]) (y := .agg #[sy 5, sy 6]) (x' := .agg #[.int .i64 (X i), .int .i64 (Y i)]) (y' := .agg #[.int .i64 ((X (nx n i))), .int .i64 ((Y (nx n i)))]) (t := false) (by kernel_rfl) (by kernel_rfl) (by kernel_rfl) (by kernel_rfl) (fun p q w => pnt_guard .eql p q _ _ w) (fun w => by have q := pnt_eql (X i) (Y i) ((X (nx n i))) ((Y (nx n i))) w; rw [show (((X i) == ((X (nx n i)))) && ((Y i) == ((Y (nx n i))))) = false from (show ((X i == X (nx n i)) && (Y i == Y (nx n i))) = _ from h1)] at q; exact q)) (all_cons (arOK (op := .add) (ty := 3) (k := .i64) (n := (sn 1)) (m := 1) (r := (sn 7)) (a := (i : Int)) (b := 1) (c := (((i : Int) + 1))) (d := (i : Int) + 1) (by kernel_rfl) (by kernel_rfl) (by kernel_rfl) rfl (wr_bd bq0 rfl)) all_nil))), all_nil, all_nil, all_nil, (all_cons (callOK (f := 37) (args := [oq 0, sy 1]) (v := sy 4) (args' := #[(.slice a n c), .int .i64 (i : Int)]) (v' := .int .i64 (((nx n i : Nat) : Int))) (by kernel_rfl) (by kernel_rfl) (by kernel_rfl) (fun w1 => rnext_any a n c w1 hn0 i (by have g := of_decide_eq_false h0; omega))) all_nil), (all_cons (sldOK (j := 1) (k := i) (x := .agg #[sy 2, sy 3]) hP rfl (by have g := of_decide_eq_false h0; omega) (by kernel_rfl) (by show inst _ _ = _; kernel_rfl)) (all_cons (sldOK (j := 2) (k := (nx n i)) (x := .agg #[sy 5, sy 6]) hP rfl (nx_lt (by have g := of_decide_eq_false h0; omega)) (by kernel_rfl) (by show inst _ _ = _; kernel_rfl)) all_nil)), (all_cons (sixOK (i := 0) (j := 1) (k := i) (r := (sn 1)) hP rfl (by kernel_rfl) rfl (by have g := of_decide_eq_false h0; omega)) (all_cons (sixOK (i := 0) (j := 2) (k := (nx n i)) (r := (sn 4)) hP rfl (by kernel_rfl) rfl (nx_lt (by have g := of_decide_eq_false h0; omega))) all_nil)), all_nil, all_nil, all_nil, (all_cons (lenOK (i := 0) (r := (sn 0)) (a := a) (c := c) rfl (by kernel_rfl)) all_nil), all_nil, all_nil, all_nil, all_nil, all_nil, all_nil⟩
theorem rdk1 (a : Option Addr) (n c : Nat) (X Y : Nat → Int) (ptr : Nat → Addr) (w : World) (i : Nat) (hib : bd 0 1000000000000000 (i : Int)) (hn : bd 0 1000000000000 (n : Int)) (hn0 : n ≤ 1000000000000) (hS : Sl Try.prog w (.slice a n c) n 22 31 (fun k => .agg #[.int .i64 (X k), .int .i64 (Y k)]) ptr) (hP : Sl Try.prog w (.slice a n c) n 23 31 (fun k => .agg #[.int .i64 (X k), .int .i64 (Y k)]) ptr) (h0 : (decide ((n : Int) ≤ (i : Int))) = false) (h1 : (dupP n X Y i) = true) : Know (rdE a n c X Y ptr w i) Try.prog rdo1 := by
  exact ⟨(all_cons (cmpOK (op := .lss) (ty := 3) (k := .i64) (n := (sn 1)) (m := (sn 0)) (t := true) (a := (i : Int)) (b := (n : Int)) (by kernel_rfl) (by kernel_rfl) (congrArg some ((lt_of_le h0)))) (all_cons (structOK (op := .eql) (ty := 31) (x := .agg #[sy 2, sy 3]) (y := .agg #[sy 5, sy 6]) (x' := .agg #[.int .i64 (X i), .int .i64 (Y i)]) (y' := .agg #[.int .i64 ((X (nx n i))), .int .i64 ((Y (nx n i)))]) (t := true) (by kernel_rfl) (by kernel_rfl) (by kernel_rfl) (by kernel_rfl) (fun p q w => pnt_guard .eql p q _ _ w) (fun w => by have q := pnt_eql (X i) (Y i) ((X (nx n i))) ((Y (nx n i))) w; rw [show (((X i) == ((X (nx n i)))) && ((Y i) == ((Y (nx n i))))) = true from (show ((X i == X (nx n i)) && (Y i == Y (nx n i))) = _ from h1)] at q; exact q)) all_nil)), all_nil, all_nil, all_nil, (all_cons (callOK (f := 37) (args := [oq 0, sy 1]) (v := sy 4) (args' := #[(.slice a n c), .int .i64 (i : Int)]) (v' := .int .i64 (((nx n i : Nat) : Int))) (by kernel_rfl) (by kernel_rfl) (by kernel_rfl) (fun w1 => rnext_any a n c w1 hn0 i (by have g := of_decide_eq_false h0; omega))) all_nil), (all_cons (sldOK (j := 1) (k := i) (x := .agg #[sy 2, sy 3]) hP rfl (by have g := of_decide_eq_false h0; omega) (by kernel_rfl) (by show inst _ _ = _; kernel_rfl)) (all_cons (sldOK (j := 2) (k := (nx n i)) (x := .agg #[sy 5, sy 6]) hP rfl (nx_lt (by have g := of_decide_eq_false h0; omega)) (by kernel_rfl) (by show inst _ _ = _; kernel_rfl)) all_nil)), (all_cons (sixOK (i := 0) (j := 1) (k := i) (r := (sn 1)) hP rfl (by kernel_rfl) rfl (by have g := of_decide_eq_false h0; omega)) (all_cons (sixOK (i := 0) (j := 2) (k := (nx n i)) (r := (sn 4)) hP rfl (by kernel_rfl) rfl (nx_lt (by have g := of_decide_eq_false h0; omega))) all_nil)), all_nil, all_nil, all_nil, (all_cons (lenOK (i := 0) (r := (sn 0)) (a := a) (c := c) rfl (by kernel_rfl)) all_nil), all_nil, all_nil, all_nil, all_nil, all_nil, all_nil⟩
theorem rdk2 (a : Option Addr) (n c : Nat) (X Y : Nat → Int) (ptr : Nat → Addr) (w : World) (i : Nat) (hib : bd 0 1000000000000000 (i : Int)) (hn : bd 0 1000000000000 (n : Int)) (hn0 : n ≤ 1000000000000) (hS : Sl Try.prog w (.slice a n c) n 22 31 (fun k => .agg #[.int .i64 (X k), .int .i64 (Y k)]) ptr) (hP : Sl Try.prog w (.slice a n c) n 23 31 (fun k => .agg #[.int .i64 (X k), .int .i64 (Y k)]) ptr) (h0 : (decide ((n : Int) ≤ (i : Int))) = true) : Know (rdE a n c X Y ptr w i) Try.prog rdo2 := by
  exact ⟨(all_cons (cmpOK (op := .lss) (ty := 3) (k := .i64) (n := (sn 1)) (m := (sn 0)) (t := false) (a := (i : Int)) (b := (n : Int)) (by kernel_rfl) (by kernel_rfl) (congrArg some ((lt_of_le h0)))) all_nil), all_nil, all_nil, all_nil, all_nil, all_nil, all_nil, all_nil, all_nil, all_nil, (all_cons (lenOK (i := 0) (r := (sn 0)) (a := a) (c := c) rfl (by kernel_rfl)) all_nil), all_nil, all_nil, all_nil, all_nil, all_nil, all_nil⟩
def rdtF_bad : Tm := [[oq 0, anyV, .int .i64 5, anyV, anyV, oq 0, sy 0, .bool false, oq 0, sy 0, .bool false, anyV, oq 0, sy 0, .bool false, anyV], [anyV, anyV, anyV, anyV, anyV, anyV, anyV, anyV, oq 0, sy 0, .bool true, anyV, anyV, oq 0, anyV, anyV], [anyV, oq 0, oq 0, anyV, anyV, anyV, anyV, .bool true]]
def rdHF_bad : Heap := []
theorem rdf1_bad : stepT Try.prog [] (evBody Try.prog rdo1 1000 50 13 [false, true, false, true, true, true, true] rdt0 rdH0) (.ret) rdtF_bad rdHF_bad [.val 0 0, .num 1180591620717411303424 1180591620717411303424] = true := by decide +kernel
theorem rd_loop_bad (a : Option Addr) (n c : Nat) (X Y : Nat → Int) (ptr : Nat → Addr) (w : World) (hn0 : n ≤ 1000000000000) (hS : Sl Try.prog w (.slice a n c) n 22 31 (fun k => .agg #[.int .i64 (X k), .int .i64 (Y k)]) ptr) (hP : Sl Try.prog w (.slice a n c) n 23 31 (fun k => .agg #[.int .i64 (X k), .int .i64 (Y k)]) ptr) (K : Nat) (hK : K < n) (hq0 : dupP n X Y K = true) (hall : ∀ i, i < K → dupP n X Y i = false) : LoopE (env [(n : Int)] [(.slice a n c)] w) Try.prog (13, [false, true, false, true, true, true, true], rdtA, rdHA, .ret, rdtF_bad, rdHF_bad) := by
  refine loop_rule (σ := { st : Nat // st ≤ K }) (fun st => rdE a n c X Y ptr w st.1) (fun _ => rfl) (fun st => K - st.1) (fun _ => rdt0) (fun _ => rdH0) rfl (fun _ => by decide) (by decide) ?_ ⟨0, Nat.zero_le _⟩ [.val 0 0, .num 0 1180591620717411303425, .num 1180591620717411303424 1180591620717411303424] [] (by decide +kernel) (by decide) ?_
  · rintro ⟨i, hi⟩
    rcases Nat.lt_or_ge i (K) with h | h
    · have hib : bd 0 1000000000000000 (i : Int) := ⟨by omega, by omega⟩; have hn : bd 0 1000000000000 (n : Int) := ⟨by omega, by omega⟩; have hq := hall i h; clear hall
      rcases h0 : (decide ((n : Int) ≤ (i : Int))) with _ | _
      · rcases h1 : (dupP n X Y i) with _ | _
        · refine .inl ⟨rdo0, 1000, 50, _, [], ⟨i + 1, h⟩, (rdk0 a n c X Y ptr w i hib hn hn0 hS hP h0 h1).ok, rds0, by decide, ?_, by show K - (i + 1) < K - i; omega⟩
          intro q hq
          simp only [List.mem_cons, List.not_mem_nil, or_false] at hq
          rcases hq with rfl | rfl | rfl
          · show (_ : Value) = _; kernel_rfl
          · show (((i : Int) + 1) : Int) = (((i + 1 : Nat)) : Int); first | rfl | (omega)
          · show (_ : Int) = _; kernel_rfl
        · exfalso; (first | (have g := of_decide_eq_true h0; omega) | (rw [hq] at h1; cases h1))
      · exfalso; (first | (have g := of_decide_eq_true h0; omega) | (rw [hq] at h1; cases h1))
    · have hE : K = i := by omega
      subst hE
      have hib : bd 0 1000000000000000 (K : Int) := ⟨by omega, by omega⟩; have hn : bd 0 1000000000000 (n : Int) := ⟨by omega, by omega⟩; have hq := hq0; clear hall hq0
      rcases h0 : (decide ((n : Int) ≤ (K : Int))) with _ | _
      · rcases h1 : (dupP n X Y K) with _ | _
        · exfalso; (first | (have g := of_decide_eq_true h0; omega) | (rw [hq] at h1; cases h1))
        · refine .inr ⟨rdo1, 1000, 50, _, [], (rdk1 a n c X Y ptr w (K) hib hn hn0 hS hP h0 h1).ok, rdf1_bad, by decide, ?_⟩
          intro q hq
          simp only [List.mem_cons, List.not_mem_nil, or_false] at hq
          rcases hq with rfl | rfl
          · show (_ : Value) = _; kernel_rfl
          · show (_ : Int) = _; kernel_rfl
      · exfalso; (first | (have g := of_decide_eq_true h0; omega) | (rw [hq] at h1; cases h1))
  · skip
    intro q hq
    simp only [List.mem_cons, List.not_mem_nil, or_false] at hq
    rcases hq with rfl | rfl | rfl
    · show (_ : Value) = _; kernel_rfl
    · show (0 : Int) = (0 : Int); first | rfl | (omega)
    · show (_ : Int) = _; kernel_rfl
def rdtF_done : Tm := [[oq 0, anyV, .int .i64 0, anyV, anyV, oq 0, sy 0, .bool false, oq 0, sy 0, .bool false, anyV, oq 0, sy 0, .bool false, anyV], [anyV, anyV, anyV, anyV, anyV, anyV, anyV, anyV, oq 0, sy 0, .bool false, anyV, anyV, anyV, anyV, anyV], [anyV, anyV, anyV, anyV, anyV, anyV, anyV, anyV]]
def rdHF_done : Heap := []
theorem rdf2_done : stepT Try.prog [] (evBody Try.prog rdo2 1000 50 13 [false, true, false, true, true, true, true] rdt0 rdH0) (.exit 2) rdtF_done rdHF_done [.val 0 0, .num 1180591620717411303424 1180591620717411303424] = true := by decide +kernel
theorem rd_loop_done (a : Option Addr) (n c : Nat) (X Y : Nat → Int) (ptr : Nat → Addr) (w : World) (hn0 : n ≤ 1000000000000) (hS : Sl Try.prog w (.slice a n c) n 22 31 (fun k => .agg #[.int .i64 (X k), .int .i64 (Y k)]) ptr) (hP : Sl Try.prog w (.slice a n c) n 23 31 (fun k => .agg #[.int .i64 (X k), .int .i64 (Y k)]) ptr) (hall : ∀ i, i < n → dupP n X Y i = false) : LoopE (env [(n : Int)] [(.slice a n c)] w) Try.prog (13, [false, true, false, true, true, true, true], rdtA, rdHA, .exit 2, rdtF_done, rdHF_done) := by
  refine loop_rule (σ := { st : Nat // st ≤ n }) (fun st => rdE a n c X Y ptr w st.1) (fun _ => rfl) (fun st => n - st.1) (fun _ => rdt0) (fun _ => rdH0) rfl (fun _ => by decide) (by decide) ?_ ⟨0, Nat.zero_le _⟩ [.val 0 0, .num 0 1180591620717411303425, .num 1180591620717411303424 1180591620717411303424] [] (by decide +kernel) (by decide) ?_
  · rintro ⟨i, hi⟩
    rcases Nat.lt_or_ge i (n) with h | h
    · have hib : bd 0 1000000000000000 (i : Int) := ⟨by omega, by omega⟩; have hn : bd 0 1000000000000 (n : Int) := ⟨by omega, by omega⟩; have hq := hall i h; clear hall
      rcases h0 : (decide ((n : Int) ≤ (i : Int))) with _ | _
      · rcases h1 : (dupP n X Y i) with _ | _
        · refine .inl ⟨rdo0, 1000, 50, _, [], ⟨i + 1, h⟩, (rdk0 a n c X Y ptr w i hib hn hn0 hS hP h0 h1).ok, rds0, by decide, ?_, by show n - (i + 1) < n - i; omega⟩
          intro q hq
          simp only [List.mem_cons, List.not_mem_nil, or_false] at hq
          rcases hq with rfl | rfl | rfl
          · show (_ : Value) = _; kernel_rfl
          · show (((i : Int) + 1) : Int) = (((i + 1 : Nat)) : Int); first | rfl | (omega)
          · show (_ : Int) = _; kernel_rfl
        · exfalso; (first | (have g := of_decide_eq_true h0; omega) | (rw [hq] at h1; cases h1))
      · exfalso; (first | (have g := of_decide_eq_true h0; omega) | (rw [hq] at h1; cases h1))
    · have hE : n = i := by omega
      subst hE
      have hib : bd 0 1000000000000000 (n : Int) := ⟨by omega, by omega⟩; have hn : bd 0 1000000000000 (n : Int) := ⟨by omega, by omega⟩
      rcases h0 : (decide ((n : Int) ≤ (n : Int))) with _ | _
      · rcases h1 : (dupP n X Y n) with _ | _
        · exfalso; (have g := of_decide_eq_false h0; omega)
        · exfalso; (have g := of_decide_eq_false h0; omega)
      · refine .inr ⟨rdo2, 1000, 50, _, [], (rdk2 a n c X Y ptr w (n) hib hn hn0 hS hP h0).ok, rdf2_done, by decide, ?_⟩
        intro q hq
        simp only [List.mem_cons, List.not_mem_nil, or_false] at hq
        rcases hq with rfl | rfl
        · show (_ : Value) = _; kernel_rfl
        · show (_ : Int) = _; kernel_rfl
  · skip
    intro q hq
    simp only [List.mem_cons, List.not_mem_nil, or_false] at hq
    rcases hq with rfl | rfl | rfl
    · show (_ : Value) = _; kernel_rfl
    · show (0 : Int) = (0 : Int); first | rfl | (omega)
    · show (_ : Int) = _; kernel_rfl
end Go.Proofs.Ytehgnkgcimdgjaa.Ev
