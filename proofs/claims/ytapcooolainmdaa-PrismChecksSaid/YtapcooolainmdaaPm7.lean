/- prism: separated, the reference. -/
import Derived.Test.YtapcooolainmdaaPm6
namespace Go.Proofs.Ytapcooolainmdaa.Ev
open Go.RowKit
set_option linter.unusedVariables false
set_option linter.unusedSimpArgs false
set_option maxRecDepth 8000
def sdt0 : Tm := [[oq 0, oq 1, undef, undef, .bool false, sy 1, anyV, anyV, anyV, anyV, anyV, anyV, anyV, anyV, anyV, anyV], []]
def sdH0 : Heap := []
def sdtA : Tm := [[oq 0, oq 1, undef, undef, .bool false, .int .i64 0, undef, undef, undef, undef, undef, undef, undef, undef, undef, undef], []]
def sdHA : Heap := []
def sdo0 : Orc := { bin := [(.lss, 3, .int .i64 (sn 1), .int .i64 (sn 0), .bool true)], calls := [(49, [oq 0, sy 1, oq 1], .bool true)], lens := [(false, oq 0, .int .i64 (sn 0))] }
def sdo1 : Orc := { bin := [(.lss, 3, .int .i64 (sn 1), .int .i64 (sn 0), .bool true), (.add, 3, .int .i64 (sn 1), .int .i64 1, .int .i64 (sn 2))], calls := [(49, [oq 0, sy 1, oq 1], .bool false)], lens := [(false, oq 0, .int .i64 (sn 0))] }
def sdo2 : Orc := { bin := [(.lss, 3, .int .i64 (sn 1), .int .i64 (sn 0), .bool false)], lens := [(false, oq 0, .int .i64 (sn 0))] }
noncomputable def sdE (a : Option Addr) (n c : Nat) (X Y : Nat → Int) (ptr : Nat → Addr) (a2 : Option Addr) (n2 c2 : Nat) (X2 Y2 : Nat → Int) (ptr2 : Nat → Addr) (w : World) (i : Nat) : Env := env [(n : Int), (i : Int), ((i : Int) + 1)] [(.slice a n c), (.slice a2 n2 c2)] w
theorem sds1 : stepT Try.prog [] (evBody Try.prog sdo1 1000 50 48 [false, true, false, true] sdt0 sdH0) .normal sdt0 sdH0 [.val 0 0, .val 1 1, .num 1180591620717411303426 1180591620717411303425] = true := by decide +kernel
theorem sdk0 (a : Option Addr) (n c : Nat) (X Y : Nat → Int) (ptr : Nat → Addr) (a2 : Option Addr) (n2 c2 : Nat) (X2 Y2 : Nat → Int) (ptr2 : Nat → Addr) (w : World) (i : Nat) (hib : bd 0 1000000000000000 (i : Int)) (hn : bd 0 1000000000000 (n : Int)) (hn0 : n ≤ 1000000000000) (hX : ∀ k, k < n → bd (-1000000) 1000000 (X k) ∧ bd (-1000000) 1000000 (Y k)) (hS : Sl Try.prog w (.slice a n c) n 22 60 (fun k => .agg #[.int .i64 (X k), .int .i64 (Y k)]) ptr) (hP : Sl Try.prog w (.slice a n c) n 23 60 (fun k => .agg #[.int .i64 (X k), .int .i64 (Y k)]) ptr) (hn2 : n2 ≤ 1000000000000) (hX2 : ∀ k, k < n2 → bd (-1000000) 1000000 (X2 k) ∧ bd (-1000000) 1000000 (Y2 k)) (hS2 : Sl Try.prog w (.slice a2 n2 c2) n2 22 60 (fun k => .agg #[.int .i64 (X2 k), .int .i64 (Y2 k)]) ptr2) (hP2 : Sl Try.prog w (.slice a2 n2 c2) n2 23 60 (fun k => .agg #[.int .i64 (X2 k), .int .i64 (Y2 k)]) ptr2)  (h0 : (decide ((n : Int) ≤ (i : Int))) = false) (h1 : (reA n X Y n2 X2 Y2 i) = false) : Know (sdE a n c X Y ptr a2 n2 c2 X2 Y2 ptr2 w i) Try.prog sdo0 := by
  exact ⟨(all_cons (cmpOK (op := .lss) (ty := 3) (k := .i64) (n := (sn 1)) (m := (sn 0)) (t := true) (a := (i : Int)) (b := (n : Int)) (by kernel_rfl) (by kernel_rfl) (congrArg some ((lt_of_le h0)))) all_nil), all_nil, all_nil, all_nil, (all_cons (callOKb (f := 49) (args := [oq 0, sy 1, oq 1]) (v := .bool true) (args' := #[(.slice a n c), .int .i64 (i : Int), (.slice a2 n2 c2)]) (v' := .bool true) (by kernel_rfl) (by kernel_rfl) (by kernel_rfl) (fun w1 hw1 => by have q := beyond_any a n c X Y ptr a2 n2 c2 X2 Y2 ptr2 i w1 (by have g := of_decide_eq_false h0; omega) hn0 hX (hS.mono hw1) (hP.mono hw1) hn2 hX2 (hS2.mono hw1) (hP2.mono hw1); rw [h1] at q; exact q)) all_nil), all_nil, all_nil, all_nil, all_nil, all_nil, (all_cons (lenOK (i := 0) (r := (sn 0)) (a := a) (c := c) rfl (by kernel_rfl)) all_nil), all_nil, all_nil, all_nil, all_nil, all_nil, all_nil⟩
theorem sdk1 (a : Option Addr) (n c : Nat) (X Y : Nat → Int) (ptr : Nat → Addr) (a2 : Option Addr) (n2 c2 : Nat) (X2 Y2 : Nat → Int) (ptr2 : Nat → Addr) (w : World) (i : Nat) (hib : bd 0 1000000000000000 (i : Int)) (hn : bd 0 1000000000000 (n : Int)) (hn0 : n ≤ 1000000000000) (hX : ∀ k, k < n → bd (-1000000) 1000000 (X k) ∧ bd (-1000000) 1000000 (Y k)) (hS : Sl Try.prog w (.slice a n c) n 22 60 (fun k => .agg #[.int .i64 (X k), .int .i64 (Y k)]) ptr) (hP : Sl Try.prog w (.slice a n c) n 23 60 (fun k => .agg #[.int .i64 (X k), .int .i64 (Y k)]) ptr) (hn2 : n2 ≤ 1000000000000) (hX2 : ∀ k, k < n2 → bd (-1000000) 1000000 (X2 k) ∧ bd (-1000000) 1000000 (Y2 k)) (hS2 : Sl Try.prog w (.slice a2 n2 c2) n2 22 60 (fun k => .agg #[.int .i64 (X2 k), .int .i64 (Y2 k)]) ptr2) (hP2 : Sl Try.prog w (.slice a2 n2 c2) n2 23 60 (fun k => .agg #[.int .i64 (X2 k), .int .i64 (Y2 k)]) ptr2)  (h0 : (decide ((n : Int) ≤ (i : Int))) = false) (h1 : (reA n X Y n2 X2 Y2 i) = true) : Know (sdE a n c X Y ptr a2 n2 c2 X2 Y2 ptr2 w i) Try.prog sdo1 := by
  have bq0 : bd 1 1000000000000001 (((i : Int) + 1)) := bd_add hib (bd_lit (l := 1) (h := 1) rfl) rfl
  exact ⟨(all_cons (cmpOK (op := .lss) (ty := 3) (k := .i64) (n := (sn 1)) (m := (sn 0)) (t := true) (a := (i : Int)) (b := (n : Int)) (by kernel_rfl) (by kernel_rfl) (congrArg some ((lt_of_le h0)))) (all_cons (arOK (op := .add) (ty := 3) (k := .i64) (n := (sn 1)) (m := 1) (r := (sn 2)) (a := (i : Int)) (b := 1) (c := (((i : Int) + 1))) (d := (i : Int) + 1) (by kernel_rfl) (by kernel_rfl) (by kernel_rfl) rfl (wr_bd bq0 rfl)) all_nil)), all_nil, all_nil, all_nil, (all_cons (callOKb (f := 49) (args := [oq 0, sy 1, oq 1]) (v := .bool false) (args' := #[(.slice a n c), .int .i64 (i : Int), (.slice a2 n2 c2)]) (v' := .bool false) (by kernel_rfl) (by kernel_rfl) (by kernel_rfl) (fun w1 hw1 => by have q := beyond_any a n c X Y ptr a2 n2 c2 X2 Y2 ptr2 i w1 (by have g := of_decide_eq_false h0; omega) hn0 hX (hS.mono hw1) (hP.mono hw1) hn2 hX2 (hS2.mono hw1) (hP2.mono hw1); rw [h1] at q; exact q)) all_nil), all_nil, all_nil, all_nil, all_nil, all_nil, (all_cons (lenOK (i := 0) (r := (sn 0)) (a := a) (c := c) rfl (by kernel_rfl)) all_nil), all_nil, all_nil, all_nil, all_nil, all_nil, all_nil⟩
theorem sdk2 (a : Option Addr) (n c : Nat) (X Y : Nat → Int) (ptr : Nat → Addr) (a2 : Option Addr) (n2 c2 : Nat) (X2 Y2 : Nat → Int) (ptr2 : Nat → Addr) (w : World) (i : Nat) (hib : bd 0 1000000000000000 (i : Int)) (hn : bd 0 1000000000000 (n : Int)) (hn0 : n ≤ 1000000000000) (hX : ∀ k, k < n → bd (-1000000) 1000000 (X k) ∧ bd (-1000000) 1000000 (Y k)) (hS : Sl Try.prog w (.slice a n c) n 22 60 (fun k => .agg #[.int .i64 (X k), .int .i64 (Y k)]) ptr) (hP : Sl Try.prog w (.slice a n c) n 23 60 (fun k => .agg #[.int .i64 (X k), .int .i64 (Y k)]) ptr) (hn2 : n2 ≤ 1000000000000) (hX2 : ∀ k, k < n2 → bd (-1000000) 1000000 (X2 k) ∧ bd (-1000000) 1000000 (Y2 k)) (hS2 : Sl Try.prog w (.slice a2 n2 c2) n2 22 60 (fun k => .agg #[.int .i64 (X2 k), .int .i64 (Y2 k)]) ptr2) (hP2 : Sl Try.prog w (.slice a2 n2 c2) n2 23 60 (fun k => .agg #[.int .i64 (X2 k), .int .i64 (Y2 k)]) ptr2)  (h0 : (decide ((n : Int) ≤ (i : Int))) = true) : Know (sdE a n c X Y ptr a2 n2 c2 X2 Y2 ptr2 w i) Try.prog sdo2 := by
  exact ⟨(all_cons (cmpOK (op := .lss) (ty := 3) (k := .i64) (n := (sn 1)) (m := (sn 0)) (t := false) (a := (i : Int)) (b := (n : Int)) (by kernel_rfl) (by kernel_rfl) (congrArg some ((lt_of_le h0)))) all_nil), all_nil, all_nil, all_nil, all_nil, all_nil, all_nil, all_nil, all_nil, all_nil, (all_cons (lenOK (i := 0) (r := (sn 0)) (a := a) (c := c) rfl (by kernel_rfl)) all_nil), all_nil, all_nil, all_nil, all_nil, all_nil, all_nil⟩
def sdtF_sep : Tm := [[oq 0, oq 1, anyV, anyV, .bool true, anyV, anyV, oq 0, sy 0, .bool true, anyV, anyV, oq 0, anyV, oq 1, .bool true], []]
def sdHF_sep : Heap := []
theorem sdf0_sep : stepT Try.prog [] (evBody Try.prog sdo0 1000 50 48 [false, true, false, true] sdt0 sdH0) (.ret) sdtF_sep sdHF_sep [.val 0 0, .val 1 1, .num 1180591620717411303424 1180591620717411303424] = true := by decide +kernel
theorem sd_loop_sep (a : Option Addr) (n c : Nat) (X Y : Nat → Int) (ptr : Nat → Addr) (a2 : Option Addr) (n2 c2 : Nat) (X2 Y2 : Nat → Int) (ptr2 : Nat → Addr) (w : World) (hn0 : n ≤ 1000000000000) (hX : ∀ k, k < n → bd (-1000000) 1000000 (X k) ∧ bd (-1000000) 1000000 (Y k)) (hS : Sl Try.prog w (.slice a n c) n 22 60 (fun k => .agg #[.int .i64 (X k), .int .i64 (Y k)]) ptr) (hP : Sl Try.prog w (.slice a n c) n 23 60 (fun k => .agg #[.int .i64 (X k), .int .i64 (Y k)]) ptr) (hn2 : n2 ≤ 1000000000000) (hX2 : ∀ k, k < n2 → bd (-1000000) 1000000 (X2 k) ∧ bd (-1000000) 1000000 (Y2 k)) (hS2 : Sl Try.prog w (.slice a2 n2 c2) n2 22 60 (fun k => .agg #[.int .i64 (X2 k), .int .i64 (Y2 k)]) ptr2) (hP2 : Sl Try.prog w (.slice a2 n2 c2) n2 23 60 (fun k => .agg #[.int .i64 (X2 k), .int .i64 (Y2 k)]) ptr2) (K : Nat) (hK : K < n) (hq0 : (reA n X Y n2 X2 Y2) K = false) (hall : ∀ i, i < K → (reA n X Y n2 X2 Y2) i = true) : LoopE (env [(n : Int)] [(.slice a n c), (.slice a2 n2 c2)] w) Try.prog (48, [false, true, false, true], sdtA, sdHA, .ret, sdtF_sep, sdHF_sep) := by
  refine loop_rule (σ := { st : Nat // st ≤ K }) (fun st => sdE a n c X Y ptr a2 n2 c2 X2 Y2 ptr2 w st.1) (fun _ => rfl) (fun st => K - st.1) (fun _ => sdt0) (fun _ => sdH0) rfl (fun _ => by decide) (by decide) ?_ ⟨0, Nat.zero_le _⟩ [.val 0 0, .val 1 1, .num 0 1180591620717411303425] [] (by decide +kernel) (by decide) ?_
  · rintro ⟨i, hle_⟩
    rcases Nat.lt_or_ge i (K) with h | h
    · have hib : bd 0 1000000000000000 (i : Int) := ⟨by omega, by omega⟩; have hn : bd 0 1000000000000 (n : Int) := ⟨by omega, by omega⟩; have hq := hall i h; clear hall
      rcases h0 : (decide ((n : Int) ≤ (i : Int))) with _ | _
      · rcases h1 : (reA n X Y n2 X2 Y2 i) with _ | _
        · exfalso; (first | (have g := of_decide_eq_true h0; omega) | (have g := of_decide_eq_false h0; omega) | (exact absurd (hq.symm.trans h1) (by decide)))
        · refine .inl ⟨sdo1, 1000, 50, _, [], ⟨i + 1, h⟩, (sdk1 a n c X Y ptr a2 n2 c2 X2 Y2 ptr2 w i hib hn hn0 hX hS hP hn2 hX2 hS2 hP2 h0 h1).ok, sds1, by decide, ?_, by show K - (i + 1) < K - i; omega⟩
          intro q hq
          simp only [List.mem_cons, List.not_mem_nil, or_false] at hq
          rcases hq with rfl | rfl | rfl
          · show (_ : Value) = _; kernel_rfl
          · show (_ : Value) = _; kernel_rfl
          · show (((i : Int) + 1) : Int) = (((i + 1 : Nat)) : Int); first | rfl | (omega)
      · exfalso; (first | (have g := of_decide_eq_true h0; omega) | (have g := of_decide_eq_false h0; omega) | (exact absurd (hq.symm.trans h1) (by decide)))
    · have hE : K = i := by omega
      subst hE
      have hib : bd 0 1000000000000000 (K : Int) := ⟨by omega, by omega⟩; have hn : bd 0 1000000000000 (n : Int) := ⟨by omega, by omega⟩; have hq := hq0; clear hall hq0
      rcases h0 : (decide ((n : Int) ≤ (K : Int))) with _ | _
      · rcases h1 : (reA n X Y n2 X2 Y2 K) with _ | _
        · refine .inr ⟨sdo0, 1000, 50, _, [], (sdk0 a n c X Y ptr a2 n2 c2 X2 Y2 ptr2 w (K) hib hn hn0 hX hS hP hn2 hX2 hS2 hP2 h0 h1).ok, sdf0_sep, by decide, ?_⟩
          intro q hq
          simp only [List.mem_cons, List.not_mem_nil, or_false] at hq
          rcases hq with rfl | rfl | rfl
          · show (_ : Value) = _; kernel_rfl
          · show (_ : Value) = _; kernel_rfl
          · show (_ : Int) = _; kernel_rfl
        · exfalso; (first | (have g := of_decide_eq_true h0; omega) | (have g := of_decide_eq_false h0; omega) | (exact absurd (hq.symm.trans h1) (by decide)))
      · exfalso; (first | (have g := of_decide_eq_true h0; omega) | (have g := of_decide_eq_false h0; omega) | (exact absurd (hq.symm.trans h1) (by decide)))
  · skip
    intro q hq
    simp only [List.mem_cons, List.not_mem_nil, or_false] at hq
    rcases hq with rfl | rfl | rfl
    · show (_ : Value) = _; kernel_rfl
    · show (_ : Value) = _; kernel_rfl
    · show (0 : Int) = (0 : Int); first | rfl | (omega)
def sdtF_done : Tm := [[oq 0, oq 1, anyV, anyV, .bool false, anyV, anyV, oq 0, sy 0, .bool false, anyV, anyV, anyV, anyV, anyV, anyV], []]
def sdHF_done : Heap := []
theorem sdf2_done : stepT Try.prog [] (evBody Try.prog sdo2 1000 50 48 [false, true, false, true] sdt0 sdH0) (.exit 0) sdtF_done sdHF_done [.val 0 0, .val 1 1, .num 1180591620717411303424 1180591620717411303424] = true := by decide +kernel
theorem sd_loop_done (a : Option Addr) (n c : Nat) (X Y : Nat → Int) (ptr : Nat → Addr) (a2 : Option Addr) (n2 c2 : Nat) (X2 Y2 : Nat → Int) (ptr2 : Nat → Addr) (w : World) (hn0 : n ≤ 1000000000000) (hX : ∀ k, k < n → bd (-1000000) 1000000 (X k) ∧ bd (-1000000) 1000000 (Y k)) (hS : Sl Try.prog w (.slice a n c) n 22 60 (fun k => .agg #[.int .i64 (X k), .int .i64 (Y k)]) ptr) (hP : Sl Try.prog w (.slice a n c) n 23 60 (fun k => .agg #[.int .i64 (X k), .int .i64 (Y k)]) ptr) (hn2 : n2 ≤ 1000000000000) (hX2 : ∀ k, k < n2 → bd (-1000000) 1000000 (X2 k) ∧ bd (-1000000) 1000000 (Y2 k)) (hS2 : Sl Try.prog w (.slice a2 n2 c2) n2 22 60 (fun k => .agg #[.int .i64 (X2 k), .int .i64 (Y2 k)]) ptr2) (hP2 : Sl Try.prog w (.slice a2 n2 c2) n2 23 60 (fun k => .agg #[.int .i64 (X2 k), .int .i64 (Y2 k)]) ptr2) (hall : ∀ i, i < n → (reA n X Y n2 X2 Y2) i = true) : LoopE (env [(n : Int)] [(.slice a n c), (.slice a2 n2 c2)] w) Try.prog (48, [false, true, false, true], sdtA, sdHA, .exit 0, sdtF_done, sdHF_done) := by
  refine loop_rule (σ := { st : Nat // st ≤ n }) (fun st => sdE a n c X Y ptr a2 n2 c2 X2 Y2 ptr2 w st.1) (fun _ => rfl) (fun st => n - st.1) (fun _ => sdt0) (fun _ => sdH0) rfl (fun _ => by decide) (by decide) ?_ ⟨0, Nat.zero_le _⟩ [.val 0 0, .val 1 1, .num 0 1180591620717411303425] [] (by decide +kernel) (by decide) ?_
  · rintro ⟨i, hle_⟩
    rcases Nat.lt_or_ge i (n) with h | h
    · have hib : bd 0 1000000000000000 (i : Int) := ⟨by omega, by omega⟩; have hn : bd 0 1000000000000 (n : Int) := ⟨by omega, by omega⟩; have hq := hall i h; clear hall
      rcases h0 : (decide ((n : Int) ≤ (i : Int))) with _ | _
      · rcases h1 : (reA n X Y n2 X2 Y2 i) with _ | _
        · exfalso; (first | (have g := of_decide_eq_true h0; omega) | (have g := of_decide_eq_false h0; omega) | (exact absurd (hq.symm.trans h1) (by decide)))
        · refine .inl ⟨sdo1, 1000, 50, _, [], ⟨i + 1, h⟩, (sdk1 a n c X Y ptr a2 n2 c2 X2 Y2 ptr2 w i hib hn hn0 hX hS hP hn2 hX2 hS2 hP2 h0 h1).ok, sds1, by decide, ?_, by show n - (i + 1) < n - i; omega⟩
          intro q hq
          simp only [List.mem_cons, List.not_mem_nil, or_false] at hq
          rcases hq with rfl | rfl | rfl
          · show (_ : Value) = _; kernel_rfl
          · show (_ : Value) = _; kernel_rfl
          · show (((i : Int) + 1) : Int) = (((i + 1 : Nat)) : Int); first | rfl | (omega)
      · exfalso; (first | (have g := of_decide_eq_true h0; omega) | (have g := of_decide_eq_false h0; omega) | (exact absurd (hq.symm.trans h1) (by decide)))
    · have hE : n = i := by omega
      subst hE
      have hib : bd 0 1000000000000000 (n : Int) := ⟨by omega, by omega⟩; have hn : bd 0 1000000000000 (n : Int) := ⟨by omega, by omega⟩
      rcases h0 : (decide ((n : Int) ≤ (n : Int))) with _ | _
      · rcases h1 : (reA n X Y n2 X2 Y2 n) with _ | _
        · exfalso; (have g := of_decide_eq_false h0; omega)
        · exfalso; (have g := of_decide_eq_false h0; omega)
      · refine .inr ⟨sdo2, 1000, 50, _, [], (sdk2 a n c X Y ptr a2 n2 c2 X2 Y2 ptr2 w (n) hib hn hn0 hX hS hP hn2 hX2 hS2 hP2 h0).ok, sdf2_done, by decide, ?_⟩
        intro q hq
        simp only [List.mem_cons, List.not_mem_nil, or_false] at hq
        rcases hq with rfl | rfl | rfl
        · show (_ : Value) = _; kernel_rfl
        · show (_ : Value) = _; kernel_rfl
        · show (_ : Int) = _; kernel_rfl
  · skip
    intro q hq
    simp only [List.mem_cons, List.not_mem_nil, or_false] at hq
    rcases hq with rfl | rfl | rfl
    · show (_ : Value) = _; kernel_rfl
    · show (_ : Value) = _; kernel_rfl
    · show (0 : Int) = (0 : Int); first | rfl | (omega)
theorem separated_any (a : Option Addr) (n c : Nat) (X Y : Nat → Int) (ptr : Nat → Addr) (a2 : Option Addr) (n2 c2 : Nat) (X2 Y2 : Nat → Int) (ptr2 : Nat → Addr) (w : World) (hn0 : n ≤ 1000000000000) (hX : ∀ k, k < n → bd (-1000000) 1000000 (X k) ∧ bd (-1000000) 1000000 (Y k)) (hS : Sl Try.prog w (.slice a n c) n 22 60 (fun k => .agg #[.int .i64 (X k), .int .i64 (Y k)]) ptr) (hP : Sl Try.prog w (.slice a n c) n 23 60 (fun k => .agg #[.int .i64 (X k), .int .i64 (Y k)]) ptr) (hn2 : n2 ≤ 1000000000000) (hX2 : ∀ k, k < n2 → bd (-1000000) 1000000 (X2 k) ∧ bd (-1000000) 1000000 (Y2 k)) (hS2 : Sl Try.prog w (.slice a2 n2 c2) n2 22 60 (fun k => .agg #[.int .i64 (X2 k), .int .i64 (Y2 k)]) ptr2) (hP2 : Sl Try.prog w (.slice a2 n2 c2) n2 23 60 (fun k => .agg #[.int .i64 (X2 k), .int .i64 (Y2 k)]) ptr2) : Calls Try.prog 48 #[(.slice a n c), (.slice a2 n2 c2)] w fun e w' => e = .returned (.bool (!(allN (reA n X Y n2 X2 Y2) n))) ∧ Below w.heap.size w w' := by
  have hn : bd 0 1000000000000 (n : Int) := ⟨by omega, by omega⟩
  rcases least_fail (reA n X Y n2 X2 Y2) n with h | ⟨K, h1, h2, h3⟩
  · rw [allN_all h]
    exact run_know (P := Try.prog) (ρ := env [(n : Int)] [(.slice a n c), (.slice a2 n2 c2)] w) (o := { loops := [(48, [false, true, false, true], sdtA, sdHA, .exit 0, sdtF_done, sdHF_done)], lens := [(false, oq 0, .int .i64 (sn 0))] }) ⟨all_nil, all_nil, all_nil, all_nil, all_nil, all_nil, all_nil, all_nil, all_nil, (all_cons (sd_loop_done a n c X Y ptr a2 n2 c2 X2 Y2 ptr2 w hn0 hX hS hP hn2 hX2 hS2 hP2 h) all_nil), (all_cons (lenOK (i := 0) (r := (sn 0)) (a := a) (c := c) rfl (by kernel_rfl)) all_nil), all_nil, all_nil, all_nil, all_nil, all_nil, all_nil⟩ 1000 50 48 [oq 0, oq 1] (.bool false) (args' := #[(.slice a n c), (.slice a2 n2 c2)]) (v' := .bool false) (by kernel_rfl) (by kernel_rfl) (by kernel_rfl) w (Below.refl _ _)
  · rw [allN_bad h1 h2]
    exact run_know (P := Try.prog) (ρ := env [(n : Int)] [(.slice a n c), (.slice a2 n2 c2)] w) (o := { loops := [(48, [false, true, false, true], sdtA, sdHA, .ret, sdtF_sep, sdHF_sep)], lens := [(false, oq 0, .int .i64 (sn 0))] }) ⟨all_nil, all_nil, all_nil, all_nil, all_nil, all_nil, all_nil, all_nil, all_nil, (all_cons (sd_loop_sep a n c X Y ptr a2 n2 c2 X2 Y2 ptr2 w hn0 hX hS hP hn2 hX2 hS2 hP2 K h1 h2 h3) all_nil), (all_cons (lenOK (i := 0) (r := (sn 0)) (a := a) (c := c) rfl (by kernel_rfl)) all_nil), all_nil, all_nil, all_nil, all_nil, all_nil, all_nil⟩ 1000 50 48 [oq 0, oq 1] (.bool true) (args' := #[(.slice a n c), (.slice a2 n2 c2)]) (v' := .bool true) (by kernel_rfl) (by kernel_rfl) (by kernel_rfl) w (Below.refl _ _)
end Go.Proofs.Ytapcooolainmdaa.Ev
