/- lexer: the reference's loop over a text. -/
import Derived.Test.YtmoppmpnbkemdaaDoorLs4
namespace Go.Proofs.YtmoppmpnbkemdaaDoor.Ev
open Go.RowKit
set_option linter.unusedVariables false
set_option linter.unusedSimpArgs false
set_option maxRecDepth 8000
def nqB (b : Int) : Bool := !(b == 34)
def txt0 : Tm := [[oq 0, .int .i64 0, undef, undef, .pointer (some ⟨0, 0, none⟩), .int .i64 0, .int .i64 0, .pointer (some ⟨1, 0, none⟩), syk .u8 1, undef, undef, undef, undef, undef, sy 3, .int .i64 0], [.int .i64 1, .agg #[.int .i64 0, .string ⟨#[]⟩, .int .i64 0, .int .i64 1], oq 0, .int .i64 0, syk .u8 1, .bool false, syk .u8 1, .bool false, undef, undef, undef, undef, undef, undef, undef, undef], [undef, undef, undef, undef, undef, undef, undef, undef, undef, .bool false, syk .u8 1, .bool false, .bool false, syk .u8 1, .bool false, .bool false], [undef, undef, undef, undef, undef, undef, undef, undef, undef, undef, undef, undef, undef, undef, undef, undef], [undef, undef, undef, undef, undef, undef, undef, undef, undef, undef, undef, undef, undef, undef, undef, undef], [undef, undef, undef, undef, undef, undef, undef, undef, undef, undef, undef, undef, undef, undef, undef, undef], [undef, undef, undef, undef, undef, undef, undef, undef, undef, undef, undef, undef, undef, undef, undef, undef], [undef, undef, undef, undef, .bool true, syk .u8 1, .bool true, .int .i64 0, .int .i64 1, anyV, anyV, anyV, anyV, anyV, anyV, anyV], [anyV, anyV, anyV, anyV, anyV, undef, undef, undef, undef, undef, undef, undef, undef, undef, undef, undef], [undef, undef, undef, undef, undef, undef, undef, undef, undef, undef, undef, undef, undef, undef, undef, undef], [undef, undef, undef, undef, undef, undef, undef, undef, undef, undef, undef, undef]]
def txH0 : Heap := [some ⟨[.int .i64 0, .string ⟨#[]⟩, .int .i64 0, .int .i64 0], 37⟩, some ⟨[.int .i64 0, .string ⟨#[]⟩, .int .i64 0, .int .i64 1], 37⟩]
def txtA : Tm := [[oq 0, .int .i64 0, undef, undef, .pointer (some ⟨0, 0, none⟩), .int .i64 0, .int .i64 0, .pointer (some ⟨1, 0, none⟩), syk .u8 1, undef, undef, undef, undef, undef, .int .i64 1, .int .i64 0], [.int .i64 1, .agg #[.int .i64 0, .string ⟨#[]⟩, .int .i64 0, .int .i64 1], oq 0, .int .i64 0, syk .u8 1, .bool false, syk .u8 1, .bool false, undef, undef, undef, undef, undef, undef, undef, undef], [undef, undef, undef, undef, undef, undef, undef, undef, undef, .bool false, syk .u8 1, .bool false, .bool false, syk .u8 1, .bool false, .bool false], [undef, undef, undef, undef, undef, undef, undef, undef, undef, undef, undef, undef, undef, undef, undef, undef], [undef, undef, undef, undef, undef, undef, undef, undef, undef, undef, undef, undef, undef, undef, undef, undef], [undef, undef, undef, undef, undef, undef, undef, undef, undef, undef, undef, undef, undef, undef, undef, undef], [undef, undef, undef, undef, undef, undef, undef, undef, undef, undef, undef, undef, undef, undef, undef, undef], [undef, undef, undef, undef, .bool true, syk .u8 1, .bool true, .int .i64 0, .int .i64 1, undef, undef, undef, undef, undef, undef, undef], [undef, undef, undef, undef, undef, undef, undef, undef, undef, undef, undef, undef, undef, undef, undef, undef], [undef, undef, undef, undef, undef, undef, undef, undef, undef, undef, undef, undef, undef, undef, undef, undef], [undef, undef, undef, undef, undef, undef, undef, undef, undef, undef, undef, undef]]
def txHA : Heap := [some ⟨[.int .i64 0, .string ⟨#[]⟩, .int .i64 0, .int .i64 0], 37⟩, some ⟨[.int .i64 0, .string ⟨#[]⟩, .int .i64 0, .int .i64 1], 37⟩]
def txo0 : Orc := { bin := [(.lss, 3, .int .i64 (sn 3), .int .i64 (sn 0), .bool true), (.neq, 5, .int .u8 (sn 4), .int .u8 34, .bool true), (.add, 3, .int .i64 (sn 3), .int .i64 1, .int .i64 (sn 5))], idx := [(9, oq 0, .int .i64 (sn 3), .int .u8 (sn 4))], lens := [(true, oq 0, .int .i64 (sn 0))] }
def txo1 : Orc := { bin := [(.lss, 3, .int .i64 (sn 3), .int .i64 (sn 0), .bool true), (.neq, 5, .int .u8 (sn 4), .int .u8 34, .bool false)], idx := [(9, oq 0, .int .i64 (sn 3), .int .u8 (sn 4))], lens := [(true, oq 0, .int .i64 (sn 0))] }
def txo2 : Orc := { bin := [(.lss, 3, .int .i64 (sn 3), .int .i64 (sn 0), .bool false)], lens := [(true, oq 0, .int .i64 (sn 0))] }
noncomputable def txE (s : ByteArray) (w : World) (i : Nat) : Env := env [(s.size : Int), (bt s 0), (i : Int), (1 + (i : Int)), (bt s (1 + i)), (((1 + (i : Int))) + 1)] [(.string s)] w
theorem txs0 : stepT Tryd.prog [0, 1] (evBody Tryd.prog txo0 1000 50 27 [false, false, true, false, true, true, true, true, true, false, false, true, true, true] txt0 txH0) .normal txt0 txH0 [.val 0 0, .num 1180591620717411303425 1180591620717411303425, .num 1180591620717411303429 1180591620717411303427] = true := by decide +kernel
theorem txk0 (s : ByteArray) (w : World) (i : Nat) (hib : bd 0 1000000000000000 (i : Int)) (hn : bd 0 1000000000000000 (s.size : Int)) (hat : bd 0 100000000000000 (1 + (i : Int))) (h0 : (decide ((s.size : Int) ≤ ((1 + (i : Int))))) = false) (h1 : (((bt s (1 + i))) == 34) = false) : Know (txE s w i) Tryd.prog txo0 := by
  have bq0 : bd 1 100000000000001 ((((1 + (i : Int))) + 1)) := bd_add hat (bd_lit (l := 1) (h := 1) rfl) rfl
  exact ⟨(all_cons (cmpOK (op := .lss) (ty := 3) (k := .i64) (n := (sn 3)) (m := (sn 0)) (t := true) (a := ((1 + (i : Int)))) (b := (s.size : Int)) (by kernel_rfl) (by kernel_rfl) (congrArg some ((lt_of_le h0)))) (all_cons (cmpOK (op := .neq) (ty := 5) (k := .u8) (n := (sn 4)) (m := 34) (t := true) (a := ((bt s (1 + i)))) (b := 34) (by kernel_rfl) (by kernel_rfl) (congrArg some ((ne_of h1)))) (all_cons (arOK (op := .add) (ty := 3) (k := .i64) (n := (sn 3)) (m := 1) (r := (sn 5)) (a := ((1 + (i : Int)))) (b := 1) (c := ((((1 + (i : Int))) + 1))) (d := ((1 + (i : Int))) + 1) (by kernel_rfl) (by kernel_rfl) (by kernel_rfl) rfl (wr_bd bq0 rfl)) all_nil))), all_nil, all_nil, all_nil, all_nil, all_nil, all_nil, (all_cons (sidxOK (i := 0) (j := (sn 3)) (r := (sn 4)) (k := (1 + i)) rfl (by kernel_rfl) (by kernel_rfl) (by have g := of_decide_eq_false h0; omega) (by kernel_rfl)) all_nil), all_nil, all_nil, (all_cons (slenOK (i := 0) (r := (sn 0)) rfl (by kernel_rfl)) all_nil), all_nil, all_nil, all_nil, all_nil, all_nil, all_nil⟩
theorem txk1 (s : ByteArray) (w : World) (i : Nat) (hib : bd 0 1000000000000000 (i : Int)) (hn : bd 0 1000000000000000 (s.size : Int)) (hat : bd 0 100000000000000 (1 + (i : Int))) (h0 : (decide ((s.size : Int) ≤ ((1 + (i : Int))))) = false) (h1 : (((bt s (1 + i))) == 34) = true) : Know (txE s w i) Tryd.prog txo1 := by
  exact ⟨(all_cons (cmpOK (op := .lss) (ty := 3) (k := .i64) (n := (sn 3)) (m := (sn 0)) (t := true) (a := ((1 + (i : Int)))) (b := (s.size : Int)) (by kernel_rfl) (by kernel_rfl) (congrArg some ((lt_of_le h0)))) (all_cons (cmpOK (op := .neq) (ty := 5) (k := .u8) (n := (sn 4)) (m := 34) (t := false) (a := ((bt s (1 + i)))) (b := 34) (by kernel_rfl) (by kernel_rfl) (congrArg some ((ne_of h1)))) all_nil)), all_nil, all_nil, all_nil, all_nil, all_nil, all_nil, (all_cons (sidxOK (i := 0) (j := (sn 3)) (r := (sn 4)) (k := (1 + i)) rfl (by kernel_rfl) (by kernel_rfl) (by have g := of_decide_eq_false h0; omega) (by kernel_rfl)) all_nil), all_nil, all_nil, (all_cons (slenOK (i := 0) (r := (sn 0)) rfl (by kernel_rfl)) all_nil), all_nil, all_nil, all_nil, all_nil, all_nil, all_nil⟩
theorem txk2 (s : ByteArray) (w : World) (i : Nat) (hib : bd 0 1000000000000000 (i : Int)) (hn : bd 0 1000000000000000 (s.size : Int)) (hat : bd 0 100000000000000 (1 + (i : Int))) (h0 : (decide ((s.size : Int) ≤ ((1 + (i : Int))))) = true) : Know (txE s w i) Tryd.prog txo2 := by
  exact ⟨(all_cons (cmpOK (op := .lss) (ty := 3) (k := .i64) (n := (sn 3)) (m := (sn 0)) (t := false) (a := ((1 + (i : Int)))) (b := (s.size : Int)) (by kernel_rfl) (by kernel_rfl) (congrArg some ((lt_of_le h0)))) all_nil), all_nil, all_nil, all_nil, all_nil, all_nil, all_nil, all_nil, all_nil, all_nil, (all_cons (slenOK (i := 0) (r := (sn 0)) rfl (by kernel_rfl)) all_nil), all_nil, all_nil, all_nil, all_nil, all_nil, all_nil⟩
def txtF_stop : Tm := [[oq 0, .int .i64 0, anyV, anyV, .pointer (some ⟨0, 0, none⟩), .int .i64 0, .int .i64 0, .pointer (some ⟨1, 0, none⟩), syk .u8 1, anyV, anyV, anyV, anyV, anyV, sy 2, .int .i64 0], [.int .i64 1, .agg #[.int .i64 0, .string ⟨#[]⟩, .int .i64 0, .int .i64 1], oq 0, .int .i64 0, syk .u8 1, .bool false, syk .u8 1, .bool false, anyV, anyV, anyV, anyV, anyV, anyV, anyV, anyV], [anyV, anyV, anyV, anyV, anyV, anyV, anyV, anyV, anyV, .bool false, syk .u8 1, .bool false, .bool false, syk .u8 1, .bool false, .bool false], [anyV, anyV, anyV, anyV, anyV, anyV, anyV, anyV, anyV, anyV, anyV, anyV, anyV, anyV, anyV, anyV], [anyV, anyV, anyV, anyV, anyV, anyV, anyV, anyV, anyV, anyV, anyV, anyV, anyV, anyV, anyV, anyV], [anyV, anyV, anyV, anyV, anyV, anyV, anyV, anyV, anyV, anyV, anyV, anyV, anyV, anyV, anyV, anyV], [anyV, anyV, anyV, anyV, anyV, anyV, anyV, anyV, anyV, anyV, anyV, anyV, anyV, anyV, anyV, anyV], [anyV, anyV, anyV, anyV, .bool true, syk .u8 1, .bool true, .int .i64 0, .int .i64 1, sy 2, oq 0, sy 0, .bool true, .bool true, oq 0, sy 2], [anyV, .bool false, .bool false, anyV, anyV, anyV, anyV, anyV, anyV, anyV, anyV, anyV, anyV, anyV, anyV, anyV], [anyV, anyV, anyV, anyV, anyV, anyV, anyV, anyV, anyV, anyV, anyV, anyV, anyV, anyV, anyV, anyV], [anyV, anyV, anyV, anyV, anyV, anyV, anyV, anyV, anyV, anyV, anyV, anyV]]
def txHF_stop : Heap := [some ⟨[.int .i64 0, .string ⟨#[]⟩, .int .i64 0, .int .i64 0], 37⟩, some ⟨[.int .i64 0, .string ⟨#[]⟩, .int .i64 0, .int .i64 1], 37⟩]
theorem txf1_stop : stepT Tryd.prog [0, 1] (evBody Tryd.prog txo1 1000 50 27 [false, false, true, false, true, true, true, true, true, false, false, true, true, true] txt0 txH0) (.exit 1) txtF_stop txHF_stop [.val 0 0, .num 1180591620717411303425 1180591620717411303425, .num 1180591620717411303427 1180591620717411303426, .num 1180591620717411303424 1180591620717411303424] = true := by decide +kernel
theorem tx_loop_stop (s : ByteArray) (w : World) (hs : s.size ≤ 1000000000000) (hpos : 1 ≤ s.size) (K : Nat) (hK : 1 + K < s.size) (hq0 : nqB (bt s (1 + K)) = false) (hall : ∀ i, i < K → nqB (bt s (1 + i)) = true) : LoopE (env [(s.size : Int), (bt s 0), (1 + (K : Int))] [(.string s)] w) Tryd.prog (27, [false, false, true, false, true, true, true, true, true, false, false, true, true, true], txtA, txHA, .exit 1, txtF_stop, txHF_stop) := by
  refine loop_rule (σ := { st : Nat // st ≤ K }) (fun st => txE s w st.1) (fun _ => rfl) (fun st => K - st.1) (fun _ => txt0) (fun _ => txH0) rfl (fun _ => by decide) (by decide) ?_ ⟨0, Nat.zero_le _⟩ [.val 0 0, .num 1180591620717411303425 1180591620717411303425, .num 1 1180591620717411303427] [0, 1] (by decide +kernel) (by decide) ?_
  · rintro ⟨i, hi⟩
    rcases Nat.lt_or_ge i (K) with h | h
    · have hib : bd 0 1000000000000000 (i : Int) := ⟨by omega, by omega⟩; have hn : bd 0 1000000000000000 (s.size : Int) := ⟨by omega, by omega⟩; have hat : bd 0 100000000000000 (1 + (i : Int)) := ⟨by omega, by omega⟩; have hq := hall i h; clear hall; have hlt : 1 + i < s.size := (by omega)
      rcases h0 : (decide ((s.size : Int) ≤ ((1 + (i : Int))))) with _ | _
      · rcases h1 : (((bt s (1 + i))) == 34) with _ | _
        · refine .inl ⟨txo0, 1000, 50, _, [0, 1], ⟨i + 1, h⟩, (txk0 s w i hib hn hat h0 h1).ok, txs0, by decide, ?_, by show K - (i + 1) < K - i; omega⟩
          intro q hq
          simp only [List.mem_cons, List.not_mem_nil, or_false] at hq
          rcases hq with rfl | rfl | rfl
          · show (_ : Value) = _; kernel_rfl
          · show (_ : Int) = _; kernel_rfl
          · show ((((1 + (i : Int))) + 1) : Int) = (1 + (((i + 1 : Nat)) : Int)); first | rfl | (omega)
        · exfalso; (first | (have g := of_decide_eq_true h0; omega) | (have g := of_decide_eq_false h0; omega) | (simp_all [nqB]; done))
      · exfalso; (first | (have g := of_decide_eq_true h0; omega) | (have g := of_decide_eq_false h0; omega) | (simp_all [nqB]; done))
    · have hE : K = i := by omega
      subst hE
      have hib : bd 0 1000000000000000 (K : Int) := ⟨by omega, by omega⟩; have hn : bd 0 1000000000000000 (s.size : Int) := ⟨by omega, by omega⟩; have hat : bd 0 100000000000000 (1 + (K : Int)) := ⟨by omega, by omega⟩; have hq := hq0; clear hall hq0; have hlt : 1 + K < s.size := hK
      rcases h0 : (decide ((s.size : Int) ≤ ((1 + (K : Int))))) with _ | _
      · rcases h1 : (((bt s (1 + K))) == 34) with _ | _
        · exfalso; (first | (have g := of_decide_eq_true h0; omega) | (have g := of_decide_eq_false h0; omega) | (simp_all [nqB]; done))
        · refine .inr ⟨txo1, 1000, 50, _, [0, 1], (txk1 s w (K) hib hn hat h0 h1).ok, txf1_stop, by decide, ?_⟩
          intro q hq
          simp only [List.mem_cons, List.not_mem_nil, or_false] at hq
          rcases hq with rfl | rfl | rfl | rfl
          · show (_ : Value) = _; kernel_rfl
          · show (_ : Int) = _; kernel_rfl
          · show (_ : Int) = _; kernel_rfl
          · show (_ : Int) = _; kernel_rfl
      · exfalso; (first | (have g := of_decide_eq_true h0; omega) | (have g := of_decide_eq_false h0; omega) | (simp_all [nqB]; done))
  · skip
    intro q hq
    simp only [List.mem_cons, List.not_mem_nil, or_false] at hq
    rcases hq with rfl | rfl | rfl
    · show (_ : Value) = _; kernel_rfl
    · show (_ : Int) = _; kernel_rfl
    · show (1 : Int) = (1 + (0 : Int)); first | rfl | (omega)
def txtF_done : Tm := [[oq 0, .int .i64 0, anyV, anyV, .pointer (some ⟨0, 0, none⟩), .int .i64 0, .int .i64 0, .pointer (some ⟨1, 0, none⟩), syk .u8 1, anyV, anyV, anyV, anyV, anyV, sy 0, .int .i64 0], [.int .i64 1, .agg #[.int .i64 0, .string ⟨#[]⟩, .int .i64 0, .int .i64 1], oq 0, .int .i64 0, syk .u8 1, .bool false, syk .u8 1, .bool false, anyV, anyV, anyV, anyV, anyV, anyV, anyV, anyV], [anyV, anyV, anyV, anyV, anyV, anyV, anyV, anyV, anyV, .bool false, syk .u8 1, .bool false, .bool false, syk .u8 1, .bool false, .bool false], [anyV, anyV, anyV, anyV, anyV, anyV, anyV, anyV, anyV, anyV, anyV, anyV, anyV, anyV, anyV, anyV], [anyV, anyV, anyV, anyV, anyV, anyV, anyV, anyV, anyV, anyV, anyV, anyV, anyV, anyV, anyV, anyV], [anyV, anyV, anyV, anyV, anyV, anyV, anyV, anyV, anyV, anyV, anyV, anyV, anyV, anyV, anyV, anyV], [anyV, anyV, anyV, anyV, anyV, anyV, anyV, anyV, anyV, anyV, anyV, anyV, anyV, anyV, anyV, anyV], [anyV, anyV, anyV, anyV, .bool true, syk .u8 1, .bool true, .int .i64 0, .int .i64 1, sy 0, oq 0, sy 0, .bool false, .bool false, anyV, anyV], [anyV, anyV, .bool false, anyV, anyV, anyV, anyV, anyV, anyV, anyV, anyV, anyV, anyV, anyV, anyV, anyV], [anyV, anyV, anyV, anyV, anyV, anyV, anyV, anyV, anyV, anyV, anyV, anyV, anyV, anyV, anyV, anyV], [anyV, anyV, anyV, anyV, anyV, anyV, anyV, anyV, anyV, anyV, anyV, anyV]]
def txHF_done : Heap := [some ⟨[.int .i64 0, .string ⟨#[]⟩, .int .i64 0, .int .i64 0], 37⟩, some ⟨[.int .i64 0, .string ⟨#[]⟩, .int .i64 0, .int .i64 1], 37⟩]
theorem txf2_done : stepT Tryd.prog [0, 1] (evBody Tryd.prog txo2 1000 50 27 [false, false, true, false, true, true, true, true, true, false, false, true, true, true] txt0 txH0) (.exit 1) txtF_done txHF_done [.val 0 0, .num 1180591620717411303425 1180591620717411303425, .num 1180591620717411303427 1180591620717411303424, .num 1180591620717411303424 1180591620717411303424] = true := by decide +kernel
theorem tx_loop_done (s : ByteArray) (w : World) (hs : s.size ≤ 1000000000000) (hpos : 1 ≤ s.size) (K : Nat) (hK : 1 + K = s.size) (hall : ∀ i, i < K → nqB (bt s (1 + i)) = true) : LoopE (env [(s.size : Int), (bt s 0)] [(.string s)] w) Tryd.prog (27, [false, false, true, false, true, true, true, true, true, false, false, true, true, true], txtA, txHA, .exit 1, txtF_done, txHF_done) := by
  refine loop_rule (σ := { st : Nat // st ≤ K }) (fun st => txE s w st.1) (fun _ => rfl) (fun st => K - st.1) (fun _ => txt0) (fun _ => txH0) rfl (fun _ => by decide) (by decide) ?_ ⟨0, Nat.zero_le _⟩ [.val 0 0, .num 1180591620717411303425 1180591620717411303425, .num 1 1180591620717411303427] [0, 1] (by decide +kernel) (by decide) ?_
  · rintro ⟨i, hi⟩
    rcases Nat.lt_or_ge i (K) with h | h
    · have hib : bd 0 1000000000000000 (i : Int) := ⟨by omega, by omega⟩; have hn : bd 0 1000000000000000 (s.size : Int) := ⟨by omega, by omega⟩; have hat : bd 0 100000000000000 (1 + (i : Int)) := ⟨by omega, by omega⟩; have hq := hall i h; clear hall; have hlt : 1 + i < s.size := (by omega)
      rcases h0 : (decide ((s.size : Int) ≤ ((1 + (i : Int))))) with _ | _
      · rcases h1 : (((bt s (1 + i))) == 34) with _ | _
        · refine .inl ⟨txo0, 1000, 50, _, [0, 1], ⟨i + 1, h⟩, (txk0 s w i hib hn hat h0 h1).ok, txs0, by decide, ?_, by show K - (i + 1) < K - i; omega⟩
          intro q hq
          simp only [List.mem_cons, List.not_mem_nil, or_false] at hq
          rcases hq with rfl | rfl | rfl
          · show (_ : Value) = _; kernel_rfl
          · show (_ : Int) = _; kernel_rfl
          · show ((((1 + (i : Int))) + 1) : Int) = (1 + (((i + 1 : Nat)) : Int)); first | rfl | (omega)
        · exfalso; (first | (have g := of_decide_eq_true h0; omega) | (have g := of_decide_eq_false h0; omega) | (simp_all [nqB]; done))
      · exfalso; (first | (have g := of_decide_eq_true h0; omega) | (have g := of_decide_eq_false h0; omega) | (simp_all [nqB]; done))
    · have hE : K = i := by omega
      subst hE
      have hib : bd 0 1000000000000000 (K : Int) := ⟨by omega, by omega⟩; have hn : bd 0 1000000000000000 (s.size : Int) := ⟨by omega, by omega⟩; have hat : bd 0 100000000000000 (1 + (K : Int)) := ⟨by omega, by omega⟩; clear hall
      rcases h0 : (decide ((s.size : Int) ≤ ((1 + (K : Int))))) with _ | _
      · rcases h1 : (((bt s (1 + K))) == 34) with _ | _
        · exfalso; (first | (have g := of_decide_eq_true h0; omega) | (have g := of_decide_eq_false h0; omega) | (simp_all [nqB]; done))
        · exfalso; (first | (have g := of_decide_eq_true h0; omega) | (have g := of_decide_eq_false h0; omega) | (simp_all [nqB]; done))
      · refine .inr ⟨txo2, 1000, 50, _, [0, 1], (txk2 s w (K) hib hn hat h0).ok, txf2_done, by decide, ?_⟩
        intro q hq
        simp only [List.mem_cons, List.not_mem_nil, or_false] at hq
        rcases hq with rfl | rfl | rfl | rfl
        · show (_ : Value) = _; kernel_rfl
        · show (_ : Int) = _; kernel_rfl
        · show ((1 + (K : Int)) : Int) = (s.size : Int); first | rfl | (omega)
        · show (_ : Int) = _; kernel_rfl
  · skip
    intro q hq
    simp only [List.mem_cons, List.not_mem_nil, or_false] at hq
    rcases hq with rfl | rfl | rfl
    · show (_ : Value) = _; kernel_rfl
    · show (_ : Int) = _; kernel_rfl
    · show (1 : Int) = (1 + (0 : Int)); first | rfl | (omega)
end Go.Proofs.YtmoppmpnbkemdaaDoor.Ev
