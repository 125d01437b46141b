/- lexer: the reference: runs, signs. -/
import Derived.Test.YtmoppmpnbkemdaaDoorLs1
namespace Go.Proofs.YtmoppmpnbkemdaaDoor.Ev
open Go.RowKit
set_option linter.unusedVariables false
set_option linter.unusedSimpArgs false
set_option maxRecDepth 8000

noncomputable def runA (q : Int → Bool) (s : ByteArray) (a : Nat) : Nat := ((List.range s.size).find? fun i => decide (a ≤ i) && !q (bt s i)).getD s.size
theorem runA_fail {q : Int → Bool} {s : ByteArray} {a k : Nat} (ha : a ≤ k) (hk : k < s.size) (h1 : q (bt s k) = false) (h2 : ∀ i, a ≤ i → i < k → q (bt s i) = true) : runA q s a = k := by
  unfold runA
  rw [find_first s.size k hk (by simp [h1, ha]) (fun i hi => by
    by_cases g : a ≤ i
    · simp [h2 i g hi]
    · simp [g])]; rfl
theorem runA_all {q : Int → Bool} {s : ByteArray} {a : Nat} (h : ∀ i, a ≤ i → i < s.size → q (bt s i) = true) : runA q s a = s.size := by
  unfold runA
  have : (List.range s.size).find? (fun i => decide (a ≤ i) && !q (bt s i)) = none := by
    rw [List.find?_eq_none]; intro x hx
    by_cases g : a ≤ x
    · simp [h x g (List.mem_range.1 hx)]
    · simp [g]
  rw [this]; rfl
theorem runA_cases (q : Int → Bool) (s : ByteArray) (a : Nat) (ha : a ≤ s.size) :
    (runA q s a = s.size ∧ ∀ i, a ≤ i → i < s.size → q (bt s i) = true) ∨ ∃ j, a + j < s.size ∧ runA q s a = a + j ∧ q (bt s (a + j)) = false ∧ ∀ i, i < j → q (bt s (a + i)) = true := by
  rcases least_fail (fun i => q (bt s (a + i))) (s.size - a) with h | ⟨j, h1, h2, h3⟩
  · have h' : ∀ i, a ≤ i → i < s.size → q (bt s i) = true := fun i g1 g2 => by
      have := h (i - a) (by omega)
      rwa [show a + (i - a) = i by omega] at this
    exact .inl ⟨runA_all h', h'⟩
  · refine .inr ⟨j, by omega, runA_fail (by omega) (by omega) h2 (fun i g1 g2 => ?_), h2, h3⟩
    have := h3 (i - a) (by omega)
    rwa [show a + (i - a) = i by omega] at this
theorem runA_le {q : Int → Bool} {s : ByteArray} {a : Nat} (ha : a ≤ s.size) : a ≤ runA q s a ∧ runA q s a ≤ s.size := by
  rcases runA_cases q s a ha with ⟨e, _⟩ | ⟨j, h1, e, _⟩ <;> rw [e] <;> omega
def rrWordt0 : Tm := [[oq 0, sy 3, .bool true, undef, undef, undef, .int .i64 0, anyV, anyV, anyV, anyV, anyV, anyV, anyV, anyV, anyV], [anyV, anyV, anyV, anyV, anyV, anyV, anyV, anyV, anyV, anyV, anyV, anyV, undef], []]
def rrWordH0 : Heap := []
def rrWordtA : Tm := [[oq 0, sy 1, .bool true, undef, undef, undef, .int .i64 0, undef, undef, undef, undef, undef, undef, undef, undef, undef], [undef, undef, undef, undef, undef, undef, undef, undef, undef, undef, undef, undef, undef], []]
def rrWordHA : Heap := []
def rrWordo0 : Orc := { bin := [(.lss, 3, .int .i64 (sn 3), .int .i64 (sn 0), .bool true)], calls := [(46, [syk .u8 4], .bool false), (31, [syk .u8 4], .bool false)], idx := [(9, oq 0, .int .i64 (sn 3), .int .u8 (sn 4))], lens := [(true, oq 0, .int .i64 (sn 0))] }
def rrWordo1 : Orc := { bin := [(.lss, 3, .int .i64 (sn 3), .int .i64 (sn 0), .bool true), (.add, 3, .int .i64 (sn 3), .int .i64 1, .int .i64 (sn 5))], calls := [(46, [syk .u8 4], .bool false), (31, [syk .u8 4], .bool true)], idx := [(9, oq 0, .int .i64 (sn 3), .int .u8 (sn 4))], lens := [(true, oq 0, .int .i64 (sn 0))] }
def rrWordo2 : Orc := { bin := [(.lss, 3, .int .i64 (sn 3), .int .i64 (sn 0), .bool true), (.add, 3, .int .i64 (sn 3), .int .i64 1, .int .i64 (sn 5))], calls := [(46, [syk .u8 4], .bool true)], idx := [(9, oq 0, .int .i64 (sn 3), .int .u8 (sn 4))], lens := [(true, oq 0, .int .i64 (sn 0))] }
def rrWordo3 : Orc := { bin := [(.lss, 3, .int .i64 (sn 3), .int .i64 (sn 0), .bool false)], lens := [(true, oq 0, .int .i64 (sn 0))] }
noncomputable def rrWordE (s : ByteArray) (w : World) (a : Nat) (i : Nat) : Env := env [(s.size : Int), (a : Int), (i : Int), ((a : Int) + (i : Int)), (bt s (a + i)), ((((a : Int) + (i : Int))) + 1)] [(.string s)] w
theorem rrWords1 : stepT Tryd.prog [] (evBody Tryd.prog rrWordo1 1000 50 45 [false, false, true] rrWordt0 rrWordH0) .normal rrWordt0 rrWordH0 [.val 0 0, .num 1180591620717411303429 1180591620717411303427] = true := by decide +kernel
theorem rrWords2 : stepT Tryd.prog [] (evBody Tryd.prog rrWordo2 1000 50 45 [false, false, true] rrWordt0 rrWordH0) .normal rrWordt0 rrWordH0 [.val 0 0, .num 1180591620717411303429 1180591620717411303427] = true := by decide +kernel
theorem rrWordk0 (s : ByteArray) (w : World) (a : Nat) (i : Nat) (hib : bd 0 1000000000000000 (i : Int)) (hn : bd 0 1000000000000000 (s.size : Int)) (ha : bd 0 10000000000000 (a : Int)) (hai : a + i ≤ 10000000000000) (hat : bd 0 100000000000000 ((a : Int) + (i : Int))) (h0 : (decide ((s.size : Int) ≤ (((a : Int) + (i : Int))))) = false) (h1 : (digitB (bt s (a + i))) = false) (h2 : (wordB (bt s (a + i))) = false) : Know (rrWordE s w a i) Tryd.prog rrWordo0 := by
  exact ⟨(all_cons (cmpOK (op := .lss) (ty := 3) (k := .i64) (n := (sn 3)) (m := (sn 0)) (t := true) (a := (((a : Int) + (i : Int)))) (b := (s.size : Int)) (by kernel_rfl) (by kernel_rfl) (congrArg some ((lt_of_le h0)))) all_nil), all_nil, all_nil, all_nil, (all_cons (callOK (f := 46) (args := [syk .u8 4]) (v := .bool false) (args' := #[.int .u8 ((bt s (a + i)))]) (v' := .bool false) (by kernel_rfl) (by kernel_rfl) (by kernel_rfl) (fun w => by have := rdigit_any (bt s (a + i)) w (bt_bd s (a + i)); rw [h1] at this; exact this)) (all_cons (callOK (f := 31) (args := [syk .u8 4]) (v := .bool false) (args' := #[.int .u8 ((bt s (a + i)))]) (v' := .bool false) (by kernel_rfl) (by kernel_rfl) (by kernel_rfl) (fun w => by have := part_any (bt s (a + i)) w (bt_bd s (a + i)); rw [h2] at this; exact this)) all_nil)), all_nil, all_nil, (all_cons (sidxOK (i := 0) (j := (sn 3)) (r := (sn 4)) (k := (a + i)) rfl (by kernel_rfl) (by kernel_rfl) (by have g := of_decide_eq_false h0; omega) (by kernel_rfl)) all_nil), all_nil, all_nil, (all_cons (slenOK (i := 0) (r := (sn 0)) rfl (by kernel_rfl)) all_nil), all_nil, all_nil, all_nil, all_nil, all_nil, all_nil⟩
theorem rrWordk1 (s : ByteArray) (w : World) (a : Nat) (i : Nat) (hib : bd 0 1000000000000000 (i : Int)) (hn : bd 0 1000000000000000 (s.size : Int)) (ha : bd 0 10000000000000 (a : Int)) (hai : a + i ≤ 10000000000000) (hat : bd 0 100000000000000 ((a : Int) + (i : Int))) (h0 : (decide ((s.size : Int) ≤ (((a : Int) + (i : Int))))) = false) (h1 : (digitB (bt s (a + i))) = false) (h2 : (wordB (bt s (a + i))) = true) : Know (rrWordE s w a i) Tryd.prog rrWordo1 := by
  have bq0 : bd 1 100000000000001 (((((a : Int) + (i : Int))) + 1)) := bd_add hat (bd_lit (l := 1) (h := 1) rfl) rfl
  exact ⟨(all_cons (cmpOK (op := .lss) (ty := 3) (k := .i64) (n := (sn 3)) (m := (sn 0)) (t := true) (a := (((a : Int) + (i : Int)))) (b := (s.size : Int)) (by kernel_rfl) (by kernel_rfl) (congrArg some ((lt_of_le h0)))) (all_cons (arOK (op := .add) (ty := 3) (k := .i64) (n := (sn 3)) (m := 1) (r := (sn 5)) (a := (((a : Int) + (i : Int)))) (b := 1) (c := (((((a : Int) + (i : Int))) + 1))) (d := (((a : Int) + (i : Int))) + 1) (by kernel_rfl) (by kernel_rfl) (by kernel_rfl) rfl (wr_bd bq0 rfl)) all_nil)), all_nil, all_nil, all_nil, (all_cons (callOK (f := 46) (args := [syk .u8 4]) (v := .bool false) (args' := #[.int .u8 ((bt s (a + i)))]) (v' := .bool false) (by kernel_rfl) (by kernel_rfl) (by kernel_rfl) (fun w => by have := rdigit_any (bt s (a + i)) w (bt_bd s (a + i)); rw [h1] at this; exact this)) (all_cons (callOK (f := 31) (args := [syk .u8 4]) (v := .bool true) (args' := #[.int .u8 ((bt s (a + i)))]) (v' := .bool true) (by kernel_rfl) (by kernel_rfl) (by kernel_rfl) (fun w => by have := part_any (bt s (a + i)) w (bt_bd s (a + i)); rw [h2] at this; exact this)) all_nil)), all_nil, all_nil, (all_cons (sidxOK (i := 0) (j := (sn 3)) (r := (sn 4)) (k := (a + i)) rfl (by kernel_rfl) (by kernel_rfl) (by have g := of_decide_eq_false h0; omega) (by kernel_rfl)) all_nil), all_nil, all_nil, (all_cons (slenOK (i := 0) (r := (sn 0)) rfl (by kernel_rfl)) all_nil), all_nil, all_nil, all_nil, all_nil, all_nil, all_nil⟩
theorem rrWordk2 (s : ByteArray) (w : World) (a : Nat) (i : Nat) (hib : bd 0 1000000000000000 (i : Int)) (hn : bd 0 1000000000000000 (s.size : Int)) (ha : bd 0 10000000000000 (a : Int)) (hai : a + i ≤ 10000000000000) (hat : bd 0 100000000000000 ((a : Int) + (i : Int))) (h0 : (decide ((s.size : Int) ≤ (((a : Int) + (i : Int))))) = false) (h1 : (digitB (bt s (a + i))) = true) : Know (rrWordE s w a i) Tryd.prog rrWordo2 := by
  have bq0 : bd 1 100000000000001 (((((a : Int) + (i : Int))) + 1)) := bd_add hat (bd_lit (l := 1) (h := 1) rfl) rfl
  exact ⟨(all_cons (cmpOK (op := .lss) (ty := 3) (k := .i64) (n := (sn 3)) (m := (sn 0)) (t := true) (a := (((a : Int) + (i : Int)))) (b := (s.size : Int)) (by kernel_rfl) (by kernel_rfl) (congrArg some ((lt_of_le h0)))) (all_cons (arOK (op := .add) (ty := 3) (k := .i64) (n := (sn 3)) (m := 1) (r := (sn 5)) (a := (((a : Int) + (i : Int)))) (b := 1) (c := (((((a : Int) + (i : Int))) + 1))) (d := (((a : Int) + (i : Int))) + 1) (by kernel_rfl) (by kernel_rfl) (by kernel_rfl) rfl (wr_bd bq0 rfl)) all_nil)), all_nil, all_nil, all_nil, (all_cons (callOK (f := 46) (args := [syk .u8 4]) (v := .bool true) (args' := #[.int .u8 ((bt s (a + i)))]) (v' := .bool true) (by kernel_rfl) (by kernel_rfl) (by kernel_rfl) (fun w => by have := rdigit_any (bt s (a + i)) w (bt_bd s (a + i)); rw [h1] at this; exact this)) all_nil), all_nil, all_nil, (all_cons (sidxOK (i := 0) (j := (sn 3)) (r := (sn 4)) (k := (a + i)) rfl (by kernel_rfl) (by kernel_rfl) (by have g := of_decide_eq_false h0; omega) (by kernel_rfl)) all_nil), all_nil, all_nil, (all_cons (slenOK (i := 0) (r := (sn 0)) rfl (by kernel_rfl)) all_nil), all_nil, all_nil, all_nil, all_nil, all_nil, all_nil⟩
theorem rrWordk3 (s : ByteArray) (w : World) (a : Nat) (i : Nat) (hib : bd 0 1000000000000000 (i : Int)) (hn : bd 0 1000000000000000 (s.size : Int)) (ha : bd 0 10000000000000 (a : Int)) (hai : a + i ≤ 10000000000000) (hat : bd 0 100000000000000 ((a : Int) + (i : Int))) (h0 : (decide ((s.size : Int) ≤ (((a : Int) + (i : Int))))) = true) : Know (rrWordE s w a i) Tryd.prog rrWordo3 := by
  exact ⟨(all_cons (cmpOK (op := .lss) (ty := 3) (k := .i64) (n := (sn 3)) (m := (sn 0)) (t := false) (a := (((a : Int) + (i : Int)))) (b := (s.size : Int)) (by kernel_rfl) (by kernel_rfl) (congrArg some ((lt_of_le h0)))) all_nil), all_nil, all_nil, all_nil, all_nil, all_nil, all_nil, all_nil, all_nil, all_nil, (all_cons (slenOK (i := 0) (r := (sn 0)) rfl (by kernel_rfl)) all_nil), all_nil, all_nil, all_nil, all_nil, all_nil, all_nil⟩
def rrWordtF_stop : Tm := [[oq 0, sy 2, .bool true, anyV, anyV, anyV, .int .i64 0, sy 2, oq 0, sy 0, .bool true, .bool true, oq 0, sy 2, anyV, .bool false], [.bool false, .bool true, .bool true, oq 0, sy 2, anyV, .bool false, .bool false, .bool false, .bool false, anyV, anyV, anyV], []]
def rrWordHF_stop : Heap := []
theorem rrWordf0_stop : stepT Tryd.prog [] (evBody Tryd.prog rrWordo0 1000 50 45 [false, false, true] rrWordt0 rrWordH0) (.exit 0) rrWordtF_stop rrWordHF_stop [.val 0 0, .num 1180591620717411303427 1180591620717411303426, .num 1180591620717411303424 1180591620717411303424] = true := by decide +kernel
theorem rrWord_loop_stop (s : ByteArray) (w : World) (a : Nat) (hs : s.size ≤ 1000000000000) (ha : a ≤ s.size) (K : Nat) (hK : a + K < s.size) (hq0 : wordB (bt s (a + K)) = false) (hall : ∀ i, i < K → wordB (bt s (a + i)) = true) : LoopE (env [(s.size : Int), (a : Int), ((a : Int) + (K : Int))] [(.string s)] w) Tryd.prog (45, [false, false, true], rrWordtA, rrWordHA, .exit 0, rrWordtF_stop, rrWordHF_stop) := by
  refine loop_rule (σ := { st : Nat // st ≤ K }) (fun st => rrWordE s w a st.1) (fun _ => rfl) (fun st => K - st.1) (fun _ => rrWordt0) (fun _ => rrWordH0) rfl (fun _ => by decide) (by decide) ?_ ⟨0, Nat.zero_le _⟩ [.val 0 0, .num 1180591620717411303425 1180591620717411303427] [] (by decide +kernel) (by decide) ?_
  · rintro ⟨i, hi⟩
    rcases Nat.lt_or_ge i (K) with h | h
    · have ha0 := ha; have ha : bd 0 10000000000000 (a : Int) := ⟨by omega, by omega⟩; have hib : bd 0 1000000000000000 (i : Int) := ⟨by omega, by omega⟩; have hn : bd 0 1000000000000000 (s.size : Int) := ⟨by omega, by omega⟩; have hai : a + i ≤ 10000000000000 := (by omega); have hat : bd 0 100000000000000 ((a : Int) + (i : Int)) := ⟨by omega, by omega⟩; have hq := hall i h; clear hall; have hlt : a + i < s.size := (by omega)
      rcases h0 : (decide ((s.size : Int) ≤ (((a : Int) + (i : Int))))) with _ | _
      · rcases h1 : (digitB (bt s (a + i))) with _ | _
        · rcases h2 : (wordB (bt s (a + i))) with _ | _
          · exfalso; (first | (have g := of_decide_eq_true h0; omega) | (have g := of_decide_eq_false h0; omega) | (simp_all [wordB]; done))
          · refine .inl ⟨rrWordo1, 1000, 50, _, [], ⟨i + 1, h⟩, (rrWordk1 s w a i hib hn ha hai hat h0 h1 h2).ok, rrWords1, by decide, ?_, by show K - (i + 1) < K - i; omega⟩
            intro q hq
            simp only [List.mem_cons, List.not_mem_nil, or_false] at hq
            rcases hq with rfl | rfl
            · show (_ : Value) = _; kernel_rfl
            · show (((((a : Int) + (i : Int))) + 1) : Int) = ((a : Int) + (((i + 1 : Nat)) : Int)); first | rfl | (omega)
        · refine .inl ⟨rrWordo2, 1000, 50, _, [], ⟨i + 1, h⟩, (rrWordk2 s w a i hib hn ha hai hat h0 h1).ok, rrWords2, by decide, ?_, by show K - (i + 1) < K - i; omega⟩
          intro q hq
          simp only [List.mem_cons, List.not_mem_nil, or_false] at hq
          rcases hq with rfl | rfl
          · show (_ : Value) = _; kernel_rfl
          · show (((((a : Int) + (i : Int))) + 1) : Int) = ((a : Int) + (((i + 1 : Nat)) : Int)); first | rfl | (omega)
      · exfalso; (first | (have g := of_decide_eq_true h0; omega) | (have g := of_decide_eq_false h0; omega) | (simp_all [wordB]; done))
    · have hE : K = i := by omega
      subst hE
      have ha0 := ha; have ha : bd 0 10000000000000 (a : Int) := ⟨by omega, by omega⟩; have hib : bd 0 1000000000000000 (K : Int) := ⟨by omega, by omega⟩; have hn : bd 0 1000000000000000 (s.size : Int) := ⟨by omega, by omega⟩; have hai : a + K ≤ 10000000000000 := (by omega); have hat : bd 0 100000000000000 ((a : Int) + (K : Int)) := ⟨by omega, by omega⟩; have hq := hq0; clear hall hq0; have hlt : a + K < s.size := hK
      rcases h0 : (decide ((s.size : Int) ≤ (((a : Int) + (K : Int))))) with _ | _
      · rcases h1 : (digitB (bt s (a + K))) with _ | _
        · rcases h2 : (wordB (bt s (a + K))) with _ | _
          · refine .inr ⟨rrWordo0, 1000, 50, _, [], (rrWordk0 s w a (K) hib hn ha hai hat h0 h1 h2).ok, rrWordf0_stop, by decide, ?_⟩
            intro q hq
            simp only [List.mem_cons, List.not_mem_nil, or_false] at hq
            rcases hq with rfl | rfl | rfl
            · show (_ : Value) = _; kernel_rfl
            · show (_ : Int) = _; kernel_rfl
            · show (_ : Int) = _; kernel_rfl
          · exfalso; (first | (have g := of_decide_eq_true h0; omega) | (have g := of_decide_eq_false h0; omega) | (simp_all [wordB]; done))
        · exfalso; (first | (have g := of_decide_eq_true h0; omega) | (have g := of_decide_eq_false h0; omega) | (simp_all [wordB]; done))
      · exfalso; (first | (have g := of_decide_eq_true h0; omega) | (have g := of_decide_eq_false h0; omega) | (simp_all [wordB]; done))
  · skip
    intro q hq
    simp only [List.mem_cons, List.not_mem_nil, or_false] at hq
    rcases hq with rfl | rfl
    · show (_ : Value) = _; kernel_rfl
    · show ((a : Int) : Int) = ((a : Int) + (0 : Int)); first | rfl | (omega)
def rrWordtF_done : Tm := [[oq 0, sy 0, .bool true, anyV, anyV, anyV, .int .i64 0, sy 0, oq 0, sy 0, .bool false, .bool false, anyV, anyV, anyV, anyV], [anyV, anyV, anyV, anyV, anyV, anyV, anyV, anyV, anyV, .bool false, anyV, anyV, anyV], []]
def rrWordHF_done : Heap := []
theorem rrWordf3_done : stepT Tryd.prog [] (evBody Tryd.prog rrWordo3 1000 50 45 [false, false, true] rrWordt0 rrWordH0) (.exit 0) rrWordtF_done rrWordHF_done [.val 0 0, .num 1180591620717411303427 1180591620717411303424, .num 1180591620717411303424 1180591620717411303424] = true := by decide +kernel
theorem rrWord_loop_done (s : ByteArray) (w : World) (a : Nat) (hs : s.size ≤ 1000000000000) (ha : a ≤ s.size) (K : Nat) (hK : a + K = s.size) (hall : ∀ i, i < K → wordB (bt s (a + i)) = true) : LoopE (env [(s.size : Int), (a : Int)] [(.string s)] w) Tryd.prog (45, [false, false, true], rrWordtA, rrWordHA, .exit 0, rrWordtF_done, rrWordHF_done) := by
  refine loop_rule (σ := { st : Nat // st ≤ K }) (fun st => rrWordE s w a st.1) (fun _ => rfl) (fun st => K - st.1) (fun _ => rrWordt0) (fun _ => rrWordH0) rfl (fun _ => by decide) (by decide) ?_ ⟨0, Nat.zero_le _⟩ [.val 0 0, .num 1180591620717411303425 1180591620717411303427] [] (by decide +kernel) (by decide) ?_
  · rintro ⟨i, hi⟩
    rcases Nat.lt_or_ge i (K) with h | h
    · have ha0 := ha; have ha : bd 0 10000000000000 (a : Int) := ⟨by omega, by omega⟩; have hib : bd 0 1000000000000000 (i : Int) := ⟨by omega, by omega⟩; have hn : bd 0 1000000000000000 (s.size : Int) := ⟨by omega, by omega⟩; have hai : a + i ≤ 10000000000000 := (by omega); have hat : bd 0 100000000000000 ((a : Int) + (i : Int)) := ⟨by omega, by omega⟩; have hq := hall i h; clear hall; have hlt : a + i < s.size := (by omega)
      rcases h0 : (decide ((s.size : Int) ≤ (((a : Int) + (i : Int))))) with _ | _
      · rcases h1 : (digitB (bt s (a + i))) with _ | _
        · rcases h2 : (wordB (bt s (a + i))) with _ | _
          · exfalso; (first | (have g := of_decide_eq_true h0; omega) | (have g := of_decide_eq_false h0; omega) | (simp_all [wordB]; done))
          · refine .inl ⟨rrWordo1, 1000, 50, _, [], ⟨i + 1, h⟩, (rrWordk1 s w a i hib hn ha hai hat h0 h1 h2).ok, rrWords1, by decide, ?_, by show K - (i + 1) < K - i; omega⟩
            intro q hq
            simp only [List.mem_cons, List.not_mem_nil, or_false] at hq
            rcases hq with rfl | rfl
            · show (_ : Value) = _; kernel_rfl
            · show (((((a : Int) + (i : Int))) + 1) : Int) = ((a : Int) + (((i + 1 : Nat)) : Int)); first | rfl | (omega)
        · refine .inl ⟨rrWordo2, 1000, 50, _, [], ⟨i + 1, h⟩, (rrWordk2 s w a i hib hn ha hai hat h0 h1).ok, rrWords2, by decide, ?_, by show K - (i + 1) < K - i; omega⟩
          intro q hq
          simp only [List.mem_cons, List.not_mem_nil, or_false] at hq
          rcases hq with rfl | rfl
          · show (_ : Value) = _; kernel_rfl
          · show (((((a : Int) + (i : Int))) + 1) : Int) = ((a : Int) + (((i + 1 : Nat)) : Int)); first | rfl | (omega)
      · exfalso; (first | (have g := of_decide_eq_true h0; omega) | (have g := of_decide_eq_false h0; omega) | (simp_all [wordB]; done))
    · have hE : K = i := by omega
      subst hE
      have ha0 := ha; have ha : bd 0 10000000000000 (a : Int) := ⟨by omega, by omega⟩; have hib : bd 0 1000000000000000 (K : Int) := ⟨by omega, by omega⟩; have hn : bd 0 1000000000000000 (s.size : Int) := ⟨by omega, by omega⟩; have hai : a + K ≤ 10000000000000 := (by omega); have hat : bd 0 100000000000000 ((a : Int) + (K : Int)) := ⟨by omega, by omega⟩; clear hall
      rcases h0 : (decide ((s.size : Int) ≤ (((a : Int) + (K : Int))))) with _ | _
      · rcases h1 : (digitB (bt s (a + K))) with _ | _
        · rcases h2 : (wordB (bt s (a + K))) with _ | _
          · exfalso; (first | (have g := of_decide_eq_true h0; omega) | (have g := of_decide_eq_false h0; omega) | (simp_all [wordB]; done))
          · exfalso; (first | (have g := of_decide_eq_true h0; omega) | (have g := of_decide_eq_false h0; omega) | (simp_all [wordB]; done))
        · exfalso; (first | (have g := of_decide_eq_true h0; omega) | (have g := of_decide_eq_false h0; omega) | (simp_all [wordB]; done))
      · refine .inr ⟨rrWordo3, 1000, 50, _, [], (rrWordk3 s w a (K) hib hn ha hai hat h0).ok, rrWordf3_done, by decide, ?_⟩
        intro q hq
        simp only [List.mem_cons, List.not_mem_nil, or_false] at hq
        rcases hq with rfl | rfl | rfl
        · show (_ : Value) = _; kernel_rfl
        · show (((a : Int) + (K : Int)) : Int) = (s.size : Int); first | rfl | (omega)
        · show (_ : Int) = _; kernel_rfl
  · skip
    intro q hq
    simp only [List.mem_cons, List.not_mem_nil, or_false] at hq
    rcases hq with rfl | rfl
    · show (_ : Value) = _; kernel_rfl
    · show ((a : Int) : Int) = ((a : Int) + (0 : Int)); first | rfl | (omega)
theorem rrun_Word (s : ByteArray) (w : World) (a : Nat) (hs : s.size ≤ 1000000000000) (ha : a ≤ s.size) : Calls Tryd.prog 45 #[(.string s), .int .i64 (a : Int), .bool true] w fun e w' => e = .returned (.int .i64 ((((runA wordB s a) : Nat) : Int))) ∧ Below w.heap.size w w' := by
  rcases runA_cases wordB s a ha with ⟨e, h⟩ | ⟨j, h1, e, h2, h3⟩
  · rw [e]
    exact run_know (P := Tryd.prog) (ρ := env [(s.size : Int), (a : Int)] [(.string s)] w) (o := { loops := [(45, [false, false, true], rrWordtA, rrWordHA, .exit 0, rrWordtF_done, rrWordHF_done)], lens := [(true, oq 0, .int .i64 (sn 0))] }) ⟨all_nil, all_nil, all_nil, all_nil, all_nil, all_nil, all_nil, all_nil, all_nil, (all_cons (rrWord_loop_done s w a hs ha (s.size - a) (by omega) (fun i hi => h (a + i) (by omega) (by omega))) all_nil), (all_cons (slenOK (i := 0) (r := (sn 0)) rfl (by kernel_rfl)) all_nil), all_nil, all_nil, all_nil, all_nil, all_nil, all_nil⟩ 1000 50 45 [oq 0, sy 1, .bool true] (sy 0) (args' := #[(.string s), .int .i64 (a : Int), .bool true]) (v' := .int .i64 (s.size : Int)) (by kernel_rfl) (by kernel_rfl) (by kernel_rfl) w (Below.refl _ _)
  · rw [e, show ((a + j : Nat) : Int) = (a : Int) + (j : Int) from rfl]
    exact run_know (P := Tryd.prog) (ρ := env [(s.size : Int), (a : Int), ((a : Int) + (j : Int))] [(.string s)] w) (o := { loops := [(45, [false, false, true], rrWordtA, rrWordHA, .exit 0, rrWordtF_stop, rrWordHF_stop)], lens := [(true, oq 0, .int .i64 (sn 0))] }) ⟨all_nil, all_nil, all_nil, all_nil, all_nil, all_nil, all_nil, all_nil, all_nil, (all_cons (rrWord_loop_stop s w a hs ha j h1 h2 h3) all_nil), (all_cons (slenOK (i := 0) (r := (sn 0)) rfl (by kernel_rfl)) all_nil), all_nil, all_nil, all_nil, all_nil, all_nil, all_nil⟩ 1000 50 45 [oq 0, sy 1, .bool true] (sy 2) (args' := #[(.string s), .int .i64 (a : Int), .bool true]) (v' := .int .i64 (((a : Int) + (j : Int)))) (by kernel_rfl) (by kernel_rfl) (by kernel_rfl) w (Below.refl _ _)
def rrDigitt0 : Tm := [[oq 0, sy 3, .bool false, undef, undef, undef, .int .i64 0, anyV, anyV, anyV, anyV, anyV, anyV, anyV, anyV, anyV], [anyV, undef, undef, undef, undef, undef, undef, undef, anyV, anyV, anyV, anyV, undef], []]
def rrDigitH0 : Heap := []
def rrDigittA : Tm := [[oq 0, sy 1, .bool false, undef, undef, undef, .int .i64 0, undef, undef, undef, undef, undef, undef, undef, undef, undef], [undef, undef, undef, undef, undef, undef, undef, undef, undef, undef, undef, undef, undef], []]
def rrDigitHA : Heap := []
def rrDigito0 : Orc := { bin := [(.lss, 3, .int .i64 (sn 3), .int .i64 (sn 0), .bool true)], calls := [(46, [syk .u8 4], .bool false)], idx := [(9, oq 0, .int .i64 (sn 3), .int .u8 (sn 4))], lens := [(true, oq 0, .int .i64 (sn 0))] }
def rrDigito1 : Orc := { bin := [(.lss, 3, .int .i64 (sn 3), .int .i64 (sn 0), .bool true), (.add, 3, .int .i64 (sn 3), .int .i64 1, .int .i64 (sn 5))], calls := [(46, [syk .u8 4], .bool true)], idx := [(9, oq 0, .int .i64 (sn 3), .int .u8 (sn 4))], lens := [(true, oq 0, .int .i64 (sn 0))] }
def rrDigito2 : Orc := { bin := [(.lss, 3, .int .i64 (sn 3), .int .i64 (sn 0), .bool false)], lens := [(true, oq 0, .int .i64 (sn 0))] }
noncomputable def rrDigitE (s : ByteArray) (w : World) (a : Nat) (i : Nat) : Env := env [(s.size : Int), (a : Int), (i : Int), ((a : Int) + (i : Int)), (bt s (a + i)), ((((a : Int) + (i : Int))) + 1)] [(.string s)] w
theorem rrDigits1 : stepT Tryd.prog [] (evBody Tryd.prog rrDigito1 1000 50 45 [false, false, true] rrDigitt0 rrDigitH0) .normal rrDigitt0 rrDigitH0 [.val 0 0, .num 1180591620717411303429 1180591620717411303427] = true := by decide +kernel
theorem rrDigitk0 (s : ByteArray) (w : World) (a : Nat) (i : Nat) (hib : bd 0 1000000000000000 (i : Int)) (hn : bd 0 1000000000000000 (s.size : Int)) (ha : bd 0 10000000000000 (a : Int)) (hai : a + i ≤ 10000000000000) (hat : bd 0 100000000000000 ((a : Int) + (i : Int))) (h0 : (decide ((s.size : Int) ≤ (((a : Int) + (i : Int))))) = false) (h1 : (digitB (bt s (a + i))) = false) : Know (rrDigitE s w a i) Tryd.prog rrDigito0 := by
  exact ⟨(all_cons (cmpOK (op := .lss) (ty := 3) (k := .i64) (n := (sn 3)) (m := (sn 0)) (t := true) (a := (((a : Int) + (i : Int)))) (b := (s.size : Int)) (by kernel_rfl) (by kernel_rfl) (congrArg some ((lt_of_le h0)))) all_nil), all_nil, all_nil, all_nil, (all_cons (callOK (f := 46) (args := [syk .u8 4]) (v := .bool false) (args' := #[.int .u8 ((bt s (a + i)))]) (v' := .bool false) (by kernel_rfl) (by kernel_rfl) (by kernel_rfl) (fun w => by have := rdigit_any (bt s (a + i)) w (bt_bd s (a + i)); rw [h1] at this; exact this)) all_nil), all_nil, all_nil, (all_cons (sidxOK (i := 0) (j := (sn 3)) (r := (sn 4)) (k := (a + i)) rfl (by kernel_rfl) (by kernel_rfl) (by have g := of_decide_eq_false h0; omega) (by kernel_rfl)) all_nil), all_nil, all_nil, (all_cons (slenOK (i := 0) (r := (sn 0)) rfl (by kernel_rfl)) all_nil), all_nil, all_nil, all_nil, all_nil, all_nil, all_nil⟩
theorem rrDigitk1 (s : ByteArray) (w : World) (a : Nat) (i : Nat) (hib : bd 0 1000000000000000 (i : Int)) (hn : bd 0 1000000000000000 (s.size : Int)) (ha : bd 0 10000000000000 (a : Int)) (hai : a + i ≤ 10000000000000) (hat : bd 0 100000000000000 ((a : Int) + (i : Int))) (h0 : (decide ((s.size : Int) ≤ (((a : Int) + (i : Int))))) = false) (h1 : (digitB (bt s (a + i))) = true) : Know (rrDigitE s w a i) Tryd.prog rrDigito1 := by
  have bq0 : bd 1 100000000000001 (((((a : Int) + (i : Int))) + 1)) := bd_add hat (bd_lit (l := 1) (h := 1) rfl) rfl
  exact ⟨(all_cons (cmpOK (op := .lss) (ty := 3) (k := .i64) (n := (sn 3)) (m := (sn 0)) (t := true) (a := (((a : Int) + (i : Int)))) (b := (s.size : Int)) (by kernel_rfl) (by kernel_rfl) (congrArg some ((lt_of_le h0)))) (all_cons (arOK (op := .add) (ty := 3) (k := .i64) (n := (sn 3)) (m := 1) (r := (sn 5)) (a := (((a : Int) + (i : Int)))) (b := 1) (c := (((((a : Int) + (i : Int))) + 1))) (d := (((a : Int) + (i : Int))) + 1) (by kernel_rfl) (by kernel_rfl) (by kernel_rfl) rfl (wr_bd bq0 rfl)) all_nil)), all_nil, all_nil, all_nil, (all_cons (callOK (f := 46) (args := [syk .u8 4]) (v := .bool true) (args' := #[.int .u8 ((bt s (a + i)))]) (v' := .bool true) (by kernel_rfl) (by kernel_rfl) (by kernel_rfl) (fun w => by have := rdigit_any (bt s (a + i)) w (bt_bd s (a + i)); rw [h1] at this; exact this)) all_nil), all_nil, all_nil, (all_cons (sidxOK (i := 0) (j := (sn 3)) (r := (sn 4)) (k := (a + i)) rfl (by kernel_rfl) (by kernel_rfl) (by have g := of_decide_eq_false h0; omega) (by kernel_rfl)) all_nil), all_nil, all_nil, (all_cons (slenOK (i := 0) (r := (sn 0)) rfl (by kernel_rfl)) all_nil), all_nil, all_nil, all_nil, all_nil, all_nil, all_nil⟩
theorem rrDigitk2 (s : ByteArray) (w : World) (a : Nat) (i : Nat) (hib : bd 0 1000000000000000 (i : Int)) (hn : bd 0 1000000000000000 (s.size : Int)) (ha : bd 0 10000000000000 (a : Int)) (hai : a + i ≤ 10000000000000) (hat : bd 0 100000000000000 ((a : Int) + (i : Int))) (h0 : (decide ((s.size : Int) ≤ (((a : Int) + (i : Int))))) = true) : Know (rrDigitE s w a i) Tryd.prog rrDigito2 := by
  exact ⟨(all_cons (cmpOK (op := .lss) (ty := 3) (k := .i64) (n := (sn 3)) (m := (sn 0)) (t := false) (a := (((a : Int) + (i : Int)))) (b := (s.size : Int)) (by kernel_rfl) (by kernel_rfl) (congrArg some ((lt_of_le h0)))) all_nil), all_nil, all_nil, all_nil, all_nil, all_nil, all_nil, all_nil, all_nil, all_nil, (all_cons (slenOK (i := 0) (r := (sn 0)) rfl (by kernel_rfl)) all_nil), all_nil, all_nil, all_nil, all_nil, all_nil, all_nil⟩
def rrDigittF_stop : Tm := [[oq 0, sy 2, .bool false, anyV, anyV, anyV, .int .i64 0, sy 2, oq 0, sy 0, .bool true, .bool true, oq 0, sy 2, anyV, .bool false], [.bool false, .bool false, .bool false, anyV, anyV, anyV, anyV, .bool false, .bool false, .bool false, anyV, anyV, anyV], []]
def rrDigitHF_stop : Heap := []
theorem rrDigitf0_stop : stepT Tryd.prog [] (evBody Tryd.prog rrDigito0 1000 50 45 [false, false, true] rrDigitt0 rrDigitH0) (.exit 0) rrDigittF_stop rrDigitHF_stop [.val 0 0, .num 1180591620717411303427 1180591620717411303426, .num 1180591620717411303424 1180591620717411303424] = true := by decide +kernel
theorem rrDigit_loop_stop (s : ByteArray) (w : World) (a : Nat) (hs : s.size ≤ 1000000000000) (ha : a ≤ s.size) (K : Nat) (hK : a + K < s.size) (hq0 : digitB (bt s (a + K)) = false) (hall : ∀ i, i < K → digitB (bt s (a + i)) = true) : LoopE (env [(s.size : Int), (a : Int), ((a : Int) + (K : Int))] [(.string s)] w) Tryd.prog (45, [false, false, true], rrDigittA, rrDigitHA, .exit 0, rrDigittF_stop, rrDigitHF_stop) := by
  refine loop_rule (σ := { st : Nat // st ≤ K }) (fun st => rrDigitE s w a st.1) (fun _ => rfl) (fun st => K - st.1) (fun _ => rrDigitt0) (fun _ => rrDigitH0) rfl (fun _ => by decide) (by decide) ?_ ⟨0, Nat.zero_le _⟩ [.val 0 0, .num 1180591620717411303425 1180591620717411303427] [] (by decide +kernel) (by decide) ?_
  · rintro ⟨i, hi⟩
    rcases Nat.lt_or_ge i (K) with h | h
    · have ha0 := ha; have ha : bd 0 10000000000000 (a : Int) := ⟨by omega, by omega⟩; have hib : bd 0 1000000000000000 (i : Int) := ⟨by omega, by omega⟩; have hn : bd 0 1000000000000000 (s.size : Int) := ⟨by omega, by omega⟩; have hai : a + i ≤ 10000000000000 := (by omega); have hat : bd 0 100000000000000 ((a : Int) + (i : Int)) := ⟨by omega, by omega⟩; have hq := hall i h; clear hall; have hlt : a + i < s.size := (by omega)
      rcases h0 : (decide ((s.size : Int) ≤ (((a : Int) + (i : Int))))) with _ | _
      · rcases h1 : (digitB (bt s (a + i))) with _ | _
        · exfalso; (first | (have g := of_decide_eq_true h0; omega) | (have g := of_decide_eq_false h0; omega) | (simp_all [wordB]; done))
        · refine .inl ⟨rrDigito1, 1000, 50, _, [], ⟨i + 1, h⟩, (rrDigitk1 s w a i hib hn ha hai hat h0 h1).ok, rrDigits1, by decide, ?_, by show K - (i + 1) < K - i; omega⟩
          intro q hq
          simp only [List.mem_cons, List.not_mem_nil, or_false] at hq
          rcases hq with rfl | rfl
          · show (_ : Value) = _; kernel_rfl
          · show (((((a : Int) + (i : Int))) + 1) : Int) = ((a : Int) + (((i + 1 : Nat)) : Int)); first | rfl | (omega)
      · exfalso; (first | (have g := of_decide_eq_true h0; omega) | (have g := of_decide_eq_false h0; omega) | (simp_all [wordB]; done))
    · have hE : K = i := by omega
      subst hE
      have ha0 := ha; have ha : bd 0 10000000000000 (a : Int) := ⟨by omega, by omega⟩; have hib : bd 0 1000000000000000 (K : Int) := ⟨by omega, by omega⟩; have hn : bd 0 1000000000000000 (s.size : Int) := ⟨by omega, by omega⟩; have hai : a + K ≤ 10000000000000 := (by omega); have hat : bd 0 100000000000000 ((a : Int) + (K : Int)) := ⟨by omega, by omega⟩; have hq := hq0; clear hall hq0; have hlt : a + K < s.size := hK
      rcases h0 : (decide ((s.size : Int) ≤ (((a : Int) + (K : Int))))) with _ | _
      · rcases h1 : (digitB (bt s (a + K))) with _ | _
        · refine .inr ⟨rrDigito0, 1000, 50, _, [], (rrDigitk0 s w a (K) hib hn ha hai hat h0 h1).ok, rrDigitf0_stop, by decide, ?_⟩
          intro q hq
          simp only [List.mem_cons, List.not_mem_nil, or_false] at hq
          rcases hq with rfl | rfl | rfl
          · show (_ : Value) = _; kernel_rfl
          · show (_ : Int) = _; kernel_rfl
          · show (_ : Int) = _; kernel_rfl
        · exfalso; (first | (have g := of_decide_eq_true h0; omega) | (have g := of_decide_eq_false h0; omega) | (simp_all [wordB]; done))
      · exfalso; (first | (have g := of_decide_eq_true h0; omega) | (have g := of_decide_eq_false h0; omega) | (simp_all [wordB]; done))
  · skip
    intro q hq
    simp only [List.mem_cons, List.not_mem_nil, or_false] at hq
    rcases hq with rfl | rfl
    · show (_ : Value) = _; kernel_rfl
    · show ((a : Int) : Int) = ((a : Int) + (0 : Int)); first | rfl | (omega)
def rrDigittF_done : Tm := [[oq 0, sy 0, .bool false, anyV, anyV, anyV, .int .i64 0, sy 0, oq 0, sy 0, .bool false, .bool false, anyV, anyV, anyV, anyV], [anyV, anyV, anyV, anyV, anyV, anyV, anyV, anyV, anyV, .bool false, anyV, anyV, anyV], []]
def rrDigitHF_done : Heap := []
theorem rrDigitf2_done : stepT Tryd.prog [] (evBody Tryd.prog rrDigito2 1000 50 45 [false, false, true] rrDigitt0 rrDigitH0) (.exit 0) rrDigittF_done rrDigitHF_done [.val 0 0, .num 1180591620717411303427 1180591620717411303424, .num 1180591620717411303424 1180591620717411303424] = true := by decide +kernel
theorem rrDigit_loop_done (s : ByteArray) (w : World) (a : Nat) (hs : s.size ≤ 1000000000000) (ha : a ≤ s.size) (K : Nat) (hK : a + K = s.size) (hall : ∀ i, i < K → digitB (bt s (a + i)) = true) : LoopE (env [(s.size : Int), (a : Int)] [(.string s)] w) Tryd.prog (45, [false, false, true], rrDigittA, rrDigitHA, .exit 0, rrDigittF_done, rrDigitHF_done) := by
  refine loop_rule (σ := { st : Nat // st ≤ K }) (fun st => rrDigitE s w a st.1) (fun _ => rfl) (fun st => K - st.1) (fun _ => rrDigitt0) (fun _ => rrDigitH0) rfl (fun _ => by decide) (by decide) ?_ ⟨0, Nat.zero_le _⟩ [.val 0 0, .num 1180591620717411303425 1180591620717411303427] [] (by decide +kernel) (by decide) ?_
  · rintro ⟨i, hi⟩
    rcases Nat.lt_or_ge i (K) with h | h
    · have ha0 := ha; have ha : bd 0 10000000000000 (a : Int) := ⟨by omega, by omega⟩; have hib : bd 0 1000000000000000 (i : Int) := ⟨by omega, by omega⟩; have hn : bd 0 1000000000000000 (s.size : Int) := ⟨by omega, by omega⟩; have hai : a + i ≤ 10000000000000 := (by omega); have hat : bd 0 100000000000000 ((a : Int) + (i : Int)) := ⟨by omega, by omega⟩; have hq := hall i h; clear hall; have hlt : a + i < s.size := (by omega)
      rcases h0 : (decide ((s.size : Int) ≤ (((a : Int) + (i : Int))))) with _ | _
      · rcases h1 : (digitB (bt s (a + i))) with _ | _
        · exfalso; (first | (have g := of_decide_eq_true h0; omega) | (have g := of_decide_eq_false h0; omega) | (simp_all [wordB]; done))
        · refine .inl ⟨rrDigito1, 1000, 50, _, [], ⟨i + 1, h⟩, (rrDigitk1 s w a i hib hn ha hai hat h0 h1).ok, rrDigits1, by decide, ?_, by show K - (i + 1) < K - i; omega⟩
          intro q hq
          simp only [List.mem_cons, List.not_mem_nil, or_false] at hq
          rcases hq with rfl | rfl
          · show (_ : Value) = _; kernel_rfl
          · show (((((a : Int) + (i : Int))) + 1) : Int) = ((a : Int) + (((i + 1 : Nat)) : Int)); first | rfl | (omega)
      · exfalso; (first | (have g := of_decide_eq_true h0; omega) | (have g := of_decide_eq_false h0; omega) | (simp_all [wordB]; done))
    · have hE : K = i := by omega
      subst hE
      have ha0 := ha; have ha : bd 0 10000000000000 (a : Int) := ⟨by omega, by omega⟩; have hib : bd 0 1000000000000000 (K : Int) := ⟨by omega, by omega⟩; have hn : bd 0 1000000000000000 (s.size : Int) := ⟨by omega, by omega⟩; have hai : a + K ≤ 10000000000000 := (by omega); have hat : bd 0 100000000000000 ((a : Int) + (K : Int)) := ⟨by omega, by omega⟩; clear hall
      rcases h0 : (decide ((s.size : Int) ≤ (((a : Int) + (K : Int))))) with _ | _
      · rcases h1 : (digitB (bt s (a + K))) with _ | _
        · exfalso; (first | (have g := of_decide_eq_true h0; omega) | (have g := of_decide_eq_false h0; omega) | (simp_all [wordB]; done))
        · exfalso; (first | (have g := of_decide_eq_true h0; omega) | (have g := of_decide_eq_false h0; omega) | (simp_all [wordB]; done))
      · refine .inr ⟨rrDigito2, 1000, 50, _, [], (rrDigitk2 s w a (K) hib hn ha hai hat h0).ok, rrDigitf2_done, by decide, ?_⟩
        intro q hq
        simp only [List.mem_cons, List.not_mem_nil, or_false] at hq
        rcases hq with rfl | rfl | rfl
        · show (_ : Value) = _; kernel_rfl
        · show (((a : Int) + (K : Int)) : Int) = (s.size : Int); first | rfl | (omega)
        · show (_ : Int) = _; kernel_rfl
  · skip
    intro q hq
    simp only [List.mem_cons, List.not_mem_nil, or_false] at hq
    rcases hq with rfl | rfl
    · show (_ : Value) = _; kernel_rfl
    · show ((a : Int) : Int) = ((a : Int) + (0 : Int)); first | rfl | (omega)
theorem rrun_Digit (s : ByteArray) (w : World) (a : Nat) (hs : s.size ≤ 1000000000000) (ha : a ≤ s.size) : Calls Tryd.prog 45 #[(.string s), .int .i64 (a : Int), .bool false] w fun e w' => e = .returned (.int .i64 ((((runA digitB s a) : Nat) : Int))) ∧ Below w.heap.size w w' := by
  rcases runA_cases digitB s a ha with ⟨e, h⟩ | ⟨j, h1, e, h2, h3⟩
  · rw [e]
    exact run_know (P := Tryd.prog) (ρ := env [(s.size : Int), (a : Int)] [(.string s)] w) (o := { loops := [(45, [false, false, true], rrDigittA, rrDigitHA, .exit 0, rrDigittF_done, rrDigitHF_done)], lens := [(true, oq 0, .int .i64 (sn 0))] }) ⟨all_nil, all_nil, all_nil, all_nil, all_nil, all_nil, all_nil, all_nil, all_nil, (all_cons (rrDigit_loop_done s w a hs ha (s.size - a) (by omega) (fun i hi => h (a + i) (by omega) (by omega))) all_nil), (all_cons (slenOK (i := 0) (r := (sn 0)) rfl (by kernel_rfl)) all_nil), all_nil, all_nil, all_nil, all_nil, all_nil, all_nil⟩ 1000 50 45 [oq 0, sy 1, .bool false] (sy 0) (args' := #[(.string s), .int .i64 (a : Int), .bool false]) (v' := .int .i64 (s.size : Int)) (by kernel_rfl) (by kernel_rfl) (by kernel_rfl) w (Below.refl _ _)
  · rw [e, show ((a + j : Nat) : Int) = (a : Int) + (j : Int) from rfl]
    exact run_know (P := Tryd.prog) (ρ := env [(s.size : Int), (a : Int), ((a : Int) + (j : Int))] [(.string s)] w) (o := { loops := [(45, [false, false, true], rrDigittA, rrDigitHA, .exit 0, rrDigittF_stop, rrDigitHF_stop)], lens := [(true, oq 0, .int .i64 (sn 0))] }) ⟨all_nil, all_nil, all_nil, all_nil, all_nil, all_nil, all_nil, all_nil, all_nil, (all_cons (rrDigit_loop_stop s w a hs ha j h1 h2 h3) all_nil), (all_cons (slenOK (i := 0) (r := (sn 0)) rfl (by kernel_rfl)) all_nil), all_nil, all_nil, all_nil, all_nil, all_nil, all_nil⟩ 1000 50 45 [oq 0, sy 1, .bool false] (sy 2) (args' := #[(.string s), .int .i64 (a : Int), .bool false]) (v' := .int .i64 (((a : Int) + (j : Int)))) (by kernel_rfl) (by kernel_rfl) (by kernel_rfl) w (Below.refl _ _)
end Go.Proofs.YtmoppmpnbkemdaaDoor.Ev
