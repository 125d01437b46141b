/- lexer: the run of bytes of a kind. -/
import Derived.Test.YtmoppmpnbkemdaaDoorLx1
namespace Go.Proofs.YtmoppmpnbkemdaaDoor.Ev
open Go.RowKit
set_option linter.unusedVariables false
set_option linter.unusedSimpArgs false
set_option maxRecDepth 8000
def runinNamet0 : Tm := [[oq 0, .func (.func 30) #[] #[], undef, undef, .int .i64 0, anyV, oq 0, sy 0, sy 1, anyV, anyV, anyV, anyV, anyV, anyV, anyV], [anyV, undef, anyV, undef, undef]]
def runinNameH0 : Heap := []
def runinNametA : Tm := [[oq 0, .func (.func 30) #[] #[], undef, undef, .int .i64 0, undef, oq 0, sy 0, .int .i64 0, undef, undef, undef, undef, undef, undef, undef], [undef, undef, undef, undef, undef]]
def runinNameHA : Heap := []
def runinNameo_next : Orc := { bin := [(.lss, 3, .int .i64 (sn 1), .int .i64 (sn 0), .bool true), (.add, 3, .int .i64 (sn 1), .int .i64 1, .int .i64 (sn 3))], calls := [(30, [syk .u8 2], .bool true)], idx := [(9, oq 0, .int .i64 (sn 1), .int .u8 (sn 2))] }
def runinNameo_stop : Orc := { bin := [(.lss, 3, .int .i64 (sn 1), .int .i64 (sn 0), .bool true)], calls := [(30, [syk .u8 2], .bool false)], idx := [(9, oq 0, .int .i64 (sn 1), .int .u8 (sn 2))] }
def runinNameo_done : Orc := { bin := [(.lss, 3, .int .i64 (sn 1), .int .i64 (sn 0), .bool false)] }
noncomputable def runinNameE (s : ByteArray) (w : World) (i : Nat) : Env := env [(s.size : Int), (i : Int), (bt s i), ((i : Int) + 1)] [(.string s)] w
theorem runinNamet_next : stepT Tryd.prog [] (evBody Tryd.prog runinNameo_next 1000 50 29 [false, true, false, true] runinNamet0 runinNameH0) .normal runinNamet0 runinNameH0 [.val 0 0, .num 1180591620717411303424 1180591620717411303424, .num 1180591620717411303427 1180591620717411303425] = true := by decide +kernel
def runinNametF_stop : Tm := [[oq 0, .func (.func 30) #[] #[], anyV, anyV, sy 1, sy 1, oq 0, sy 0, sy 1, .bool true, sy 1, .func (.func 30) #[] #[], oq 0, sy 1, anyV, .bool false], [.bool true, sy 1, anyV, anyV, anyV]]
def runinNameHF_stop : Heap := []
theorem runinNamet_stop : stepT Tryd.prog [] (evBody Tryd.prog runinNameo_stop 1000 50 29 [false, true, false, true] runinNamet0 runinNameH0) (.ret) runinNametF_stop runinNameHF_stop [.val 0 0, .num 1180591620717411303425 1180591620717411303425, .num 1180591620717411303424 1180591620717411303424] = true := by decide +kernel
def runinNametF_done : Tm := [[oq 0, .func (.func 30) #[] #[], anyV, anyV, .int .i64 0, anyV, oq 0, sy 0, anyV, .bool false, anyV, anyV, anyV, anyV, anyV, anyV], [anyV, anyV, anyV, anyV, anyV]]
def runinNameHF_done : Heap := []
theorem runinNamet_done : stepT Tryd.prog [] (evBody Tryd.prog runinNameo_done 1000 50 29 [false, true, false, true] runinNamet0 runinNameH0) (.exit 0) runinNametF_done runinNameHF_done [.val 0 0, .num 1180591620717411303424 1180591620717411303424] = true := by decide +kernel
theorem runinNamek_next (s : ByteArray) (w : World) (i : Nat) (hn : s.size ≤ 1000000000000) (hlt : i < s.size) (hq : nameB (bt s i) = true) : Know (runinNameE s  w  i) Tryd.prog runinNameo_next := by
  have hib : bd 0 1000000000000000 (i : Int) := ⟨by omega, by omega⟩
  have bq0 : bd 1 1000000000000001 (((i : Int) + 1)) := bd_add hib (bd_lit (l := 1) (h := 1) rfl) rfl
  exact ⟨(all_cons (cmpOK (op := .lss) (ty := 3) (k := .i64) (n := (sn 1)) (m := (sn 0)) (t := true) (a := (i : Int)) (b := (s.size : Int)) (by kernel_rfl) (by kernel_rfl) (congrArg some ((lt_of_le (show decide ((s.size : Int) ≤ (i : Int)) = false from (by simp only [decide_eq_false_iff_not]; omega)))))) (all_cons (arOK (op := .add) (ty := 3) (k := .i64) (n := (sn 1)) (m := 1) (r := (sn 3)) (a := (i : Int)) (b := 1) (c := (((i : Int) + 1))) (d := (i : Int) + 1) (by kernel_rfl) (by kernel_rfl) (by kernel_rfl) rfl (wr_bd bq0 rfl)) all_nil)), all_nil, all_nil, all_nil, (all_cons (callOK (f := 30) (args := [syk .u8 2]) (v := .bool true) (args' := #[.int .u8 (bt s i)]) (v' := .bool true) (by kernel_rfl) (by kernel_rfl) (by kernel_rfl) (fun w => by have := inName_any (bt s i) w (bt_bd s i); rw [hq] at this; exact this)) all_nil), all_nil, all_nil, (all_cons (sidxOK (i := 0) (j := (sn 1)) (r := (sn 2)) (k := i) rfl (by kernel_rfl) (by kernel_rfl) (by omega) (by kernel_rfl)) all_nil), all_nil, all_nil, all_nil, all_nil, all_nil, all_nil, all_nil, all_nil, all_nil⟩
theorem runinNamek_stop (s : ByteArray) (w : World) (i : Nat) (hn : s.size ≤ 1000000000000) (hlt : i < s.size) (hq : nameB (bt s i) = false) : Know (runinNameE s  w  i) Tryd.prog runinNameo_stop := by
  have hib : bd 0 1000000000000000 (i : Int) := ⟨by omega, by omega⟩
  exact ⟨(all_cons (cmpOK (op := .lss) (ty := 3) (k := .i64) (n := (sn 1)) (m := (sn 0)) (t := true) (a := (i : Int)) (b := (s.size : Int)) (by kernel_rfl) (by kernel_rfl) (congrArg some ((lt_of_le (show decide ((s.size : Int) ≤ (i : Int)) = false from (by simp only [decide_eq_false_iff_not]; omega)))))) all_nil), all_nil, all_nil, all_nil, (all_cons (callOK (f := 30) (args := [syk .u8 2]) (v := .bool false) (args' := #[.int .u8 (bt s i)]) (v' := .bool false) (by kernel_rfl) (by kernel_rfl) (by kernel_rfl) (fun w => by have := inName_any (bt s i) w (bt_bd s i); rw [hq] at this; exact this)) all_nil), all_nil, all_nil, (all_cons (sidxOK (i := 0) (j := (sn 1)) (r := (sn 2)) (k := i) rfl (by kernel_rfl) (by kernel_rfl) (by omega) (by kernel_rfl)) all_nil), all_nil, all_nil, all_nil, all_nil, all_nil, all_nil, all_nil, all_nil, all_nil⟩
theorem runinNamek_done (s : ByteArray) (w : World) (i : Nat) (hn : s.size ≤ 1000000000000) (hge : i = s.size) : Know (runinNameE s  w  i) Tryd.prog runinNameo_done := by
  have hib : bd 0 1000000000000000 (i : Int) := ⟨by omega, by omega⟩
  exact ⟨(all_cons (cmpOK (op := .lss) (ty := 3) (k := .i64) (n := (sn 1)) (m := (sn 0)) (t := false) (a := (i : Int)) (b := (s.size : Int)) (by kernel_rfl) (by kernel_rfl) (congrArg some ((lt_of_le (show decide ((s.size : Int) ≤ (i : Int)) = true from (by simp only [decide_eq_true_eq]; omega)))))) all_nil), all_nil, all_nil, all_nil, all_nil, all_nil, all_nil, all_nil, all_nil, all_nil, all_nil, all_nil, all_nil, all_nil, all_nil, all_nil, all_nil⟩
theorem runinName_loop_stop (s : ByteArray) (w : World) (hn : s.size ≤ 1000000000000) (K : Nat) (hK : K < s.size) (hq : nameB (bt s K) = false) (hall : ∀ i, i < K → nameB (bt s i) = true) : LoopE (env [(s.size : Int), (K : Int)] [(.string s)] w) Tryd.prog (29, [false, true, false, true], runinNametA, runinNameHA, .ret, runinNametF_stop, runinNameHF_stop) := by
  refine loop_rule (σ := { st : Nat // st ≤ K }) (fun st => runinNameE s  w  st.1) (fun _ => rfl) (fun st => K - st.1) (fun _ => runinNamet0) (fun _ => runinNameH0) rfl (fun _ => by decide) (by decide) ?_ ⟨0, Nat.zero_le _⟩ [.val 0 0, .num 1180591620717411303424 1180591620717411303424, .num 0 1180591620717411303425] [] (by decide +kernel) (by decide) ?_
  · rintro ⟨i, hi⟩
    rcases Nat.lt_or_ge i (K) with h | h
    · refine .inl ?_
      refine ⟨runinNameo_next, 1000, 50, _, [], ⟨i + 1, h⟩, (runinNamek_next s  w  i hn (by omega) (hall i h)).ok, runinNamet_next, by decide, ?_, by show K - (i + 1) < K - i; omega⟩
      intro q hq
      simp only [List.mem_cons, List.not_mem_nil, or_false] at hq
      rcases hq with rfl | rfl | rfl
      · show (_ : Value) = _; kernel_rfl
      · show (_ : Int) = _; kernel_rfl
      · show (((i : Int) + 1) : Int) = (((i + 1 : Nat)) : Int); first | rfl | (omega)
    · have hE : K = i := by omega
      subst hE
      refine .inr ⟨runinNameo_stop, 1000, 50, _, [], (runinNamek_stop s  w  K hn hK hq).ok, runinNamet_stop, by decide, ?_⟩
      intro q hq
      simp only [List.mem_cons, List.not_mem_nil, or_false] at hq
      rcases hq with rfl | rfl | rfl
      · show (_ : Value) = _; kernel_rfl
      · show (_ : Int) = _; kernel_rfl
      · show (_ : Int) = _; kernel_rfl
  · skip
    intro q hq
    simp only [List.mem_cons, List.not_mem_nil, or_false] at hq
    rcases hq with rfl | rfl | rfl
    · show (_ : Value) = _; kernel_rfl
    · show (_ : Int) = _; kernel_rfl
    · show (_ : Int) = _; kernel_rfl
theorem runinName_loop_done (s : ByteArray) (w : World) (hn : s.size ≤ 1000000000000) (hall : ∀ i, i < s.size → nameB (bt s i) = true) : LoopE (env [(s.size : Int)] [(.string s)] w) Tryd.prog (29, [false, true, false, true], runinNametA, runinNameHA, .exit 0, runinNametF_done, runinNameHF_done) := by
  refine loop_rule (σ := { st : Nat // st ≤ s.size }) (fun st => runinNameE s  w  st.1) (fun _ => rfl) (fun st => s.size - st.1) (fun _ => runinNamet0) (fun _ => runinNameH0) rfl (fun _ => by decide) (by decide) ?_ ⟨0, Nat.zero_le _⟩ [.val 0 0, .num 1180591620717411303424 1180591620717411303424, .num 0 1180591620717411303425] [] (by decide +kernel) (by decide) ?_
  · rintro ⟨i, hi⟩
    rcases Nat.lt_or_ge i (s.size) with h | h
    · refine .inl ?_
      refine ⟨runinNameo_next, 1000, 50, _, [], ⟨i + 1, h⟩, (runinNamek_next s  w  i hn h (hall i h)).ok, runinNamet_next, by decide, ?_, by show s.size - (i + 1) < s.size - i; omega⟩
      intro q hq
      simp only [List.mem_cons, List.not_mem_nil, or_false] at hq
      rcases hq with rfl | rfl | rfl
      · show (_ : Value) = _; kernel_rfl
      · show (_ : Int) = _; kernel_rfl
      · show (((i : Int) + 1) : Int) = (((i + 1 : Nat)) : Int); first | rfl | (omega)
    · have hE : s.size = i := by omega
      subst hE
      refine .inr ⟨runinNameo_done, 1000, 50, _, [], (runinNamek_done s  w  s.size hn rfl).ok, runinNamet_done, by decide, ?_⟩
      intro q hq
      simp only [List.mem_cons, List.not_mem_nil, or_false] at hq
      rcases hq with rfl | rfl
      · show (_ : Value) = _; kernel_rfl
      · show (_ : Int) = _; kernel_rfl
  · skip
    intro q hq
    simp only [List.mem_cons, List.not_mem_nil, or_false] at hq
    rcases hq with rfl | rfl | rfl
    · show (_ : Value) = _; kernel_rfl
    · show (_ : Int) = _; kernel_rfl
    · show (_ : Int) = _; kernel_rfl
theorem run_inName (s : ByteArray) (w : World) (hn : s.size ≤ 1000000000000) : Calls Tryd.prog 29 #[(.string s), .func (.func 30) #[] #[]] w fun e w' => e = .returned (.int .i64 (((runL nameB s : Nat) : Int))) ∧ Below w.heap.size w w' := by
  rcases least_fail (fun i => nameB (bt s i)) s.size with h | ⟨K, h1, h2, h3⟩
  · rw [runL_all h]
    exact run_know (P := Tryd.prog) (ρ := env [(s.size : Int)] [(.string s)] w) (o := { loops := [(29, [false, true, false, true], runinNametA, runinNameHA, .exit 0, runinNametF_done, runinNameHF_done)], lens := [(true, oq 0, .int .i64 (sn 0))] }) ⟨all_nil, all_nil, all_nil, all_nil, all_nil, all_nil, all_nil, all_nil, all_nil, (all_cons (runinName_loop_done s w hn h) all_nil), (all_cons (slenOK (i := 0) (r := (sn 0)) rfl (by kernel_rfl)) all_nil), all_nil, all_nil, all_nil, all_nil, all_nil, all_nil⟩ 1000 50 29 [oq 0, .func (.func 30) #[] #[]] (sy 0) (args' := #[(.string s), .func (.func 30) #[] #[]]) (v' := .int .i64 (s.size : Int)) (by kernel_rfl) (by kernel_rfl) (by kernel_rfl) w (Below.refl _ _)
  · rw [runL_fail h1 h2 h3]
    exact run_know (P := Tryd.prog) (ρ := env [(s.size : Int), (K : Int)] [(.string s)] w) (o := { loops := [(29, [false, true, false, true], runinNametA, runinNameHA, .ret, runinNametF_stop, runinNameHF_stop)], lens := [(true, oq 0, .int .i64 (sn 0))] }) ⟨all_nil, all_nil, all_nil, all_nil, all_nil, all_nil, all_nil, all_nil, all_nil, (all_cons (runinName_loop_stop s w hn K h1 h2 h3) all_nil), (all_cons (slenOK (i := 0) (r := (sn 0)) rfl (by kernel_rfl)) all_nil), all_nil, all_nil, all_nil, all_nil, all_nil, all_nil⟩ 1000 50 29 [oq 0, .func (.func 30) #[] #[]] (sy 1) (args' := #[(.string s), .func (.func 30) #[] #[]]) (v' := .int .i64 (K : Int)) (by kernel_rfl) (by kernel_rfl) (by kernel_rfl) w (Below.refl _ _)
def runinLabelt0 : Tm := [[oq 0, .func (.func 33) #[] #[], undef, undef, .int .i64 0, anyV, oq 0, sy 0, sy 1, anyV, anyV, anyV, anyV, anyV, anyV, anyV], [anyV, undef, anyV, undef, undef]]
def runinLabelH0 : Heap := []
def runinLabeltA : Tm := [[oq 0, .func (.func 33) #[] #[], undef, undef, .int .i64 0, undef, oq 0, sy 0, .int .i64 0, undef, undef, undef, undef, undef, undef, undef], [undef, undef, undef, undef, undef]]
def runinLabelHA : Heap := []
def runinLabelo_next : Orc := { bin := [(.lss, 3, .int .i64 (sn 1), .int .i64 (sn 0), .bool true), (.add, 3, .int .i64 (sn 1), .int .i64 1, .int .i64 (sn 3))], calls := [(33, [syk .u8 2], .bool true)], idx := [(9, oq 0, .int .i64 (sn 1), .int .u8 (sn 2))] }
def runinLabelo_stop : Orc := { bin := [(.lss, 3, .int .i64 (sn 1), .int .i64 (sn 0), .bool true)], calls := [(33, [syk .u8 2], .bool false)], idx := [(9, oq 0, .int .i64 (sn 1), .int .u8 (sn 2))] }
def runinLabelo_done : Orc := { bin := [(.lss, 3, .int .i64 (sn 1), .int .i64 (sn 0), .bool false)] }
noncomputable def runinLabelE (s : ByteArray) (w : World) (i : Nat) : Env := env [(s.size : Int), (i : Int), (bt s i), ((i : Int) + 1)] [(.string s)] w
theorem runinLabelt_next : stepT Tryd.prog [] (evBody Tryd.prog runinLabelo_next 1000 50 29 [false, true, false, true] runinLabelt0 runinLabelH0) .normal runinLabelt0 runinLabelH0 [.val 0 0, .num 1180591620717411303424 1180591620717411303424, .num 1180591620717411303427 1180591620717411303425] = true := by decide +kernel
def runinLabeltF_stop : Tm := [[oq 0, .func (.func 33) #[] #[], anyV, anyV, sy 1, sy 1, oq 0, sy 0, sy 1, .bool true, sy 1, .func (.func 33) #[] #[], oq 0, sy 1, anyV, .bool false], [.bool true, sy 1, anyV, anyV, anyV]]
def runinLabelHF_stop : Heap := []
theorem runinLabelt_stop : stepT Tryd.prog [] (evBody Tryd.prog runinLabelo_stop 1000 50 29 [false, true, false, true] runinLabelt0 runinLabelH0) (.ret) runinLabeltF_stop runinLabelHF_stop [.val 0 0, .num 1180591620717411303425 1180591620717411303425, .num 1180591620717411303424 1180591620717411303424] = true := by decide +kernel
def runinLabeltF_done : Tm := [[oq 0, .func (.func 33) #[] #[], anyV, anyV, .int .i64 0, anyV, oq 0, sy 0, anyV, .bool false, anyV, anyV, anyV, anyV, anyV, anyV], [anyV, anyV, anyV, anyV, anyV]]
def runinLabelHF_done : Heap := []
theorem runinLabelt_done : stepT Tryd.prog [] (evBody Tryd.prog runinLabelo_done 1000 50 29 [false, true, false, true] runinLabelt0 runinLabelH0) (.exit 0) runinLabeltF_done runinLabelHF_done [.val 0 0, .num 1180591620717411303424 1180591620717411303424] = true := by decide +kernel
theorem runinLabelk_next (s : ByteArray) (w : World) (i : Nat) (hn : s.size ≤ 1000000000000) (hlt : i < s.size) (hq : labB (bt s i) = true) : Know (runinLabelE s  w  i) Tryd.prog runinLabelo_next := by
  have hib : bd 0 1000000000000000 (i : Int) := ⟨by omega, by omega⟩
  have bq0 : bd 1 1000000000000001 (((i : Int) + 1)) := bd_add hib (bd_lit (l := 1) (h := 1) rfl) rfl
  exact ⟨(all_cons (cmpOK (op := .lss) (ty := 3) (k := .i64) (n := (sn 1)) (m := (sn 0)) (t := true) (a := (i : Int)) (b := (s.size : Int)) (by kernel_rfl) (by kernel_rfl) (congrArg some ((lt_of_le (show decide ((s.size : Int) ≤ (i : Int)) = false from (by simp only [decide_eq_false_iff_not]; omega)))))) (all_cons (arOK (op := .add) (ty := 3) (k := .i64) (n := (sn 1)) (m := 1) (r := (sn 3)) (a := (i : Int)) (b := 1) (c := (((i : Int) + 1))) (d := (i : Int) + 1) (by kernel_rfl) (by kernel_rfl) (by kernel_rfl) rfl (wr_bd bq0 rfl)) all_nil)), all_nil, all_nil, all_nil, (all_cons (callOK (f := 33) (args := [syk .u8 2]) (v := .bool true) (args' := #[.int .u8 (bt s i)]) (v' := .bool true) (by kernel_rfl) (by kernel_rfl) (by kernel_rfl) (fun w => by have := inLabel_any (bt s i) w (bt_bd s i); rw [hq] at this; exact this)) all_nil), all_nil, all_nil, (all_cons (sidxOK (i := 0) (j := (sn 1)) (r := (sn 2)) (k := i) rfl (by kernel_rfl) (by kernel_rfl) (by omega) (by kernel_rfl)) all_nil), all_nil, all_nil, all_nil, all_nil, all_nil, all_nil, all_nil, all_nil, all_nil⟩
theorem runinLabelk_stop (s : ByteArray) (w : World) (i : Nat) (hn : s.size ≤ 1000000000000) (hlt : i < s.size) (hq : labB (bt s i) = false) : Know (runinLabelE s  w  i) Tryd.prog runinLabelo_stop := by
  have hib : bd 0 1000000000000000 (i : Int) := ⟨by omega, by omega⟩
  exact ⟨(all_cons (cmpOK (op := .lss) (ty := 3) (k := .i64) (n := (sn 1)) (m := (sn 0)) (t := true) (a := (i : Int)) (b := (s.size : Int)) (by kernel_rfl) (by kernel_rfl) (congrArg some ((lt_of_le (show decide ((s.size : Int) ≤ (i : Int)) = false from (by simp only [decide_eq_false_iff_not]; omega)))))) all_nil), all_nil, all_nil, all_nil, (all_cons (callOK (f := 33) (args := [syk .u8 2]) (v := .bool false) (args' := #[.int .u8 (bt s i)]) (v' := .bool false) (by kernel_rfl) (by kernel_rfl) (by kernel_rfl) (fun w => by have := inLabel_any (bt s i) w (bt_bd s i); rw [hq] at this; exact this)) all_nil), all_nil, all_nil, (all_cons (sidxOK (i := 0) (j := (sn 1)) (r := (sn 2)) (k := i) rfl (by kernel_rfl) (by kernel_rfl) (by omega) (by kernel_rfl)) all_nil), all_nil, all_nil, all_nil, all_nil, all_nil, all_nil, all_nil, all_nil, all_nil⟩
theorem runinLabelk_done (s : ByteArray) (w : World) (i : Nat) (hn : s.size ≤ 1000000000000) (hge : i = s.size) : Know (runinLabelE s  w  i) Tryd.prog runinLabelo_done := by
  have hib : bd 0 1000000000000000 (i : Int) := ⟨by omega, by omega⟩
  exact ⟨(all_cons (cmpOK (op := .lss) (ty := 3) (k := .i64) (n := (sn 1)) (m := (sn 0)) (t := false) (a := (i : Int)) (b := (s.size : Int)) (by kernel_rfl) (by kernel_rfl) (congrArg some ((lt_of_le (show decide ((s.size : Int) ≤ (i : Int)) = true from (by simp only [decide_eq_true_eq]; omega)))))) all_nil), all_nil, all_nil, all_nil, all_nil, all_nil, all_nil, all_nil, all_nil, all_nil, all_nil, all_nil, all_nil, all_nil, all_nil, all_nil, all_nil⟩
theorem runinLabel_loop_stop (s : ByteArray) (w : World) (hn : s.size ≤ 1000000000000) (K : Nat) (hK : K < s.size) (hq : labB (bt s K) = false) (hall : ∀ i, i < K → labB (bt s i) = true) : LoopE (env [(s.size : Int), (K : Int)] [(.string s)] w) Tryd.prog (29, [false, true, false, true], runinLabeltA, runinLabelHA, .ret, runinLabeltF_stop, runinLabelHF_stop) := by
  refine loop_rule (σ := { st : Nat // st ≤ K }) (fun st => runinLabelE s  w  st.1) (fun _ => rfl) (fun st => K - st.1) (fun _ => runinLabelt0) (fun _ => runinLabelH0) rfl (fun _ => by decide) (by decide) ?_ ⟨0, Nat.zero_le _⟩ [.val 0 0, .num 1180591620717411303424 1180591620717411303424, .num 0 1180591620717411303425] [] (by decide +kernel) (by decide) ?_
  · rintro ⟨i, hi⟩
    rcases Nat.lt_or_ge i (K) with h | h
    · refine .inl ?_
      refine ⟨runinLabelo_next, 1000, 50, _, [], ⟨i + 1, h⟩, (runinLabelk_next s  w  i hn (by omega) (hall i h)).ok, runinLabelt_next, by decide, ?_, by show K - (i + 1) < K - i; omega⟩
      intro q hq
      simp only [List.mem_cons, List.not_mem_nil, or_false] at hq
      rcases hq with rfl | rfl | rfl
      · show (_ : Value) = _; kernel_rfl
      · show (_ : Int) = _; kernel_rfl
      · show (((i : Int) + 1) : Int) = (((i + 1 : Nat)) : Int); first | rfl | (omega)
    · have hE : K = i := by omega
      subst hE
      refine .inr ⟨runinLabelo_stop, 1000, 50, _, [], (runinLabelk_stop s  w  K hn hK hq).ok, runinLabelt_stop, by decide, ?_⟩
      intro q hq
      simp only [List.mem_cons, List.not_mem_nil, or_false] at hq
      rcases hq with rfl | rfl | rfl
      · show (_ : Value) = _; kernel_rfl
      · show (_ : Int) = _; kernel_rfl
      · show (_ : Int) = _; kernel_rfl
  · skip
    intro q hq
    simp only [List.mem_cons, List.not_mem_nil, or_false] at hq
    rcases hq with rfl | rfl | rfl
    · show (_ : Value) = _; kernel_rfl
    · show (_ : Int) = _; kernel_rfl
    · show (_ : Int) = _; kernel_rfl
theorem runinLabel_loop_done (s : ByteArray) (w : World) (hn : s.size ≤ 1000000000000) (hall : ∀ i, i < s.size → labB (bt s i) = true) : LoopE (env [(s.size : Int)] [(.string s)] w) Tryd.prog (29, [false, true, false, true], runinLabeltA, runinLabelHA, .exit 0, runinLabeltF_done, runinLabelHF_done) := by
  refine loop_rule (σ := { st : Nat // st ≤ s.size }) (fun st => runinLabelE s  w  st.1) (fun _ => rfl) (fun st => s.size - st.1) (fun _ => runinLabelt0) (fun _ => runinLabelH0) rfl (fun _ => by decide) (by decide) ?_ ⟨0, Nat.zero_le _⟩ [.val 0 0, .num 1180591620717411303424 1180591620717411303424, .num 0 1180591620717411303425] [] (by decide +kernel) (by decide) ?_
  · rintro ⟨i, hi⟩
    rcases Nat.lt_or_ge i (s.size) with h | h
    · refine .inl ?_
      refine ⟨runinLabelo_next, 1000, 50, _, [], ⟨i + 1, h⟩, (runinLabelk_next s  w  i hn h (hall i h)).ok, runinLabelt_next, by decide, ?_, by show s.size - (i + 1) < s.size - i; omega⟩
      intro q hq
      simp only [List.mem_cons, List.not_mem_nil, or_false] at hq
      rcases hq with rfl | rfl | rfl
      · show (_ : Value) = _; kernel_rfl
      · show (_ : Int) = _; kernel_rfl
      · show (((i : Int) + 1) : Int) = (((i + 1 : Nat)) : Int); first | rfl | (omega)
    · have hE : s.size = i := by omega
      subst hE
      refine .inr ⟨runinLabelo_done, 1000, 50, _, [], (runinLabelk_done s  w  s.size hn rfl).ok, runinLabelt_done, by decide, ?_⟩
      intro q hq
      simp only [List.mem_cons, List.not_mem_nil, or_false] at hq
      rcases hq with rfl | rfl
      · show (_ : Value) = _; kernel_rfl
      · show (_ : Int) = _; kernel_rfl
  · skip
    intro q hq
    simp only [List.mem_cons, List.not_mem_nil, or_false] at hq
    rcases hq with rfl | rfl | rfl
    · show (_ : Value) = _; kernel_rfl
    · show (_ : Int) = _; kernel_rfl
    · show (_ : Int) = _; kernel_rfl
theorem run_inLabel (s : ByteArray) (w : World) (hn : s.size ≤ 1000000000000) : Calls Tryd.prog 29 #[(.string s), .func (.func 33) #[] #[]] w fun e w' => e = .returned (.int .i64 (((runL labB s : Nat) : Int))) ∧ Below w.heap.size w w' := by
  rcases least_fail (fun i => labB (bt s i)) s.size with h | ⟨K, h1, h2, h3⟩
  · rw [runL_all h]
    exact run_know (P := Tryd.prog) (ρ := env [(s.size : Int)] [(.string s)] w) (o := { loops := [(29, [false, true, false, true], runinLabeltA, runinLabelHA, .exit 0, runinLabeltF_done, runinLabelHF_done)], lens := [(true, oq 0, .int .i64 (sn 0))] }) ⟨all_nil, all_nil, all_nil, all_nil, all_nil, all_nil, all_nil, all_nil, all_nil, (all_cons (runinLabel_loop_done s w hn h) all_nil), (all_cons (slenOK (i := 0) (r := (sn 0)) rfl (by kernel_rfl)) all_nil), all_nil, all_nil, all_nil, all_nil, all_nil, all_nil⟩ 1000 50 29 [oq 0, .func (.func 33) #[] #[]] (sy 0) (args' := #[(.string s), .func (.func 33) #[] #[]]) (v' := .int .i64 (s.size : Int)) (by kernel_rfl) (by kernel_rfl) (by kernel_rfl) w (Below.refl _ _)
  · rw [runL_fail h1 h2 h3]
    exact run_know (P := Tryd.prog) (ρ := env [(s.size : Int), (K : Int)] [(.string s)] w) (o := { loops := [(29, [false, true, false, true], runinLabeltA, runinLabelHA, .ret, runinLabeltF_stop, runinLabelHF_stop)], lens := [(true, oq 0, .int .i64 (sn 0))] }) ⟨all_nil, all_nil, all_nil, all_nil, all_nil, all_nil, all_nil, all_nil, all_nil, (all_cons (runinLabel_loop_stop s w hn K h1 h2 h3) all_nil), (all_cons (slenOK (i := 0) (r := (sn 0)) rfl (by kernel_rfl)) all_nil), all_nil, all_nil, all_nil, all_nil, all_nil, all_nil⟩ 1000 50 29 [oq 0, .func (.func 33) #[] #[]] (sy 1) (args' := #[(.string s), .func (.func 33) #[] #[]]) (v' := .int .i64 (K : Int)) (by kernel_rfl) (by kernel_rfl) (by kernel_rfl) w (Below.refl _ _)
def runinWordt0 : Tm := [[oq 0, .func (.func 37) #[] #[], undef, undef, .int .i64 0, anyV, oq 0, sy 0, sy 1, anyV, anyV, anyV, anyV, anyV, anyV, anyV], [anyV, undef, anyV, undef, undef]]
def runinWordH0 : Heap := []
def runinWordtA : Tm := [[oq 0, .func (.func 37) #[] #[], undef, undef, .int .i64 0, undef, oq 0, sy 0, .int .i64 0, undef, undef, undef, undef, undef, undef, undef], [undef, undef, undef, undef, undef]]
def runinWordHA : Heap := []
def runinWordo_next : Orc := { bin := [(.lss, 3, .int .i64 (sn 1), .int .i64 (sn 0), .bool true), (.add, 3, .int .i64 (sn 1), .int .i64 1, .int .i64 (sn 3))], calls := [(37, [syk .u8 2], .bool true)], idx := [(9, oq 0, .int .i64 (sn 1), .int .u8 (sn 2))] }
def runinWordo_stop : Orc := { bin := [(.lss, 3, .int .i64 (sn 1), .int .i64 (sn 0), .bool true)], calls := [(37, [syk .u8 2], .bool false)], idx := [(9, oq 0, .int .i64 (sn 1), .int .u8 (sn 2))] }
def runinWordo_done : Orc := { bin := [(.lss, 3, .int .i64 (sn 1), .int .i64 (sn 0), .bool false)] }
noncomputable def runinWordE (s : ByteArray) (w : World) (i : Nat) : Env := env [(s.size : Int), (i : Int), (bt s i), ((i : Int) + 1)] [(.string s)] w
theorem runinWordt_next : stepT Tryd.prog [] (evBody Tryd.prog runinWordo_next 1000 50 29 [false, true, false, true] runinWordt0 runinWordH0) .normal runinWordt0 runinWordH0 [.val 0 0, .num 1180591620717411303424 1180591620717411303424, .num 1180591620717411303427 1180591620717411303425] = true := by decide +kernel
def runinWordtF_stop : Tm := [[oq 0, .func (.func 37) #[] #[], anyV, anyV, sy 1, sy 1, oq 0, sy 0, sy 1, .bool true, sy 1, .func (.func 37) #[] #[], oq 0, sy 1, anyV, .bool false], [.bool true, sy 1, anyV, anyV, anyV]]
def runinWordHF_stop : Heap := []
theorem runinWordt_stop : stepT Tryd.prog [] (evBody Tryd.prog runinWordo_stop 1000 50 29 [false, true, false, true] runinWordt0 runinWordH0) (.ret) runinWordtF_stop runinWordHF_stop [.val 0 0, .num 1180591620717411303425 1180591620717411303425, .num 1180591620717411303424 1180591620717411303424] = true := by decide +kernel
def runinWordtF_done : Tm := [[oq 0, .func (.func 37) #[] #[], anyV, anyV, .int .i64 0, anyV, oq 0, sy 0, anyV, .bool false, anyV, anyV, anyV, anyV, anyV, anyV], [anyV, anyV, anyV, anyV, anyV]]
def runinWordHF_done : Heap := []
theorem runinWordt_done : stepT Tryd.prog [] (evBody Tryd.prog runinWordo_done 1000 50 29 [false, true, false, true] runinWordt0 runinWordH0) (.exit 0) runinWordtF_done runinWordHF_done [.val 0 0, .num 1180591620717411303424 1180591620717411303424] = true := by decide +kernel
theorem runinWordk_next (s : ByteArray) (w : World) (i : Nat) (hn : s.size ≤ 1000000000000) (hlt : i < s.size) (hq : wordB (bt s i) = true) : Know (runinWordE s  w  i) Tryd.prog runinWordo_next := by
  have hib : bd 0 1000000000000000 (i : Int) := ⟨by omega, by omega⟩
  have bq0 : bd 1 1000000000000001 (((i : Int) + 1)) := bd_add hib (bd_lit (l := 1) (h := 1) rfl) rfl
  exact ⟨(all_cons (cmpOK (op := .lss) (ty := 3) (k := .i64) (n := (sn 1)) (m := (sn 0)) (t := true) (a := (i : Int)) (b := (s.size : Int)) (by kernel_rfl) (by kernel_rfl) (congrArg some ((lt_of_le (show decide ((s.size : Int) ≤ (i : Int)) = false from (by simp only [decide_eq_false_iff_not]; omega)))))) (all_cons (arOK (op := .add) (ty := 3) (k := .i64) (n := (sn 1)) (m := 1) (r := (sn 3)) (a := (i : Int)) (b := 1) (c := (((i : Int) + 1))) (d := (i : Int) + 1) (by kernel_rfl) (by kernel_rfl) (by kernel_rfl) rfl (wr_bd bq0 rfl)) all_nil)), all_nil, all_nil, all_nil, (all_cons (callOK (f := 37) (args := [syk .u8 2]) (v := .bool true) (args' := #[.int .u8 (bt s i)]) (v' := .bool true) (by kernel_rfl) (by kernel_rfl) (by kernel_rfl) (fun w => by have := inWord_any (bt s i) w (bt_bd s i); rw [hq] at this; exact this)) all_nil), all_nil, all_nil, (all_cons (sidxOK (i := 0) (j := (sn 1)) (r := (sn 2)) (k := i) rfl (by kernel_rfl) (by kernel_rfl) (by omega) (by kernel_rfl)) all_nil), all_nil, all_nil, all_nil, all_nil, all_nil, all_nil, all_nil, all_nil, all_nil⟩
theorem runinWordk_stop (s : ByteArray) (w : World) (i : Nat) (hn : s.size ≤ 1000000000000) (hlt : i < s.size) (hq : wordB (bt s i) = false) : Know (runinWordE s  w  i) Tryd.prog runinWordo_stop := by
  have hib : bd 0 1000000000000000 (i : Int) := ⟨by omega, by omega⟩
  exact ⟨(all_cons (cmpOK (op := .lss) (ty := 3) (k := .i64) (n := (sn 1)) (m := (sn 0)) (t := true) (a := (i : Int)) (b := (s.size : Int)) (by kernel_rfl) (by kernel_rfl) (congrArg some ((lt_of_le (show decide ((s.size : Int) ≤ (i : Int)) = false from (by simp only [decide_eq_false_iff_not]; omega)))))) all_nil), all_nil, all_nil, all_nil, (all_cons (callOK (f := 37) (args := [syk .u8 2]) (v := .bool false) (args' := #[.int .u8 (bt s i)]) (v' := .bool false) (by kernel_rfl) (by kernel_rfl) (by kernel_rfl) (fun w => by have := inWord_any (bt s i) w (bt_bd s i); rw [hq] at this; exact this)) all_nil), all_nil, all_nil, (all_cons (sidxOK (i := 0) (j := (sn 1)) (r := (sn 2)) (k := i) rfl (by kernel_rfl) (by kernel_rfl) (by omega) (by kernel_rfl)) all_nil), all_nil, all_nil, all_nil, all_nil, all_nil, all_nil, all_nil, all_nil, all_nil⟩
theorem runinWordk_done (s : ByteArray) (w : World) (i : Nat) (hn : s.size ≤ 1000000000000) (hge : i = s.size) : Know (runinWordE s  w  i) Tryd.prog runinWordo_done := by
  have hib : bd 0 1000000000000000 (i : Int) := ⟨by omega, by omega⟩
  exact ⟨(all_cons (cmpOK (op := .lss) (ty := 3) (k := .i64) (n := (sn 1)) (m := (sn 0)) (t := false) (a := (i : Int)) (b := (s.size : Int)) (by kernel_rfl) (by kernel_rfl) (congrArg some ((lt_of_le (show decide ((s.size : Int) ≤ (i : Int)) = true from (by simp only [decide_eq_true_eq]; omega)))))) all_nil), all_nil, all_nil, all_nil, all_nil, all_nil, all_nil, all_nil, all_nil, all_nil, all_nil, all_nil, all_nil, all_nil, all_nil, all_nil, all_nil⟩
theorem runinWord_loop_stop (s : ByteArray) (w : World) (hn : s.size ≤ 1000000000000) (K : Nat) (hK : K < s.size) (hq : wordB (bt s K) = false) (hall : ∀ i, i < K → wordB (bt s i) = true) : LoopE (env [(s.size : Int), (K : Int)] [(.string s)] w) Tryd.prog (29, [false, true, false, true], runinWordtA, runinWordHA, .ret, runinWordtF_stop, runinWordHF_stop) := by
  refine loop_rule (σ := { st : Nat // st ≤ K }) (fun st => runinWordE s  w  st.1) (fun _ => rfl) (fun st => K - st.1) (fun _ => runinWordt0) (fun _ => runinWordH0) rfl (fun _ => by decide) (by decide) ?_ ⟨0, Nat.zero_le _⟩ [.val 0 0, .num 1180591620717411303424 1180591620717411303424, .num 0 1180591620717411303425] [] (by decide +kernel) (by decide) ?_
  · rintro ⟨i, hi⟩
    rcases Nat.lt_or_ge i (K) with h | h
    · refine .inl ?_
      refine ⟨runinWordo_next, 1000, 50, _, [], ⟨i + 1, h⟩, (runinWordk_next s  w  i hn (by omega) (hall i h)).ok, runinWordt_next, by decide, ?_, by show K - (i + 1) < K - i; omega⟩
      intro q hq
      simp only [List.mem_cons, List.not_mem_nil, or_false] at hq
      rcases hq with rfl | rfl | rfl
      · show (_ : Value) = _; kernel_rfl
      · show (_ : Int) = _; kernel_rfl
      · show (((i : Int) + 1) : Int) = (((i + 1 : Nat)) : Int); first | rfl | (omega)
    · have hE : K = i := by omega
      subst hE
      refine .inr ⟨runinWordo_stop, 1000, 50, _, [], (runinWordk_stop s  w  K hn hK hq).ok, runinWordt_stop, by decide, ?_⟩
      intro q hq
      simp only [List.mem_cons, List.not_mem_nil, or_false] at hq
      rcases hq with rfl | rfl | rfl
      · show (_ : Value) = _; kernel_rfl
      · show (_ : Int) = _; kernel_rfl
      · show (_ : Int) = _; kernel_rfl
  · skip
    intro q hq
    simp only [List.mem_cons, List.not_mem_nil, or_false] at hq
    rcases hq with rfl | rfl | rfl
    · show (_ : Value) = _; kernel_rfl
    · show (_ : Int) = _; kernel_rfl
    · show (_ : Int) = _; kernel_rfl
theorem runinWord_loop_done (s : ByteArray) (w : World) (hn : s.size ≤ 1000000000000) (hall : ∀ i, i < s.size → wordB (bt s i) = true) : LoopE (env [(s.size : Int)] [(.string s)] w) Tryd.prog (29, [false, true, false, true], runinWordtA, runinWordHA, .exit 0, runinWordtF_done, runinWordHF_done) := by
  refine loop_rule (σ := { st : Nat // st ≤ s.size }) (fun st => runinWordE s  w  st.1) (fun _ => rfl) (fun st => s.size - st.1) (fun _ => runinWordt0) (fun _ => runinWordH0) rfl (fun _ => by decide) (by decide) ?_ ⟨0, Nat.zero_le _⟩ [.val 0 0, .num 1180591620717411303424 1180591620717411303424, .num 0 1180591620717411303425] [] (by decide +kernel) (by decide) ?_
  · rintro ⟨i, hi⟩
    rcases Nat.lt_or_ge i (s.size) with h | h
    · refine .inl ?_
      refine ⟨runinWordo_next, 1000, 50, _, [], ⟨i + 1, h⟩, (runinWordk_next s  w  i hn h (hall i h)).ok, runinWordt_next, by decide, ?_, by show s.size - (i + 1) < s.size - i; omega⟩
      intro q hq
      simp only [List.mem_cons, List.not_mem_nil, or_false] at hq
      rcases hq with rfl | rfl | rfl
      · show (_ : Value) = _; kernel_rfl
      · show (_ : Int) = _; kernel_rfl
      · show (((i : Int) + 1) : Int) = (((i + 1 : Nat)) : Int); first | rfl | (omega)
    · have hE : s.size = i := by omega
      subst hE
      refine .inr ⟨runinWordo_done, 1000, 50, _, [], (runinWordk_done s  w  s.size hn rfl).ok, runinWordt_done, by decide, ?_⟩
      intro q hq
      simp only [List.mem_cons, List.not_mem_nil, or_false] at hq
      rcases hq with rfl | rfl
      · show (_ : Value) = _; kernel_rfl
      · show (_ : Int) = _; kernel_rfl
  · skip
    intro q hq
    simp only [List.mem_cons, List.not_mem_nil, or_false] at hq
    rcases hq with rfl | rfl | rfl
    · show (_ : Value) = _; kernel_rfl
    · show (_ : Int) = _; kernel_rfl
    · show (_ : Int) = _; kernel_rfl
theorem run_inWord (s : ByteArray) (w : World) (hn : s.size ≤ 1000000000000) : Calls Tryd.prog 29 #[(.string s), .func (.func 37) #[] #[]] w fun e w' => e = .returned (.int .i64 (((runL wordB s : Nat) : Int))) ∧ Below w.heap.size w w' := by
  rcases least_fail (fun i => wordB (bt s i)) s.size with h | ⟨K, h1, h2, h3⟩
  · rw [runL_all h]
    exact run_know (P := Tryd.prog) (ρ := env [(s.size : Int)] [(.string s)] w) (o := { loops := [(29, [false, true, false, true], runinWordtA, runinWordHA, .exit 0, runinWordtF_done, runinWordHF_done)], lens := [(true, oq 0, .int .i64 (sn 0))] }) ⟨all_nil, all_nil, all_nil, all_nil, all_nil, all_nil, all_nil, all_nil, all_nil, (all_cons (runinWord_loop_done s w hn h) all_nil), (all_cons (slenOK (i := 0) (r := (sn 0)) rfl (by kernel_rfl)) all_nil), all_nil, all_nil, all_nil, all_nil, all_nil, all_nil⟩ 1000 50 29 [oq 0, .func (.func 37) #[] #[]] (sy 0) (args' := #[(.string s), .func (.func 37) #[] #[]]) (v' := .int .i64 (s.size : Int)) (by kernel_rfl) (by kernel_rfl) (by kernel_rfl) w (Below.refl _ _)
  · rw [runL_fail h1 h2 h3]
    exact run_know (P := Tryd.prog) (ρ := env [(s.size : Int), (K : Int)] [(.string s)] w) (o := { loops := [(29, [false, true, false, true], runinWordtA, runinWordHA, .ret, runinWordtF_stop, runinWordHF_stop)], lens := [(true, oq 0, .int .i64 (sn 0))] }) ⟨all_nil, all_nil, all_nil, all_nil, all_nil, all_nil, all_nil, all_nil, all_nil, (all_cons (runinWord_loop_stop s w hn K h1 h2 h3) all_nil), (all_cons (slenOK (i := 0) (r := (sn 0)) rfl (by kernel_rfl)) all_nil), all_nil, all_nil, all_nil, all_nil, all_nil, all_nil⟩ 1000 50 29 [oq 0, .func (.func 37) #[] #[]] (sy 1) (args' := #[(.string s), .func (.func 37) #[] #[]]) (v' := .int .i64 (K : Int)) (by kernel_rfl) (by kernel_rfl) (by kernel_rfl) w (Below.refl _ _)
def rundigitt0 : Tm := [[oq 0, .func (.func 42) #[] #[], undef, undef, .int .i64 0, anyV, oq 0, sy 0, sy 1, anyV, anyV, anyV, anyV, anyV, anyV, anyV], [anyV, undef, anyV, undef, undef]]
def rundigitH0 : Heap := []
def rundigittA : Tm := [[oq 0, .func (.func 42) #[] #[], undef, undef, .int .i64 0, undef, oq 0, sy 0, .int .i64 0, undef, undef, undef, undef, undef, undef, undef], [undef, undef, undef, undef, undef]]
def rundigitHA : Heap := []
def rundigito_next : Orc := { bin := [(.lss, 3, .int .i64 (sn 1), .int .i64 (sn 0), .bool true), (.add, 3, .int .i64 (sn 1), .int .i64 1, .int .i64 (sn 3))], calls := [(42, [syk .u8 2], .bool true)], idx := [(9, oq 0, .int .i64 (sn 1), .int .u8 (sn 2))] }
def rundigito_stop : Orc := { bin := [(.lss, 3, .int .i64 (sn 1), .int .i64 (sn 0), .bool true)], calls := [(42, [syk .u8 2], .bool false)], idx := [(9, oq 0, .int .i64 (sn 1), .int .u8 (sn 2))] }
def rundigito_done : Orc := { bin := [(.lss, 3, .int .i64 (sn 1), .int .i64 (sn 0), .bool false)] }
noncomputable def rundigitE (s : ByteArray) (w : World) (i : Nat) : Env := env [(s.size : Int), (i : Int), (bt s i), ((i : Int) + 1)] [(.string s)] w
theorem rundigitt_next : stepT Tryd.prog [] (evBody Tryd.prog rundigito_next 1000 50 29 [false, true, false, true] rundigitt0 rundigitH0) .normal rundigitt0 rundigitH0 [.val 0 0, .num 1180591620717411303424 1180591620717411303424, .num 1180591620717411303427 1180591620717411303425] = true := by decide +kernel
def rundigittF_stop : Tm := [[oq 0, .func (.func 42) #[] #[], anyV, anyV, sy 1, sy 1, oq 0, sy 0, sy 1, .bool true, sy 1, .func (.func 42) #[] #[], oq 0, sy 1, anyV, .bool false], [.bool true, sy 1, anyV, anyV, anyV]]
def rundigitHF_stop : Heap := []
theorem rundigitt_stop : stepT Tryd.prog [] (evBody Tryd.prog rundigito_stop 1000 50 29 [false, true, false, true] rundigitt0 rundigitH0) (.ret) rundigittF_stop rundigitHF_stop [.val 0 0, .num 1180591620717411303425 1180591620717411303425, .num 1180591620717411303424 1180591620717411303424] = true := by decide +kernel
def rundigittF_done : Tm := [[oq 0, .func (.func 42) #[] #[], anyV, anyV, .int .i64 0, anyV, oq 0, sy 0, anyV, .bool false, anyV, anyV, anyV, anyV, anyV, anyV], [anyV, anyV, anyV, anyV, anyV]]
def rundigitHF_done : Heap := []
theorem rundigitt_done : stepT Tryd.prog [] (evBody Tryd.prog rundigito_done 1000 50 29 [false, true, false, true] rundigitt0 rundigitH0) (.exit 0) rundigittF_done rundigitHF_done [.val 0 0, .num 1180591620717411303424 1180591620717411303424] = true := by decide +kernel
theorem rundigitk_next (s : ByteArray) (w : World) (i : Nat) (hn : s.size ≤ 1000000000000) (hlt : i < s.size) (hq : digitB (bt s i) = true) : Know (rundigitE s  w  i) Tryd.prog rundigito_next := by
  have hib : bd 0 1000000000000000 (i : Int) := ⟨by omega, by omega⟩
  have bq0 : bd 1 1000000000000001 (((i : Int) + 1)) := bd_add hib (bd_lit (l := 1) (h := 1) rfl) rfl
  exact ⟨(all_cons (cmpOK (op := .lss) (ty := 3) (k := .i64) (n := (sn 1)) (m := (sn 0)) (t := true) (a := (i : Int)) (b := (s.size : Int)) (by kernel_rfl) (by kernel_rfl) (congrArg some ((lt_of_le (show decide ((s.size : Int) ≤ (i : Int)) = false from (by simp only [decide_eq_false_iff_not]; omega)))))) (all_cons (arOK (op := .add) (ty := 3) (k := .i64) (n := (sn 1)) (m := 1) (r := (sn 3)) (a := (i : Int)) (b := 1) (c := (((i : Int) + 1))) (d := (i : Int) + 1) (by kernel_rfl) (by kernel_rfl) (by kernel_rfl) rfl (wr_bd bq0 rfl)) all_nil)), all_nil, all_nil, all_nil, (all_cons (callOK (f := 42) (args := [syk .u8 2]) (v := .bool true) (args' := #[.int .u8 (bt s i)]) (v' := .bool true) (by kernel_rfl) (by kernel_rfl) (by kernel_rfl) (fun w => by have := digit_any (bt s i) w (bt_bd s i); rw [hq] at this; exact this)) all_nil), all_nil, all_nil, (all_cons (sidxOK (i := 0) (j := (sn 1)) (r := (sn 2)) (k := i) rfl (by kernel_rfl) (by kernel_rfl) (by omega) (by kernel_rfl)) all_nil), all_nil, all_nil, all_nil, all_nil, all_nil, all_nil, all_nil, all_nil, all_nil⟩
theorem rundigitk_stop (s : ByteArray) (w : World) (i : Nat) (hn : s.size ≤ 1000000000000) (hlt : i < s.size) (hq : digitB (bt s i) = false) : Know (rundigitE s  w  i) Tryd.prog rundigito_stop := by
  have hib : bd 0 1000000000000000 (i : Int) := ⟨by omega, by omega⟩
  exact ⟨(all_cons (cmpOK (op := .lss) (ty := 3) (k := .i64) (n := (sn 1)) (m := (sn 0)) (t := true) (a := (i : Int)) (b := (s.size : Int)) (by kernel_rfl) (by kernel_rfl) (congrArg some ((lt_of_le (show decide ((s.size : Int) ≤ (i : Int)) = false from (by simp only [decide_eq_false_iff_not]; omega)))))) all_nil), all_nil, all_nil, all_nil, (all_cons (callOK (f := 42) (args := [syk .u8 2]) (v := .bool false) (args' := #[.int .u8 (bt s i)]) (v' := .bool false) (by kernel_rfl) (by kernel_rfl) (by kernel_rfl) (fun w => by have := digit_any (bt s i) w (bt_bd s i); rw [hq] at this; exact this)) all_nil), all_nil, all_nil, (all_cons (sidxOK (i := 0) (j := (sn 1)) (r := (sn 2)) (k := i) rfl (by kernel_rfl) (by kernel_rfl) (by omega) (by kernel_rfl)) all_nil), all_nil, all_nil, all_nil, all_nil, all_nil, all_nil, all_nil, all_nil, all_nil⟩
theorem rundigitk_done (s : ByteArray) (w : World) (i : Nat) (hn : s.size ≤ 1000000000000) (hge : i = s.size) : Know (rundigitE s  w  i) Tryd.prog rundigito_done := by
  have hib : bd 0 1000000000000000 (i : Int) := ⟨by omega, by omega⟩
  exact ⟨(all_cons (cmpOK (op := .lss) (ty := 3) (k := .i64) (n := (sn 1)) (m := (sn 0)) (t := false) (a := (i : Int)) (b := (s.size : Int)) (by kernel_rfl) (by kernel_rfl) (congrArg some ((lt_of_le (show decide ((s.size : Int) ≤ (i : Int)) = true from (by simp only [decide_eq_true_eq]; omega)))))) all_nil), all_nil, all_nil, all_nil, all_nil, all_nil, all_nil, all_nil, all_nil, all_nil, all_nil, all_nil, all_nil, all_nil, all_nil, all_nil, all_nil⟩
theorem rundigit_loop_stop (s : ByteArray) (w : World) (hn : s.size ≤ 1000000000000) (K : Nat) (hK : K < s.size) (hq : digitB (bt s K) = false) (hall : ∀ i, i < K → digitB (bt s i) = true) : LoopE (env [(s.size : Int), (K : Int)] [(.string s)] w) Tryd.prog (29, [false, true, false, true], rundigittA, rundigitHA, .ret, rundigittF_stop, rundigitHF_stop) := by
  refine loop_rule (σ := { st : Nat // st ≤ K }) (fun st => rundigitE s  w  st.1) (fun _ => rfl) (fun st => K - st.1) (fun _ => rundigitt0) (fun _ => rundigitH0) rfl (fun _ => by decide) (by decide) ?_ ⟨0, Nat.zero_le _⟩ [.val 0 0, .num 1180591620717411303424 1180591620717411303424, .num 0 1180591620717411303425] [] (by decide +kernel) (by decide) ?_
  · rintro ⟨i, hi⟩
    rcases Nat.lt_or_ge i (K) with h | h
    · refine .inl ?_
      refine ⟨rundigito_next, 1000, 50, _, [], ⟨i + 1, h⟩, (rundigitk_next s  w  i hn (by omega) (hall i h)).ok, rundigitt_next, by decide, ?_, by show K - (i + 1) < K - i; omega⟩
      intro q hq
      simp only [List.mem_cons, List.not_mem_nil, or_false] at hq
      rcases hq with rfl | rfl | rfl
      · show (_ : Value) = _; kernel_rfl
      · show (_ : Int) = _; kernel_rfl
      · show (((i : Int) + 1) : Int) = (((i + 1 : Nat)) : Int); first | rfl | (omega)
    · have hE : K = i := by omega
      subst hE
      refine .inr ⟨rundigito_stop, 1000, 50, _, [], (rundigitk_stop s  w  K hn hK hq).ok, rundigitt_stop, by decide, ?_⟩
      intro q hq
      simp only [List.mem_cons, List.not_mem_nil, or_false] at hq
      rcases hq with rfl | rfl | rfl
      · show (_ : Value) = _; kernel_rfl
      · show (_ : Int) = _; kernel_rfl
      · show (_ : Int) = _; kernel_rfl
  · skip
    intro q hq
    simp only [List.mem_cons, List.not_mem_nil, or_false] at hq
    rcases hq with rfl | rfl | rfl
    · show (_ : Value) = _; kernel_rfl
    · show (_ : Int) = _; kernel_rfl
    · show (_ : Int) = _; kernel_rfl
theorem rundigit_loop_done (s : ByteArray) (w : World) (hn : s.size ≤ 1000000000000) (hall : ∀ i, i < s.size → digitB (bt s i) = true) : LoopE (env [(s.size : Int)] [(.string s)] w) Tryd.prog (29, [false, true, false, true], rundigittA, rundigitHA, .exit 0, rundigittF_done, rundigitHF_done) := by
  refine loop_rule (σ := { st : Nat // st ≤ s.size }) (fun st => rundigitE s  w  st.1) (fun _ => rfl) (fun st => s.size - st.1) (fun _ => rundigitt0) (fun _ => rundigitH0) rfl (fun _ => by decide) (by decide) ?_ ⟨0, Nat.zero_le _⟩ [.val 0 0, .num 1180591620717411303424 1180591620717411303424, .num 0 1180591620717411303425] [] (by decide +kernel) (by decide) ?_
  · rintro ⟨i, hi⟩
    rcases Nat.lt_or_ge i (s.size) with h | h
    · refine .inl ?_
      refine ⟨rundigito_next, 1000, 50, _, [], ⟨i + 1, h⟩, (rundigitk_next s  w  i hn h (hall i h)).ok, rundigitt_next, by decide, ?_, by show s.size - (i + 1) < s.size - i; omega⟩
      intro q hq
      simp only [List.mem_cons, List.not_mem_nil, or_false] at hq
      rcases hq with rfl | rfl | rfl
      · show (_ : Value) = _; kernel_rfl
      · show (_ : Int) = _; kernel_rfl
      · show (((i : Int) + 1) : Int) = (((i + 1 : Nat)) : Int); first | rfl | (omega)
    · have hE : s.size = i := by omega
      subst hE
      refine .inr ⟨rundigito_done, 1000, 50, _, [], (rundigitk_done s  w  s.size hn rfl).ok, rundigitt_done, by decide, ?_⟩
      intro q hq
      simp only [List.mem_cons, List.not_mem_nil, or_false] at hq
      rcases hq with rfl | rfl
      · show (_ : Value) = _; kernel_rfl
      · show (_ : Int) = _; kernel_rfl
  · skip
    intro q hq
    simp only [List.mem_cons, List.not_mem_nil, or_false] at hq
    rcases hq with rfl | rfl | rfl
    · show (_ : Value) = _; kernel_rfl
    · show (_ : Int) = _; kernel_rfl
    · show (_ : Int) = _; kernel_rfl
theorem run_digit (s : ByteArray) (w : World) (hn : s.size ≤ 1000000000000) : Calls Tryd.prog 29 #[(.string s), .func (.func 42) #[] #[]] w fun e w' => e = .returned (.int .i64 (((runL digitB s : Nat) : Int))) ∧ Below w.heap.size w w' := by
  rcases least_fail (fun i => digitB (bt s i)) s.size with h | ⟨K, h1, h2, h3⟩
  · rw [runL_all h]
    exact run_know (P := Tryd.prog) (ρ := env [(s.size : Int)] [(.string s)] w) (o := { loops := [(29, [false, true, false, true], rundigittA, rundigitHA, .exit 0, rundigittF_done, rundigitHF_done)], lens := [(true, oq 0, .int .i64 (sn 0))] }) ⟨all_nil, all_nil, all_nil, all_nil, all_nil, all_nil, all_nil, all_nil, all_nil, (all_cons (rundigit_loop_done s w hn h) all_nil), (all_cons (slenOK (i := 0) (r := (sn 0)) rfl (by kernel_rfl)) all_nil), all_nil, all_nil, all_nil, all_nil, all_nil, all_nil⟩ 1000 50 29 [oq 0, .func (.func 42) #[] #[]] (sy 0) (args' := #[(.string s), .func (.func 42) #[] #[]]) (v' := .int .i64 (s.size : Int)) (by kernel_rfl) (by kernel_rfl) (by kernel_rfl) w (Below.refl _ _)
  · rw [runL_fail h1 h2 h3]
    exact run_know (P := Tryd.prog) (ρ := env [(s.size : Int), (K : Int)] [(.string s)] w) (o := { loops := [(29, [false, true, false, true], rundigittA, rundigitHA, .ret, rundigittF_stop, rundigitHF_stop)], lens := [(true, oq 0, .int .i64 (sn 0))] }) ⟨all_nil, all_nil, all_nil, all_nil, all_nil, all_nil, all_nil, all_nil, all_nil, (all_cons (rundigit_loop_stop s w hn K h1 h2 h3) all_nil), (all_cons (slenOK (i := 0) (r := (sn 0)) rfl (by kernel_rfl)) all_nil), all_nil, all_nil, all_nil, all_nil, all_nil, all_nil⟩ 1000 50 29 [oq 0, .func (.func 42) #[] #[]] (sy 1) (args' := #[(.string s), .func (.func 42) #[] #[]]) (v' := .int .i64 (K : Int)) (by kernel_rfl) (by kernel_rfl) (by kernel_rfl) w (Below.refl _ _)
end Go.Proofs.YtmoppmpnbkemdaaDoor.Ev
