/- polygon: Side's loop. -/
import Derived.Test.YtehgnkgcimdgjaaPo11
namespace Go.Proofs.Ytehgnkgcimdgjaa.Ev
open Go.RowKit
set_option linter.unusedVariables false
set_option linter.unusedSimpArgs false
set_option maxRecDepth 8000
def slt0 : Tm := [[oq 0, .agg #[sy 1, sy 2], undef, .pointer (some ⟨0, 0, none⟩), .int .i64 0, .int .i64 0, .int .i64 0, sy 4, anyV, anyV, anyV, anyV, anyV, oq 0, .agg #[sy 1, sy 2], .slice (some ⟨1, 0, none⟩) 1 1], [.int .i64 0, .int .i64 0, .bool false, undef, oq 0, .bool true, .bool false, oq 0, sy 0, sy 3, anyV, anyV, anyV, anyV, anyV, anyV], [anyV, anyV, anyV, anyV, anyV, anyV, anyV, anyV, anyV, anyV, anyV, anyV, anyV, anyV, anyV, anyV], [undef]]
def slH0 : Heap := [some ⟨[sy 1, sy 2], 31⟩, some ⟨[sy 1, sy 2], 31⟩]
def sltA : Tm := [[oq 0, .agg #[sy 1, sy 2], undef, .pointer (some ⟨0, 0, none⟩), .int .i64 0, .int .i64 0, .int .i64 0, .int .i64 (-1), undef, undef, undef, undef, undef, oq 0, .agg #[sy 1, sy 2], .slice (some ⟨1, 0, none⟩) 1 1], [.int .i64 0, .int .i64 0, .bool false, undef, oq 0, .bool true, .bool false, oq 0, sy 0, .int .i64 0, undef, undef, undef, undef, undef, undef], [undef, undef, undef, undef, undef, undef, undef, undef, undef, undef, undef, undef, undef, undef, undef, undef], [undef]]
def slHA : Heap := [some ⟨[sy 1, sy 2], 31⟩, some ⟨[sy 1, sy 2], 31⟩]
def slo0 : Orc := { bin := [(.lss, 3, .int .i64 (sn 3), .int .i64 (sn 0), .bool true), (.add, 3, .int .i64 (sn 3), .int .i64 1, .int .i64 (sn 10))], calls := [(44, [oq 0, sy 3], .agg #[sy 7, sy 8]), (52, [.agg #[sy 5, sy 6], .agg #[sy 7, sy 8], .agg #[sy 1, sy 2]], .tuple #[.bool false, .int .i64 0]), (53, [.agg #[sy 5, sy 6], .agg #[sy 7, sy 8], .agg #[sy 1, sy 2]], .bool false)], lds := [(31, oq 1, .agg #[sy 5, sy 6])], ixa := [(23, oq 0, .int .i64 (sn 3), oq 1)], lens := [(false, oq 0, .int .i64 (sn 0))] }
def slo1 : Orc := { bin := [(.lss, 3, .int .i64 (sn 3), .int .i64 (sn 0), .bool true), (.add, 3, .int .i64 (sn 3), .int .i64 1, .int .i64 (sn 10))], un := [(.neg, .int .i64 (sn 4), .int .i64 (sn 9))], calls := [(44, [oq 0, sy 3], .agg #[sy 7, sy 8]), (52, [.agg #[sy 5, sy 6], .agg #[sy 7, sy 8], .agg #[sy 1, sy 2]], .tuple #[.bool false, .int .i64 0]), (53, [.agg #[sy 5, sy 6], .agg #[sy 7, sy 8], .agg #[sy 1, sy 2]], .bool true)], lds := [(31, oq 1, .agg #[sy 5, sy 6])], ixa := [(23, oq 0, .int .i64 (sn 3), oq 1)], lens := [(false, oq 0, .int .i64 (sn 0))] }
def slo2 : Orc := { bin := [(.lss, 3, .int .i64 (sn 3), .int .i64 (sn 0), .bool true)], calls := [(44, [oq 0, sy 3], .agg #[sy 7, sy 8]), (52, [.agg #[sy 5, sy 6], .agg #[sy 7, sy 8], .agg #[sy 1, sy 2]], .tuple #[.bool true, .int .i64 0])], lds := [(31, oq 1, .agg #[sy 5, sy 6])], ixa := [(23, oq 0, .int .i64 (sn 3), oq 1)], lens := [(false, oq 0, .int .i64 (sn 0))] }
def slo3 : Orc := { bin := [(.lss, 3, .int .i64 (sn 3), .int .i64 (sn 0), .bool false)], lens := [(false, oq 0, .int .i64 (sn 0))] }
noncomputable def slE (a : Option Addr) (n c : Nat) (X Y : Nat → Int) (ptr : Nat → Addr) (qx qy : Int) (w : World) (i : Nat) : Env := env [(n : Int), qx, qy, (i : Int), (sdN n X Y qx qy i), (X i), (Y i), (X (nx n i)), (Y (nx n i)), (-(sdN n X Y qx qy i)), ((i : Int) + 1)] [(.slice a n c), (.pointer (some (ptr i)))] w
theorem sls0 : stepT Try.prog [0, 1] (evBody Try.prog slo0 1000 50 31 [false, true, false, true, true, true, true] slt0 slH0) .normal slt0 slH0 [.val 0 0, .num 1180591620717411303425 1180591620717411303425, .num 1180591620717411303426 1180591620717411303426, .num 1180591620717411303428 1180591620717411303428, .num 1180591620717411303424 1180591620717411303424, .num 1180591620717411303434 1180591620717411303427] = true := by decide +kernel
theorem sls1 : stepT Try.prog [0, 1] (evBody Try.prog slo1 1000 50 31 [false, true, false, true, true, true, true] slt0 slH0) .normal slt0 slH0 [.val 0 0, .num 1180591620717411303425 1180591620717411303425, .num 1180591620717411303426 1180591620717411303426, .num 1180591620717411303433 1180591620717411303428, .num 1180591620717411303424 1180591620717411303424, .num 1180591620717411303434 1180591620717411303427] = true := by decide +kernel
theorem slk0 (a : Option Addr) (n c : Nat) (X Y : Nat → Int) (ptr : Nat → Addr) (qx qy : Int) (w : World) (i : Nat) (hib : bd 0 1000000000000000 (i : Int)) (hn : bd 0 1000000000000 (n : Int)) (hn0 : n ≤ 1000000000000) (hX : ∀ k, k < n → bd (-1000000) 1000000 (X k) ∧ bd (-1000000) 1000000 (Y k)) (hqx : bd (-1000000) 1000000 qx) (hqy : bd (-1000000) 1000000 qy) (hS : Sl Try.prog w (.slice a n c) n 22 31 (fun k => .agg #[.int .i64 (X k), .int .i64 (Y k)]) ptr) (hP : Sl Try.prog w (.slice a n c) n 23 31 (fun k => .agg #[.int .i64 (X k), .int .i64 (Y k)]) ptr) (h0 : (decide ((n : Int) ≤ (i : Int))) = false) (h1 : (onP n X Y qx qy i) = false) (h2 : (crossP n X Y qx qy i) = false) : Know (slE a n c X Y ptr qx qy w i) Try.prog slo0 := by
  have bq0 : bd 1 1000000000000001 (((i : Int) + 1)) := bd_add hib (bd_lit (l := 1) (h := 1) rfl) rfl
  exact ⟨(all_cons (cmpOK (op := .lss) (ty := 3) (k := .i64) (n := (sn 3)) (m := (sn 0)) (t := true) (a := (i : Int)) (b := (n : Int)) (by kernel_rfl) (by kernel_rfl) (congrArg some ((lt_of_le h0)))) (all_cons (arOK (op := .add) (ty := 3) (k := .i64) (n := (sn 3)) (m := 1) (r := (sn 10)) (a := (i : Int)) (b := 1) (c := (((i : Int) + 1))) (d := (i : Int) + 1) (by kernel_rfl) (by kernel_rfl) (by kernel_rfl) rfl (wr_bd bq0 rfl)) all_nil)), all_nil, all_nil, all_nil, (all_cons (callOKb (f := 44) (args := [oq 0, sy 3]) (v := .agg #[sy 7, sy 8]) (args' := #[(.slice a n c), .int .i64 (i : Int)]) (v' := .agg #[.int .i64 ((X (nx n i))), .int .i64 ((Y (nx n i)))]) (by kernel_rfl) (by kernel_rfl) (by kernel_rfl) (fun w1 hw1 => next_any a n c X Y ptr w1 hn0 (hS.mono hw1) (hP.mono hw1) i (by have g := of_decide_eq_false h0; omega))) (all_cons (callOK (f := 52) (args := [.agg #[sy 5, sy 6], .agg #[sy 7, sy 8], .agg #[sy 1, sy 2]]) (v := .tuple #[.bool false, .int .i64 0]) (args' := #[.agg #[.int .i64 (X i), .int .i64 (Y i)], .agg #[.int .i64 ((X (nx n i))), .int .i64 ((Y (nx n i)))], .agg #[.int .i64 qx, .int .i64 qy]]) (v' := .tuple #[.bool false, .int .i64 0]) (by kernel_rfl) (by kernel_rfl) (by kernel_rfl) (fun w => by have q := vOn_any (X i) (Y i) ((X (nx n i))) ((Y (nx n i))) qx qy w (hX _ (by have g := of_decide_eq_false h0; omega)).1 (hX _ (by have g := of_decide_eq_false h0; omega)).2 (hX _ (nx_lt (by have g := of_decide_eq_false h0; omega))).1 (hX _ (nx_lt (by have g := of_decide_eq_false h0; omega))).2 hqx hqy; rw [show onB (X i) (Y i) ((X (nx n i))) ((Y (nx n i))) qx qy = _ from h1] at q; exact q)) (all_cons (callOK (f := 53) (args := [.agg #[sy 5, sy 6], .agg #[sy 7, sy 8], .agg #[sy 1, sy 2]]) (v := .bool false) (args' := #[.agg #[.int .i64 (X i), .int .i64 (Y i)], .agg #[.int .i64 ((X (nx n i))), .int .i64 ((Y (nx n i)))], .agg #[.int .i64 qx, .int .i64 qy]]) (v' := .bool false) (by kernel_rfl) (by kernel_rfl) (by kernel_rfl) (fun w => by have q := crosses_any (X i) (Y i) ((X (nx n i))) ((Y (nx n i))) qx qy w (hX _ (by have g := of_decide_eq_false h0; omega)).1 (hX _ (by have g := of_decide_eq_false h0; omega)).2 (hX _ (nx_lt (by have g := of_decide_eq_false h0; omega))).1 (hX _ (nx_lt (by have g := of_decide_eq_false h0; omega))).2 hqx hqy; rw [show crossB (X i) (Y i) ((X (nx n i))) ((Y (nx n i))) qx qy = _ from h2] at q; exact q)) all_nil))), (all_cons (sldOK (j := 1) (k := i) (x := .agg #[sy 5, sy 6]) hP rfl (by have g := of_decide_eq_false h0; omega) (by kernel_rfl) (by show inst _ _ = _; kernel_rfl)) all_nil), (all_cons (sixOK (i := 0) (j := 1) (k := i) (r := (sn 3)) hP rfl (by kernel_rfl) rfl (by have g := of_decide_eq_false h0; omega)) all_nil), all_nil, all_nil, all_nil, (all_cons (lenOK (i := 0) (r := (sn 0)) (a := a) (c := c) rfl (by kernel_rfl)) all_nil), all_nil, all_nil, all_nil, all_nil, all_nil, all_nil⟩
theorem slk1 (a : Option Addr) (n c : Nat) (X Y : Nat → Int) (ptr : Nat → Addr) (qx qy : Int) (w : World) (i : Nat) (hib : bd 0 1000000000000000 (i : Int)) (hn : bd 0 1000000000000 (n : Int)) (hn0 : n ≤ 1000000000000) (hX : ∀ k, k < n → bd (-1000000) 1000000 (X k) ∧ bd (-1000000) 1000000 (Y k)) (hqx : bd (-1000000) 1000000 qx) (hqy : bd (-1000000) 1000000 qy) (hS : Sl Try.prog w (.slice a n c) n 22 31 (fun k => .agg #[.int .i64 (X k), .int .i64 (Y k)]) ptr) (hP : Sl Try.prog w (.slice a n c) n 23 31 (fun k => .agg #[.int .i64 (X k), .int .i64 (Y k)]) ptr) (h0 : (decide ((n : Int) ≤ (i : Int))) = false) (h1 : (onP n X Y qx qy i) = false) (h2 : (crossP n X Y qx qy i) = true) : Know (slE a n c X Y ptr qx qy w i) Try.prog slo1 := by
  have bq0 : bd 1 1000000000000001 (((i : Int) + 1)) := bd_add hib (bd_lit (l := 1) (h := 1) rfl) rfl
  exact ⟨(all_cons (cmpOK (op := .lss) (ty := 3) (k := .i64) (n := (sn 3)) (m := (sn 0)) (t := true) (a := (i : Int)) (b := (n : Int)) (by kernel_rfl) (by kernel_rfl) (congrArg some ((lt_of_le h0)))) (all_cons (arOK (op := .add) (ty := 3) (k := .i64) (n := (sn 3)) (m := 1) (r := (sn 10)) (a := (i : Int)) (b := 1) (c := (((i : Int) + 1))) (d := (i : Int) + 1) (by kernel_rfl) (by kernel_rfl) (by kernel_rfl) rfl (wr_bd bq0 rfl)) all_nil)), (all_cons (negOK (k := .i64) (n := (sn 4)) (r := (sn 9)) (a := (sdN n X Y qx qy i)) (c := ((-(sdN n X Y qx qy i)))) (by kernel_rfl) (by kernel_rfl) (by rw [Int.zero_sub]; exact wr_bd (l := -1) (h := 1) (by obtain ⟨g1, g2⟩ := sdN_bd n X Y qx qy i; exact ⟨by omega, by omega⟩) rfl)) all_nil), all_nil, all_nil, (all_cons (callOKb (f := 44) (args := [oq 0, sy 3]) (v := .agg #[sy 7, sy 8]) (args' := #[(.slice a n c), .int .i64 (i : Int)]) (v' := .agg #[.int .i64 ((X (nx n i))), .int .i64 ((Y (nx n i)))]) (by kernel_rfl) (by kernel_rfl) (by kernel_rfl) (fun w1 hw1 => next_any a n c X Y ptr w1 hn0 (hS.mono hw1) (hP.mono hw1) i (by have g := of_decide_eq_false h0; omega))) (all_cons (callOK (f := 52) (args := [.agg #[sy 5, sy 6], .agg #[sy 7, sy 8], .agg #[sy 1, sy 2]]) (v := .tuple #[.bool false, .int .i64 0]) (args' := #[.agg #[.int .i64 (X i), .int .i64 (Y i)], .agg #[.int .i64 ((X (nx n i))), .int .i64 ((Y (nx n i)))], .agg #[.int .i64 qx, .int .i64 qy]]) (v' := .tuple #[.bool false, .int .i64 0]) (by kernel_rfl) (by kernel_rfl) (by kernel_rfl) (fun w => by have q := vOn_any (X i) (Y i) ((X (nx n i))) ((Y (nx n i))) qx qy w (hX _ (by have g := of_decide_eq_false h0; omega)).1 (hX _ (by have g := of_decide_eq_false h0; omega)).2 (hX _ (nx_lt (by have g := of_decide_eq_false h0; omega))).1 (hX _ (nx_lt (by have g := of_decide_eq_false h0; omega))).2 hqx hqy; rw [show onB (X i) (Y i) ((X (nx n i))) ((Y (nx n i))) qx qy = _ from h1] at q; exact q)) (all_cons (callOK (f := 53) (args := [.agg #[sy 5, sy 6], .agg #[sy 7, sy 8], .agg #[sy 1, sy 2]]) (v := .bool true) (args' := #[.agg #[.int .i64 (X i), .int .i64 (Y i)], .agg #[.int .i64 ((X (nx n i))), .int .i64 ((Y (nx n i)))], .agg #[.int .i64 qx, .int .i64 qy]]) (v' := .bool true) (by kernel_rfl) (by kernel_rfl) (by kernel_rfl) (fun w => by have q := crosses_any (X i) (Y i) ((X (nx n i))) ((Y (nx n i))) qx qy w (hX _ (by have g := of_decide_eq_false h0; omega)).1 (hX _ (by have g := of_decide_eq_false h0; omega)).2 (hX _ (nx_lt (by have g := of_decide_eq_false h0; omega))).1 (hX _ (nx_lt (by have g := of_decide_eq_false h0; omega))).2 hqx hqy; rw [show crossB (X i) (Y i) ((X (nx n i))) ((Y (nx n i))) qx qy = _ from h2] at q; exact q)) all_nil))), (all_cons (sldOK (j := 1) (k := i) (x := .agg #[sy 5, sy 6]) hP rfl (by have g := of_decide_eq_false h0; omega) (by kernel_rfl) (by show inst _ _ = _; kernel_rfl)) all_nil), (all_cons (sixOK (i := 0) (j := 1) (k := i) (r := (sn 3)) hP rfl (by kernel_rfl) rfl (by have g := of_decide_eq_false h0; omega)) all_nil), all_nil, all_nil, all_nil, (all_cons (lenOK (i := 0) (r := (sn 0)) (a := a) (c := c) rfl (by kernel_rfl)) all_nil), all_nil, all_nil, all_nil, all_nil, all_nil, all_nil⟩
theorem slk2 (a : Option Addr) (n c : Nat) (X Y : Nat → Int) (ptr : Nat → Addr) (qx qy : Int) (w : World) (i : Nat) (hib : bd 0 1000000000000000 (i : Int)) (hn : bd 0 1000000000000 (n : Int)) (hn0 : n ≤ 1000000000000) (hX : ∀ k, k < n → bd (-1000000) 1000000 (X k) ∧ bd (-1000000) 1000000 (Y k)) (hqx : bd (-1000000) 1000000 qx) (hqy : bd (-1000000) 1000000 qy) (hS : Sl Try.prog w (.slice a n c) n 22 31 (fun k => .agg #[.int .i64 (X k), .int .i64 (Y k)]) ptr) (hP : Sl Try.prog w (.slice a n c) n 23 31 (fun k => .agg #[.int .i64 (X k), .int .i64 (Y k)]) ptr) (h0 : (decide ((n : Int) ≤ (i : Int))) = false) (h1 : (onP n X Y qx qy i) = true) : Know (slE a n c X Y ptr qx qy w i) Try.prog slo2 := by
  exact ⟨(all_cons (cmpOK (op := .lss) (ty := 3) (k := .i64) (n := (sn 3)) (m := (sn 0)) (t := true) (a := (i : Int)) (b := (n : Int)) (by kernel_rfl) (by kernel_rfl) (congrArg some ((lt_of_le h0)))) all_nil), all_nil, all_nil, all_nil, (all_cons (callOKb (f := 44) (args := [oq 0, sy 3]) (v := .agg #[sy 7, sy 8]) (args' := #[(.slice a n c), .int .i64 (i : Int)]) (v' := .agg #[.int .i64 ((X (nx n i))), .int .i64 ((Y (nx n i)))]) (by kernel_rfl) (by kernel_rfl) (by kernel_rfl) (fun w1 hw1 => next_any a n c X Y ptr w1 hn0 (hS.mono hw1) (hP.mono hw1) i (by have g := of_decide_eq_false h0; omega))) (all_cons (callOK (f := 52) (args := [.agg #[sy 5, sy 6], .agg #[sy 7, sy 8], .agg #[sy 1, sy 2]]) (v := .tuple #[.bool true, .int .i64 0]) (args' := #[.agg #[.int .i64 (X i), .int .i64 (Y i)], .agg #[.int .i64 ((X (nx n i))), .int .i64 ((Y (nx n i)))], .agg #[.int .i64 qx, .int .i64 qy]]) (v' := .tuple #[.bool true, .int .i64 0]) (by kernel_rfl) (by kernel_rfl) (by kernel_rfl) (fun w => by have q := vOn_any (X i) (Y i) ((X (nx n i))) ((Y (nx n i))) qx qy w (hX _ (by have g := of_decide_eq_false h0; omega)).1 (hX _ (by have g := of_decide_eq_false h0; omega)).2 (hX _ (nx_lt (by have g := of_decide_eq_false h0; omega))).1 (hX _ (nx_lt (by have g := of_decide_eq_false h0; omega))).2 hqx hqy; rw [show onB (X i) (Y i) ((X (nx n i))) ((Y (nx n i))) qx qy = _ from h1] at q; exact q)) all_nil)), (all_cons (sldOK (j := 1) (k := i) (x := .agg #[sy 5, sy 6]) hP rfl (by have g := of_decide_eq_false h0; omega) (by kernel_rfl) (by show inst _ _ = _; kernel_rfl)) all_nil), (all_cons (sixOK (i := 0) (j := 1) (k := i) (r := (sn 3)) hP rfl (by kernel_rfl) rfl (by have g := of_decide_eq_false h0; omega)) all_nil), all_nil, all_nil, all_nil, (all_cons (lenOK (i := 0) (r := (sn 0)) (a := a) (c := c) rfl (by kernel_rfl)) all_nil), all_nil, all_nil, all_nil, all_nil, all_nil, all_nil⟩
theorem slk3 (a : Option Addr) (n c : Nat) (X Y : Nat → Int) (ptr : Nat → Addr) (qx qy : Int) (w : World) (i : Nat) (hib : bd 0 1000000000000000 (i : Int)) (hn : bd 0 1000000000000 (n : Int)) (hn0 : n ≤ 1000000000000) (hX : ∀ k, k < n → bd (-1000000) 1000000 (X k) ∧ bd (-1000000) 1000000 (Y k)) (hqx : bd (-1000000) 1000000 qx) (hqy : bd (-1000000) 1000000 qy) (hS : Sl Try.prog w (.slice a n c) n 22 31 (fun k => .agg #[.int .i64 (X k), .int .i64 (Y k)]) ptr) (hP : Sl Try.prog w (.slice a n c) n 23 31 (fun k => .agg #[.int .i64 (X k), .int .i64 (Y k)]) ptr) (h0 : (decide ((n : Int) ≤ (i : Int))) = true) : Know (slE a n c X Y ptr qx qy w i) Try.prog slo3 := by
  exact ⟨(all_cons (cmpOK (op := .lss) (ty := 3) (k := .i64) (n := (sn 3)) (m := (sn 0)) (t := false) (a := (i : Int)) (b := (n : Int)) (by kernel_rfl) (by kernel_rfl) (congrArg some ((lt_of_le h0)))) all_nil), all_nil, all_nil, all_nil, all_nil, all_nil, all_nil, all_nil, all_nil, all_nil, (all_cons (lenOK (i := 0) (r := (sn 0)) (a := a) (c := c) rfl (by kernel_rfl)) all_nil), all_nil, all_nil, all_nil, all_nil, all_nil, all_nil⟩
def sltF_on : Tm := [[oq 0, .agg #[sy 1, sy 2], anyV, .pointer (some ⟨0, 0, none⟩), .int .i64 0, .int .i64 0, .int .i64 0, anyV, anyV, anyV, anyV, .bool true, .int .i64 0, oq 0, .agg #[sy 1, sy 2], .slice (some ⟨1, 0, none⟩) 1 1], [.int .i64 0, .int .i64 0, .bool false, anyV, oq 0, .bool true, .bool false, oq 0, sy 0, anyV, .bool true, anyV, anyV, anyV, oq 0, anyV], [anyV, .tuple #[.bool true, .int .i64 0], anyV, anyV, .agg #[sy 1, sy 2], .tuple #[.bool true, .int .i64 0], .bool true, .int .i64 0, .bool true, anyV, anyV, anyV, anyV, anyV, anyV, anyV], [anyV]]
def slHF_on : Heap := [some ⟨[sy 1, sy 2], 31⟩, some ⟨[sy 1, sy 2], 31⟩]
theorem slf2_on : stepT Try.prog [0, 1] (evBody Try.prog slo2 1000 50 31 [false, true, false, true, true, true, true] slt0 slH0) (.ret) sltF_on slHF_on [.val 0 0, .num 1180591620717411303425 1180591620717411303425, .num 1180591620717411303426 1180591620717411303426, .num 1180591620717411303424 1180591620717411303424] = true := by decide +kernel
theorem sl_loop_on (a : Option Addr) (n c : Nat) (X Y : Nat → Int) (ptr : Nat → Addr) (qx qy : Int) (w : World) (hn0 : n ≤ 1000000000000) (hX : ∀ k, k < n → bd (-1000000) 1000000 (X k) ∧ bd (-1000000) 1000000 (Y k)) (hqx : bd (-1000000) 1000000 qx) (hqy : bd (-1000000) 1000000 qy) (hS : Sl Try.prog w (.slice a n c) n 22 31 (fun k => .agg #[.int .i64 (X k), .int .i64 (Y k)]) ptr) (hP : Sl Try.prog w (.slice a n c) n 23 31 (fun k => .agg #[.int .i64 (X k), .int .i64 (Y k)]) ptr) (K : Nat) (hK : K < n) (hq0 : onP n X Y qx qy K = true) (hall : ∀ i, i < K → onP n X Y qx qy i = false) : LoopE (env [(n : Int), qx, qy] [(.slice a n c)] w) Try.prog (31, [false, true, false, true, true, true, true], sltA, slHA, .ret, sltF_on, slHF_on) := by
  refine loop_rule (σ := { st : Nat // st ≤ K }) (fun st => slE a n c X Y ptr qx qy w st.1) (fun _ => rfl) (fun st => K - st.1) (fun _ => slt0) (fun _ => slH0) rfl (fun _ => by decide) (by decide) ?_ ⟨0, Nat.zero_le _⟩ [.val 0 0, .num 1180591620717411303425 1180591620717411303425, .num 1180591620717411303426 1180591620717411303426, .num (-1) 1180591620717411303428, .num 1180591620717411303424 1180591620717411303424, .num 0 1180591620717411303427] [0, 1] (by decide +kernel) (by decide) ?_
  · rintro ⟨i, hi⟩
    rcases Nat.lt_or_ge i (K) with h | h
    · have hib : bd 0 1000000000000000 (i : Int) := ⟨by omega, by omega⟩; have hn : bd 0 1000000000000 (n : Int) := ⟨by omega, by omega⟩; have hq := hall i h; clear hall
      rcases h0 : (decide ((n : Int) ≤ (i : Int))) with _ | _
      · rcases h1 : (onP n X Y qx qy i) with _ | _
        · rcases h2 : (crossP n X Y qx qy i) with _ | _
          · refine .inl ⟨slo0, 1000, 50, _, [0, 1], ⟨i + 1, h⟩, (slk0 a n c X Y ptr qx qy w i hib hn hn0 hX hqx hqy hS hP h0 h1 h2).ok, sls0, by decide, ?_, by show K - (i + 1) < K - i; omega⟩
            intro q hq
            simp only [List.mem_cons, List.not_mem_nil, or_false] at hq
            rcases hq with rfl | rfl | rfl | rfl | rfl | rfl
            · show (_ : Value) = _; kernel_rfl
            · show (_ : Int) = _; kernel_rfl
            · show (_ : Int) = _; kernel_rfl
            · show ((sdN n X Y qx qy i) : Int) = (sdN n X Y qx qy (i + 1)); first | rfl | ((simp [sdN, h2]))
            · show (_ : Int) = _; kernel_rfl
            · show (((i : Int) + 1) : Int) = (((i + 1 : Nat)) : Int); first | rfl | ((simp [sdN, h2]))
          · refine .inl ⟨slo1, 1000, 50, _, [0, 1], ⟨i + 1, h⟩, (slk1 a n c X Y ptr qx qy w i hib hn hn0 hX hqx hqy hS hP h0 h1 h2).ok, sls1, by decide, ?_, by show K - (i + 1) < K - i; omega⟩
            intro q hq
            simp only [List.mem_cons, List.not_mem_nil, or_false] at hq
            rcases hq with rfl | rfl | rfl | rfl | rfl | rfl
            · show (_ : Value) = _; kernel_rfl
            · show (_ : Int) = _; kernel_rfl
            · show (_ : Int) = _; kernel_rfl
            · show ((-(sdN n X Y qx qy i)) : Int) = (sdN n X Y qx qy (i + 1)); first | rfl | ((simp [sdN, h2]))
            · show (_ : Int) = _; kernel_rfl
            · show (((i : Int) + 1) : Int) = (((i + 1 : Nat)) : Int); first | rfl | ((simp [sdN, h2]))
        · exfalso; (first | (have g := of_decide_eq_true h0; omega) | (have g := of_decide_eq_false h0; omega) | (exact absurd (hq.symm.trans h1) (by decide)))
      · exfalso; (first | (have g := of_decide_eq_true h0; omega) | (have g := of_decide_eq_false h0; omega) | (exact absurd (hq.symm.trans h1) (by decide)))
    · have hE : K = i := by omega
      subst hE
      have hib : bd 0 1000000000000000 (K : Int) := ⟨by omega, by omega⟩; have hn : bd 0 1000000000000 (n : Int) := ⟨by omega, by omega⟩; have hq := hq0; clear hall hq0
      rcases h0 : (decide ((n : Int) ≤ (K : Int))) with _ | _
      · rcases h1 : (onP n X Y qx qy K) with _ | _
        · rcases h2 : (crossP n X Y qx qy K) with _ | _
          · exfalso; (first | (have g := of_decide_eq_true h0; omega) | (have g := of_decide_eq_false h0; omega) | (exact absurd (hq.symm.trans h1) (by decide)))
          · exfalso; (first | (have g := of_decide_eq_true h0; omega) | (have g := of_decide_eq_false h0; omega) | (exact absurd (hq.symm.trans h1) (by decide)))
        · refine .inr ⟨slo2, 1000, 50, _, [0, 1], (slk2 a n c X Y ptr qx qy w (K) hib hn hn0 hX hqx hqy hS hP h0 h1).ok, slf2_on, by decide, ?_⟩
          intro q hq
          simp only [List.mem_cons, List.not_mem_nil, or_false] at hq
          rcases hq with rfl | rfl | rfl | rfl
          · show (_ : Value) = _; kernel_rfl
          · show (_ : Int) = _; kernel_rfl
          · show (_ : Int) = _; kernel_rfl
          · show (_ : Int) = _; kernel_rfl
      · exfalso; (first | (have g := of_decide_eq_true h0; omega) | (have g := of_decide_eq_false h0; omega) | (exact absurd (hq.symm.trans h1) (by decide)))
  · skip
    intro q hq
    simp only [List.mem_cons, List.not_mem_nil, or_false] at hq
    rcases hq with rfl | rfl | rfl | rfl | rfl | rfl
    · show (_ : Value) = _; kernel_rfl
    · show (_ : Int) = _; kernel_rfl
    · show (_ : Int) = _; kernel_rfl
    · show ((-1) : Int) = (sdN n X Y qx qy 0); first | rfl | ((simp [sdN, h2]))
    · show (_ : Int) = _; kernel_rfl
    · show (0 : Int) = (0 : Int); first | rfl | ((simp [sdN, h2]))
def sltF_done : Tm := [[oq 0, .agg #[sy 1, sy 2], anyV, .pointer (some ⟨0, 0, none⟩), .int .i64 0, .int .i64 0, .int .i64 0, sy 3, anyV, anyV, anyV, anyV, anyV, oq 0, .agg #[sy 1, sy 2], .slice (some ⟨1, 0, none⟩) 1 1], [.int .i64 0, .int .i64 0, .bool false, anyV, oq 0, .bool true, .bool false, oq 0, sy 0, anyV, .bool false, anyV, anyV, anyV, anyV, anyV], [anyV, anyV, anyV, anyV, anyV, anyV, anyV, anyV, anyV, anyV, anyV, anyV, anyV, anyV, anyV, anyV], [anyV]]
def slHF_done : Heap := [some ⟨[sy 1, sy 2], 31⟩, some ⟨[sy 1, sy 2], 31⟩]
theorem slf3_done : stepT Try.prog [0, 1] (evBody Try.prog slo3 1000 50 31 [false, true, false, true, true, true, true] slt0 slH0) (.exit 0) sltF_done slHF_done [.val 0 0, .num 1180591620717411303425 1180591620717411303425, .num 1180591620717411303426 1180591620717411303426, .num 1180591620717411303428 1180591620717411303427, .num 1180591620717411303424 1180591620717411303424] = true := by decide +kernel
theorem sl_loop_done (a : Option Addr) (n c : Nat) (X Y : Nat → Int) (ptr : Nat → Addr) (qx qy : Int) (w : World) (hn0 : n ≤ 1000000000000) (hX : ∀ k, k < n → bd (-1000000) 1000000 (X k) ∧ bd (-1000000) 1000000 (Y k)) (hqx : bd (-1000000) 1000000 qx) (hqy : bd (-1000000) 1000000 qy) (hS : Sl Try.prog w (.slice a n c) n 22 31 (fun k => .agg #[.int .i64 (X k), .int .i64 (Y k)]) ptr) (hP : Sl Try.prog w (.slice a n c) n 23 31 (fun k => .agg #[.int .i64 (X k), .int .i64 (Y k)]) ptr) (hall : ∀ i, i < n → onP n X Y qx qy i = false) : LoopE (env [(n : Int), qx, qy, (sdN n X Y qx qy n)] [(.slice a n c)] w) Try.prog (31, [false, true, false, true, true, true, true], sltA, slHA, .exit 0, sltF_done, slHF_done) := by
  refine loop_rule (σ := { st : Nat // st ≤ n }) (fun st => slE a n c X Y ptr qx qy w st.1) (fun _ => rfl) (fun st => n - st.1) (fun _ => slt0) (fun _ => slH0) rfl (fun _ => by decide) (by decide) ?_ ⟨0, Nat.zero_le _⟩ [.val 0 0, .num 1180591620717411303425 1180591620717411303425, .num 1180591620717411303426 1180591620717411303426, .num (-1) 1180591620717411303428, .num 1180591620717411303424 1180591620717411303424, .num 0 1180591620717411303427] [0, 1] (by decide +kernel) (by decide) ?_
  · rintro ⟨i, hi⟩
    rcases Nat.lt_or_ge i (n) with h | h
    · have hib : bd 0 1000000000000000 (i : Int) := ⟨by omega, by omega⟩; have hn : bd 0 1000000000000 (n : Int) := ⟨by omega, by omega⟩; have hq := hall i h; clear hall
      rcases h0 : (decide ((n : Int) ≤ (i : Int))) with _ | _
      · rcases h1 : (onP n X Y qx qy i) with _ | _
        · rcases h2 : (crossP n X Y qx qy i) with _ | _
          · refine .inl ⟨slo0, 1000, 50, _, [0, 1], ⟨i + 1, h⟩, (slk0 a n c X Y ptr qx qy w i hib hn hn0 hX hqx hqy hS hP h0 h1 h2).ok, sls0, by decide, ?_, by show n - (i + 1) < n - i; omega⟩
            intro q hq
            simp only [List.mem_cons, List.not_mem_nil, or_false] at hq
            rcases hq with rfl | rfl | rfl | rfl | rfl | rfl
            · show (_ : Value) = _; kernel_rfl
            · show (_ : Int) = _; kernel_rfl
            · show (_ : Int) = _; kernel_rfl
            · show ((sdN n X Y qx qy i) : Int) = (sdN n X Y qx qy (i + 1)); first | rfl | ((simp [sdN, h2]))
            · show (_ : Int) = _; kernel_rfl
            · show (((i : Int) + 1) : Int) = (((i + 1 : Nat)) : Int); first | rfl | ((simp [sdN, h2]))
          · refine .inl ⟨slo1, 1000, 50, _, [0, 1], ⟨i + 1, h⟩, (slk1 a n c X Y ptr qx qy w i hib hn hn0 hX hqx hqy hS hP h0 h1 h2).ok, sls1, by decide, ?_, by show n - (i + 1) < n - i; omega⟩
            intro q hq
            simp only [List.mem_cons, List.not_mem_nil, or_false] at hq
            rcases hq with rfl | rfl | rfl | rfl | rfl | rfl
            · show (_ : Value) = _; kernel_rfl
            · show (_ : Int) = _; kernel_rfl
            · show (_ : Int) = _; kernel_rfl
            · show ((-(sdN n X Y qx qy i)) : Int) = (sdN n X Y qx qy (i + 1)); first | rfl | ((simp [sdN, h2]))
            · show (_ : Int) = _; kernel_rfl
            · show (((i : Int) + 1) : Int) = (((i + 1 : Nat)) : Int); first | rfl | ((simp [sdN, h2]))
        · exfalso; (first | (have g := of_decide_eq_true h0; omega) | (have g := of_decide_eq_false h0; omega) | (exact absurd (hq.symm.trans h1) (by decide)))
      · exfalso; (first | (have g := of_decide_eq_true h0; omega) | (have g := of_decide_eq_false h0; omega) | (exact absurd (hq.symm.trans h1) (by decide)))
    · have hE : n = i := by omega
      subst hE
      have hib : bd 0 1000000000000000 (n : Int) := ⟨by omega, by omega⟩; have hn : bd 0 1000000000000 (n : Int) := ⟨by omega, by omega⟩
      rcases h0 : (decide ((n : Int) ≤ (n : Int))) with _ | _
      · rcases h1 : (onP n X Y qx qy n) with _ | _
        · rcases h2 : (crossP n X Y qx qy n) with _ | _
          · exfalso; (have g := of_decide_eq_false h0; omega)
          · exfalso; (have g := of_decide_eq_false h0; omega)
        · exfalso; (have g := of_decide_eq_false h0; omega)
      · refine .inr ⟨slo3, 1000, 50, _, [0, 1], (slk3 a n c X Y ptr qx qy w (n) hib hn hn0 hX hqx hqy hS hP h0).ok, slf3_done, by decide, ?_⟩
        intro q hq
        simp only [List.mem_cons, List.not_mem_nil, or_false] at hq
        rcases hq with rfl | rfl | rfl | rfl | rfl
        · show (_ : Value) = _; kernel_rfl
        · show (_ : Int) = _; kernel_rfl
        · show (_ : Int) = _; kernel_rfl
        · show (_ : Int) = _; kernel_rfl
        · show (_ : Int) = _; kernel_rfl
  · skip
    intro q hq
    simp only [List.mem_cons, List.not_mem_nil, or_false] at hq
    rcases hq with rfl | rfl | rfl | rfl | rfl | rfl
    · show (_ : Value) = _; kernel_rfl
    · show (_ : Int) = _; kernel_rfl
    · show (_ : Int) = _; kernel_rfl
    · show ((-1) : Int) = (sdN n X Y qx qy 0); first | rfl | ((simp [sdN, h2]))
    · show (_ : Int) = _; kernel_rfl
    · show (0 : Int) = (0 : Int); first | rfl | ((simp [sdN, h2]))
end Go.Proofs.Ytehgnkgcimdgjaa.Ev
