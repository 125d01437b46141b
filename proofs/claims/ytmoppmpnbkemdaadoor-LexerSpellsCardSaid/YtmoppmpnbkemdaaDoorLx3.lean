/- lexer: the reference's loops over the bytes of names and labels. -/
import Derived.Test.YtmoppmpnbkemdaaDoorLx2
namespace Go.Proofs.YtmoppmpnbkemdaaDoor.Ev
open Go.RowKit
set_option linter.unusedVariables false
set_option linter.unusedSimpArgs false
set_option maxRecDepth 8000
def rnameB (b : Int) (i : Nat) : Bool := wordB b && !(decide (65 ≤ b) && decide (b ≤ 90)) && (!(i == 0) || letterB b)
def labB0 (b : Int) (i : Nat) : Bool := labB b
def refNamet0 : Tm := [[oq 0, undef, .bool false, sy 1, anyV, anyV, anyV, anyV, anyV, anyV, anyV, anyV, anyV, anyV, anyV, anyV], [anyV, anyV, anyV, anyV, anyV, anyV, anyV, anyV, anyV, anyV, anyV, anyV, anyV, anyV, anyV, anyV], [anyV, anyV, anyV, anyV, anyV, anyV, undef, undef, undef, undef, undef, undef, undef, undef]]
def refNameH0 : Heap := []
def refNametA : Tm := [[oq 0, undef, .bool false, .int .i64 0, undef, undef, undef, undef, undef, undef, undef, undef, undef, undef, undef, undef], [undef, undef, undef, undef, undef, undef, undef, undef, undef, undef, undef, undef, undef, undef, undef, undef], [undef, undef, undef, undef, undef, undef, undef, undef, undef, undef, undef, undef, undef, undef]]
def refNameHA : Heap := []
def refNameo0 : Orc := { bin := [(.lss, 3, .int .i64 (sn 1), .int .i64 (sn 0), .bool true)], calls := [(31, [syk .u8 2], .bool false)], idx := [(9, oq 0, .int .i64 (sn 1), .int .u8 (sn 2))], lens := [(true, oq 0, .int .i64 (sn 0))] }
def refNameo1 : Orc := { bin := [(.lss, 3, .int .i64 (sn 1), .int .i64 (sn 0), .bool true), (.geq, 5, .int .u8 (sn 2), .int .u8 65, .bool true), (.leq, 5, .int .u8 (sn 2), .int .u8 90, .bool false), (.eql, 3, .int .i64 (sn 1), .int .i64 0, .bool false), (.add, 3, .int .i64 (sn 1), .int .i64 1, .int .i64 (sn 3))], calls := [(31, [syk .u8 2], .bool true)], idx := [(9, oq 0, .int .i64 (sn 1), .int .u8 (sn 2))], lens := [(true, oq 0, .int .i64 (sn 0))] }
def refNameo2 : Orc := { bin := [(.lss, 3, .int .i64 (sn 1), .int .i64 (sn 0), .bool true), (.geq, 5, .int .u8 (sn 2), .int .u8 65, .bool true), (.leq, 5, .int .u8 (sn 2), .int .u8 90, .bool false), (.eql, 3, .int .i64 (sn 1), .int .i64 0, .bool true)], calls := [(31, [syk .u8 2], .bool true), (32, [syk .u8 2], .bool false)], idx := [(9, oq 0, .int .i64 (sn 1), .int .u8 (sn 2))], lens := [(true, oq 0, .int .i64 (sn 0))] }
def refNameo3 : Orc := { bin := [(.lss, 3, .int .i64 (sn 1), .int .i64 (sn 0), .bool true), (.geq, 5, .int .u8 (sn 2), .int .u8 65, .bool true), (.leq, 5, .int .u8 (sn 2), .int .u8 90, .bool false), (.eql, 3, .int .i64 (sn 1), .int .i64 0, .bool true), (.add, 3, .int .i64 (sn 1), .int .i64 1, .int .i64 (sn 3))], calls := [(31, [syk .u8 2], .bool true), (32, [syk .u8 2], .bool true)], idx := [(9, oq 0, .int .i64 (sn 1), .int .u8 (sn 2))], lens := [(true, oq 0, .int .i64 (sn 0))] }
def refNameo4 : Orc := { bin := [(.lss, 3, .int .i64 (sn 1), .int .i64 (sn 0), .bool true), (.geq, 5, .int .u8 (sn 2), .int .u8 65, .bool true), (.leq, 5, .int .u8 (sn 2), .int .u8 90, .bool true)], calls := [(31, [syk .u8 2], .bool true)], idx := [(9, oq 0, .int .i64 (sn 1), .int .u8 (sn 2))], lens := [(true, oq 0, .int .i64 (sn 0))] }
def refNameo5 : Orc := { bin := [(.lss, 3, .int .i64 (sn 1), .int .i64 (sn 0), .bool true), (.geq, 5, .int .u8 (sn 2), .int .u8 65, .bool false), (.eql, 3, .int .i64 (sn 1), .int .i64 0, .bool false), (.add, 3, .int .i64 (sn 1), .int .i64 1, .int .i64 (sn 3))], calls := [(31, [syk .u8 2], .bool true)], idx := [(9, oq 0, .int .i64 (sn 1), .int .u8 (sn 2))], lens := [(true, oq 0, .int .i64 (sn 0))] }
def refNameo6 : Orc := { bin := [(.lss, 3, .int .i64 (sn 1), .int .i64 (sn 0), .bool true), (.geq, 5, .int .u8 (sn 2), .int .u8 65, .bool false), (.eql, 3, .int .i64 (sn 1), .int .i64 0, .bool true)], calls := [(31, [syk .u8 2], .bool true), (32, [syk .u8 2], .bool false)], idx := [(9, oq 0, .int .i64 (sn 1), .int .u8 (sn 2))], lens := [(true, oq 0, .int .i64 (sn 0))] }
def refNameo7 : Orc := { bin := [(.lss, 3, .int .i64 (sn 1), .int .i64 (sn 0), .bool true), (.geq, 5, .int .u8 (sn 2), .int .u8 65, .bool false), (.eql, 3, .int .i64 (sn 1), .int .i64 0, .bool true), (.add, 3, .int .i64 (sn 1), .int .i64 1, .int .i64 (sn 3))], calls := [(31, [syk .u8 2], .bool true), (32, [syk .u8 2], .bool true)], idx := [(9, oq 0, .int .i64 (sn 1), .int .u8 (sn 2))], lens := [(true, oq 0, .int .i64 (sn 0))] }
def refNameo8 : Orc := { bin := [(.lss, 3, .int .i64 (sn 1), .int .i64 (sn 0), .bool false)], lens := [(true, oq 0, .int .i64 (sn 0))] }
noncomputable def refNameE (s : ByteArray) (w : World) (i : Nat) : Env := env [(s.size : Int), (i : Int), (bt s i), ((i : Int) + 1)] [(.string s)] w
theorem refNamet1 : stepT Tryd.prog [] (evBody Tryd.prog refNameo1 1000 50 14 [false, true, false, true] refNamet0 refNameH0) .normal refNamet0 refNameH0 [.val 0 0, .num 1180591620717411303427 1180591620717411303425] = true := by decide +kernel
theorem refNamet3 : stepT Tryd.prog [] (evBody Tryd.prog refNameo3 1000 50 14 [false, true, false, true] refNamet0 refNameH0) .normal refNamet0 refNameH0 [.val 0 0, .num 1180591620717411303427 1180591620717411303425] = true := by decide +kernel
theorem refNamet5 : stepT Tryd.prog [] (evBody Tryd.prog refNameo5 1000 50 14 [false, true, false, true] refNamet0 refNameH0) .normal refNamet0 refNameH0 [.val 0 0, .num 1180591620717411303427 1180591620717411303425] = true := by decide +kernel
theorem refNamet7 : stepT Tryd.prog [] (evBody Tryd.prog refNameo7 1000 50 14 [false, true, false, true] refNamet0 refNameH0) .normal refNamet0 refNameH0 [.val 0 0, .num 1180591620717411303427 1180591620717411303425] = true := by decide +kernel
theorem refNamek0 (s : ByteArray) (w : World) (i : Nat) (hib : bd 0 1000000000000000 (i : Int)) (hn : bd 0 1000000000000000 (s.size : Int)) (h0 : (decide ((s.size : Int) ≤ (i : Int))) = false) (h1 : (wordB (bt s i)) = false) : Know (refNameE s w i) Tryd.prog refNameo0 := by
  exact ⟨(all_cons (cmpOK (op := .lss) (ty := 3) (k := .i64) (n := (sn 1)) (m := (sn 0)) (t := true) (a := (i : Int)) (b := (s.size : Int)) (by kernel_rfl) (by kernel_rfl) (congrArg some ((lt_of_le h0)))) all_nil), all_nil, all_nil, all_nil, (all_cons (callOK (f := 31) (args := [syk .u8 2]) (v := .bool false) (args' := #[.int .u8 (bt s i)]) (v' := .bool false) (by kernel_rfl) (by kernel_rfl) (by kernel_rfl) (fun w => by have := part_any (bt s i) w (bt_bd s i); rw [h1] at this; exact this)) all_nil), all_nil, all_nil, (all_cons (sidxOK (i := 0) (j := (sn 1)) (r := (sn 2)) (k := i) rfl (by kernel_rfl) (by kernel_rfl) (by have g := of_decide_eq_false h0; omega) (by kernel_rfl)) all_nil), all_nil, all_nil, (all_cons (slenOK (i := 0) (r := (sn 0)) rfl (by kernel_rfl)) all_nil), all_nil, all_nil, all_nil, all_nil, all_nil, all_nil⟩
theorem refNamek1 (s : ByteArray) (w : World) (i : Nat) (hib : bd 0 1000000000000000 (i : Int)) (hn : bd 0 1000000000000000 (s.size : Int)) (h0 : (decide ((s.size : Int) ≤ (i : Int))) = false) (h1 : (wordB (bt s i)) = true) (h2 : (decide ((bt s i) ≤ 64)) = false) (h3 : (decide ((bt s i) ≤ 90)) = false) (h4 : ((i : Int) == 0) = false) : Know (refNameE s w i) Tryd.prog refNameo1 := by
  have bq0 : bd 1 1000000000000001 (((i : Int) + 1)) := bd_add hib (bd_lit (l := 1) (h := 1) rfl) rfl
  exact ⟨(all_cons (cmpOK (op := .lss) (ty := 3) (k := .i64) (n := (sn 1)) (m := (sn 0)) (t := true) (a := (i : Int)) (b := (s.size : Int)) (by kernel_rfl) (by kernel_rfl) (congrArg some ((lt_of_le h0)))) (all_cons (cmpOK (op := .geq) (ty := 5) (k := .u8) (n := (sn 2)) (m := 65) (t := true) (a := (bt s i)) (b := 65) (by kernel_rfl) (by kernel_rfl) (congrArg some ((ge_c h2 rfl)))) (all_cons (cmpOK (op := .leq) (ty := 5) (k := .u8) (n := (sn 2)) (m := 90) (t := false) (a := (bt s i)) (b := 90) (by kernel_rfl) (by kernel_rfl) (congrArg some (h3))) (all_cons (cmpOK (op := .eql) (ty := 3) (k := .i64) (n := (sn 1)) (m := 0) (t := false) (a := (i : Int)) (b := 0) (by kernel_rfl) (by kernel_rfl) (congrArg some (h4))) (all_cons (arOK (op := .add) (ty := 3) (k := .i64) (n := (sn 1)) (m := 1) (r := (sn 3)) (a := (i : Int)) (b := 1) (c := (((i : Int) + 1))) (d := (i : Int) + 1) (by kernel_rfl) (by kernel_rfl) (by kernel_rfl) rfl (wr_bd bq0 rfl)) all_nil))))), all_nil, all_nil, all_nil, (all_cons (callOK (f := 31) (args := [syk .u8 2]) (v := .bool true) (args' := #[.int .u8 (bt s i)]) (v' := .bool true) (by kernel_rfl) (by kernel_rfl) (by kernel_rfl) (fun w => by have := part_any (bt s i) w (bt_bd s i); rw [h1] at this; exact this)) all_nil), all_nil, all_nil, (all_cons (sidxOK (i := 0) (j := (sn 1)) (r := (sn 2)) (k := i) rfl (by kernel_rfl) (by kernel_rfl) (by have g := of_decide_eq_false h0; omega) (by kernel_rfl)) all_nil), all_nil, all_nil, (all_cons (slenOK (i := 0) (r := (sn 0)) rfl (by kernel_rfl)) all_nil), all_nil, all_nil, all_nil, all_nil, all_nil, all_nil⟩
theorem refNamek2 (s : ByteArray) (w : World) (i : Nat) (hib : bd 0 1000000000000000 (i : Int)) (hn : bd 0 1000000000000000 (s.size : Int)) (h0 : (decide ((s.size : Int) ≤ (i : Int))) = false) (h1 : (wordB (bt s i)) = true) (h2 : (decide ((bt s i) ≤ 64)) = false) (h3 : (decide ((bt s i) ≤ 90)) = false) (h4 : ((i : Int) == 0) = true) (h5 : (letterB (bt s i)) = false) : Know (refNameE s w i) Tryd.prog refNameo2 := by
  exact ⟨(all_cons (cmpOK (op := .lss) (ty := 3) (k := .i64) (n := (sn 1)) (m := (sn 0)) (t := true) (a := (i : Int)) (b := (s.size : Int)) (by kernel_rfl) (by kernel_rfl) (congrArg some ((lt_of_le h0)))) (all_cons (cmpOK (op := .geq) (ty := 5) (k := .u8) (n := (sn 2)) (m := 65) (t := true) (a := (bt s i)) (b := 65) (by kernel_rfl) (by kernel_rfl) (congrArg some ((ge_c h2 rfl)))) (all_cons (cmpOK (op := .leq) (ty := 5) (k := .u8) (n := (sn 2)) (m := 90) (t := false) (a := (bt s i)) (b := 90) (by kernel_rfl) (by kernel_rfl) (congrArg some (h3))) (all_cons (cmpOK (op := .eql) (ty := 3) (k := .i64) (n := (sn 1)) (m := 0) (t := true) (a := (i : Int)) (b := 0) (by kernel_rfl) (by kernel_rfl) (congrArg some (h4))) all_nil)))), all_nil, all_nil, all_nil, (all_cons (callOK (f := 31) (args := [syk .u8 2]) (v := .bool true) (args' := #[.int .u8 (bt s i)]) (v' := .bool true) (by kernel_rfl) (by kernel_rfl) (by kernel_rfl) (fun w => by have := part_any (bt s i) w (bt_bd s i); rw [h1] at this; exact this)) (all_cons (callOK (f := 32) (args := [syk .u8 2]) (v := .bool false) (args' := #[.int .u8 (bt s i)]) (v' := .bool false) (by kernel_rfl) (by kernel_rfl) (by kernel_rfl) (fun w => by have := rletter_any (bt s i) w (bt_bd s i); rw [h5] at this; exact this)) all_nil)), all_nil, all_nil, (all_cons (sidxOK (i := 0) (j := (sn 1)) (r := (sn 2)) (k := i) rfl (by kernel_rfl) (by kernel_rfl) (by have g := of_decide_eq_false h0; omega) (by kernel_rfl)) all_nil), all_nil, all_nil, (all_cons (slenOK (i := 0) (r := (sn 0)) rfl (by kernel_rfl)) all_nil), all_nil, all_nil, all_nil, all_nil, all_nil, all_nil⟩
theorem refNamek3 (s : ByteArray) (w : World) (i : Nat) (hib : bd 0 1000000000000000 (i : Int)) (hn : bd 0 1000000000000000 (s.size : Int)) (h0 : (decide ((s.size : Int) ≤ (i : Int))) = false) (h1 : (wordB (bt s i)) = true) (h2 : (decide ((bt s i) ≤ 64)) = false) (h3 : (decide ((bt s i) ≤ 90)) = false) (h4 : ((i : Int) == 0) = true) (h5 : (letterB (bt s i)) = true) : Know (refNameE s w i) Tryd.prog refNameo3 := by
  have bq0 : bd 1 1000000000000001 (((i : Int) + 1)) := bd_add hib (bd_lit (l := 1) (h := 1) rfl) rfl
  exact ⟨(all_cons (cmpOK (op := .lss) (ty := 3) (k := .i64) (n := (sn 1)) (m := (sn 0)) (t := true) (a := (i : Int)) (b := (s.size : Int)) (by kernel_rfl) (by kernel_rfl) (congrArg some ((lt_of_le h0)))) (all_cons (cmpOK (op := .geq) (ty := 5) (k := .u8) (n := (sn 2)) (m := 65) (t := true) (a := (bt s i)) (b := 65) (by kernel_rfl) (by kernel_rfl) (congrArg some ((ge_c h2 rfl)))) (all_cons (cmpOK (op := .leq) (ty := 5) (k := .u8) (n := (sn 2)) (m := 90) (t := false) (a := (bt s i)) (b := 90) (by kernel_rfl) (by kernel_rfl) (congrArg some (h3))) (all_cons (cmpOK (op := .eql) (ty := 3) (k := .i64) (n := (sn 1)) (m := 0) (t := true) (a := (i : Int)) (b := 0) (by kernel_rfl) (by kernel_rfl) (congrArg some (h4))) (all_cons (arOK (op := .add) (ty := 3) (k := .i64) (n := (sn 1)) (m := 1) (r := (sn 3)) (a := (i : Int)) (b := 1) (c := (((i : Int) + 1))) (d := (i : Int) + 1) (by kernel_rfl) (by kernel_rfl) (by kernel_rfl) rfl (wr_bd bq0 rfl)) all_nil))))), all_nil, all_nil, all_nil, (all_cons (callOK (f := 31) (args := [syk .u8 2]) (v := .bool true) (args' := #[.int .u8 (bt s i)]) (v' := .bool true) (by kernel_rfl) (by kernel_rfl) (by kernel_rfl) (fun w => by have := part_any (bt s i) w (bt_bd s i); rw [h1] at this; exact this)) (all_cons (callOK (f := 32) (args := [syk .u8 2]) (v := .bool true) (args' := #[.int .u8 (bt s i)]) (v' := .bool true) (by kernel_rfl) (by kernel_rfl) (by kernel_rfl) (fun w => by have := rletter_any (bt s i) w (bt_bd s i); rw [h5] at this; exact this)) all_nil)), all_nil, all_nil, (all_cons (sidxOK (i := 0) (j := (sn 1)) (r := (sn 2)) (k := i) rfl (by kernel_rfl) (by kernel_rfl) (by have g := of_decide_eq_false h0; omega) (by kernel_rfl)) all_nil), all_nil, all_nil, (all_cons (slenOK (i := 0) (r := (sn 0)) rfl (by kernel_rfl)) all_nil), all_nil, all_nil, all_nil, all_nil, all_nil, all_nil⟩
theorem refNamek4 (s : ByteArray) (w : World) (i : Nat) (hib : bd 0 1000000000000000 (i : Int)) (hn : bd 0 1000000000000000 (s.size : Int)) (h0 : (decide ((s.size : Int) ≤ (i : Int))) = false) (h1 : (wordB (bt s i)) = true) (h2 : (decide ((bt s i) ≤ 64)) = false) (h3 : (decide ((bt s i) ≤ 90)) = true) : Know (refNameE s w i) Tryd.prog refNameo4 := by
  exact ⟨(all_cons (cmpOK (op := .lss) (ty := 3) (k := .i64) (n := (sn 1)) (m := (sn 0)) (t := true) (a := (i : Int)) (b := (s.size : Int)) (by kernel_rfl) (by kernel_rfl) (congrArg some ((lt_of_le h0)))) (all_cons (cmpOK (op := .geq) (ty := 5) (k := .u8) (n := (sn 2)) (m := 65) (t := true) (a := (bt s i)) (b := 65) (by kernel_rfl) (by kernel_rfl) (congrArg some ((ge_c h2 rfl)))) (all_cons (cmpOK (op := .leq) (ty := 5) (k := .u8) (n := (sn 2)) (m := 90) (t := true) (a := (bt s i)) (b := 90) (by kernel_rfl) (by kernel_rfl) (congrArg some (h3))) all_nil))), all_nil, all_nil, all_nil, (all_cons (callOK (f := 31) (args := [syk .u8 2]) (v := .bool true) (args' := #[.int .u8 (bt s i)]) (v' := .bool true) (by kernel_rfl) (by kernel_rfl) (by kernel_rfl) (fun w => by have := part_any (bt s i) w (bt_bd s i); rw [h1] at this; exact this)) all_nil), all_nil, all_nil, (all_cons (sidxOK (i := 0) (j := (sn 1)) (r := (sn 2)) (k := i) rfl (by kernel_rfl) (by kernel_rfl) (by have g := of_decide_eq_false h0; omega) (by kernel_rfl)) all_nil), all_nil, all_nil, (all_cons (slenOK (i := 0) (r := (sn 0)) rfl (by kernel_rfl)) all_nil), all_nil, all_nil, all_nil, all_nil, all_nil, all_nil⟩
theorem refNamek5 (s : ByteArray) (w : World) (i : Nat) (hib : bd 0 1000000000000000 (i : Int)) (hn : bd 0 1000000000000000 (s.size : Int)) (h0 : (decide ((s.size : Int) ≤ (i : Int))) = false) (h1 : (wordB (bt s i)) = true) (h2 : (decide ((bt s i) ≤ 64)) = true) (h3 : ((i : Int) == 0) = false) : Know (refNameE s w i) Tryd.prog refNameo5 := by
  have bq0 : bd 1 1000000000000001 (((i : Int) + 1)) := bd_add hib (bd_lit (l := 1) (h := 1) rfl) rfl
  exact ⟨(all_cons (cmpOK (op := .lss) (ty := 3) (k := .i64) (n := (sn 1)) (m := (sn 0)) (t := true) (a := (i : Int)) (b := (s.size : Int)) (by kernel_rfl) (by kernel_rfl) (congrArg some ((lt_of_le h0)))) (all_cons (cmpOK (op := .geq) (ty := 5) (k := .u8) (n := (sn 2)) (m := 65) (t := false) (a := (bt s i)) (b := 65) (by kernel_rfl) (by kernel_rfl) (congrArg some ((ge_c h2 rfl)))) (all_cons (cmpOK (op := .eql) (ty := 3) (k := .i64) (n := (sn 1)) (m := 0) (t := false) (a := (i : Int)) (b := 0) (by kernel_rfl) (by kernel_rfl) (congrArg some (h3))) (all_cons (arOK (op := .add) (ty := 3) (k := .i64) (n := (sn 1)) (m := 1) (r := (sn 3)) (a := (i : Int)) (b := 1) (c := (((i : Int) + 1))) (d := (i : Int) + 1) (by kernel_rfl) (by kernel_rfl) (by kernel_rfl) rfl (wr_bd bq0 rfl)) all_nil)))), all_nil, all_nil, all_nil, (all_cons (callOK (f := 31) (args := [syk .u8 2]) (v := .bool true) (args' := #[.int .u8 (bt s i)]) (v' := .bool true) (by kernel_rfl) (by kernel_rfl) (by kernel_rfl) (fun w => by have := part_any (bt s i) w (bt_bd s i); rw [h1] at this; exact this)) all_nil), all_nil, all_nil, (all_cons (sidxOK (i := 0) (j := (sn 1)) (r := (sn 2)) (k := i) rfl (by kernel_rfl) (by kernel_rfl) (by have g := of_decide_eq_false h0; omega) (by kernel_rfl)) all_nil), all_nil, all_nil, (all_cons (slenOK (i := 0) (r := (sn 0)) rfl (by kernel_rfl)) all_nil), all_nil, all_nil, all_nil, all_nil, all_nil, all_nil⟩
theorem refNamek6 (s : ByteArray) (w : World) (i : Nat) (hib : bd 0 1000000000000000 (i : Int)) (hn : bd 0 1000000000000000 (s.size : Int)) (h0 : (decide ((s.size : Int) ≤ (i : Int))) = false) (h1 : (wordB (bt s i)) = true) (h2 : (decide ((bt s i) ≤ 64)) = true) (h3 : ((i : Int) == 0) = true) (h4 : (letterB (bt s i)) = false) : Know (refNameE s w i) Tryd.prog refNameo6 := by
  exact ⟨(all_cons (cmpOK (op := .lss) (ty := 3) (k := .i64) (n := (sn 1)) (m := (sn 0)) (t := true) (a := (i : Int)) (b := (s.size : Int)) (by kernel_rfl) (by kernel_rfl) (congrArg some ((lt_of_le h0)))) (all_cons (cmpOK (op := .geq) (ty := 5) (k := .u8) (n := (sn 2)) (m := 65) (t := false) (a := (bt s i)) (b := 65) (by kernel_rfl) (by kernel_rfl) (congrArg some ((ge_c h2 rfl)))) (all_cons (cmpOK (op := .eql) (ty := 3) (k := .i64) (n := (sn 1)) (m := 0) (t := true) (a := (i : Int)) (b := 0) (by kernel_rfl) (by kernel_rfl) (congrArg some (h3))) all_nil))), all_nil, all_nil, all_nil, (all_cons (callOK (f := 31) (args := [syk .u8 2]) (v := .bool true) (args' := #[.int .u8 (bt s i)]) (v' := .bool true) (by kernel_rfl) (by kernel_rfl) (by kernel_rfl) (fun w => by have := part_any (bt s i) w (bt_bd s i); rw [h1] at this; exact this)) (all_cons (callOK (f := 32) (args := [syk .u8 2]) (v := .bool false) (args' := #[.int .u8 (bt s i)]) (v' := .bool false) (by kernel_rfl) (by kernel_rfl) (by kernel_rfl) (fun w => by have := rletter_any (bt s i) w (bt_bd s i); rw [h4] at this; exact this)) all_nil)), all_nil, all_nil, (all_cons (sidxOK (i := 0) (j := (sn 1)) (r := (sn 2)) (k := i) rfl (by kernel_rfl) (by kernel_rfl) (by have g := of_decide_eq_false h0; omega) (by kernel_rfl)) all_nil), all_nil, all_nil, (all_cons (slenOK (i := 0) (r := (sn 0)) rfl (by kernel_rfl)) all_nil), all_nil, all_nil, all_nil, all_nil, all_nil, all_nil⟩
theorem refNamek7 (s : ByteArray) (w : World) (i : Nat) (hib : bd 0 1000000000000000 (i : Int)) (hn : bd 0 1000000000000000 (s.size : Int)) (h0 : (decide ((s.size : Int) ≤ (i : Int))) = false) (h1 : (wordB (bt s i)) = true) (h2 : (decide ((bt s i) ≤ 64)) = true) (h3 : ((i : Int) == 0) = true) (h4 : (letterB (bt s i)) = true) : Know (refNameE s w i) Tryd.prog refNameo7 := by
  have bq0 : bd 1 1000000000000001 (((i : Int) + 1)) := bd_add hib (bd_lit (l := 1) (h := 1) rfl) rfl
  exact ⟨(all_cons (cmpOK (op := .lss) (ty := 3) (k := .i64) (n := (sn 1)) (m := (sn 0)) (t := true) (a := (i : Int)) (b := (s.size : Int)) (by kernel_rfl) (by kernel_rfl) (congrArg some ((lt_of_le h0)))) (all_cons (cmpOK (op := .geq) (ty := 5) (k := .u8) (n := (sn 2)) (m := 65) (t := false) (a := (bt s i)) (b := 65) (by kernel_rfl) (by kernel_rfl) (congrArg some ((ge_c h2 rfl)))) (all_cons (cmpOK (op := .eql) (ty := 3) (k := .i64) (n := (sn 1)) (m := 0) (t := true) (a := (i : Int)) (b := 0) (by kernel_rfl) (by kernel_rfl) (congrArg some (h3))) (all_cons (arOK (op := .add) (ty := 3) (k := .i64) (n := (sn 1)) (m := 1) (r := (sn 3)) (a := (i : Int)) (b := 1) (c := (((i : Int) + 1))) (d := (i : Int) + 1) (by kernel_rfl) (by kernel_rfl) (by kernel_rfl) rfl (wr_bd bq0 rfl)) all_nil)))), all_nil, all_nil, all_nil, (all_cons (callOK (f := 31) (args := [syk .u8 2]) (v := .bool true) (args' := #[.int .u8 (bt s i)]) (v' := .bool true) (by kernel_rfl) (by kernel_rfl) (by kernel_rfl) (fun w => by have := part_any (bt s i) w (bt_bd s i); rw [h1] at this; exact this)) (all_cons (callOK (f := 32) (args := [syk .u8 2]) (v := .bool true) (args' := #[.int .u8 (bt s i)]) (v' := .bool true) (by kernel_rfl) (by kernel_rfl) (by kernel_rfl) (fun w => by have := rletter_any (bt s i) w (bt_bd s i); rw [h4] at this; exact this)) all_nil)), all_nil, all_nil, (all_cons (sidxOK (i := 0) (j := (sn 1)) (r := (sn 2)) (k := i) rfl (by kernel_rfl) (by kernel_rfl) (by have g := of_decide_eq_false h0; omega) (by kernel_rfl)) all_nil), all_nil, all_nil, (all_cons (slenOK (i := 0) (r := (sn 0)) rfl (by kernel_rfl)) all_nil), all_nil, all_nil, all_nil, all_nil, all_nil, all_nil⟩
theorem refNamek8 (s : ByteArray) (w : World) (i : Nat) (hib : bd 0 1000000000000000 (i : Int)) (hn : bd 0 1000000000000000 (s.size : Int)) (h0 : (decide ((s.size : Int) ≤ (i : Int))) = true) : Know (refNameE s w i) Tryd.prog refNameo8 := by
  exact ⟨(all_cons (cmpOK (op := .lss) (ty := 3) (k := .i64) (n := (sn 1)) (m := (sn 0)) (t := false) (a := (i : Int)) (b := (s.size : Int)) (by kernel_rfl) (by kernel_rfl) (congrArg some ((lt_of_le h0)))) all_nil), all_nil, all_nil, all_nil, all_nil, all_nil, all_nil, all_nil, all_nil, all_nil, (all_cons (slenOK (i := 0) (r := (sn 0)) rfl (by kernel_rfl)) all_nil), all_nil, all_nil, all_nil, all_nil, all_nil, all_nil⟩
def refNametF_bad : Tm := [[oq 0, anyV, .bool false, anyV, anyV, oq 0, sy 0, .bool true, anyV, anyV, oq 0, anyV, anyV, anyV, anyV, anyV], [anyV, anyV, anyV, anyV, anyV, anyV, anyV, anyV, anyV, anyV, anyV, anyV, anyV, anyV, anyV, anyV], [anyV, anyV, anyV, anyV, anyV, .bool true, anyV, anyV, anyV, anyV, anyV, anyV, anyV, anyV]]
def refNameHF_bad : Heap := []
theorem refNamef0_bad : stepT Tryd.prog [] (evBody Tryd.prog refNameo0 1000 50 14 [false, true, false, true] refNamet0 refNameH0) (.ret) refNametF_bad refNameHF_bad [.val 0 0, .num 1180591620717411303424 1180591620717411303424] = true := by decide +kernel
theorem refNamef2_bad : stepT Tryd.prog [] (evBody Tryd.prog refNameo2 1000 50 14 [false, true, false, true] refNamet0 refNameH0) (.ret) refNametF_bad refNameHF_bad [.val 0 0, .num 1180591620717411303424 1180591620717411303424] = true := by decide +kernel
theorem refNamef4_bad : stepT Tryd.prog [] (evBody Tryd.prog refNameo4 1000 50 14 [false, true, false, true] refNamet0 refNameH0) (.ret) refNametF_bad refNameHF_bad [.val 0 0, .num 1180591620717411303424 1180591620717411303424] = true := by decide +kernel
theorem refNamef6_bad : stepT Tryd.prog [] (evBody Tryd.prog refNameo6 1000 50 14 [false, true, false, true] refNamet0 refNameH0) (.ret) refNametF_bad refNameHF_bad [.val 0 0, .num 1180591620717411303424 1180591620717411303424] = true := by decide +kernel
theorem refName_loop_bad (s : ByteArray) (w : World) (hn : s.size ≤ 1000000000000) (K : Nat) (hK : K < s.size) (hq0 : rnameB (bt s K) K = false) (hall : ∀ i, i < K → rnameB (bt s i) i = true) : LoopE (env [(s.size : Int)] [(.string s)] w) Tryd.prog (14, [false, true, false, true], refNametA, refNameHA, .ret, refNametF_bad, refNameHF_bad) := by
  refine loop_rule (σ := { st : Nat // st ≤ K }) (fun st => refNameE s w st.1) (fun _ => rfl) (fun st => K - st.1) (fun _ => refNamet0) (fun _ => refNameH0) rfl (fun _ => by decide) (by decide) ?_ ⟨0, Nat.zero_le _⟩ [.val 0 0, .num 0 1180591620717411303425] [] (by decide +kernel) (by decide) ?_
  · rintro ⟨i, hi⟩
    rcases Nat.lt_or_ge i (K) with h | h
    · have hib : bd 0 1000000000000000 (i : Int) := ⟨by omega, by omega⟩; have hn : bd 0 1000000000000000 (s.size : Int) := ⟨by omega, by omega⟩; have hq := hall i h; clear hall; have hlt : i < s.size := by omega
      rcases h0 : (decide ((s.size : Int) ≤ (i : Int))) with _ | _
      · rcases h1 : (wordB (bt s i)) with _ | _
        · exfalso; (first | (have g := of_decide_eq_true h0; omega) | (simp [rnameB, labB0, labB, h0, *] at hq; done) | (simp_all [rnameB, labB0, labB] <;> omega))
        · rcases h2 : (decide ((bt s i) ≤ 64)) with _ | _
          · rcases h3 : (decide ((bt s i) ≤ 90)) with _ | _
            · rcases h4 : ((i : Int) == 0) with _ | _
              · refine .inl ⟨refNameo1, 1000, 50, _, [], ⟨i + 1, h⟩, (refNamek1 s w i hib hn h0 h1 h2 h3 h4).ok, refNamet1, by decide, ?_, by show K - (i + 1) < K - i; omega⟩
                intro q hq
                simp only [List.mem_cons, List.not_mem_nil, or_false] at hq
                rcases hq with rfl | rfl
                · show (_ : Value) = _; kernel_rfl
                · show (((i : Int) + 1) : Int) = (((i + 1 : Nat)) : Int); first | rfl | (omega)
              · rcases h5 : (letterB (bt s i)) with _ | _
                · exfalso; (first | (have g := of_decide_eq_true h0; omega) | (simp [rnameB, labB0, labB, h0, *] at hq; done) | (simp_all [rnameB, labB0, labB] <;> omega))
                · refine .inl ⟨refNameo3, 1000, 50, _, [], ⟨i + 1, h⟩, (refNamek3 s w i hib hn h0 h1 h2 h3 h4 h5).ok, refNamet3, by decide, ?_, by show K - (i + 1) < K - i; omega⟩
                  intro q hq
                  simp only [List.mem_cons, List.not_mem_nil, or_false] at hq
                  rcases hq with rfl | rfl
                  · show (_ : Value) = _; kernel_rfl
                  · show (((i : Int) + 1) : Int) = (((i + 1 : Nat)) : Int); first | rfl | (omega)
            · exfalso; (first | (have g := of_decide_eq_true h0; omega) | (simp [rnameB, labB0, labB, h0, *] at hq; done) | (simp_all [rnameB, labB0, labB] <;> omega))
          · rcases h3 : ((i : Int) == 0) with _ | _
            · refine .inl ⟨refNameo5, 1000, 50, _, [], ⟨i + 1, h⟩, (refNamek5 s w i hib hn h0 h1 h2 h3).ok, refNamet5, by decide, ?_, by show K - (i + 1) < K - i; omega⟩
              intro q hq
              simp only [List.mem_cons, List.not_mem_nil, or_false] at hq
              rcases hq with rfl | rfl
              · show (_ : Value) = _; kernel_rfl
              · show (((i : Int) + 1) : Int) = (((i + 1 : Nat)) : Int); first | rfl | (omega)
            · rcases h4 : (letterB (bt s i)) with _ | _
              · exfalso; (first | (have g := of_decide_eq_true h0; omega) | (simp [rnameB, labB0, labB, h0, *] at hq; done) | (simp_all [rnameB, labB0, labB] <;> omega))
              · refine .inl ⟨refNameo7, 1000, 50, _, [], ⟨i + 1, h⟩, (refNamek7 s w i hib hn h0 h1 h2 h3 h4).ok, refNamet7, by decide, ?_, by show K - (i + 1) < K - i; omega⟩
                intro q hq
                simp only [List.mem_cons, List.not_mem_nil, or_false] at hq
                rcases hq with rfl | rfl
                · show (_ : Value) = _; kernel_rfl
                · show (((i : Int) + 1) : Int) = (((i + 1 : Nat)) : Int); first | rfl | (omega)
      · exfalso; (first | (have g := of_decide_eq_true h0; omega) | (simp [rnameB, labB0, labB, h0, *] at hq; done) | (simp_all [rnameB, labB0, labB] <;> omega))
    · have hE : K = i := by omega
      subst hE
      have hib : bd 0 1000000000000000 (K : Int) := ⟨by omega, by omega⟩; have hn : bd 0 1000000000000000 (s.size : Int) := ⟨by omega, by omega⟩; have hq := hq0; clear hall hq0; have hlt : K < s.size := by omega
      rcases h0 : (decide ((s.size : Int) ≤ (K : Int))) with _ | _
      · rcases h1 : (wordB (bt s K)) with _ | _
        · refine .inr ⟨refNameo0, 1000, 50, _, [], (refNamek0 s w (K) hib hn h0 h1).ok, refNamef0_bad, by decide, ?_⟩
          intro q hq
          simp only [List.mem_cons, List.not_mem_nil, or_false] at hq
          rcases hq with rfl | rfl
          · show (_ : Value) = _; kernel_rfl
          · show (_ : Int) = _; kernel_rfl
        · rcases h2 : (decide ((bt s K) ≤ 64)) with _ | _
          · rcases h3 : (decide ((bt s K) ≤ 90)) with _ | _
            · rcases h4 : ((K : Int) == 0) with _ | _
              · exfalso; (first | (have g := of_decide_eq_true h0; omega) | (have g := of_decide_eq_false h0; omega) | (simp_all [rnameB, labB0, labB] <;> omega))
              · rcases h5 : (letterB (bt s K)) with _ | _
                · refine .inr ⟨refNameo2, 1000, 50, _, [], (refNamek2 s w (K) hib hn h0 h1 h2 h3 h4 h5).ok, refNamef2_bad, by decide, ?_⟩
                  intro q hq
                  simp only [List.mem_cons, List.not_mem_nil, or_false] at hq
                  rcases hq with rfl | rfl
                  · show (_ : Value) = _; kernel_rfl
                  · show (_ : Int) = _; kernel_rfl
                · exfalso; (first | (have g := of_decide_eq_true h0; omega) | (have g := of_decide_eq_false h0; omega) | (simp_all [rnameB, labB0, labB] <;> omega))
            · refine .inr ⟨refNameo4, 1000, 50, _, [], (refNamek4 s w (K) hib hn h0 h1 h2 h3).ok, refNamef4_bad, by decide, ?_⟩
              intro q hq
              simp only [List.mem_cons, List.not_mem_nil, or_false] at hq
              rcases hq with rfl | rfl
              · show (_ : Value) = _; kernel_rfl
              · show (_ : Int) = _; kernel_rfl
          · rcases h3 : ((K : Int) == 0) with _ | _
            · exfalso; (first | (have g := of_decide_eq_true h0; omega) | (have g := of_decide_eq_false h0; omega) | (simp_all [rnameB, labB0, labB] <;> omega))
            · rcases h4 : (letterB (bt s K)) with _ | _
              · refine .inr ⟨refNameo6, 1000, 50, _, [], (refNamek6 s w (K) hib hn h0 h1 h2 h3 h4).ok, refNamef6_bad, by decide, ?_⟩
                intro q hq
                simp only [List.mem_cons, List.not_mem_nil, or_false] at hq
                rcases hq with rfl | rfl
                · show (_ : Value) = _; kernel_rfl
                · show (_ : Int) = _; kernel_rfl
              · exfalso; (first | (have g := of_decide_eq_true h0; omega) | (have g := of_decide_eq_false h0; omega) | (simp_all [rnameB, labB0, labB] <;> omega))
      · exfalso; (first | (have g := of_decide_eq_true h0; omega) | (have g := of_decide_eq_false h0; omega) | (simp_all [rnameB, labB0, labB] <;> omega))
  · skip
    intro q hq
    simp only [List.mem_cons, List.not_mem_nil, or_false] at hq
    rcases hq with rfl | rfl
    · show (_ : Value) = _; kernel_rfl
    · show (0 : Int) = (0 : Int); first | rfl | (omega)
def refNametF_done : Tm := [[oq 0, anyV, .bool false, anyV, anyV, oq 0, sy 0, .bool false, anyV, anyV, anyV, anyV, anyV, anyV, anyV, anyV], [anyV, anyV, anyV, anyV, anyV, anyV, anyV, anyV, anyV, anyV, anyV, anyV, anyV, anyV, anyV, anyV], [anyV, anyV, anyV, anyV, anyV, anyV, anyV, anyV, anyV, anyV, anyV, anyV, anyV, anyV]]
def refNameHF_done : Heap := []
theorem refNamef8_done : stepT Tryd.prog [] (evBody Tryd.prog refNameo8 1000 50 14 [false, true, false, true] refNamet0 refNameH0) (.exit 0) refNametF_done refNameHF_done [.val 0 0, .num 1180591620717411303424 1180591620717411303424] = true := by decide +kernel
theorem refName_loop_done (s : ByteArray) (w : World) (hn : s.size ≤ 1000000000000) (hall : ∀ i, i < s.size → rnameB (bt s i) i = true) : LoopE (env [(s.size : Int)] [(.string s)] w) Tryd.prog (14, [false, true, false, true], refNametA, refNameHA, .exit 0, refNametF_done, refNameHF_done) := by
  refine loop_rule (σ := { st : Nat // st ≤ s.size }) (fun st => refNameE s w st.1) (fun _ => rfl) (fun st => s.size - st.1) (fun _ => refNamet0) (fun _ => refNameH0) rfl (fun _ => by decide) (by decide) ?_ ⟨0, Nat.zero_le _⟩ [.val 0 0, .num 0 1180591620717411303425] [] (by decide +kernel) (by decide) ?_
  · rintro ⟨i, hi⟩
    rcases Nat.lt_or_ge i (s.size) with h | h
    · have hib : bd 0 1000000000000000 (i : Int) := ⟨by omega, by omega⟩; have hn : bd 0 1000000000000000 (s.size : Int) := ⟨by omega, by omega⟩; have hq := hall i h; clear hall; have hlt : i < s.size := by omega
      rcases h0 : (decide ((s.size : Int) ≤ (i : Int))) with _ | _
      · rcases h1 : (wordB (bt s i)) with _ | _
        · exfalso; (first | (have g := of_decide_eq_true h0; omega) | (simp [rnameB, labB0, labB, h0, *] at hq; done) | (simp_all [rnameB, labB0, labB] <;> omega))
        · rcases h2 : (decide ((bt s i) ≤ 64)) with _ | _
          · rcases h3 : (decide ((bt s i) ≤ 90)) with _ | _
            · rcases h4 : ((i : Int) == 0) with _ | _
              · refine .inl ⟨refNameo1, 1000, 50, _, [], ⟨i + 1, h⟩, (refNamek1 s w i hib hn h0 h1 h2 h3 h4).ok, refNamet1, by decide, ?_, by show s.size - (i + 1) < s.size - i; omega⟩
                intro q hq
                simp only [List.mem_cons, List.not_mem_nil, or_false] at hq
                rcases hq with rfl | rfl
                · show (_ : Value) = _; kernel_rfl
                · show (((i : Int) + 1) : Int) = (((i + 1 : Nat)) : Int); first | rfl | (omega)
              · rcases h5 : (letterB (bt s i)) with _ | _
                · exfalso; (first | (have g := of_decide_eq_true h0; omega) | (simp [rnameB, labB0, labB, h0, *] at hq; done) | (simp_all [rnameB, labB0, labB] <;> omega))
                · refine .inl ⟨refNameo3, 1000, 50, _, [], ⟨i + 1, h⟩, (refNamek3 s w i hib hn h0 h1 h2 h3 h4 h5).ok, refNamet3, by decide, ?_, by show s.size - (i + 1) < s.size - i; omega⟩
                  intro q hq
                  simp only [List.mem_cons, List.not_mem_nil, or_false] at hq
                  rcases hq with rfl | rfl
                  · show (_ : Value) = _; kernel_rfl
                  · show (((i : Int) + 1) : Int) = (((i + 1 : Nat)) : Int); first | rfl | (omega)
            · exfalso; (first | (have g := of_decide_eq_true h0; omega) | (simp [rnameB, labB0, labB, h0, *] at hq; done) | (simp_all [rnameB, labB0, labB] <;> omega))
          · rcases h3 : ((i : Int) == 0) with _ | _
            · refine .inl ⟨refNameo5, 1000, 50, _, [], ⟨i + 1, h⟩, (refNamek5 s w i hib hn h0 h1 h2 h3).ok, refNamet5, by decide, ?_, by show s.size - (i + 1) < s.size - i; omega⟩
              intro q hq
              simp only [List.mem_cons, List.not_mem_nil, or_false] at hq
              rcases hq with rfl | rfl
              · show (_ : Value) = _; kernel_rfl
              · show (((i : Int) + 1) : Int) = (((i + 1 : Nat)) : Int); first | rfl | (omega)
            · rcases h4 : (letterB (bt s i)) with _ | _
              · exfalso; (first | (have g := of_decide_eq_true h0; omega) | (simp [rnameB, labB0, labB, h0, *] at hq; done) | (simp_all [rnameB, labB0, labB] <;> omega))
              · refine .inl ⟨refNameo7, 1000, 50, _, [], ⟨i + 1, h⟩, (refNamek7 s w i hib hn h0 h1 h2 h3 h4).ok, refNamet7, by decide, ?_, by show s.size - (i + 1) < s.size - i; omega⟩
                intro q hq
                simp only [List.mem_cons, List.not_mem_nil, or_false] at hq
                rcases hq with rfl | rfl
                · show (_ : Value) = _; kernel_rfl
                · show (((i : Int) + 1) : Int) = (((i + 1 : Nat)) : Int); first | rfl | (omega)
      · exfalso; (first | (have g := of_decide_eq_true h0; omega) | (simp [rnameB, labB0, labB, h0, *] at hq; done) | (simp_all [rnameB, labB0, labB] <;> omega))
    · have hE : s.size = i := by omega
      subst hE
      have hib : bd 0 1000000000000000 (s.size : Int) := ⟨by omega, by omega⟩; have hn : bd 0 1000000000000000 (s.size : Int) := ⟨by omega, by omega⟩
      rcases h0 : (decide ((s.size : Int) ≤ ((s.size) : Int))) with _ | _
      · rcases h1 : (wordB (bt s (s.size))) with _ | _
        · exfalso; (first | (have g := of_decide_eq_true h0; omega) | (have g := of_decide_eq_false h0; omega) | (simp_all [rnameB, labB0, labB] <;> omega))
        · rcases h2 : (decide ((bt s (s.size)) ≤ 64)) with _ | _
          · rcases h3 : (decide ((bt s (s.size)) ≤ 90)) with _ | _
            · rcases h4 : (((s.size) : Int) == 0) with _ | _
              · exfalso; (first | (have g := of_decide_eq_true h0; omega) | (have g := of_decide_eq_false h0; omega) | (simp_all [rnameB, labB0, labB] <;> omega))
              · rcases h5 : (letterB (bt s (s.size))) with _ | _
                · exfalso; (first | (have g := of_decide_eq_true h0; omega) | (have g := of_decide_eq_false h0; omega) | (simp_all [rnameB, labB0, labB] <;> omega))
                · exfalso; (first | (have g := of_decide_eq_true h0; omega) | (have g := of_decide_eq_false h0; omega) | (simp_all [rnameB, labB0, labB] <;> omega))
            · exfalso; (first | (have g := of_decide_eq_true h0; omega) | (have g := of_decide_eq_false h0; omega) | (simp_all [rnameB, labB0, labB] <;> omega))
          · rcases h3 : (((s.size) : Int) == 0) with _ | _
            · exfalso; (first | (have g := of_decide_eq_true h0; omega) | (have g := of_decide_eq_false h0; omega) | (simp_all [rnameB, labB0, labB] <;> omega))
            · rcases h4 : (letterB (bt s (s.size))) with _ | _
              · exfalso; (first | (have g := of_decide_eq_true h0; omega) | (have g := of_decide_eq_false h0; omega) | (simp_all [rnameB, labB0, labB] <;> omega))
              · exfalso; (first | (have g := of_decide_eq_true h0; omega) | (have g := of_decide_eq_false h0; omega) | (simp_all [rnameB, labB0, labB] <;> omega))
      · refine .inr ⟨refNameo8, 1000, 50, _, [], (refNamek8 s w (s.size) hib hn h0).ok, refNamef8_done, by decide, ?_⟩
        intro q hq
        simp only [List.mem_cons, List.not_mem_nil, or_false] at hq
        rcases hq with rfl | rfl
        · show (_ : Value) = _; kernel_rfl
        · show (_ : Int) = _; kernel_rfl
  · skip
    intro q hq
    simp only [List.mem_cons, List.not_mem_nil, or_false] at hq
    rcases hq with rfl | rfl
    · show (_ : Value) = _; kernel_rfl
    · show (0 : Int) = (0 : Int); first | rfl | (omega)
def refLabelt0 : Tm := [[oq 0, undef, .bool false, sy 1, anyV, anyV, anyV, anyV, anyV, anyV, anyV, anyV, anyV, anyV, anyV, anyV], [anyV, anyV, anyV, anyV, anyV, anyV, anyV, anyV, anyV, anyV, undef, undef, undef, undef, undef, undef], [undef, undef, undef, undef, undef, undef, undef, undef, undef, undef, undef, undef, undef, undef, undef], []]
def refLabelH0 : Heap := []
def refLabeltA : Tm := [[oq 0, undef, .bool false, .int .i64 0, undef, undef, undef, undef, undef, undef, undef, undef, undef, undef, undef, undef], [undef, undef, undef, undef, undef, undef, undef, undef, undef, undef, undef, undef, undef, undef, undef, undef], [undef, undef, undef, undef, undef, undef, undef, undef, undef, undef, undef, undef, undef, undef, undef], []]
def refLabelHA : Heap := []
def refLabelo0 : Orc := { bin := [(.lss, 3, .int .i64 (sn 1), .int .i64 (sn 0), .bool true), (.lss, 5, .int .u8 (sn 2), .int .u8 32, .bool false), (.gtr, 5, .int .u8 (sn 2), .int .u8 126, .bool true)], idx := [(9, oq 0, .int .i64 (sn 1), .int .u8 (sn 2))], lens := [(true, oq 0, .int .i64 (sn 0))] }
def refLabelo1 : Orc := { bin := [(.lss, 3, .int .i64 (sn 1), .int .i64 (sn 0), .bool true), (.lss, 5, .int .u8 (sn 2), .int .u8 32, .bool false), (.gtr, 5, .int .u8 (sn 2), .int .u8 126, .bool false), (.eql, 5, .int .u8 (sn 2), .int .u8 34, .bool false), (.add, 3, .int .i64 (sn 1), .int .i64 1, .int .i64 (sn 3))], idx := [(9, oq 0, .int .i64 (sn 1), .int .u8 (sn 2))], lens := [(true, oq 0, .int .i64 (sn 0))] }
def refLabelo2 : Orc := { bin := [(.lss, 3, .int .i64 (sn 1), .int .i64 (sn 0), .bool true), (.lss, 5, .int .u8 (sn 2), .int .u8 32, .bool false), (.gtr, 5, .int .u8 (sn 2), .int .u8 126, .bool false), (.eql, 5, .int .u8 (sn 2), .int .u8 34, .bool true)], idx := [(9, oq 0, .int .i64 (sn 1), .int .u8 (sn 2))], lens := [(true, oq 0, .int .i64 (sn 0))] }
def refLabelo3 : Orc := { bin := [(.lss, 3, .int .i64 (sn 1), .int .i64 (sn 0), .bool true), (.lss, 5, .int .u8 (sn 2), .int .u8 32, .bool true)], idx := [(9, oq 0, .int .i64 (sn 1), .int .u8 (sn 2))], lens := [(true, oq 0, .int .i64 (sn 0))] }
def refLabelo4 : Orc := { bin := [(.lss, 3, .int .i64 (sn 1), .int .i64 (sn 0), .bool false)], lens := [(true, oq 0, .int .i64 (sn 0))] }
noncomputable def refLabelE (s : ByteArray) (w : World) (i : Nat) : Env := env [(s.size : Int), (i : Int), (bt s i), ((i : Int) + 1)] [(.string s)] w
theorem refLabelt1 : stepT Tryd.prog [] (evBody Tryd.prog refLabelo1 1000 50 16 [false, true, false, true] refLabelt0 refLabelH0) .normal refLabelt0 refLabelH0 [.val 0 0, .num 1180591620717411303427 1180591620717411303425] = true := by decide +kernel
theorem refLabelk0 (s : ByteArray) (w : World) (i : Nat) (hib : bd 0 1000000000000000 (i : Int)) (hn : bd 0 1000000000000000 (s.size : Int)) (h0 : (decide ((s.size : Int) ≤ (i : Int))) = false) (h1 : (decide ((bt s i) ≤ 31)) = false) (h2 : (decide ((bt s i) ≤ 126)) = false) : Know (refLabelE s w i) Tryd.prog refLabelo0 := by
  exact ⟨(all_cons (cmpOK (op := .lss) (ty := 3) (k := .i64) (n := (sn 1)) (m := (sn 0)) (t := true) (a := (i : Int)) (b := (s.size : Int)) (by kernel_rfl) (by kernel_rfl) (congrArg some ((lt_of_le h0)))) (all_cons (cmpOK (op := .lss) (ty := 5) (k := .u8) (n := (sn 2)) (m := 32) (t := false) (a := (bt s i)) (b := 32) (by kernel_rfl) (by kernel_rfl) (congrArg some ((lt_c h1 rfl)))) (all_cons (cmpOK (op := .gtr) (ty := 5) (k := .u8) (n := (sn 2)) (m := 126) (t := true) (a := (bt s i)) (b := 126) (by kernel_rfl) (by kernel_rfl) (congrArg some ((gt_of_le h2)))) all_nil))), all_nil, all_nil, all_nil, all_nil, all_nil, all_nil, (all_cons (sidxOK (i := 0) (j := (sn 1)) (r := (sn 2)) (k := i) rfl (by kernel_rfl) (by kernel_rfl) (by have g := of_decide_eq_false h0; omega) (by kernel_rfl)) all_nil), all_nil, all_nil, (all_cons (slenOK (i := 0) (r := (sn 0)) rfl (by kernel_rfl)) all_nil), all_nil, all_nil, all_nil, all_nil, all_nil, all_nil⟩
theorem refLabelk1 (s : ByteArray) (w : World) (i : Nat) (hib : bd 0 1000000000000000 (i : Int)) (hn : bd 0 1000000000000000 (s.size : Int)) (h0 : (decide ((s.size : Int) ≤ (i : Int))) = false) (h1 : (decide ((bt s i) ≤ 31)) = false) (h2 : (decide ((bt s i) ≤ 126)) = true) (h3 : ((bt s i) == 34) = false) : Know (refLabelE s w i) Tryd.prog refLabelo1 := by
  have bq0 : bd 1 1000000000000001 (((i : Int) + 1)) := bd_add hib (bd_lit (l := 1) (h := 1) rfl) rfl
  exact ⟨(all_cons (cmpOK (op := .lss) (ty := 3) (k := .i64) (n := (sn 1)) (m := (sn 0)) (t := true) (a := (i : Int)) (b := (s.size : Int)) (by kernel_rfl) (by kernel_rfl) (congrArg some ((lt_of_le h0)))) (all_cons (cmpOK (op := .lss) (ty := 5) (k := .u8) (n := (sn 2)) (m := 32) (t := false) (a := (bt s i)) (b := 32) (by kernel_rfl) (by kernel_rfl) (congrArg some ((lt_c h1 rfl)))) (all_cons (cmpOK (op := .gtr) (ty := 5) (k := .u8) (n := (sn 2)) (m := 126) (t := false) (a := (bt s i)) (b := 126) (by kernel_rfl) (by kernel_rfl) (congrArg some ((gt_of_le h2)))) (all_cons (cmpOK (op := .eql) (ty := 5) (k := .u8) (n := (sn 2)) (m := 34) (t := false) (a := (bt s i)) (b := 34) (by kernel_rfl) (by kernel_rfl) (congrArg some (h3))) (all_cons (arOK (op := .add) (ty := 3) (k := .i64) (n := (sn 1)) (m := 1) (r := (sn 3)) (a := (i : Int)) (b := 1) (c := (((i : Int) + 1))) (d := (i : Int) + 1) (by kernel_rfl) (by kernel_rfl) (by kernel_rfl) rfl (wr_bd bq0 rfl)) all_nil))))), all_nil, all_nil, all_nil, all_nil, all_nil, all_nil, (all_cons (sidxOK (i := 0) (j := (sn 1)) (r := (sn 2)) (k := i) rfl (by kernel_rfl) (by kernel_rfl) (by have g := of_decide_eq_false h0; omega) (by kernel_rfl)) all_nil), all_nil, all_nil, (all_cons (slenOK (i := 0) (r := (sn 0)) rfl (by kernel_rfl)) all_nil), all_nil, all_nil, all_nil, all_nil, all_nil, all_nil⟩
theorem refLabelk2 (s : ByteArray) (w : World) (i : Nat) (hib : bd 0 1000000000000000 (i : Int)) (hn : bd 0 1000000000000000 (s.size : Int)) (h0 : (decide ((s.size : Int) ≤ (i : Int))) = false) (h1 : (decide ((bt s i) ≤ 31)) = false) (h2 : (decide ((bt s i) ≤ 126)) = true) (h3 : ((bt s i) == 34) = true) : Know (refLabelE s w i) Tryd.prog refLabelo2 := by
  exact ⟨(all_cons (cmpOK (op := .lss) (ty := 3) (k := .i64) (n := (sn 1)) (m := (sn 0)) (t := true) (a := (i : Int)) (b := (s.size : Int)) (by kernel_rfl) (by kernel_rfl) (congrArg some ((lt_of_le h0)))) (all_cons (cmpOK (op := .lss) (ty := 5) (k := .u8) (n := (sn 2)) (m := 32) (t := false) (a := (bt s i)) (b := 32) (by kernel_rfl) (by kernel_rfl) (congrArg some ((lt_c h1 rfl)))) (all_cons (cmpOK (op := .gtr) (ty := 5) (k := .u8) (n := (sn 2)) (m := 126) (t := false) (a := (bt s i)) (b := 126) (by kernel_rfl) (by kernel_rfl) (congrArg some ((gt_of_le h2)))) (all_cons (cmpOK (op := .eql) (ty := 5) (k := .u8) (n := (sn 2)) (m := 34) (t := true) (a := (bt s i)) (b := 34) (by kernel_rfl) (by kernel_rfl) (congrArg some (h3))) all_nil)))), all_nil, all_nil, all_nil, all_nil, all_nil, all_nil, (all_cons (sidxOK (i := 0) (j := (sn 1)) (r := (sn 2)) (k := i) rfl (by kernel_rfl) (by kernel_rfl) (by have g := of_decide_eq_false h0; omega) (by kernel_rfl)) all_nil), all_nil, all_nil, (all_cons (slenOK (i := 0) (r := (sn 0)) rfl (by kernel_rfl)) all_nil), all_nil, all_nil, all_nil, all_nil, all_nil, all_nil⟩
theorem refLabelk3 (s : ByteArray) (w : World) (i : Nat) (hib : bd 0 1000000000000000 (i : Int)) (hn : bd 0 1000000000000000 (s.size : Int)) (h0 : (decide ((s.size : Int) ≤ (i : Int))) = false) (h1 : (decide ((bt s i) ≤ 31)) = true) : Know (refLabelE s w i) Tryd.prog refLabelo3 := by
  exact ⟨(all_cons (cmpOK (op := .lss) (ty := 3) (k := .i64) (n := (sn 1)) (m := (sn 0)) (t := true) (a := (i : Int)) (b := (s.size : Int)) (by kernel_rfl) (by kernel_rfl) (congrArg some ((lt_of_le h0)))) (all_cons (cmpOK (op := .lss) (ty := 5) (k := .u8) (n := (sn 2)) (m := 32) (t := true) (a := (bt s i)) (b := 32) (by kernel_rfl) (by kernel_rfl) (congrArg some ((lt_c h1 rfl)))) all_nil)), all_nil, all_nil, all_nil, all_nil, all_nil, all_nil, (all_cons (sidxOK (i := 0) (j := (sn 1)) (r := (sn 2)) (k := i) rfl (by kernel_rfl) (by kernel_rfl) (by have g := of_decide_eq_false h0; omega) (by kernel_rfl)) all_nil), all_nil, all_nil, (all_cons (slenOK (i := 0) (r := (sn 0)) rfl (by kernel_rfl)) all_nil), all_nil, all_nil, all_nil, all_nil, all_nil, all_nil⟩
theorem refLabelk4 (s : ByteArray) (w : World) (i : Nat) (hib : bd 0 1000000000000000 (i : Int)) (hn : bd 0 1000000000000000 (s.size : Int)) (h0 : (decide ((s.size : Int) ≤ (i : Int))) = true) : Know (refLabelE s w i) Tryd.prog refLabelo4 := by
  exact ⟨(all_cons (cmpOK (op := .lss) (ty := 3) (k := .i64) (n := (sn 1)) (m := (sn 0)) (t := false) (a := (i : Int)) (b := (s.size : Int)) (by kernel_rfl) (by kernel_rfl) (congrArg some ((lt_of_le h0)))) all_nil), all_nil, all_nil, all_nil, all_nil, all_nil, all_nil, all_nil, all_nil, all_nil, (all_cons (slenOK (i := 0) (r := (sn 0)) rfl (by kernel_rfl)) all_nil), all_nil, all_nil, all_nil, all_nil, all_nil, all_nil⟩
def refLabeltF_bad : Tm := [[oq 0, anyV, .bool false, anyV, anyV, oq 0, sy 0, .bool true, anyV, anyV, oq 0, anyV, anyV, anyV, anyV, anyV], [anyV, anyV, anyV, anyV, anyV, anyV, anyV, anyV, anyV, .bool true, anyV, anyV, anyV, anyV, anyV, anyV], [anyV, anyV, anyV, anyV, anyV, anyV, anyV, anyV, anyV, anyV, anyV, anyV, anyV, anyV, anyV], []]
def refLabelHF_bad : Heap := []
theorem refLabelf0_bad : stepT Tryd.prog [] (evBody Tryd.prog refLabelo0 1000 50 16 [false, true, false, true] refLabelt0 refLabelH0) (.ret) refLabeltF_bad refLabelHF_bad [.val 0 0, .num 1180591620717411303424 1180591620717411303424] = true := by decide +kernel
theorem refLabelf2_bad : stepT Tryd.prog [] (evBody Tryd.prog refLabelo2 1000 50 16 [false, true, false, true] refLabelt0 refLabelH0) (.ret) refLabeltF_bad refLabelHF_bad [.val 0 0, .num 1180591620717411303424 1180591620717411303424] = true := by decide +kernel
theorem refLabelf3_bad : stepT Tryd.prog [] (evBody Tryd.prog refLabelo3 1000 50 16 [false, true, false, true] refLabelt0 refLabelH0) (.ret) refLabeltF_bad refLabelHF_bad [.val 0 0, .num 1180591620717411303424 1180591620717411303424] = true := by decide +kernel
theorem refLabel_loop_bad (s : ByteArray) (w : World) (hn : s.size ≤ 1000000000000) (K : Nat) (hK : K < s.size) (hq0 : labB0 (bt s K) K = false) (hall : ∀ i, i < K → labB0 (bt s i) i = true) : LoopE (env [(s.size : Int), (bt s 0), ((s.size : Int) - 1), (bt s (s.size - 1))] [(.string s)] w) Tryd.prog (16, [false, true, false, true], refLabeltA, refLabelHA, .ret, refLabeltF_bad, refLabelHF_bad) := by
  refine loop_rule (σ := { st : Nat // st ≤ K }) (fun st => refLabelE s w st.1) (fun _ => rfl) (fun st => K - st.1) (fun _ => refLabelt0) (fun _ => refLabelH0) rfl (fun _ => by decide) (by decide) ?_ ⟨0, Nat.zero_le _⟩ [.val 0 0, .num 0 1180591620717411303425] [] (by decide +kernel) (by decide) ?_
  · rintro ⟨i, hi⟩
    rcases Nat.lt_or_ge i (K) with h | h
    · have hib : bd 0 1000000000000000 (i : Int) := ⟨by omega, by omega⟩; have hn : bd 0 1000000000000000 (s.size : Int) := ⟨by omega, by omega⟩; have hq := hall i h; clear hall; have hlt : i < s.size := by omega
      rcases h0 : (decide ((s.size : Int) ≤ (i : Int))) with _ | _
      · rcases h1 : (decide ((bt s i) ≤ 31)) with _ | _
        · rcases h2 : (decide ((bt s i) ≤ 126)) with _ | _
          · exfalso; (first | (have g := of_decide_eq_true h0; omega) | (simp [rnameB, labB0, labB, h0, *] at hq; done) | (simp_all [rnameB, labB0, labB] <;> omega))
          · rcases h3 : ((bt s i) == 34) with _ | _
            · refine .inl ⟨refLabelo1, 1000, 50, _, [], ⟨i + 1, h⟩, (refLabelk1 s w i hib hn h0 h1 h2 h3).ok, refLabelt1, by decide, ?_, by show K - (i + 1) < K - i; omega⟩
              intro q hq
              simp only [List.mem_cons, List.not_mem_nil, or_false] at hq
              rcases hq with rfl | rfl
              · show (_ : Value) = _; kernel_rfl
              · show (((i : Int) + 1) : Int) = (((i + 1 : Nat)) : Int); first | rfl | (omega)
            · exfalso; (first | (have g := of_decide_eq_true h0; omega) | (simp [rnameB, labB0, labB, h0, *] at hq; done) | (simp_all [rnameB, labB0, labB] <;> omega))
        · exfalso; (first | (have g := of_decide_eq_true h0; omega) | (simp [rnameB, labB0, labB, h0, *] at hq; done) | (simp_all [rnameB, labB0, labB] <;> omega))
      · exfalso; (first | (have g := of_decide_eq_true h0; omega) | (simp [rnameB, labB0, labB, h0, *] at hq; done) | (simp_all [rnameB, labB0, labB] <;> omega))
    · have hE : K = i := by omega
      subst hE
      have hib : bd 0 1000000000000000 (K : Int) := ⟨by omega, by omega⟩; have hn : bd 0 1000000000000000 (s.size : Int) := ⟨by omega, by omega⟩; have hq := hq0; clear hall hq0; have hlt : K < s.size := by omega
      rcases h0 : (decide ((s.size : Int) ≤ (K : Int))) with _ | _
      · rcases h1 : (decide ((bt s K) ≤ 31)) with _ | _
        · rcases h2 : (decide ((bt s K) ≤ 126)) with _ | _
          · refine .inr ⟨refLabelo0, 1000, 50, _, [], (refLabelk0 s w (K) hib hn h0 h1 h2).ok, refLabelf0_bad, by decide, ?_⟩
            intro q hq
            simp only [List.mem_cons, List.not_mem_nil, or_false] at hq
            rcases hq with rfl | rfl
            · show (_ : Value) = _; kernel_rfl
            · show (_ : Int) = _; kernel_rfl
          · rcases h3 : ((bt s K) == 34) with _ | _
            · exfalso; (first | (have g := of_decide_eq_true h0; omega) | (have g := of_decide_eq_false h0; omega) | (simp_all [rnameB, labB0, labB] <;> omega))
            · refine .inr ⟨refLabelo2, 1000, 50, _, [], (refLabelk2 s w (K) hib hn h0 h1 h2 h3).ok, refLabelf2_bad, by decide, ?_⟩
              intro q hq
              simp only [List.mem_cons, List.not_mem_nil, or_false] at hq
              rcases hq with rfl | rfl
              · show (_ : Value) = _; kernel_rfl
              · show (_ : Int) = _; kernel_rfl
        · refine .inr ⟨refLabelo3, 1000, 50, _, [], (refLabelk3 s w (K) hib hn h0 h1).ok, refLabelf3_bad, by decide, ?_⟩
          intro q hq
          simp only [List.mem_cons, List.not_mem_nil, or_false] at hq
          rcases hq with rfl | rfl
          · show (_ : Value) = _; kernel_rfl
          · show (_ : Int) = _; kernel_rfl
      · exfalso; (first | (have g := of_decide_eq_true h0; omega) | (have g := of_decide_eq_false h0; omega) | (simp_all [rnameB, labB0, labB] <;> omega))
  · skip
    intro q hq
    simp only [List.mem_cons, List.not_mem_nil, or_false] at hq
    rcases hq with rfl | rfl
    · show (_ : Value) = _; kernel_rfl
    · show (0 : Int) = (0 : Int); first | rfl | (omega)
def refLabeltF_done : Tm := [[oq 0, anyV, .bool false, anyV, anyV, oq 0, sy 0, .bool false, anyV, anyV, anyV, anyV, anyV, anyV, anyV, anyV], [anyV, anyV, anyV, anyV, anyV, anyV, anyV, anyV, anyV, anyV, anyV, anyV, anyV, anyV, anyV, anyV], [anyV, anyV, anyV, anyV, anyV, anyV, anyV, anyV, anyV, anyV, anyV, anyV, anyV, anyV, anyV], []]
def refLabelHF_done : Heap := []
theorem refLabelf4_done : stepT Tryd.prog [] (evBody Tryd.prog refLabelo4 1000 50 16 [false, true, false, true] refLabelt0 refLabelH0) (.exit 0) refLabeltF_done refLabelHF_done [.val 0 0, .num 1180591620717411303424 1180591620717411303424] = true := by decide +kernel
theorem refLabel_loop_done (s : ByteArray) (w : World) (hn : s.size ≤ 1000000000000) (hall : ∀ i, i < s.size → labB0 (bt s i) i = true) : LoopE (env [(s.size : Int), (bt s 0), ((s.size : Int) - 1), (bt s (s.size - 1))] [(.string s)] w) Tryd.prog (16, [false, true, false, true], refLabeltA, refLabelHA, .exit 0, refLabeltF_done, refLabelHF_done) := by
  refine loop_rule (σ := { st : Nat // st ≤ s.size }) (fun st => refLabelE s w st.1) (fun _ => rfl) (fun st => s.size - st.1) (fun _ => refLabelt0) (fun _ => refLabelH0) rfl (fun _ => by decide) (by decide) ?_ ⟨0, Nat.zero_le _⟩ [.val 0 0, .num 0 1180591620717411303425] [] (by decide +kernel) (by decide) ?_
  · rintro ⟨i, hi⟩
    rcases Nat.lt_or_ge i (s.size) with h | h
    · have hib : bd 0 1000000000000000 (i : Int) := ⟨by omega, by omega⟩; have hn : bd 0 1000000000000000 (s.size : Int) := ⟨by omega, by omega⟩; have hq := hall i h; clear hall; have hlt : i < s.size := by omega
      rcases h0 : (decide ((s.size : Int) ≤ (i : Int))) with _ | _
      · rcases h1 : (decide ((bt s i) ≤ 31)) with _ | _
        · rcases h2 : (decide ((bt s i) ≤ 126)) with _ | _
          · exfalso; (first | (have g := of_decide_eq_true h0; omega) | (simp [rnameB, labB0, labB, h0, *] at hq; done) | (simp_all [rnameB, labB0, labB] <;> omega))
          · rcases h3 : ((bt s i) == 34) with _ | _
            · refine .inl ⟨refLabelo1, 1000, 50, _, [], ⟨i + 1, h⟩, (refLabelk1 s w i hib hn h0 h1 h2 h3).ok, refLabelt1, by decide, ?_, by show s.size - (i + 1) < s.size - i; omega⟩
              intro q hq
              simp only [List.mem_cons, List.not_mem_nil, or_false] at hq
              rcases hq with rfl | rfl
              · show (_ : Value) = _; kernel_rfl
              · show (((i : Int) + 1) : Int) = (((i + 1 : Nat)) : Int); first | rfl | (omega)
            · exfalso; (first | (have g := of_decide_eq_true h0; omega) | (simp [rnameB, labB0, labB, h0, *] at hq; done) | (simp_all [rnameB, labB0, labB] <;> omega))
        · exfalso; (first | (have g := of_decide_eq_true h0; omega) | (simp [rnameB, labB0, labB, h0, *] at hq; done) | (simp_all [rnameB, labB0, labB] <;> omega))
      · exfalso; (first | (have g := of_decide_eq_true h0; omega) | (simp [rnameB, labB0, labB, h0, *] at hq; done) | (simp_all [rnameB, labB0, labB] <;> omega))
    · have hE : s.size = i := by omega
      subst hE
      have hib : bd 0 1000000000000000 (s.size : Int) := ⟨by omega, by omega⟩; have hn : bd 0 1000000000000000 (s.size : Int) := ⟨by omega, by omega⟩
      rcases h0 : (decide ((s.size : Int) ≤ ((s.size) : Int))) with _ | _
      · rcases h1 : (decide ((bt s (s.size)) ≤ 31)) with _ | _
        · rcases h2 : (decide ((bt s (s.size)) ≤ 126)) with _ | _
          · exfalso; (first | (have g := of_decide_eq_true h0; omega) | (have g := of_decide_eq_false h0; omega) | (simp_all [rnameB, labB0, labB] <;> omega))
          · rcases h3 : ((bt s (s.size)) == 34) with _ | _
            · exfalso; (first | (have g := of_decide_eq_true h0; omega) | (have g := of_decide_eq_false h0; omega) | (simp_all [rnameB, labB0, labB] <;> omega))
            · exfalso; (first | (have g := of_decide_eq_true h0; omega) | (have g := of_decide_eq_false h0; omega) | (simp_all [rnameB, labB0, labB] <;> omega))
        · exfalso; (first | (have g := of_decide_eq_true h0; omega) | (have g := of_decide_eq_false h0; omega) | (simp_all [rnameB, labB0, labB] <;> omega))
      · refine .inr ⟨refLabelo4, 1000, 50, _, [], (refLabelk4 s w (s.size) hib hn h0).ok, refLabelf4_done, by decide, ?_⟩
        intro q hq
        simp only [List.mem_cons, List.not_mem_nil, or_false] at hq
        rcases hq with rfl | rfl
        · show (_ : Value) = _; kernel_rfl
        · show (_ : Int) = _; kernel_rfl
  · skip
    intro q hq
    simp only [List.mem_cons, List.not_mem_nil, or_false] at hq
    rcases hq with rfl | rfl
    · show (_ : Value) = _; kernel_rfl
    · show (0 : Int) = (0 : Int); first | rfl | (omega)
end Go.Proofs.YtmoppmpnbkemdaaDoor.Ev
