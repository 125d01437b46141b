/- prism: the loops of Move. -/
import Derived.Test.YtapcooolainmdaaPm5b
namespace Go.Proofs.Ytapcooolainmdaa.Ev
open Go.RowKit
set_option linter.unusedVariables false
set_option linter.unusedSimpArgs false
set_option maxRecDepth 8000
def mwtA : Tm := [[.agg #[oq 0, sy 1, sy 2], .agg #[sy 3, sy 4, sy 5], .pointer (some ⟨0, 0, none⟩), .pointer (some ⟨1, 0, none⟩), .pointer (some ⟨2, 0, none⟩), .int .i64 0, .int .i64 0, .pointer (some ⟨4, 0, none⟩), undef, undef, undef, .agg #[oq 0, sy 1, sy 2], .int .i64 0, .int .i64 0, .bool false, undef], [undef, .pointer (some ⟨1, 0, none⟩), sy 3, .pointer (some ⟨1, 1, none⟩), sy 4, .pointer (some ⟨1, 2, none⟩), sy 5, .slice (some ⟨3, 0, none⟩) 3 3, .bool true, .bool false, undef, .pointer (some ⟨0, 1, none⟩), sy 1, .pointer (some ⟨1, 2, none⟩), sy 5, sy 6], [.pointer (some ⟨0, 2, none⟩), sy 2, .pointer (some ⟨1, 2, none⟩), sy 5, sy 7, .agg #[.slice none 0 0, sy 6, sy 7], .pointer (some ⟨0, 0, none⟩), oq 0, sy 0, .int .i64 0, undef, undef, undef, undef, undef, undef], [undef, undef, undef, undef, undef, undef, undef, undef, undef, undef, undef, undef, undef, undef, undef, undef], [undef, undef, undef, undef, undef]]
def mwHA : Heap := [some ⟨[oq 0, sy 1, sy 2], 25⟩, some ⟨[sy 3, sy 4, sy 5], 30⟩, some ⟨[.slice none 0 0, .int .i64 0, .int .i64 0], 25⟩, some ⟨[sy 3, sy 4, sy 5], 3⟩, some ⟨[.slice none 0 0, sy 6, sy 7], 25⟩]
def mwtB : Tm := [[.agg #[oq 0, sy 1, sy 2], .agg #[sy 3, sy 4, sy 5], .pointer (some ⟨0, 0, none⟩), .pointer (some ⟨1, 0, none⟩), .pointer (some ⟨2, 0, none⟩), .int .i64 0, .int .i64 0, .pointer (some ⟨4, 0, none⟩), undef, anyV, undef, .agg #[oq 0, sy 1, sy 2], .int .i64 0, .int .i64 0, .bool false, undef], [undef, .pointer (some ⟨1, 0, none⟩), sy 3, .pointer (some ⟨1, 1, none⟩), sy 4, .pointer (some ⟨1, 2, none⟩), sy 5, .slice (some ⟨3, 0, none⟩) 3 3, .bool true, .bool false, undef, .pointer (some ⟨0, 1, none⟩), sy 1, .pointer (some ⟨1, 2, none⟩), sy 5, sy 6], [.pointer (some ⟨0, 2, none⟩), sy 2, .pointer (some ⟨1, 2, none⟩), sy 5, sy 7, .agg #[.slice none 0 0, sy 6, sy 7], .pointer (some ⟨0, 0, none⟩), oq 0, sy 0, sy 8, anyV, anyV, anyV, anyV, anyV, anyV], [anyV, anyV, anyV, anyV, anyV, anyV, anyV, anyV, anyV, anyV, anyV, anyV, anyV, anyV, undef, undef], [undef, undef, undef, undef, undef]]
def mwHB : Heap := [some ⟨[oq 0, sy 1, sy 2], 25⟩, some ⟨[sy 3, sy 4, sy 5], 30⟩, some ⟨[.slice none 0 0, .int .i64 0, .int .i64 0], 25⟩, some ⟨[sy 3, sy 4, sy 5], 3⟩, some ⟨[.complex .f32 5 12, sy 6, sy 7], 25⟩, some ⟨[], 1180591620717413400636⟩]
def mwtt : Nat → Tm
  | 0 => mwtA
  | _ + 1 => mwtB
def mwHH : Nat → Heap
  | 0 => mwHA
  | _ + 1 => mwHB
theorem mwtp {k : Nat} (h : 0 < k) : mwtt k = mwtB ∧ mwHH k = mwHB := by cases k with | zero => omega | succ k => exact ⟨rfl, rfl⟩
theorem mwhl (k : Nat) : List.length mwHA ≤ List.length (mwHH k) := by
  cases k with
  | zero => exact Nat.le_refl _
  | succ k => show List.length mwHA ≤ List.length mwHB; decide
def mwa0 : Orc := { bin := [(.lss, 3, .int .i64 0, .int .i64 (sn 0), .bool true), (.add, 3, .int .i64 (sn 9), .int .i64 (sn 3), .int .i64 (sn 11)), (.add, 3, .int .i64 (sn 10), .int .i64 (sn 4), .int .i64 (sn 12)), (.add, 3, .int .i64 0, .int .i64 1, .int .i64 (sn 13))], lds := [(60, oq 1, .agg #[sy 9, sy 10])], ixa := [(23, oq 0, .int .i64 0, oq 1)], lens := [(false, oq 0, .int .i64 (sn 0))], laps := [(2, [sy 11, sy 12], 1026)] }
def mwa1 : Orc := { bin := [(.lss, 3, .int .i64 0, .int .i64 (sn 0), .bool false)], lens := [(false, oq 0, .int .i64 (sn 0))] }
def mwo0 : Orc := { bin := [(.lss, 3, .int .i64 (sn 8), .int .i64 (sn 0), .bool true), (.add, 3, .int .i64 (sn 9), .int .i64 (sn 3), .int .i64 (sn 11)), (.add, 3, .int .i64 (sn 10), .int .i64 (sn 4), .int .i64 (sn 12)), (.add, 3, .int .i64 (sn 8), .int .i64 1, .int .i64 (sn 13))], lds := [(60, oq 1, .agg #[sy 9, sy 10])], ixa := [(23, oq 0, .int .i64 (sn 8), oq 1)], lens := [(false, oq 0, .int .i64 (sn 0))], laps := [(2, [sy 11, sy 12], 1026)] }
def mwo1 : Orc := { bin := [(.lss, 3, .int .i64 (sn 8), .int .i64 (sn 0), .bool false)], lens := [(false, oq 0, .int .i64 (sn 0))] }
noncomputable def mwE (a : Option Addr) (n c : Nat) (X Y : Nat → Int) (ptr : Nat → Addr) (lo hi bx by_ bz : Int) (w : World) (i : Nat) : Env := env [(n : Int), lo, hi, bx, by_, bz, (lo + bz), (hi + bz), (i : Int), (X i), (Y i), ((X i) + bx), ((Y i) + by_), ((i : Int) + 1)] [(.slice a n c), (.pointer (some (ptr i)))] w [(ptL (fun k => X k + bx) (fun k => Y k + by_) i), (ptL (fun k => X k + bx) (fun k => Y k + by_) (i + 1))]
theorem mwsa0 : stepT Try.prog [0, 1, 2, 3, 4, 7] (evBody Try.prog mwa0 1000 50 29 [false, true, false, true, true, true, true] mwtA mwHA) .normal mwtB mwHB [.val 0 0, .num 1180591620717411303425 1180591620717411303425, .num 1180591620717411303426 1180591620717411303426, .num 1180591620717411303427 1180591620717411303427, .num 1180591620717411303428 1180591620717411303428, .num 1180591620717411303429 1180591620717411303429, .num 1180591620717411303430 1180591620717411303430, .num 1180591620717411303431 1180591620717411303431, .num 1180591620717411303424 1180591620717411303424, .num 1 1180591620717411303432, .cel [sy 11, sy 12] 2] = true := by decide +kernel
theorem mwso0 : stepT Try.prog [0, 1, 2, 3, 4, 8] (evBody Try.prog mwo0 1000 50 29 [false, true, false, true, true, true, true] mwtB mwHB) .normal mwtB mwHB [.val 0 0, .num 1180591620717411303425 1180591620717411303425, .num 1180591620717411303426 1180591620717411303426, .num 1180591620717411303427 1180591620717411303427, .num 1180591620717411303428 1180591620717411303428, .num 1180591620717411303429 1180591620717411303429, .num 1180591620717411303430 1180591620717411303430, .num 1180591620717411303431 1180591620717411303431, .num 1180591620717411303424 1180591620717411303424, .num 1180591620717411303437 1180591620717411303432, .lst 1026 2] = true := by decide +kernel
theorem mwka0 (a : Option Addr) (n c : Nat) (X Y : Nat → Int) (ptr : Nat → Addr) (lo hi bx by_ bz : Int) (w : World) (hib : bd 0 1000000000000000 (0 : Int)) (hn : bd 0 1000000000000 (n : Int)) (hn0 : n ≤ 1000000000000) (h64 : n ≤ 64) (hX : ∀ k, k < n → bd (-1000000) 1000000 (X k) ∧ bd (-1000000) 1000000 (Y k)) (hS : Sl Try.prog w (.slice a n c) n 22 60 (fun k => .agg #[.int .i64 (X k), .int .i64 (Y k)]) ptr) (hP : Sl Try.prog w (.slice a n c) n 23 60 (fun k => .agg #[.int .i64 (X k), .int .i64 (Y k)]) ptr) (h_lo : bd (-1000000) 1000000 lo) (h_hi : bd (-1000000) 1000000 hi) (h_bx : bd (-1000000) 1000000 bx) (h_by_ : bd (-1000000) 1000000 by_) (h_bz : bd (-1000000) 1000000 bz)  (h0 : (decide ((n : Int) ≤ (0 : Int))) = false) : Know (mwE a n c X Y ptr lo hi bx by_ bz w 0) Try.prog mwa0 := by
  have bq0 : bd (-2000000) 2000000 (((X 0) + bx)) := bd_add (hX _ (by have g := of_decide_eq_false h0; omega)).1 h_bx rfl
  have bq1 : bd (-2000000) 2000000 (((Y 0) + by_)) := bd_add (hX _ (by have g := of_decide_eq_false h0; omega)).2 h_by_ rfl
  have bq2 : bd 1 1000000000000001 (((0 : Int) + 1)) := bd_add hib (bd_lit (l := 1) (h := 1) rfl) rfl
  exact ⟨(all_cons (cmpOK (op := .lss) (ty := 3) (k := .i64) (n := 0) (m := (sn 0)) (t := true) (a := (0 : Int)) (b := (n : Int)) (by kernel_rfl) (by kernel_rfl) (congrArg some ((lt_of_le h0)))) (all_cons (arOK (op := .add) (ty := 3) (k := .i64) (n := (sn 9)) (m := (sn 3)) (r := (sn 11)) (a := (X 0)) (b := bx) (c := (((X 0) + bx))) (d := (X 0) + bx) (by kernel_rfl) (by kernel_rfl) (by kernel_rfl) rfl (wr_bd bq0 rfl)) (all_cons (arOK (op := .add) (ty := 3) (k := .i64) (n := (sn 10)) (m := (sn 4)) (r := (sn 12)) (a := (Y 0)) (b := by_) (c := (((Y 0) + by_))) (d := (Y 0) + by_) (by kernel_rfl) (by kernel_rfl) (by kernel_rfl) rfl (wr_bd bq1 rfl)) (all_cons (arOK (op := .add) (ty := 3) (k := .i64) (n := 0) (m := 1) (r := (sn 13)) (a := (0 : Int)) (b := 1) (c := (((0 : Int) + 1))) (d := (0 : Int) + 1) (by kernel_rfl) (by kernel_rfl) (by kernel_rfl) rfl (wr_bd bq2 rfl)) all_nil)))), all_nil, all_nil, all_nil, all_nil, (all_cons (sldOK (j := 1) (k := 0) (x := .agg #[sy 9, sy 10]) hP rfl (by have g := of_decide_eq_false h0; omega) (by kernel_rfl) (by show inst _ _ = _; kernel_rfl)) all_nil), (all_cons (sixOK (i := 0) (j := 1) (k := 0) (r := 0) hP rfl (by kernel_rfl) rfl (by have g := of_decide_eq_false h0; omega)) all_nil), all_nil, all_nil, all_nil, (all_cons (lenOK (i := 0) (r := (sn 0)) (a := a) (c := c) rfl (by kernel_rfl)) all_nil), (all_cons (⟨(by kernel_rfl), rfl, (by show (ptL (fun k => X k + bx) (fun k => Y k + by_) (0 + 1)).length ≤ 1000000; rw [ptL_len]; have := (by have g := of_decide_eq_false h0; omega); omega)⟩ : LapOK _ (_, _, _)) all_nil), all_nil, all_nil, all_nil, all_nil, all_nil, all_nil⟩
theorem mwka1 (a : Option Addr) (n c : Nat) (X Y : Nat → Int) (ptr : Nat → Addr) (lo hi bx by_ bz : Int) (w : World) (hib : bd 0 1000000000000000 (0 : Int)) (hn : bd 0 1000000000000 (n : Int)) (hn0 : n ≤ 1000000000000) (h64 : n ≤ 64) (hX : ∀ k, k < n → bd (-1000000) 1000000 (X k) ∧ bd (-1000000) 1000000 (Y k)) (hS : Sl Try.prog w (.slice a n c) n 22 60 (fun k => .agg #[.int .i64 (X k), .int .i64 (Y k)]) ptr) (hP : Sl Try.prog w (.slice a n c) n 23 60 (fun k => .agg #[.int .i64 (X k), .int .i64 (Y k)]) ptr) (h_lo : bd (-1000000) 1000000 lo) (h_hi : bd (-1000000) 1000000 hi) (h_bx : bd (-1000000) 1000000 bx) (h_by_ : bd (-1000000) 1000000 by_) (h_bz : bd (-1000000) 1000000 bz)  (h0 : (decide ((n : Int) ≤ (0 : Int))) = true) : Know (mwE a n c X Y ptr lo hi bx by_ bz w 0) Try.prog mwa1 := by
  exact ⟨(all_cons (cmpOK (op := .lss) (ty := 3) (k := .i64) (n := 0) (m := (sn 0)) (t := false) (a := (0 : Int)) (b := (n : Int)) (by kernel_rfl) (by kernel_rfl) (congrArg some ((lt_of_le h0)))) all_nil), all_nil, all_nil, all_nil, all_nil, all_nil, all_nil, all_nil, all_nil, all_nil, (all_cons (lenOK (i := 0) (r := (sn 0)) (a := a) (c := c) rfl (by kernel_rfl)) all_nil), all_nil, all_nil, all_nil, all_nil, all_nil, all_nil, all_nil⟩
theorem mwko0 (a : Option Addr) (n c : Nat) (X Y : Nat → Int) (ptr : Nat → Addr) (lo hi bx by_ bz : Int) (w : World) (i : Nat) (hib : bd 0 1000000000000000 (i : Int)) (hn : bd 0 1000000000000 (n : Int)) (hn0 : n ≤ 1000000000000) (h64 : n ≤ 64) (hX : ∀ k, k < n → bd (-1000000) 1000000 (X k) ∧ bd (-1000000) 1000000 (Y k)) (hS : Sl Try.prog w (.slice a n c) n 22 60 (fun k => .agg #[.int .i64 (X k), .int .i64 (Y k)]) ptr) (hP : Sl Try.prog w (.slice a n c) n 23 60 (fun k => .agg #[.int .i64 (X k), .int .i64 (Y k)]) ptr) (h_lo : bd (-1000000) 1000000 lo) (h_hi : bd (-1000000) 1000000 hi) (h_bx : bd (-1000000) 1000000 bx) (h_by_ : bd (-1000000) 1000000 by_) (h_bz : bd (-1000000) 1000000 bz)  (h0 : (decide ((n : Int) ≤ (i : Int))) = false) : Know (mwE a n c X Y ptr lo hi bx by_ bz w i) Try.prog mwo0 := by
  have bq0 : bd (-2000000) 2000000 (((X i) + bx)) := bd_add (hX _ (by have g := of_decide_eq_false h0; omega)).1 h_bx rfl
  have bq1 : bd (-2000000) 2000000 (((Y i) + by_)) := bd_add (hX _ (by have g := of_decide_eq_false h0; omega)).2 h_by_ rfl
  have bq2 : bd 1 1000000000000001 (((i : Int) + 1)) := bd_add hib (bd_lit (l := 1) (h := 1) rfl) rfl
  exact ⟨(all_cons (cmpOK (op := .lss) (ty := 3) (k := .i64) (n := (sn 8)) (m := (sn 0)) (t := true) (a := (i : Int)) (b := (n : Int)) (by kernel_rfl) (by kernel_rfl) (congrArg some ((lt_of_le h0)))) (all_cons (arOK (op := .add) (ty := 3) (k := .i64) (n := (sn 9)) (m := (sn 3)) (r := (sn 11)) (a := (X i)) (b := bx) (c := (((X i) + bx))) (d := (X i) + bx) (by kernel_rfl) (by kernel_rfl) (by kernel_rfl) rfl (wr_bd bq0 rfl)) (all_cons (arOK (op := .add) (ty := 3) (k := .i64) (n := (sn 10)) (m := (sn 4)) (r := (sn 12)) (a := (Y i)) (b := by_) (c := (((Y i) + by_))) (d := (Y i) + by_) (by kernel_rfl) (by kernel_rfl) (by kernel_rfl) rfl (wr_bd bq1 rfl)) (all_cons (arOK (op := .add) (ty := 3) (k := .i64) (n := (sn 8)) (m := 1) (r := (sn 13)) (a := (i : Int)) (b := 1) (c := (((i : Int) + 1))) (d := (i : Int) + 1) (by kernel_rfl) (by kernel_rfl) (by kernel_rfl) rfl (wr_bd bq2 rfl)) all_nil)))), all_nil, all_nil, all_nil, all_nil, (all_cons (sldOK (j := 1) (k := i) (x := .agg #[sy 9, sy 10]) hP rfl (by have g := of_decide_eq_false h0; omega) (by kernel_rfl) (by show inst _ _ = _; kernel_rfl)) all_nil), (all_cons (sixOK (i := 0) (j := 1) (k := i) (r := (sn 8)) hP rfl (by kernel_rfl) rfl (by have g := of_decide_eq_false h0; omega)) all_nil), all_nil, all_nil, all_nil, (all_cons (lenOK (i := 0) (r := (sn 0)) (a := a) (c := c) rfl (by kernel_rfl)) all_nil), (all_cons (⟨(by kernel_rfl), rfl, (by show (ptL (fun k => X k + bx) (fun k => Y k + by_) (i + 1)).length ≤ 1000000; rw [ptL_len]; have := (by have g := of_decide_eq_false h0; omega); omega)⟩ : LapOK _ (_, _, _)) all_nil), all_nil, all_nil, all_nil, all_nil, all_nil, all_nil⟩
theorem mwko1 (a : Option Addr) (n c : Nat) (X Y : Nat → Int) (ptr : Nat → Addr) (lo hi bx by_ bz : Int) (w : World) (i : Nat) (hib : bd 0 1000000000000000 (i : Int)) (hn : bd 0 1000000000000 (n : Int)) (hn0 : n ≤ 1000000000000) (h64 : n ≤ 64) (hX : ∀ k, k < n → bd (-1000000) 1000000 (X k) ∧ bd (-1000000) 1000000 (Y k)) (hS : Sl Try.prog w (.slice a n c) n 22 60 (fun k => .agg #[.int .i64 (X k), .int .i64 (Y k)]) ptr) (hP : Sl Try.prog w (.slice a n c) n 23 60 (fun k => .agg #[.int .i64 (X k), .int .i64 (Y k)]) ptr) (h_lo : bd (-1000000) 1000000 lo) (h_hi : bd (-1000000) 1000000 hi) (h_bx : bd (-1000000) 1000000 bx) (h_by_ : bd (-1000000) 1000000 by_) (h_bz : bd (-1000000) 1000000 bz)  (h0 : (decide ((n : Int) ≤ (i : Int))) = true) : Know (mwE a n c X Y ptr lo hi bx by_ bz w i) Try.prog mwo1 := by
  exact ⟨(all_cons (cmpOK (op := .lss) (ty := 3) (k := .i64) (n := (sn 8)) (m := (sn 0)) (t := false) (a := (i : Int)) (b := (n : Int)) (by kernel_rfl) (by kernel_rfl) (congrArg some ((lt_of_le h0)))) all_nil), all_nil, all_nil, all_nil, all_nil, all_nil, all_nil, all_nil, all_nil, all_nil, (all_cons (lenOK (i := 0) (r := (sn 0)) (a := a) (c := c) rfl (by kernel_rfl)) all_nil), all_nil, all_nil, all_nil, all_nil, all_nil, all_nil, all_nil⟩
def mwtF_done : Tm := [[.agg #[oq 0, sy 1, sy 2], .agg #[sy 3, sy 4, sy 5], .pointer (some ⟨0, 0, none⟩), .pointer (some ⟨1, 0, none⟩), .pointer (some ⟨2, 0, none⟩), .int .i64 0, .int .i64 0, .pointer (some ⟨4, 0, none⟩), anyV, anyV, anyV, .agg #[oq 0, sy 1, sy 2], .int .i64 0, .int .i64 0, .bool false, anyV], [anyV, .pointer (some ⟨1, 0, none⟩), sy 3, .pointer (some ⟨1, 1, none⟩), sy 4, .pointer (some ⟨1, 2, none⟩), sy 5, .slice (some ⟨3, 0, none⟩) 3 3, .bool true, .bool false, anyV, .pointer (some ⟨0, 1, none⟩), sy 1, .pointer (some ⟨1, 2, none⟩), sy 5, sy 6], [.pointer (some ⟨0, 2, none⟩), sy 2, .pointer (some ⟨1, 2, none⟩), sy 5, sy 7, .agg #[.slice none 0 0, sy 6, sy 7], .pointer (some ⟨0, 0, none⟩), oq 0, sy 0, anyV, .bool false, anyV, anyV, anyV, anyV, anyV], [anyV, anyV, anyV, anyV, anyV, anyV, anyV, anyV, anyV, anyV, anyV, anyV, anyV, anyV, anyV, anyV], [anyV, anyV, anyV, anyV, anyV]]
def mwHF_done : Heap := [some ⟨[oq 0, sy 1, sy 2], 25⟩, some ⟨[sy 3, sy 4, sy 5], 30⟩, some ⟨[.slice none 0 0, .int .i64 0, .int .i64 0], 25⟩, some ⟨[sy 3, sy 4, sy 5], 3⟩, some ⟨[.complex .f32 5 12, sy 6, sy 7], 25⟩, some ⟨[], 1180591620717413400636⟩]
theorem mwfo1_done : stepT Try.prog [0, 1, 2, 3, 4, 5] (evBody Try.prog mwo1 1000 50 29 [false, true, false, true, true, true, true] mwtB mwHB) (.exit 0) mwtF_done mwHF_done [.val 0 0, .num 1180591620717411303425 1180591620717411303425, .num 1180591620717411303426 1180591620717411303426, .num 1180591620717411303427 1180591620717411303427, .num 1180591620717411303428 1180591620717411303428, .num 1180591620717411303429 1180591620717411303429, .num 1180591620717411303430 1180591620717411303430, .num 1180591620717411303431 1180591620717411303431, .num 1180591620717411303424 1180591620717411303424, .lst 2 2] = true := by decide +kernel
theorem mw_loop_done (a : Option Addr) (n c : Nat) (X Y : Nat → Int) (ptr : Nat → Addr) (lo hi bx by_ bz : Int) (w : World) (hn0 : n ≤ 1000000000000) (h64 : n ≤ 64) (hX : ∀ k, k < n → bd (-1000000) 1000000 (X k) ∧ bd (-1000000) 1000000 (Y k)) (hS : Sl Try.prog w (.slice a n c) n 22 60 (fun k => .agg #[.int .i64 (X k), .int .i64 (Y k)]) ptr) (hP : Sl Try.prog w (.slice a n c) n 23 60 (fun k => .agg #[.int .i64 (X k), .int .i64 (Y k)]) ptr) (h_lo : bd (-1000000) 1000000 lo) (h_hi : bd (-1000000) 1000000 hi) (h_bx : bd (-1000000) 1000000 bx) (h_by_ : bd (-1000000) 1000000 by_) (h_bz : bd (-1000000) 1000000 bz) (hpo : 0 < n) : LoopE (env [(n : Int), lo, hi, bx, by_, bz, (lo + bz), (hi + bz)] [(.slice a n c)] w [(ptL (fun k => X k + bx) (fun k => Y k + by_) n)]) Try.prog (29, [false, true, false, true, true, true, true], mwtA, mwHA, .exit 0, mwtF_done, mwHF_done) := by
  refine loop_rule (σ := { st : Nat // st ≤ n }) (fun st => mwE a n c X Y ptr lo hi bx by_ bz w st.1) (fun _ => rfl) (fun st => n - st.1) (fun st => mwtt st.1) (fun st => mwHH st.1) rfl (fun st => mwhl st.1) (by decide) ?_ ⟨0, Nat.zero_le _⟩ [.val 0 0, .num 1180591620717411303425 1180591620717411303425, .num 1180591620717411303426 1180591620717411303426, .num 1180591620717411303427 1180591620717411303427, .num 1180591620717411303428 1180591620717411303428, .num 1180591620717411303429 1180591620717411303429, .num 1180591620717411303430 1180591620717411303430, .num 1180591620717411303431 1180591620717411303431, .num 1180591620717411303424 1180591620717411303424] [0, 1, 2, 3, 4] (by show passQ Try.prog [0, 1, 2, 3, 4] mwtA mwHA mwtA mwHA [.val 0 0, .num 1180591620717411303425 1180591620717411303425, .num 1180591620717411303426 1180591620717411303426, .num 1180591620717411303427 1180591620717411303427, .num 1180591620717411303428 1180591620717411303428, .num 1180591620717411303429 1180591620717411303429, .num 1180591620717411303430 1180591620717411303430, .num 1180591620717411303431 1180591620717411303431, .num 1180591620717411303424 1180591620717411303424] = true; decide +kernel) (by decide) ?_
  · rintro ⟨i, hle_⟩
    rcases Nat.lt_or_ge i (n) with h | h
    · have hib : bd 0 1000000000000000 (i : Int) := ⟨by omega, by omega⟩; have hn : bd 0 1000000000000 (n : Int) := ⟨by omega, by omega⟩
      rcases Nat.eq_zero_or_pos i with hz_ | hz_
      · subst hz_
        rcases h0 : (decide ((n : Int) ≤ (0 : Int))) with _ | _
        · refine .inl ⟨mwa0, 1000, 50, _, [0, 1, 2, 3, 4, 7], ⟨0 + 1, h⟩, (mwka0 a n c X Y ptr lo hi bx by_ bz w hib hn hn0 h64 hX hS hP h_lo h_hi h_bx h_by_ h_bz h0).ok, mwsa0, by decide, ?_, by show n - (0 + 1) < n - 0; omega⟩
          intro q hq
          simp only [List.mem_cons, List.not_mem_nil, or_false] at hq
          rcases hq with rfl | rfl | rfl | rfl | rfl | rfl | rfl | rfl | rfl | rfl | rfl
          · show (_ : Value) = _; kernel_rfl
          · show (_ : Int) = _; kernel_rfl
          · show (_ : Int) = _; kernel_rfl
          · show (_ : Int) = _; kernel_rfl
          · show (_ : Int) = _; kernel_rfl
          · show (_ : Int) = _; kernel_rfl
          · show (_ : Int) = _; kernel_rfl
          · show (_ : Int) = _; kernel_rfl
          · show (_ : Int) = _; kernel_rfl
          · show (1 : Int) = (((0 + 1 : Nat)) : Int); first | rfl | (omega)
          · show (_ : List Value) = _; kernel_rfl
        · exfalso; (first | (have g := of_decide_eq_true h0; omega) | (have g := of_decide_eq_false h0; omega) | (unfold okP at hq; simp [*] at hq; done))
      · skip
        rcases h0 : (decide ((n : Int) ≤ (i : Int))) with _ | _
        · refine .inl ⟨mwo0, 1000, 50, _, [0, 1, 2, 3, 4, 8], ⟨i + 1, h⟩, (mwko0 a n c X Y ptr lo hi bx by_ bz w i hib hn hn0 h64 hX hS hP h_lo h_hi h_bx h_by_ h_bz h0).ok, (by show stepT _ _ (evBody _ _ _ _ _ _ (mwtt i) (mwHH i)) _ (mwtt (i + 1)) (mwHH (i + 1)) _ = true; rw [(mwtp hz_).1, (mwtp hz_).2]; exact mwso0), by decide, ?_, by show n - (i + 1) < n - i; omega⟩
          intro q hq
          simp only [List.mem_cons, List.not_mem_nil, or_false] at hq
          rcases hq with rfl | rfl | rfl | rfl | rfl | rfl | rfl | rfl | rfl | rfl | rfl
          · show (_ : Value) = _; kernel_rfl
          · show (_ : Int) = _; kernel_rfl
          · show (_ : Int) = _; kernel_rfl
          · show (_ : Int) = _; kernel_rfl
          · show (_ : Int) = _; kernel_rfl
          · show (_ : Int) = _; kernel_rfl
          · show (_ : Int) = _; kernel_rfl
          · show (_ : Int) = _; kernel_rfl
          · show (_ : Int) = _; kernel_rfl
          · show (((i : Int) + 1) : Int) = (((i + 1 : Nat)) : Int); first | rfl | (omega)
          · show ((ptL (fun k => X k + bx) (fun k => Y k + by_) (i + 1)) : List Value) = (ptL (fun k => X k + bx) (fun k => Y k + by_) (i + 1)); rfl
        · exfalso; (first | (have g := of_decide_eq_true h0; omega) | (have g := of_decide_eq_false h0; omega) | (unfold okP at hq; simp [*] at hq; done))
    · have hE : n = i := by omega
      subst hE
      have hib : bd 0 1000000000000000 (n : Int) := ⟨by omega, by omega⟩; have hn : bd 0 1000000000000 (n : Int) := ⟨by omega, by omega⟩
      have hz_ : 0 < n := by omega
      rcases h0 : (decide ((n : Int) ≤ (n : Int))) with _ | _
      · exfalso; (have g := of_decide_eq_false h0; omega)
      · refine .inr ⟨mwo1, 1000, 50, _, [0, 1, 2, 3, 4, 5], (mwko1 a n c X Y ptr lo hi bx by_ bz w (n) hib hn hn0 h64 hX hS hP h_lo h_hi h_bx h_by_ h_bz h0).ok, (by show stepT _ _ (evBody _ _ _ _ _ _ (mwtt (n)) (mwHH (n))) _ _ _ _ = true; rw [(mwtp hz_).1, (mwtp hz_).2]; exact mwfo1_done), by decide, ?_⟩
        intro q hq
        simp only [List.mem_cons, List.not_mem_nil, or_false] at hq
        rcases hq with rfl | rfl | rfl | rfl | rfl | rfl | rfl | rfl | rfl | rfl
        · show (_ : Value) = _; kernel_rfl
        · show (_ : Int) = _; kernel_rfl
        · show (_ : Int) = _; kernel_rfl
        · show (_ : Int) = _; kernel_rfl
        · show (_ : Int) = _; kernel_rfl
        · show (_ : Int) = _; kernel_rfl
        · show (_ : Int) = _; kernel_rfl
        · show (_ : Int) = _; kernel_rfl
        · show (_ : Int) = _; kernel_rfl
        · show ((ptL (fun k => X k + bx) (fun k => Y k + by_) n) : List Value) = (ptL (fun k => X k + bx) (fun k => Y k + by_) n); rfl
  · skip
    intro q hq
    simp only [List.mem_cons, List.not_mem_nil, or_false] at hq
    rcases hq with rfl | rfl | rfl | rfl | rfl | rfl | rfl | rfl | rfl
    · show (_ : Value) = _; kernel_rfl
    · show (_ : Int) = _; kernel_rfl
    · show (_ : Int) = _; kernel_rfl
    · show (_ : Int) = _; kernel_rfl
    · show (_ : Int) = _; kernel_rfl
    · show (_ : Int) = _; kernel_rfl
    · show (_ : Int) = _; kernel_rfl
    · show (_ : Int) = _; kernel_rfl
    · show (_ : Int) = _; kernel_rfl
def rmwtA : Tm := [[.agg #[oq 0, sy 1, sy 2], .agg #[sy 3, sy 4, sy 5], .pointer (some ⟨0, 0, none⟩), .pointer (some ⟨1, 0, none⟩), .pointer (some ⟨2, 0, none⟩), .int .i64 0, .pointer (some ⟨3, 0, none⟩), .int .i64 0, undef, .pointer (some ⟨1, 0, none⟩), sy 3, .bool true, .bool false, .bool false, .pointer (some ⟨1, 1, none⟩), sy 4], [.bool true, .bool false, .bool false, .bool false, .pointer (some ⟨1, 2, none⟩), sy 5, .bool true, .bool false, .bool false, undef, .pointer (some ⟨0, 1, none⟩), sy 1, .pointer (some ⟨1, 2, none⟩), sy 5, sy 6, .pointer (some ⟨0, 2, none⟩)], [sy 2, .pointer (some ⟨1, 2, none⟩), sy 5, sy 7, .agg #[.slice none 0 0, sy 6, sy 7], undef, undef, undef, undef, undef, undef, undef, undef, undef, undef, undef], [undef, undef, undef, undef, undef, undef, undef, undef, undef, undef, undef, undef, undef, undef, undef, undef], [undef, undef, undef, undef, undef, undef, undef, undef, undef, undef, undef, undef, undef, undef, undef, undef], [undef, undef, undef, undef, undef, undef, undef, undef, undef, undef, undef, undef]]
def rmwHA : Heap := [some ⟨[oq 0, sy 1, sy 2], 25⟩, some ⟨[sy 3, sy 4, sy 5], 30⟩, some ⟨[.slice none 0 0, .int .i64 0, .int .i64 0], 25⟩, some ⟨[.slice none 0 0, sy 6, sy 7], 25⟩]
def rmwtB : Tm := [[.agg #[oq 0, sy 1, sy 2], .agg #[sy 3, sy 4, sy 5], .pointer (some ⟨0, 0, none⟩), .pointer (some ⟨1, 0, none⟩), .pointer (some ⟨2, 0, none⟩), .int .i64 0, .pointer (some ⟨3, 0, none⟩), sy 8, anyV, .pointer (some ⟨1, 0, none⟩), sy 3, .bool true, .bool false, .bool false, .pointer (some ⟨1, 1, none⟩), sy 4], [.bool true, .bool false, .bool false, .bool false, .pointer (some ⟨1, 2, none⟩), sy 5, .bool true, .bool false, .bool false, undef, .pointer (some ⟨0, 1, none⟩), sy 1, .pointer (some ⟨1, 2, none⟩), sy 5, sy 6, .pointer (some ⟨0, 2, none⟩)], [sy 2, .pointer (some ⟨1, 2, none⟩), sy 5, sy 7, .agg #[.slice none 0 0, sy 6, sy 7], anyV, anyV, anyV, anyV, anyV, anyV, anyV, anyV, anyV, anyV, anyV], [anyV, anyV, anyV, anyV, anyV, anyV, anyV, anyV, anyV, anyV, anyV, anyV, anyV, anyV, anyV, anyV], [anyV, anyV, anyV, anyV, anyV, anyV, anyV, anyV, anyV, undef, anyV, anyV, anyV, anyV, anyV, anyV], [undef, undef, undef, undef, undef, undef, undef, undef, undef, undef, undef, undef]]
def rmwHB : Heap := [some ⟨[oq 0, sy 1, sy 2], 25⟩, some ⟨[sy 3, sy 4, sy 5], 30⟩, some ⟨[.slice none 0 0, .int .i64 0, .int .i64 0], 25⟩, some ⟨[.complex .f32 4 12, sy 6, sy 7], 25⟩, some ⟨[], 1180591620717413400636⟩]
def rmwtt : Nat → Tm
  | 0 => rmwtA
  | _ + 1 => rmwtB
def rmwHH : Nat → Heap
  | 0 => rmwHA
  | _ + 1 => rmwHB
theorem rmwtp {k : Nat} (h : 0 < k) : rmwtt k = rmwtB ∧ rmwHH k = rmwHB := by cases k with | zero => omega | succ k => exact ⟨rfl, rfl⟩
theorem rmwhl (k : Nat) : List.length rmwHA ≤ List.length (rmwHH k) := by
  cases k with
  | zero => exact Nat.le_refl _
  | succ k => show List.length rmwHA ≤ List.length rmwHB; decide
def rmwa0 : Orc := { bin := [(.lss, 3, .int .i64 0, .int .i64 (sn 0), .bool true), (.add, 3, .int .i64 (sn 9), .int .i64 (sn 3), .int .i64 (sn 11)), (.add, 3, .int .i64 (sn 10), .int .i64 (sn 4), .int .i64 (sn 12))], calls := [(34, [sy 11], .bool false)], lds := [(3, oq 2, .int .i64 (sn 9)), (3, oq 3, .int .i64 (sn 10))], ixa := [(23, oq 0, .int .i64 0, oq 1)], lens := [(false, oq 0, .int .i64 (sn 0))], fad := [(60, oq 1, 0, oq 2), (60, oq 1, 1, oq 3)] }
def rmwa1 : Orc := { bin := [(.lss, 3, .int .i64 0, .int .i64 (sn 0), .bool true), (.add, 3, .int .i64 (sn 9), .int .i64 (sn 3), .int .i64 (sn 11)), (.add, 3, .int .i64 (sn 10), .int .i64 (sn 4), .int .i64 (sn 12))], calls := [(34, [sy 11], .bool true), (34, [sy 12], .bool false)], lds := [(3, oq 2, .int .i64 (sn 9)), (3, oq 3, .int .i64 (sn 10))], ixa := [(23, oq 0, .int .i64 0, oq 1)], lens := [(false, oq 0, .int .i64 (sn 0))], fad := [(60, oq 1, 0, oq 2), (60, oq 1, 1, oq 3)] }
def rmwa2 : Orc := { bin := [(.lss, 3, .int .i64 0, .int .i64 (sn 0), .bool true), (.add, 3, .int .i64 (sn 9), .int .i64 (sn 3), .int .i64 (sn 11)), (.add, 3, .int .i64 (sn 10), .int .i64 (sn 4), .int .i64 (sn 12)), (.add, 3, .int .i64 0, .int .i64 1, .int .i64 (sn 13))], calls := [(34, [sy 11], .bool true), (34, [sy 12], .bool true)], lds := [(3, oq 2, .int .i64 (sn 9)), (3, oq 3, .int .i64 (sn 10))], ixa := [(23, oq 0, .int .i64 0, oq 1)], lens := [(false, oq 0, .int .i64 (sn 0))], laps := [(2, [sy 11, sy 12], 1026)], fad := [(60, oq 1, 0, oq 2), (60, oq 1, 1, oq 3)] }
def rmwa3 : Orc := { bin := [(.lss, 3, .int .i64 0, .int .i64 (sn 0), .bool false)], lens := [(false, oq 0, .int .i64 (sn 0))] }
def rmwo0 : Orc := { bin := [(.lss, 3, .int .i64 (sn 8), .int .i64 (sn 0), .bool true), (.add, 3, .int .i64 (sn 9), .int .i64 (sn 3), .int .i64 (sn 11)), (.add, 3, .int .i64 (sn 10), .int .i64 (sn 4), .int .i64 (sn 12))], calls := [(34, [sy 11], .bool false)], lds := [(3, oq 2, .int .i64 (sn 9)), (3, oq 3, .int .i64 (sn 10))], ixa := [(23, oq 0, .int .i64 (sn 8), oq 1)], lens := [(false, oq 0, .int .i64 (sn 0))], fad := [(60, oq 1, 0, oq 2), (60, oq 1, 1, oq 3)] }
def rmwo1 : Orc := { bin := [(.lss, 3, .int .i64 (sn 8), .int .i64 (sn 0), .bool true), (.add, 3, .int .i64 (sn 9), .int .i64 (sn 3), .int .i64 (sn 11)), (.add, 3, .int .i64 (sn 10), .int .i64 (sn 4), .int .i64 (sn 12))], calls := [(34, [sy 11], .bool true), (34, [sy 12], .bool false)], lds := [(3, oq 2, .int .i64 (sn 9)), (3, oq 3, .int .i64 (sn 10))], ixa := [(23, oq 0, .int .i64 (sn 8), oq 1)], lens := [(false, oq 0, .int .i64 (sn 0))], fad := [(60, oq 1, 0, oq 2), (60, oq 1, 1, oq 3)] }
def rmwo2 : Orc := { bin := [(.lss, 3, .int .i64 (sn 8), .int .i64 (sn 0), .bool true), (.add, 3, .int .i64 (sn 9), .int .i64 (sn 3), .int .i64 (sn 11)), (.add, 3, .int .i64 (sn 10), .int .i64 (sn 4), .int .i64 (sn 12)), (.add, 3, .int .i64 (sn 8), .int .i64 1, .int .i64 (sn 13))], calls := [(34, [sy 11], .bool true), (34, [sy 12], .bool true)], lds := [(3, oq 2, .int .i64 (sn 9)), (3, oq 3, .int .i64 (sn 10))], ixa := [(23, oq 0, .int .i64 (sn 8), oq 1)], lens := [(false, oq 0, .int .i64 (sn 0))], laps := [(2, [sy 11, sy 12], 1026)], fad := [(60, oq 1, 0, oq 2), (60, oq 1, 1, oq 3)] }
def rmwo3 : Orc := { bin := [(.lss, 3, .int .i64 (sn 8), .int .i64 (sn 0), .bool false)], lens := [(false, oq 0, .int .i64 (sn 0))] }
noncomputable def rmwE (a : Option Addr) (n c : Nat) (X Y : Nat → Int) (ptr : Nat → Addr) (lo hi bx by_ bz : Int) (w : World) (i : Nat) : Env := env [(n : Int), lo, hi, bx, by_, bz, (lo + bz), (hi + bz), (i : Int), (X i), (Y i), ((X i) + bx), ((Y i) + by_), ((i : Int) + 1)] [(.slice a n c), (.pointer (some (ptr i))), (.pointer (some ((ptr i).add 0))), (.pointer (some ((ptr i).add 1)))] w [(ptL (fun k => X k + bx) (fun k => Y k + by_) i), (ptL (fun k => X k + bx) (fun k => Y k + by_) (i + 1))]
theorem rmwsa2 : stepT Try.prog [0, 1, 2, 3, 6] (evBody Try.prog rmwa2 1000 50 31 [false, true, false, true, true, true] rmwtA rmwHA) .normal rmwtB rmwHB [.val 0 0, .num 1180591620717411303425 1180591620717411303425, .num 1180591620717411303426 1180591620717411303426, .num 1180591620717411303427 1180591620717411303427, .num 1180591620717411303428 1180591620717411303428, .num 1180591620717411303429 1180591620717411303429, .num 1 1180591620717411303432, .num 1180591620717411303430 1180591620717411303430, .num 1180591620717411303431 1180591620717411303431, .cel [sy 11, sy 12] 2] = true := by decide +kernel
theorem rmwso2 : stepT Try.prog [0, 1, 2, 3, 7] (evBody Try.prog rmwo2 1000 50 31 [false, true, false, true, true, true] rmwtB rmwHB) .normal rmwtB rmwHB [.val 0 0, .num 1180591620717411303425 1180591620717411303425, .num 1180591620717411303426 1180591620717411303426, .num 1180591620717411303427 1180591620717411303427, .num 1180591620717411303428 1180591620717411303428, .num 1180591620717411303429 1180591620717411303429, .num 1180591620717411303437 1180591620717411303432, .num 1180591620717411303430 1180591620717411303430, .num 1180591620717411303431 1180591620717411303431, .lst 1026 2] = true := by decide +kernel
theorem rmwka0 (a : Option Addr) (n c : Nat) (X Y : Nat → Int) (ptr : Nat → Addr) (lo hi bx by_ bz : Int) (w : World) (hib : bd 0 1000000000000000 (0 : Int)) (hn : bd 0 1000000000000 (n : Int)) (hn0 : n ≤ 1000000000000) (h64 : n ≤ 64) (hX : ∀ k, k < n → bd (-1000000) 1000000 (X k) ∧ bd (-1000000) 1000000 (Y k)) (hS : Sl Try.prog w (.slice a n c) n 22 60 (fun k => .agg #[.int .i64 (X k), .int .i64 (Y k)]) ptr) (hP : Sl Try.prog w (.slice a n c) n 23 60 (fun k => .agg #[.int .i64 (X k), .int .i64 (Y k)]) ptr) (h_lo : bd (-1000000) 1000000 lo) (h_hi : bd (-1000000) 1000000 hi) (h_bx : bd (-1000000) 1000000 bx) (h_by_ : bd (-1000000) 1000000 by_) (h_bz : bd (-1000000) 1000000 bz) (hC : Cl w n X Y ptr)  (h0 : (decide ((n : Int) ≤ (0 : Int))) = false) (h1 : (okC (((X 0) + bx))) = false) : Know (rmwE a n c X Y ptr lo hi bx by_ bz w 0) Try.prog rmwa0 := by
  have bq0 : bd (-2000000) 2000000 (((X 0) + bx)) := bd_add (hX _ (by have g := of_decide_eq_false h0; omega)).1 h_bx rfl
  have bq1 : bd (-2000000) 2000000 (((Y 0) + by_)) := bd_add (hX _ (by have g := of_decide_eq_false h0; omega)).2 h_by_ rfl
  exact ⟨(all_cons (cmpOK (op := .lss) (ty := 3) (k := .i64) (n := 0) (m := (sn 0)) (t := true) (a := (0 : Int)) (b := (n : Int)) (by kernel_rfl) (by kernel_rfl) (congrArg some ((lt_of_le h0)))) (all_cons (arOK (op := .add) (ty := 3) (k := .i64) (n := (sn 9)) (m := (sn 3)) (r := (sn 11)) (a := (X 0)) (b := bx) (c := (((X 0) + bx))) (d := (X 0) + bx) (by kernel_rfl) (by kernel_rfl) (by kernel_rfl) rfl (wr_bd bq0 rfl)) (all_cons (arOK (op := .add) (ty := 3) (k := .i64) (n := (sn 10)) (m := (sn 4)) (r := (sn 12)) (a := (Y 0)) (b := by_) (c := (((Y 0) + by_))) (d := (Y 0) + by_) (by kernel_rfl) (by kernel_rfl) (by kernel_rfl) rfl (wr_bd bq1 rfl)) all_nil))), all_nil, all_nil, all_nil, (all_cons (callOK (f := 34) (args := [sy 11]) (v := .bool false) (args' := #[.int .i64 (((X 0) + bx))]) (v' := .bool false) (by kernel_rfl) (by kernel_rfl) (by kernel_rfl) (fun w => by have q := rnear_any (((X 0) + bx)) w; rw [h1] at q; exact q)) all_nil), (all_cons (cldOK (it := 3) (k := 2) (r := (sn 9)) (x := (X 0)) (by kernel_rfl) rfl (by kernel_rfl) (fun w1 hw1 => hC.c0 _ (by have g := of_decide_eq_false h0; omega) w1 hw1)) (all_cons (cldOK (it := 3) (k := 3) (r := (sn 10)) (x := (Y 0)) (by kernel_rfl) rfl (by kernel_rfl) (fun w1 hw1 => hC.c1 _ (by have g := of_decide_eq_false h0; omega) w1 hw1)) all_nil)), (all_cons (sixOK (i := 0) (j := 1) (k := 0) (r := 0) hP rfl (by kernel_rfl) rfl (by have g := of_decide_eq_false h0; omega)) all_nil), all_nil, all_nil, all_nil, (all_cons (lenOK (i := 0) (r := (sn 0)) (a := a) (c := c) rfl (by kernel_rfl)) all_nil), all_nil, all_nil, all_nil, all_nil, (all_cons (pfadOK (te := 60) (f := 0) (off := 0) (sz := 1) (j := 1) (k := 2) (by kernel_rfl) (by decide) rfl rfl) (all_cons (pfadOK (te := 60) (f := 1) (off := 1) (sz := 1) (j := 1) (k := 3) (by kernel_rfl) (by decide) rfl rfl) all_nil)), all_nil, all_nil⟩
theorem rmwka1 (a : Option Addr) (n c : Nat) (X Y : Nat → Int) (ptr : Nat → Addr) (lo hi bx by_ bz : Int) (w : World) (hib : bd 0 1000000000000000 (0 : Int)) (hn : bd 0 1000000000000 (n : Int)) (hn0 : n ≤ 1000000000000) (h64 : n ≤ 64) (hX : ∀ k, k < n → bd (-1000000) 1000000 (X k) ∧ bd (-1000000) 1000000 (Y k)) (hS : Sl Try.prog w (.slice a n c) n 22 60 (fun k => .agg #[.int .i64 (X k), .int .i64 (Y k)]) ptr) (hP : Sl Try.prog w (.slice a n c) n 23 60 (fun k => .agg #[.int .i64 (X k), .int .i64 (Y k)]) ptr) (h_lo : bd (-1000000) 1000000 lo) (h_hi : bd (-1000000) 1000000 hi) (h_bx : bd (-1000000) 1000000 bx) (h_by_ : bd (-1000000) 1000000 by_) (h_bz : bd (-1000000) 1000000 bz) (hC : Cl w n X Y ptr)  (h0 : (decide ((n : Int) ≤ (0 : Int))) = false) (h1 : (okC (((X 0) + bx))) = true) (h2 : (okC (((Y 0) + by_))) = false) : Know (rmwE a n c X Y ptr lo hi bx by_ bz w 0) Try.prog rmwa1 := by
  have bq0 : bd (-2000000) 2000000 (((X 0) + bx)) := bd_add (hX _ (by have g := of_decide_eq_false h0; omega)).1 h_bx rfl
  have bq1 : bd (-2000000) 2000000 (((Y 0) + by_)) := bd_add (hX _ (by have g := of_decide_eq_false h0; omega)).2 h_by_ rfl
  exact ⟨(all_cons (cmpOK (op := .lss) (ty := 3) (k := .i64) (n := 0) (m := (sn 0)) (t := true) (a := (0 : Int)) (b := (n : Int)) (by kernel_rfl) (by kernel_rfl) (congrArg some ((lt_of_le h0)))) (all_cons (arOK (op := .add) (ty := 3) (k := .i64) (n := (sn 9)) (m := (sn 3)) (r := (sn 11)) (a := (X 0)) (b := bx) (c := (((X 0) + bx))) (d := (X 0) + bx) (by kernel_rfl) (by kernel_rfl) (by kernel_rfl) rfl (wr_bd bq0 rfl)) (all_cons (arOK (op := .add) (ty := 3) (k := .i64) (n := (sn 10)) (m := (sn 4)) (r := (sn 12)) (a := (Y 0)) (b := by_) (c := (((Y 0) + by_))) (d := (Y 0) + by_) (by kernel_rfl) (by kernel_rfl) (by kernel_rfl) rfl (wr_bd bq1 rfl)) all_nil))), all_nil, all_nil, all_nil, (all_cons (callOK (f := 34) (args := [sy 11]) (v := .bool true) (args' := #[.int .i64 (((X 0) + bx))]) (v' := .bool true) (by kernel_rfl) (by kernel_rfl) (by kernel_rfl) (fun w => by have q := rnear_any (((X 0) + bx)) w; rw [h1] at q; exact q)) (all_cons (callOK (f := 34) (args := [sy 12]) (v := .bool false) (args' := #[.int .i64 (((Y 0) + by_))]) (v' := .bool false) (by kernel_rfl) (by kernel_rfl) (by kernel_rfl) (fun w => by have q := rnear_any (((Y 0) + by_)) w; rw [h2] at q; exact q)) all_nil)), (all_cons (cldOK (it := 3) (k := 2) (r := (sn 9)) (x := (X 0)) (by kernel_rfl) rfl (by kernel_rfl) (fun w1 hw1 => hC.c0 _ (by have g := of_decide_eq_false h0; omega) w1 hw1)) (all_cons (cldOK (it := 3) (k := 3) (r := (sn 10)) (x := (Y 0)) (by kernel_rfl) rfl (by kernel_rfl) (fun w1 hw1 => hC.c1 _ (by have g := of_decide_eq_false h0; omega) w1 hw1)) all_nil)), (all_cons (sixOK (i := 0) (j := 1) (k := 0) (r := 0) hP rfl (by kernel_rfl) rfl (by have g := of_decide_eq_false h0; omega)) all_nil), all_nil, all_nil, all_nil, (all_cons (lenOK (i := 0) (r := (sn 0)) (a := a) (c := c) rfl (by kernel_rfl)) all_nil), all_nil, all_nil, all_nil, all_nil, (all_cons (pfadOK (te := 60) (f := 0) (off := 0) (sz := 1) (j := 1) (k := 2) (by kernel_rfl) (by decide) rfl rfl) (all_cons (pfadOK (te := 60) (f := 1) (off := 1) (sz := 1) (j := 1) (k := 3) (by kernel_rfl) (by decide) rfl rfl) all_nil)), all_nil, all_nil⟩
theorem rmwka2 (a : Option Addr) (n c : Nat) (X Y : Nat → Int) (ptr : Nat → Addr) (lo hi bx by_ bz : Int) (w : World) (hib : bd 0 1000000000000000 (0 : Int)) (hn : bd 0 1000000000000 (n : Int)) (hn0 : n ≤ 1000000000000) (h64 : n ≤ 64) (hX : ∀ k, k < n → bd (-1000000) 1000000 (X k) ∧ bd (-1000000) 1000000 (Y k)) (hS : Sl Try.prog w (.slice a n c) n 22 60 (fun k => .agg #[.int .i64 (X k), .int .i64 (Y k)]) ptr) (hP : Sl Try.prog w (.slice a n c) n 23 60 (fun k => .agg #[.int .i64 (X k), .int .i64 (Y k)]) ptr) (h_lo : bd (-1000000) 1000000 lo) (h_hi : bd (-1000000) 1000000 hi) (h_bx : bd (-1000000) 1000000 bx) (h_by_ : bd (-1000000) 1000000 by_) (h_bz : bd (-1000000) 1000000 bz) (hC : Cl w n X Y ptr)  (h0 : (decide ((n : Int) ≤ (0 : Int))) = false) (h1 : (okC (((X 0) + bx))) = true) (h2 : (okC (((Y 0) + by_))) = true) : Know (rmwE a n c X Y ptr lo hi bx by_ bz w 0) Try.prog rmwa2 := by
  have bq0 : bd (-2000000) 2000000 (((X 0) + bx)) := bd_add (hX _ (by have g := of_decide_eq_false h0; omega)).1 h_bx rfl
  have bq1 : bd (-2000000) 2000000 (((Y 0) + by_)) := bd_add (hX _ (by have g := of_decide_eq_false h0; omega)).2 h_by_ rfl
  have bq2 : bd 1 1000000000000001 (((0 : Int) + 1)) := bd_add hib (bd_lit (l := 1) (h := 1) rfl) rfl
  exact ⟨(all_cons (cmpOK (op := .lss) (ty := 3) (k := .i64) (n := 0) (m := (sn 0)) (t := true) (a := (0 : Int)) (b := (n : Int)) (by kernel_rfl) (by kernel_rfl) (congrArg some ((lt_of_le h0)))) (all_cons (arOK (op := .add) (ty := 3) (k := .i64) (n := (sn 9)) (m := (sn 3)) (r := (sn 11)) (a := (X 0)) (b := bx) (c := (((X 0) + bx))) (d := (X 0) + bx) (by kernel_rfl) (by kernel_rfl) (by kernel_rfl) rfl (wr_bd bq0 rfl)) (all_cons (arOK (op := .add) (ty := 3) (k := .i64) (n := (sn 10)) (m := (sn 4)) (r := (sn 12)) (a := (Y 0)) (b := by_) (c := (((Y 0) + by_))) (d := (Y 0) + by_) (by kernel_rfl) (by kernel_rfl) (by kernel_rfl) rfl (wr_bd bq1 rfl)) (all_cons (arOK (op := .add) (ty := 3) (k := .i64) (n := 0) (m := 1) (r := (sn 13)) (a := (0 : Int)) (b := 1) (c := (((0 : Int) + 1))) (d := (0 : Int) + 1) (by kernel_rfl) (by kernel_rfl) (by kernel_rfl) rfl (wr_bd bq2 rfl)) all_nil)))), all_nil, all_nil, all_nil, (all_cons (callOK (f := 34) (args := [sy 11]) (v := .bool true) (args' := #[.int .i64 (((X 0) + bx))]) (v' := .bool true) (by kernel_rfl) (by kernel_rfl) (by kernel_rfl) (fun w => by have q := rnear_any (((X 0) + bx)) w; rw [h1] at q; exact q)) (all_cons (callOK (f := 34) (args := [sy 12]) (v := .bool true) (args' := #[.int .i64 (((Y 0) + by_))]) (v' := .bool true) (by kernel_rfl) (by kernel_rfl) (by kernel_rfl) (fun w => by have q := rnear_any (((Y 0) + by_)) w; rw [h2] at q; exact q)) all_nil)), (all_cons (cldOK (it := 3) (k := 2) (r := (sn 9)) (x := (X 0)) (by kernel_rfl) rfl (by kernel_rfl) (fun w1 hw1 => hC.c0 _ (by have g := of_decide_eq_false h0; omega) w1 hw1)) (all_cons (cldOK (it := 3) (k := 3) (r := (sn 10)) (x := (Y 0)) (by kernel_rfl) rfl (by kernel_rfl) (fun w1 hw1 => hC.c1 _ (by have g := of_decide_eq_false h0; omega) w1 hw1)) all_nil)), (all_cons (sixOK (i := 0) (j := 1) (k := 0) (r := 0) hP rfl (by kernel_rfl) rfl (by have g := of_decide_eq_false h0; omega)) all_nil), all_nil, all_nil, all_nil, (all_cons (lenOK (i := 0) (r := (sn 0)) (a := a) (c := c) rfl (by kernel_rfl)) all_nil), (all_cons (⟨(by kernel_rfl), rfl, (by show (ptL (fun k => X k + bx) (fun k => Y k + by_) (0 + 1)).length ≤ 1000000; rw [ptL_len]; have := (by have g := of_decide_eq_false h0; omega); omega)⟩ : LapOK _ (_, _, _)) all_nil), all_nil, all_nil, all_nil, (all_cons (pfadOK (te := 60) (f := 0) (off := 0) (sz := 1) (j := 1) (k := 2) (by kernel_rfl) (by decide) rfl rfl) (all_cons (pfadOK (te := 60) (f := 1) (off := 1) (sz := 1) (j := 1) (k := 3) (by kernel_rfl) (by decide) rfl rfl) all_nil)), all_nil, all_nil⟩
theorem rmwka3 (a : Option Addr) (n c : Nat) (X Y : Nat → Int) (ptr : Nat → Addr) (lo hi bx by_ bz : Int) (w : World) (hib : bd 0 1000000000000000 (0 : Int)) (hn : bd 0 1000000000000 (n : Int)) (hn0 : n ≤ 1000000000000) (h64 : n ≤ 64) (hX : ∀ k, k < n → bd (-1000000) 1000000 (X k) ∧ bd (-1000000) 1000000 (Y k)) (hS : Sl Try.prog w (.slice a n c) n 22 60 (fun k => .agg #[.int .i64 (X k), .int .i64 (Y k)]) ptr) (hP : Sl Try.prog w (.slice a n c) n 23 60 (fun k => .agg #[.int .i64 (X k), .int .i64 (Y k)]) ptr) (h_lo : bd (-1000000) 1000000 lo) (h_hi : bd (-1000000) 1000000 hi) (h_bx : bd (-1000000) 1000000 bx) (h_by_ : bd (-1000000) 1000000 by_) (h_bz : bd (-1000000) 1000000 bz) (hC : Cl w n X Y ptr)  (h0 : (decide ((n : Int) ≤ (0 : Int))) = true) : Know (rmwE a n c X Y ptr lo hi bx by_ bz w 0) Try.prog rmwa3 := by
  exact ⟨(all_cons (cmpOK (op := .lss) (ty := 3) (k := .i64) (n := 0) (m := (sn 0)) (t := false) (a := (0 : Int)) (b := (n : Int)) (by kernel_rfl) (by kernel_rfl) (congrArg some ((lt_of_le h0)))) all_nil), all_nil, all_nil, all_nil, all_nil, all_nil, all_nil, all_nil, all_nil, all_nil, (all_cons (lenOK (i := 0) (r := (sn 0)) (a := a) (c := c) rfl (by kernel_rfl)) all_nil), all_nil, all_nil, all_nil, all_nil, all_nil, all_nil, all_nil⟩
theorem rmwko0 (a : Option Addr) (n c : Nat) (X Y : Nat → Int) (ptr : Nat → Addr) (lo hi bx by_ bz : Int) (w : World) (i : Nat) (hib : bd 0 1000000000000000 (i : Int)) (hn : bd 0 1000000000000 (n : Int)) (hn0 : n ≤ 1000000000000) (h64 : n ≤ 64) (hX : ∀ k, k < n → bd (-1000000) 1000000 (X k) ∧ bd (-1000000) 1000000 (Y k)) (hS : Sl Try.prog w (.slice a n c) n 22 60 (fun k => .agg #[.int .i64 (X k), .int .i64 (Y k)]) ptr) (hP : Sl Try.prog w (.slice a n c) n 23 60 (fun k => .agg #[.int .i64 (X k), .int .i64 (Y k)]) ptr) (h_lo : bd (-1000000) 1000000 lo) (h_hi : bd (-1000000) 1000000 hi) (h_bx : bd (-1000000) 1000000 bx) (h_by_ : bd (-1000000) 1000000 by_) (h_bz : bd (-1000000) 1000000 bz) (hC : Cl w n X Y ptr)  (h0 : (decide ((n : Int) ≤ (i : Int))) = false) (h1 : (okC (((X i) + bx))) = false) : Know (rmwE a n c X Y ptr lo hi bx by_ bz w i) Try.prog rmwo0 := by
  have bq0 : bd (-2000000) 2000000 (((X i) + bx)) := bd_add (hX _ (by have g := of_decide_eq_false h0; omega)).1 h_bx rfl
  have bq1 : bd (-2000000) 2000000 (((Y i) + by_)) := bd_add (hX _ (by have g := of_decide_eq_false h0; omega)).2 h_by_ rfl
  exact ⟨(all_cons (cmpOK (op := .lss) (ty := 3) (k := .i64) (n := (sn 8)) (m := (sn 0)) (t := true) (a := (i : Int)) (b := (n : Int)) (by kernel_rfl) (by kernel_rfl) (congrArg some ((lt_of_le h0)))) (all_cons (arOK (op := .add) (ty := 3) (k := .i64) (n := (sn 9)) (m := (sn 3)) (r := (sn 11)) (a := (X i)) (b := bx) (c := (((X i) + bx))) (d := (X i) + bx) (by kernel_rfl) (by kernel_rfl) (by kernel_rfl) rfl (wr_bd bq0 rfl)) (all_cons (arOK (op := .add) (ty := 3) (k := .i64) (n := (sn 10)) (m := (sn 4)) (r := (sn 12)) (a := (Y i)) (b := by_) (c := (((Y i) + by_))) (d := (Y i) + by_) (by kernel_rfl) (by kernel_rfl) (by kernel_rfl) rfl (wr_bd bq1 rfl)) all_nil))), all_nil, all_nil, all_nil, (all_cons (callOK (f := 34) (args := [sy 11]) (v := .bool false) (args' := #[.int .i64 (((X i) + bx))]) (v' := .bool false) (by kernel_rfl) (by kernel_rfl) (by kernel_rfl) (fun w => by have q := rnear_any (((X i) + bx)) w; rw [h1] at q; exact q)) all_nil), (all_cons (cldOK (it := 3) (k := 2) (r := (sn 9)) (x := (X i)) (by kernel_rfl) rfl (by kernel_rfl) (fun w1 hw1 => hC.c0 _ (by have g := of_decide_eq_false h0; omega) w1 hw1)) (all_cons (cldOK (it := 3) (k := 3) (r := (sn 10)) (x := (Y i)) (by kernel_rfl) rfl (by kernel_rfl) (fun w1 hw1 => hC.c1 _ (by have g := of_decide_eq_false h0; omega) w1 hw1)) all_nil)), (all_cons (sixOK (i := 0) (j := 1) (k := i) (r := (sn 8)) hP rfl (by kernel_rfl) rfl (by have g := of_decide_eq_false h0; omega)) all_nil), all_nil, all_nil, all_nil, (all_cons (lenOK (i := 0) (r := (sn 0)) (a := a) (c := c) rfl (by kernel_rfl)) all_nil), all_nil, all_nil, all_nil, all_nil, (all_cons (pfadOK (te := 60) (f := 0) (off := 0) (sz := 1) (j := 1) (k := 2) (by kernel_rfl) (by decide) rfl rfl) (all_cons (pfadOK (te := 60) (f := 1) (off := 1) (sz := 1) (j := 1) (k := 3) (by kernel_rfl) (by decide) rfl rfl) all_nil)), all_nil, all_nil⟩
theorem rmwko1 (a : Option Addr) (n c : Nat) (X Y : Nat → Int) (ptr : Nat → Addr) (lo hi bx by_ bz : Int) (w : World) (i : Nat) (hib : bd 0 1000000000000000 (i : Int)) (hn : bd 0 1000000000000 (n : Int)) (hn0 : n ≤ 1000000000000) (h64 : n ≤ 64) (hX : ∀ k, k < n → bd (-1000000) 1000000 (X k) ∧ bd (-1000000) 1000000 (Y k)) (hS : Sl Try.prog w (.slice a n c) n 22 60 (fun k => .agg #[.int .i64 (X k), .int .i64 (Y k)]) ptr) (hP : Sl Try.prog w (.slice a n c) n 23 60 (fun k => .agg #[.int .i64 (X k), .int .i64 (Y k)]) ptr) (h_lo : bd (-1000000) 1000000 lo) (h_hi : bd (-1000000) 1000000 hi) (h_bx : bd (-1000000) 1000000 bx) (h_by_ : bd (-1000000) 1000000 by_) (h_bz : bd (-1000000) 1000000 bz) (hC : Cl w n X Y ptr)  (h0 : (decide ((n : Int) ≤ (i : Int))) = false) (h1 : (okC (((X i) + bx))) = true) (h2 : (okC (((Y i) + by_))) = false) : Know (rmwE a n c X Y ptr lo hi bx by_ bz w i) Try.prog rmwo1 := by
  have bq0 : bd (-2000000) 2000000 (((X i) + bx)) := bd_add (hX _ (by have g := of_decide_eq_false h0; omega)).1 h_bx rfl
  have bq1 : bd (-2000000) 2000000 (((Y i) + by_)) := bd_add (hX _ (by have g := of_decide_eq_false h0; omega)).2 h_by_ rfl
  exact ⟨(all_cons (cmpOK (op := .lss) (ty := 3) (k := .i64) (n := (sn 8)) (m := (sn 0)) (t := true) (a := (i : Int)) (b := (n : Int)) (by kernel_rfl) (by kernel_rfl) (congrArg some ((lt_of_le h0)))) (all_cons (arOK (op := .add) (ty := 3) (k := .i64) (n := (sn 9)) (m := (sn 3)) (r := (sn 11)) (a := (X i)) (b := bx) (c := (((X i) + bx))) (d := (X i) + bx) (by kernel_rfl) (by kernel_rfl) (by kernel_rfl) rfl (wr_bd bq0 rfl)) (all_cons (arOK (op := .add) (ty := 3) (k := .i64) (n := (sn 10)) (m := (sn 4)) (r := (sn 12)) (a := (Y i)) (b := by_) (c := (((Y i) + by_))) (d := (Y i) + by_) (by kernel_rfl) (by kernel_rfl) (by kernel_rfl) rfl (wr_bd bq1 rfl)) all_nil))), all_nil, all_nil, all_nil, (all_cons (callOK (f := 34) (args := [sy 11]) (v := .bool true) (args' := #[.int .i64 (((X i) + bx))]) (v' := .bool true) (by kernel_rfl) (by kernel_rfl) (by kernel_rfl) (fun w => by have q := rnear_any (((X i) + bx)) w; rw [h1] at q; exact q)) (all_cons (callOK (f := 34) (args := [sy 12]) (v := .bool false) (args' := #[.int .i64 (((Y i) + by_))]) (v' := .bool false) (by kernel_rfl) (by kernel_rfl) (by kernel_rfl) (fun w => by have q := rnear_any (((Y i) + by_)) w; rw [h2] at q; exact q)) all_nil)), (all_cons (cldOK (it := 3) (k := 2) (r := (sn 9)) (x := (X i)) (by kernel_rfl) rfl (by kernel_rfl) (fun w1 hw1 => hC.c0 _ (by have g := of_decide_eq_false h0; omega) w1 hw1)) (all_cons (cldOK (it := 3) (k := 3) (r := (sn 10)) (x := (Y i)) (by kernel_rfl) rfl (by kernel_rfl) (fun w1 hw1 => hC.c1 _ (by have g := of_decide_eq_false h0; omega) w1 hw1)) all_nil)), (all_cons (sixOK (i := 0) (j := 1) (k := i) (r := (sn 8)) hP rfl (by kernel_rfl) rfl (by have g := of_decide_eq_false h0; omega)) all_nil), all_nil, all_nil, all_nil, (all_cons (lenOK (i := 0) (r := (sn 0)) (a := a) (c := c) rfl (by kernel_rfl)) all_nil), all_nil, all_nil, all_nil, all_nil, (all_cons (pfadOK (te := 60) (f := 0) (off := 0) (sz := 1) (j := 1) (k := 2) (by kernel_rfl) (by decide) rfl rfl) (all_cons (pfadOK (te := 60) (f := 1) (off := 1) (sz := 1) (j := 1) (k := 3) (by kernel_rfl) (by decide) rfl rfl) all_nil)), all_nil, all_nil⟩
theorem rmwko2 (a : Option Addr) (n c : Nat) (X Y : Nat → Int) (ptr : Nat → Addr) (lo hi bx by_ bz : Int) (w : World) (i : Nat) (hib : bd 0 1000000000000000 (i : Int)) (hn : bd 0 1000000000000 (n : Int)) (hn0 : n ≤ 1000000000000) (h64 : n ≤ 64) (hX : ∀ k, k < n → bd (-1000000) 1000000 (X k) ∧ bd (-1000000) 1000000 (Y k)) (hS : Sl Try.prog w (.slice a n c) n 22 60 (fun k => .agg #[.int .i64 (X k), .int .i64 (Y k)]) ptr) (hP : Sl Try.prog w (.slice a n c) n 23 60 (fun k => .agg #[.int .i64 (X k), .int .i64 (Y k)]) ptr) (h_lo : bd (-1000000) 1000000 lo) (h_hi : bd (-1000000) 1000000 hi) (h_bx : bd (-1000000) 1000000 bx) (h_by_ : bd (-1000000) 1000000 by_) (h_bz : bd (-1000000) 1000000 bz) (hC : Cl w n X Y ptr)  (h0 : (decide ((n : Int) ≤ (i : Int))) = false) (h1 : (okC (((X i) + bx))) = true) (h2 : (okC (((Y i) + by_))) = true) : Know (rmwE a n c X Y ptr lo hi bx by_ bz w i) Try.prog rmwo2 := by
  have bq0 : bd (-2000000) 2000000 (((X i) + bx)) := bd_add (hX _ (by have g := of_decide_eq_false h0; omega)).1 h_bx rfl
  have bq1 : bd (-2000000) 2000000 (((Y i) + by_)) := bd_add (hX _ (by have g := of_decide_eq_false h0; omega)).2 h_by_ rfl
  have bq2 : bd 1 1000000000000001 (((i : Int) + 1)) := bd_add hib (bd_lit (l := 1) (h := 1) rfl) rfl
  exact ⟨(all_cons (cmpOK (op := .lss) (ty := 3) (k := .i64) (n := (sn 8)) (m := (sn 0)) (t := true) (a := (i : Int)) (b := (n : Int)) (by kernel_rfl) (by kernel_rfl) (congrArg some ((lt_of_le h0)))) (all_cons (arOK (op := .add) (ty := 3) (k := .i64) (n := (sn 9)) (m := (sn 3)) (r := (sn 11)) (a := (X i)) (b := bx) (c := (((X i) + bx))) (d := (X i) + bx) (by kernel_rfl) (by kernel_rfl) (by kernel_rfl) rfl (wr_bd bq0 rfl)) (all_cons (arOK (op := .add) (ty := 3) (k := .i64) (n := (sn 10)) (m := (sn 4)) (r := (sn 12)) (a := (Y i)) (b := by_) (c := (((Y i) + by_))) (d := (Y i) + by_) (by kernel_rfl) (by kernel_rfl) (by kernel_rfl) rfl (wr_bd bq1 rfl)) (all_cons (arOK (op := .add) (ty := 3) (k := .i64) (n := (sn 8)) (m := 1) (r := (sn 13)) (a := (i : Int)) (b := 1) (c := (((i : Int) + 1))) (d := (i : Int) + 1) (by kernel_rfl) (by kernel_rfl) (by kernel_rfl) rfl (wr_bd bq2 rfl)) all_nil)))), all_nil, all_nil, all_nil, (all_cons (callOK (f := 34) (args := [sy 11]) (v := .bool true) (args' := #[.int .i64 (((X i) + bx))]) (v' := .bool true) (by kernel_rfl) (by kernel_rfl) (by kernel_rfl) (fun w => by have q := rnear_any (((X i) + bx)) w; rw [h1] at q; exact q)) (all_cons (callOK (f := 34) (args := [sy 12]) (v := .bool true) (args' := #[.int .i64 (((Y i) + by_))]) (v' := .bool true) (by kernel_rfl) (by kernel_rfl) (by kernel_rfl) (fun w => by have q := rnear_any (((Y i) + by_)) w; rw [h2] at q; exact q)) all_nil)), (all_cons (cldOK (it := 3) (k := 2) (r := (sn 9)) (x := (X i)) (by kernel_rfl) rfl (by kernel_rfl) (fun w1 hw1 => hC.c0 _ (by have g := of_decide_eq_false h0; omega) w1 hw1)) (all_cons (cldOK (it := 3) (k := 3) (r := (sn 10)) (x := (Y i)) (by kernel_rfl) rfl (by kernel_rfl) (fun w1 hw1 => hC.c1 _ (by have g := of_decide_eq_false h0; omega) w1 hw1)) all_nil)), (all_cons (sixOK (i := 0) (j := 1) (k := i) (r := (sn 8)) hP rfl (by kernel_rfl) rfl (by have g := of_decide_eq_false h0; omega)) all_nil), all_nil, all_nil, all_nil, (all_cons (lenOK (i := 0) (r := (sn 0)) (a := a) (c := c) rfl (by kernel_rfl)) all_nil), (all_cons (⟨(by kernel_rfl), rfl, (by show (ptL (fun k => X k + bx) (fun k => Y k + by_) (i + 1)).length ≤ 1000000; rw [ptL_len]; have := (by have g := of_decide_eq_false h0; omega); omega)⟩ : LapOK _ (_, _, _)) all_nil), all_nil, all_nil, all_nil, (all_cons (pfadOK (te := 60) (f := 0) (off := 0) (sz := 1) (j := 1) (k := 2) (by kernel_rfl) (by decide) rfl rfl) (all_cons (pfadOK (te := 60) (f := 1) (off := 1) (sz := 1) (j := 1) (k := 3) (by kernel_rfl) (by decide) rfl rfl) all_nil)), all_nil, all_nil⟩
theorem rmwko3 (a : Option Addr) (n c : Nat) (X Y : Nat → Int) (ptr : Nat → Addr) (lo hi bx by_ bz : Int) (w : World) (i : Nat) (hib : bd 0 1000000000000000 (i : Int)) (hn : bd 0 1000000000000 (n : Int)) (hn0 : n ≤ 1000000000000) (h64 : n ≤ 64) (hX : ∀ k, k < n → bd (-1000000) 1000000 (X k) ∧ bd (-1000000) 1000000 (Y k)) (hS : Sl Try.prog w (.slice a n c) n 22 60 (fun k => .agg #[.int .i64 (X k), .int .i64 (Y k)]) ptr) (hP : Sl Try.prog w (.slice a n c) n 23 60 (fun k => .agg #[.int .i64 (X k), .int .i64 (Y k)]) ptr) (h_lo : bd (-1000000) 1000000 lo) (h_hi : bd (-1000000) 1000000 hi) (h_bx : bd (-1000000) 1000000 bx) (h_by_ : bd (-1000000) 1000000 by_) (h_bz : bd (-1000000) 1000000 bz) (hC : Cl w n X Y ptr)  (h0 : (decide ((n : Int) ≤ (i : Int))) = true) : Know (rmwE a n c X Y ptr lo hi bx by_ bz w i) Try.prog rmwo3 := by
  exact ⟨(all_cons (cmpOK (op := .lss) (ty := 3) (k := .i64) (n := (sn 8)) (m := (sn 0)) (t := false) (a := (i : Int)) (b := (n : Int)) (by kernel_rfl) (by kernel_rfl) (congrArg some ((lt_of_le h0)))) all_nil), all_nil, all_nil, all_nil, all_nil, all_nil, all_nil, all_nil, all_nil, all_nil, (all_cons (lenOK (i := 0) (r := (sn 0)) (a := a) (c := c) rfl (by kernel_rfl)) all_nil), all_nil, all_nil, all_nil, all_nil, all_nil, all_nil, all_nil⟩
def rmwtF_bad : Tm := [[.agg #[oq 0, sy 1, sy 2], .agg #[sy 3, sy 4, sy 5], .pointer (some ⟨0, 0, none⟩), .pointer (some ⟨1, 0, none⟩), .pointer (some ⟨2, 0, none⟩), .int .i64 6, .pointer (some ⟨3, 0, none⟩), anyV, anyV, .pointer (some ⟨1, 0, none⟩), sy 3, .bool true, .bool false, .bool false, .pointer (some ⟨1, 1, none⟩), sy 4], [.bool true, .bool false, .bool false, .bool false, .pointer (some ⟨1, 2, none⟩), sy 5, .bool true, .bool false, .bool false, anyV, .pointer (some ⟨0, 1, none⟩), sy 1, .pointer (some ⟨1, 2, none⟩), sy 5, sy 6, .pointer (some ⟨0, 2, none⟩)], [sy 2, .pointer (some ⟨1, 2, none⟩), sy 5, sy 7, .agg #[.slice none 0 0, sy 6, sy 7], anyV, .pointer (some ⟨0, 0, none⟩), oq 0, sy 0, .bool true, anyV, anyV, .pointer (some ⟨0, 0, none⟩), oq 0, anyV, anyV], [anyV, anyV, .pointer (some ⟨1, 0, none⟩), sy 3, anyV, .pointer (some ⟨0, 0, none⟩), oq 0, anyV, anyV, anyV, anyV, .pointer (some ⟨1, 1, none⟩), sy 4, anyV, anyV, anyV], [anyV, anyV, anyV, anyV, anyV, anyV, anyV, anyV, .bool true, .agg #[.slice none 0 0, .int .i64 0, .int .i64 0], anyV, anyV, anyV, anyV, anyV, anyV], [anyV, anyV, anyV, anyV, anyV, anyV, anyV, anyV, anyV, anyV, anyV, anyV]]
def rmwHF_bad : Heap := [some ⟨[oq 0, sy 1, sy 2], 25⟩, some ⟨[sy 3, sy 4, sy 5], 30⟩, some ⟨[.slice none 0 0, .int .i64 0, .int .i64 0], 25⟩, none]
theorem rmwfa0_bad : stepT Try.prog [0, 1, 2, 3] (evBody Try.prog rmwa0 1000 50 31 [false, true, false, true, true, true] rmwtA rmwHA) (.ret) rmwtF_bad rmwHF_bad [.val 0 0, .num 1180591620717411303425 1180591620717411303425, .num 1180591620717411303426 1180591620717411303426, .num 1180591620717411303427 1180591620717411303427, .num 1180591620717411303428 1180591620717411303428, .num 1180591620717411303429 1180591620717411303429, .num 1180591620717411303430 1180591620717411303430, .num 1180591620717411303431 1180591620717411303431, .num 1180591620717411303424 1180591620717411303424] = true := by decide +kernel
theorem rmwfa1_bad : stepT Try.prog [0, 1, 2, 3] (evBody Try.prog rmwa1 1000 50 31 [false, true, false, true, true, true] rmwtA rmwHA) (.ret) rmwtF_bad rmwHF_bad [.val 0 0, .num 1180591620717411303425 1180591620717411303425, .num 1180591620717411303426 1180591620717411303426, .num 1180591620717411303427 1180591620717411303427, .num 1180591620717411303428 1180591620717411303428, .num 1180591620717411303429 1180591620717411303429, .num 1180591620717411303430 1180591620717411303430, .num 1180591620717411303431 1180591620717411303431, .num 1180591620717411303424 1180591620717411303424] = true := by decide +kernel
theorem rmwfo0_bad : stepT Try.prog [0, 1, 2, 3] (evBody Try.prog rmwo0 1000 50 31 [false, true, false, true, true, true] rmwtB rmwHB) (.ret) rmwtF_bad rmwHF_bad [.val 0 0, .num 1180591620717411303425 1180591620717411303425, .num 1180591620717411303426 1180591620717411303426, .num 1180591620717411303427 1180591620717411303427, .num 1180591620717411303428 1180591620717411303428, .num 1180591620717411303429 1180591620717411303429, .num 1180591620717411303430 1180591620717411303430, .num 1180591620717411303431 1180591620717411303431, .num 1180591620717411303424 1180591620717411303424] = true := by decide +kernel
theorem rmwfo1_bad : stepT Try.prog [0, 1, 2, 3] (evBody Try.prog rmwo1 1000 50 31 [false, true, false, true, true, true] rmwtB rmwHB) (.ret) rmwtF_bad rmwHF_bad [.val 0 0, .num 1180591620717411303425 1180591620717411303425, .num 1180591620717411303426 1180591620717411303426, .num 1180591620717411303427 1180591620717411303427, .num 1180591620717411303428 1180591620717411303428, .num 1180591620717411303429 1180591620717411303429, .num 1180591620717411303430 1180591620717411303430, .num 1180591620717411303431 1180591620717411303431, .num 1180591620717411303424 1180591620717411303424] = true := by decide +kernel
theorem rmw_loop_bad (a : Option Addr) (n c : Nat) (X Y : Nat → Int) (ptr : Nat → Addr) (lo hi bx by_ bz : Int) (w : World) (hn0 : n ≤ 1000000000000) (h64 : n ≤ 64) (hX : ∀ k, k < n → bd (-1000000) 1000000 (X k) ∧ bd (-1000000) 1000000 (Y k)) (hS : Sl Try.prog w (.slice a n c) n 22 60 (fun k => .agg #[.int .i64 (X k), .int .i64 (Y k)]) ptr) (hP : Sl Try.prog w (.slice a n c) n 23 60 (fun k => .agg #[.int .i64 (X k), .int .i64 (Y k)]) ptr) (h_lo : bd (-1000000) 1000000 lo) (h_hi : bd (-1000000) 1000000 hi) (h_bx : bd (-1000000) 1000000 bx) (h_by_ : bd (-1000000) 1000000 by_) (h_bz : bd (-1000000) 1000000 bz) (hC : Cl w n X Y ptr) (K : Nat) (hK : K < n) (hq0 : (okP (fun k => X k + bx) (fun k => Y k + by_)) K = false) (hall : ∀ i, i < K → (okP (fun k => X k + bx) (fun k => Y k + by_)) i = true) : LoopE (env [(n : Int), lo, hi, bx, by_, bz, (lo + bz), (hi + bz)] [(.slice a n c)] w) Try.prog (31, [false, true, false, true, true, true], rmwtA, rmwHA, .ret, rmwtF_bad, rmwHF_bad) := by
  refine loop_rule (σ := { st : Nat // st ≤ K }) (fun st => rmwE a n c X Y ptr lo hi bx by_ bz w st.1) (fun _ => rfl) (fun st => K - st.1) (fun st => rmwtt st.1) (fun st => rmwHH st.1) rfl (fun st => rmwhl st.1) (by decide) ?_ ⟨0, Nat.zero_le _⟩ [.val 0 0, .num 1180591620717411303425 1180591620717411303425, .num 1180591620717411303426 1180591620717411303426, .num 1180591620717411303427 1180591620717411303427, .num 1180591620717411303428 1180591620717411303428, .num 1180591620717411303429 1180591620717411303429, .num 1180591620717411303430 1180591620717411303430, .num 1180591620717411303431 1180591620717411303431] [0, 1, 2, 3] (by show passQ Try.prog [0, 1, 2, 3] rmwtA rmwHA rmwtA rmwHA [.val 0 0, .num 1180591620717411303425 1180591620717411303425, .num 1180591620717411303426 1180591620717411303426, .num 1180591620717411303427 1180591620717411303427, .num 1180591620717411303428 1180591620717411303428, .num 1180591620717411303429 1180591620717411303429, .num 1180591620717411303430 1180591620717411303430, .num 1180591620717411303431 1180591620717411303431] = true; decide +kernel) (by decide) ?_
  · rintro ⟨i, hle_⟩
    rcases Nat.lt_or_ge i (K) with h | h
    · have hib : bd 0 1000000000000000 (i : Int) := ⟨by omega, by omega⟩; have hn : bd 0 1000000000000 (n : Int) := ⟨by omega, by omega⟩; have hq := hall i h; clear hall
      rcases Nat.eq_zero_or_pos i with hz_ | hz_
      · subst hz_
        rcases h0 : (decide ((n : Int) ≤ (0 : Int))) with _ | _
        · rcases h1 : (okC (((X 0) + bx))) with _ | _
          · exfalso; (first | (have g := of_decide_eq_true h0; omega) | (have g := of_decide_eq_false h0; omega) | (unfold okP at hq; simp [*] at hq; done))
          · rcases h2 : (okC (((Y 0) + by_))) with _ | _
            · exfalso; (first | (have g := of_decide_eq_true h0; omega) | (have g := of_decide_eq_false h0; omega) | (unfold okP at hq; simp [*] at hq; done))
            · refine .inl ⟨rmwa2, 1000, 50, _, [0, 1, 2, 3, 6], ⟨0 + 1, h⟩, (rmwka2 a n c X Y ptr lo hi bx by_ bz w hib hn hn0 h64 hX hS hP h_lo h_hi h_bx h_by_ h_bz hC h0 h1 h2).ok, rmwsa2, by decide, ?_, by show K - (0 + 1) < K - 0; omega⟩
              intro q hq
              simp only [List.mem_cons, List.not_mem_nil, or_false] at hq
              rcases hq with rfl | rfl | rfl | rfl | rfl | rfl | rfl | rfl | rfl | rfl
              · show (_ : Value) = _; kernel_rfl
              · show (_ : Int) = _; kernel_rfl
              · show (_ : Int) = _; kernel_rfl
              · show (_ : Int) = _; kernel_rfl
              · show (_ : Int) = _; kernel_rfl
              · show (_ : Int) = _; kernel_rfl
              · show (1 : Int) = (((0 + 1 : Nat)) : Int); first | rfl | (omega)
              · show (_ : Int) = _; kernel_rfl
              · show (_ : Int) = _; kernel_rfl
              · show (_ : List Value) = _; kernel_rfl
        · exfalso; (first | (have g := of_decide_eq_true h0; omega) | (have g := of_decide_eq_false h0; omega) | (unfold okP at hq; simp [*] at hq; done))
      · skip
        rcases h0 : (decide ((n : Int) ≤ (i : Int))) with _ | _
        · rcases h1 : (okC (((X i) + bx))) with _ | _
          · exfalso; (first | (have g := of_decide_eq_true h0; omega) | (have g := of_decide_eq_false h0; omega) | (unfold okP at hq; simp [*] at hq; done))
          · rcases h2 : (okC (((Y i) + by_))) with _ | _
            · exfalso; (first | (have g := of_decide_eq_true h0; omega) | (have g := of_decide_eq_false h0; omega) | (unfold okP at hq; simp [*] at hq; done))
            · refine .inl ⟨rmwo2, 1000, 50, _, [0, 1, 2, 3, 7], ⟨i + 1, h⟩, (rmwko2 a n c X Y ptr lo hi bx by_ bz w i hib hn hn0 h64 hX hS hP h_lo h_hi h_bx h_by_ h_bz hC h0 h1 h2).ok, (by show stepT _ _ (evBody _ _ _ _ _ _ (rmwtt i) (rmwHH i)) _ (rmwtt (i + 1)) (rmwHH (i + 1)) _ = true; rw [(rmwtp hz_).1, (rmwtp hz_).2]; exact rmwso2), by decide, ?_, by show K - (i + 1) < K - i; omega⟩
              intro q hq
              simp only [List.mem_cons, List.not_mem_nil, or_false] at hq
              rcases hq with rfl | rfl | rfl | rfl | rfl | rfl | rfl | rfl | rfl | rfl
              · show (_ : Value) = _; kernel_rfl
              · show (_ : Int) = _; kernel_rfl
              · show (_ : Int) = _; kernel_rfl
              · show (_ : Int) = _; kernel_rfl
              · show (_ : Int) = _; kernel_rfl
              · show (_ : Int) = _; kernel_rfl
              · show (((i : Int) + 1) : Int) = (((i + 1 : Nat)) : Int); first | rfl | (omega)
              · show (_ : Int) = _; kernel_rfl
              · show (_ : Int) = _; kernel_rfl
              · show ((ptL (fun k => X k + bx) (fun k => Y k + by_) (i + 1)) : List Value) = (ptL (fun k => X k + bx) (fun k => Y k + by_) (i + 1)); rfl
        · exfalso; (first | (have g := of_decide_eq_true h0; omega) | (have g := of_decide_eq_false h0; omega) | (unfold okP at hq; simp [*] at hq; done))
    · have hE : K = i := by omega
      subst hE
      have hib : bd 0 1000000000000000 (K : Int) := ⟨by omega, by omega⟩; have hn : bd 0 1000000000000 (n : Int) := ⟨by omega, by omega⟩; have hq := hq0; clear hall hq0
      rcases Nat.eq_zero_or_pos K with hz_ | hz_
      · subst hz_
        rcases h0 : (decide ((n : Int) ≤ (0 : Int))) with _ | _
        · rcases h1 : (okC (((X 0) + bx))) with _ | _
          · refine .inr ⟨rmwa0, 1000, 50, _, [0, 1, 2, 3], (rmwka0 a n c X Y ptr lo hi bx by_ bz w hib hn hn0 h64 hX hS hP h_lo h_hi h_bx h_by_ h_bz hC h0 h1).ok, rmwfa0_bad, by decide, ?_⟩
            intro q hq
            simp only [List.mem_cons, List.not_mem_nil, or_false] at hq
            rcases hq with rfl | rfl | rfl | rfl | rfl | rfl | rfl | rfl | rfl
            · show (_ : Value) = _; kernel_rfl
            · show (_ : Int) = _; kernel_rfl
            · show (_ : Int) = _; kernel_rfl
            · show (_ : Int) = _; kernel_rfl
            · show (_ : Int) = _; kernel_rfl
            · show (_ : Int) = _; kernel_rfl
            · show (_ : Int) = _; kernel_rfl
            · show (_ : Int) = _; kernel_rfl
            · show (_ : Int) = _; kernel_rfl
          · rcases h2 : (okC (((Y 0) + by_))) with _ | _
            · refine .inr ⟨rmwa1, 1000, 50, _, [0, 1, 2, 3], (rmwka1 a n c X Y ptr lo hi bx by_ bz w hib hn hn0 h64 hX hS hP h_lo h_hi h_bx h_by_ h_bz hC h0 h1 h2).ok, rmwfa1_bad, by decide, ?_⟩
              intro q hq
              simp only [List.mem_cons, List.not_mem_nil, or_false] at hq
              rcases hq with rfl | rfl | rfl | rfl | rfl | rfl | rfl | rfl | rfl
              · show (_ : Value) = _; kernel_rfl
              · show (_ : Int) = _; kernel_rfl
              · show (_ : Int) = _; kernel_rfl
              · show (_ : Int) = _; kernel_rfl
              · show (_ : Int) = _; kernel_rfl
              · show (_ : Int) = _; kernel_rfl
              · show (_ : Int) = _; kernel_rfl
              · show (_ : Int) = _; kernel_rfl
              · show (_ : Int) = _; kernel_rfl
            · exfalso; (first | (have g := of_decide_eq_true h0; omega) | (have g := of_decide_eq_false h0; omega) | (unfold okP at hq; simp [*] at hq; done))
        · exfalso; (first | (have g := of_decide_eq_true h0; omega) | (have g := of_decide_eq_false h0; omega) | (unfold okP at hq; simp [*] at hq; done))
      · skip
        rcases h0 : (decide ((n : Int) ≤ (K : Int))) with _ | _
        · rcases h1 : (okC (((X K) + bx))) with _ | _
          · refine .inr ⟨rmwo0, 1000, 50, _, [0, 1, 2, 3], (rmwko0 a n c X Y ptr lo hi bx by_ bz w (K) hib hn hn0 h64 hX hS hP h_lo h_hi h_bx h_by_ h_bz hC h0 h1).ok, (by show stepT _ _ (evBody _ _ _ _ _ _ (rmwtt (K)) (rmwHH (K))) _ _ _ _ = true; rw [(rmwtp hz_).1, (rmwtp hz_).2]; exact rmwfo0_bad), by decide, ?_⟩
            intro q hq
            simp only [List.mem_cons, List.not_mem_nil, or_false] at hq
            rcases hq with rfl | rfl | rfl | rfl | rfl | rfl | rfl | rfl | rfl
            · show (_ : Value) = _; kernel_rfl
            · show (_ : Int) = _; kernel_rfl
            · show (_ : Int) = _; kernel_rfl
            · show (_ : Int) = _; kernel_rfl
            · show (_ : Int) = _; kernel_rfl
            · show (_ : Int) = _; kernel_rfl
            · show (_ : Int) = _; kernel_rfl
            · show (_ : Int) = _; kernel_rfl
            · show (_ : Int) = _; kernel_rfl
          · rcases h2 : (okC (((Y K) + by_))) with _ | _
            · refine .inr ⟨rmwo1, 1000, 50, _, [0, 1, 2, 3], (rmwko1 a n c X Y ptr lo hi bx by_ bz w (K) hib hn hn0 h64 hX hS hP h_lo h_hi h_bx h_by_ h_bz hC h0 h1 h2).ok, (by show stepT _ _ (evBody _ _ _ _ _ _ (rmwtt (K)) (rmwHH (K))) _ _ _ _ = true; rw [(rmwtp hz_).1, (rmwtp hz_).2]; exact rmwfo1_bad), by decide, ?_⟩
              intro q hq
              simp only [List.mem_cons, List.not_mem_nil, or_false] at hq
              rcases hq with rfl | rfl | rfl | rfl | rfl | rfl | rfl | rfl | rfl
              · show (_ : Value) = _; kernel_rfl
              · show (_ : Int) = _; kernel_rfl
              · show (_ : Int) = _; kernel_rfl
              · show (_ : Int) = _; kernel_rfl
              · show (_ : Int) = _; kernel_rfl
              · show (_ : Int) = _; kernel_rfl
              · show (_ : Int) = _; kernel_rfl
              · show (_ : Int) = _; kernel_rfl
              · show (_ : Int) = _; kernel_rfl
            · exfalso; (first | (have g := of_decide_eq_true h0; omega) | (have g := of_decide_eq_false h0; omega) | (unfold okP at hq; simp [*] at hq; done))
        · exfalso; (first | (have g := of_decide_eq_true h0; omega) | (have g := of_decide_eq_false h0; omega) | (unfold okP at hq; simp [*] at hq; done))
  · skip
    intro q hq
    simp only [List.mem_cons, List.not_mem_nil, or_false] at hq
    rcases hq with rfl | rfl | rfl | rfl | rfl | rfl | rfl | rfl
    · show (_ : Value) = _; kernel_rfl
    · show (_ : Int) = _; kernel_rfl
    · show (_ : Int) = _; kernel_rfl
    · show (_ : Int) = _; kernel_rfl
    · show (_ : Int) = _; kernel_rfl
    · show (_ : Int) = _; kernel_rfl
    · show (_ : Int) = _; kernel_rfl
    · show (_ : Int) = _; kernel_rfl
def rmwtF_done : Tm := [[.agg #[oq 0, sy 1, sy 2], .agg #[sy 3, sy 4, sy 5], .pointer (some ⟨0, 0, none⟩), .pointer (some ⟨1, 0, none⟩), .pointer (some ⟨2, 0, none⟩), .int .i64 0, .pointer (some ⟨3, 0, none⟩), anyV, anyV, .pointer (some ⟨1, 0, none⟩), sy 3, .bool true, .bool false, .bool false, .pointer (some ⟨1, 1, none⟩), sy 4], [.bool true, .bool false, .bool false, .bool false, .pointer (some ⟨1, 2, none⟩), sy 5, .bool true, .bool false, .bool false, anyV, .pointer (some ⟨0, 1, none⟩), sy 1, .pointer (some ⟨1, 2, none⟩), sy 5, sy 6, .pointer (some ⟨0, 2, none⟩)], [sy 2, .pointer (some ⟨1, 2, none⟩), sy 5, sy 7, .agg #[.slice none 0 0, sy 6, sy 7], anyV, .pointer (some ⟨0, 0, none⟩), oq 0, sy 0, .bool false, anyV, anyV, anyV, anyV, anyV, anyV], [anyV, anyV, anyV, anyV, anyV, anyV, anyV, anyV, anyV, anyV, anyV, anyV, anyV, anyV, anyV, anyV], [anyV, anyV, anyV, anyV, anyV, anyV, anyV, anyV, anyV, anyV, anyV, anyV, anyV, anyV, anyV, anyV], [anyV, anyV, anyV, anyV, anyV, anyV, anyV, anyV, anyV, anyV, anyV, anyV]]
def rmwHF_done : Heap := [some ⟨[oq 0, sy 1, sy 2], 25⟩, some ⟨[sy 3, sy 4, sy 5], 30⟩, some ⟨[.slice none 0 0, .int .i64 0, .int .i64 0], 25⟩, some ⟨[.complex .f32 4 12, sy 6, sy 7], 25⟩, some ⟨[], 1180591620717413400636⟩]
theorem rmwfo3_done : stepT Try.prog [0, 1, 2, 3, 4] (evBody Try.prog rmwo3 1000 50 31 [false, true, false, true, true, true] rmwtB rmwHB) (.exit 0) rmwtF_done rmwHF_done [.val 0 0, .num 1180591620717411303425 1180591620717411303425, .num 1180591620717411303426 1180591620717411303426, .num 1180591620717411303427 1180591620717411303427, .num 1180591620717411303428 1180591620717411303428, .num 1180591620717411303429 1180591620717411303429, .num 1180591620717411303430 1180591620717411303430, .num 1180591620717411303431 1180591620717411303431, .num 1180591620717411303424 1180591620717411303424, .lst 2 2] = true := by decide +kernel
theorem rmw_loop_done (a : Option Addr) (n c : Nat) (X Y : Nat → Int) (ptr : Nat → Addr) (lo hi bx by_ bz : Int) (w : World) (hn0 : n ≤ 1000000000000) (h64 : n ≤ 64) (hX : ∀ k, k < n → bd (-1000000) 1000000 (X k) ∧ bd (-1000000) 1000000 (Y k)) (hS : Sl Try.prog w (.slice a n c) n 22 60 (fun k => .agg #[.int .i64 (X k), .int .i64 (Y k)]) ptr) (hP : Sl Try.prog w (.slice a n c) n 23 60 (fun k => .agg #[.int .i64 (X k), .int .i64 (Y k)]) ptr) (h_lo : bd (-1000000) 1000000 lo) (h_hi : bd (-1000000) 1000000 hi) (h_bx : bd (-1000000) 1000000 bx) (h_by_ : bd (-1000000) 1000000 by_) (h_bz : bd (-1000000) 1000000 bz) (hC : Cl w n X Y ptr) (hpo : 0 < n) (hall : ∀ i, i < n → (okP (fun k => X k + bx) (fun k => Y k + by_)) i = true) : LoopE (env [(n : Int), lo, hi, bx, by_, bz, (lo + bz), (hi + bz)] [(.slice a n c)] w [(ptL (fun k => X k + bx) (fun k => Y k + by_) n)]) Try.prog (31, [false, true, false, true, true, true], rmwtA, rmwHA, .exit 0, rmwtF_done, rmwHF_done) := by
  refine loop_rule (σ := { st : Nat // st ≤ n }) (fun st => rmwE a n c X Y ptr lo hi bx by_ bz w st.1) (fun _ => rfl) (fun st => n - st.1) (fun st => rmwtt st.1) (fun st => rmwHH st.1) rfl (fun st => rmwhl st.1) (by decide) ?_ ⟨0, Nat.zero_le _⟩ [.val 0 0, .num 1180591620717411303425 1180591620717411303425, .num 1180591620717411303426 1180591620717411303426, .num 1180591620717411303427 1180591620717411303427, .num 1180591620717411303428 1180591620717411303428, .num 1180591620717411303429 1180591620717411303429, .num 1180591620717411303430 1180591620717411303430, .num 1180591620717411303431 1180591620717411303431] [0, 1, 2, 3] (by show passQ Try.prog [0, 1, 2, 3] rmwtA rmwHA rmwtA rmwHA [.val 0 0, .num 1180591620717411303425 1180591620717411303425, .num 1180591620717411303426 1180591620717411303426, .num 1180591620717411303427 1180591620717411303427, .num 1180591620717411303428 1180591620717411303428, .num 1180591620717411303429 1180591620717411303429, .num 1180591620717411303430 1180591620717411303430, .num 1180591620717411303431 1180591620717411303431] = true; decide +kernel) (by decide) ?_
  · rintro ⟨i, hle_⟩
    rcases Nat.lt_or_ge i (n) with h | h
    · have hib : bd 0 1000000000000000 (i : Int) := ⟨by omega, by omega⟩; have hn : bd 0 1000000000000 (n : Int) := ⟨by omega, by omega⟩; have hq := hall i h; clear hall
      rcases Nat.eq_zero_or_pos i with hz_ | hz_
      · subst hz_
        rcases h0 : (decide ((n : Int) ≤ (0 : Int))) with _ | _
        · rcases h1 : (okC (((X 0) + bx))) with _ | _
          · exfalso; (first | (have g := of_decide_eq_true h0; omega) | (have g := of_decide_eq_false h0; omega) | (unfold okP at hq; simp [*] at hq; done))
          · rcases h2 : (okC (((Y 0) + by_))) with _ | _
            · exfalso; (first | (have g := of_decide_eq_true h0; omega) | (have g := of_decide_eq_false h0; omega) | (unfold okP at hq; simp [*] at hq; done))
            · refine .inl ⟨rmwa2, 1000, 50, _, [0, 1, 2, 3, 6], ⟨0 + 1, h⟩, (rmwka2 a n c X Y ptr lo hi bx by_ bz w hib hn hn0 h64 hX hS hP h_lo h_hi h_bx h_by_ h_bz hC h0 h1 h2).ok, rmwsa2, by decide, ?_, by show n - (0 + 1) < n - 0; omega⟩
              intro q hq
              simp only [List.mem_cons, List.not_mem_nil, or_false] at hq
              rcases hq with rfl | rfl | rfl | rfl | rfl | rfl | rfl | rfl | rfl | rfl
              · show (_ : Value) = _; kernel_rfl
              · show (_ : Int) = _; kernel_rfl
              · show (_ : Int) = _; kernel_rfl
              · show (_ : Int) = _; kernel_rfl
              · show (_ : Int) = _; kernel_rfl
              · show (_ : Int) = _; kernel_rfl
              · show (1 : Int) = (((0 + 1 : Nat)) : Int); first | rfl | (omega)
              · show (_ : Int) = _; kernel_rfl
              · show (_ : Int) = _; kernel_rfl
              · show (_ : List Value) = _; kernel_rfl
        · exfalso; (first | (have g := of_decide_eq_true h0; omega) | (have g := of_decide_eq_false h0; omega) | (unfold okP at hq; simp [*] at hq; done))
      · skip
        rcases h0 : (decide ((n : Int) ≤ (i : Int))) with _ | _
        · rcases h1 : (okC (((X i) + bx))) with _ | _
          · exfalso; (first | (have g := of_decide_eq_true h0; omega) | (have g := of_decide_eq_false h0; omega) | (unfold okP at hq; simp [*] at hq; done))
          · rcases h2 : (okC (((Y i) + by_))) with _ | _
            · exfalso; (first | (have g := of_decide_eq_true h0; omega) | (have g := of_decide_eq_false h0; omega) | (unfold okP at hq; simp [*] at hq; done))
            · refine .inl ⟨rmwo2, 1000, 50, _, [0, 1, 2, 3, 7], ⟨i + 1, h⟩, (rmwko2 a n c X Y ptr lo hi bx by_ bz w i hib hn hn0 h64 hX hS hP h_lo h_hi h_bx h_by_ h_bz hC h0 h1 h2).ok, (by show stepT _ _ (evBody _ _ _ _ _ _ (rmwtt i) (rmwHH i)) _ (rmwtt (i + 1)) (rmwHH (i + 1)) _ = true; rw [(rmwtp hz_).1, (rmwtp hz_).2]; exact rmwso2), by decide, ?_, by show n - (i + 1) < n - i; omega⟩
              intro q hq
              simp only [List.mem_cons, List.not_mem_nil, or_false] at hq
              rcases hq with rfl | rfl | rfl | rfl | rfl | rfl | rfl | rfl | rfl | rfl
              · show (_ : Value) = _; kernel_rfl
              · show (_ : Int) = _; kernel_rfl
              · show (_ : Int) = _; kernel_rfl
              · show (_ : Int) = _; kernel_rfl
              · show (_ : Int) = _; kernel_rfl
              · show (_ : Int) = _; kernel_rfl
              · show (((i : Int) + 1) : Int) = (((i + 1 : Nat)) : Int); first | rfl | (omega)
              · show (_ : Int) = _; kernel_rfl
              · show (_ : Int) = _; kernel_rfl
              · show ((ptL (fun k => X k + bx) (fun k => Y k + by_) (i + 1)) : List Value) = (ptL (fun k => X k + bx) (fun k => Y k + by_) (i + 1)); rfl
        · exfalso; (first | (have g := of_decide_eq_true h0; omega) | (have g := of_decide_eq_false h0; omega) | (unfold okP at hq; simp [*] at hq; done))
    · have hE : n = i := by omega
      subst hE
      have hib : bd 0 1000000000000000 (n : Int) := ⟨by omega, by omega⟩; have hn : bd 0 1000000000000 (n : Int) := ⟨by omega, by omega⟩
      have hz_ : 0 < n := by omega
      rcases h0 : (decide ((n : Int) ≤ (n : Int))) with _ | _
      · rcases h1 : (okC (((X n) + bx))) with _ | _
        · exfalso; (have g := of_decide_eq_false h0; omega)
        · rcases h2 : (okC (((Y n) + by_))) with _ | _
          · exfalso; (have g := of_decide_eq_false h0; omega)
          · exfalso; (have g := of_decide_eq_false h0; omega)
      · refine .inr ⟨rmwo3, 1000, 50, _, [0, 1, 2, 3, 4], (rmwko3 a n c X Y ptr lo hi bx by_ bz w (n) hib hn hn0 h64 hX hS hP h_lo h_hi h_bx h_by_ h_bz hC h0).ok, (by show stepT _ _ (evBody _ _ _ _ _ _ (rmwtt (n)) (rmwHH (n))) _ _ _ _ = true; rw [(rmwtp hz_).1, (rmwtp hz_).2]; exact rmwfo3_done), by decide, ?_⟩
        intro q hq
        simp only [List.mem_cons, List.not_mem_nil, or_false] at hq
        rcases hq with rfl | rfl | rfl | rfl | rfl | rfl | rfl | rfl | rfl | rfl
        · show (_ : Value) = _; kernel_rfl
        · show (_ : Int) = _; kernel_rfl
        · show (_ : Int) = _; kernel_rfl
        · show (_ : Int) = _; kernel_rfl
        · show (_ : Int) = _; kernel_rfl
        · show (_ : Int) = _; kernel_rfl
        · show (_ : Int) = _; kernel_rfl
        · show (_ : Int) = _; kernel_rfl
        · show (_ : Int) = _; kernel_rfl
        · show ((ptL (fun k => X k + bx) (fun k => Y k + by_) n) : List Value) = (ptL (fun k => X k + bx) (fun k => Y k + by_) n); rfl
  · skip
    intro q hq
    simp only [List.mem_cons, List.not_mem_nil, or_false] at hq
    rcases hq with rfl | rfl | rfl | rfl | rfl | rfl | rfl | rfl
    · show (_ : Value) = _; kernel_rfl
    · show (_ : Int) = _; kernel_rfl
    · show (_ : Int) = _; kernel_rfl
    · show (_ : Int) = _; kernel_rfl
    · show (_ : Int) = _; kernel_rfl
    · show (_ : Int) = _; kernel_rfl
    · show (_ : Int) = _; kernel_rfl
    · show (_ : Int) = _; kernel_rfl
end Go.Proofs.Ytapcooolainmdaa.Ev
