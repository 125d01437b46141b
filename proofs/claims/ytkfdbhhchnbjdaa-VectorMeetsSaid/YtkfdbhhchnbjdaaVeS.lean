/- The check of points; the order of two vectors. -/
import Derived.Test.YtkfdbhhchnbjdaaVeK
import Derived.Test.YtkfdbhhchnbjdaaVeG2
namespace Go.Proofs.Ytkfdbhhchnbjdaa.Ve
open Go.RowKit Ba
set_option linter.unusedVariables false

/-- the cells of a list of points -/
def flat2 : List (Int × Int) → List Value
  | [] => []
  | p :: r => .int .i64 p.1 :: .int .i64 p.2 :: flat2 r
theorem flat2_length (l : List (Int × Int)) : (flat2 l).length = 2 * l.length := by
  induction l with
  | nil => rfl
  | cons p r ih => simp [flat2, ih]; omega
theorem flat2_at (l : List (Int × Int)) (k : Nat) (h : k < l.length) : (flat2 l)[2 * k]? = some (.int .i64 l[k].1) ∧ (flat2 l)[2 * k + 1]? = some (.int .i64 l[k].2) := by
  induction l generalizing k with
  | nil => simp at h
  | cons p r ih =>
    cases k with
    | zero => exact ⟨rfl, rfl⟩
    | succ k =>
      have h' : k < r.length := by simpa using h
      have e : 2 * (k + 1) = 2 * k + 2 := by omega
      have e1 : 2 * (k + 1) + 1 = 2 * k + 1 + 2 := by omega
      rw [e1, e]
      simpa [flat2] using ih k h'
theorem Lies_p2 {w : World} {A : Option Addr} {l : List (Int × Int)} (h : Lies w A (flat2 l)) (hl : 0 < l.length) :
    ∃ b o, A = some ⟨b, o, none⟩ ∧ b < w.heap.size ∧ ∀ k (hk : k < l.length), w.cell? ⟨b, o + k * 2, none⟩ = some (.int .i64 l[k].1) ∧ w.cell? ⟨b, o + k * 2 + 1, none⟩ = some (.int .i64 l[k].2) := by
  obtain ⟨b, o, e, hlt, hc⟩ := h (by rw [flat2_length]; omega)
  refine ⟨b, o, e, hlt, fun k hk => ?_⟩
  obtain ⟨h0, h1⟩ := flat2_at l k hk
  have e0 : k * 2 = 2 * k := by omega
  rw [e0]
  exact ⟨hc _ _ h0, hc _ _ h1⟩
def in2p (p : Int × Int) : Bool := in2 p.1 p.2
def chkP (l : List (Int × Int)) : Int := if l.all in2p then 0 else 6
theorem chkP_ok {l : List (Int × Int)} (h : ∀ p ∈ l, in2 p.1 p.2 = true) : chkP l = 0 := by
  rw [chkP, show l.all in2p = true from List.all_eq_true.2 (fun p hp => h p hp)]; rfl
theorem chkP_no {l : List (Int × Int)} (h : ¬ ∀ p ∈ l, in2 p.1 p.2 = true) : chkP l = 6 := by
  rw [chkP]
  rcases e : l.all in2p with _ | _
  · rfl
  · exact absurd (fun p hp => List.all_eq_true.1 e p hp) h

set_option maxHeartbeats 400000 in
theorem checkPoints_any (A : Option Addr) (n c : Nat) (l : List (Int × Int)) (hl : l.length = n) (hn : n ≤ 1000) (w : World) (hL : Lies w A (flat2 l)) : Calls Try.prog 48 #[.slice A n c] w fun e w' => e = .returned (.int .i64 (chkP l)) ∧ Below w.heap.size w w' := by

  subst hl
  have HL := Lib.hid hL
  clear hL
  go_enter Try.func48, Try.ntmps48
  go_wp2
  go_loopw [8] (fun i wr => ∃ k : Nat, k ≤ l.length ∧ i = .int .i64 k ∧ Hid ((l.take k).all in2p = true) ∧ Below w.heap.size w wr) (fun i _ => l.length - (intOf i).toNat)
  case atStart => exact ⟨0, Nat.zero_le _, rfl, rfl, Below.refl _ _⟩
  case round =>
    obtain ⟨k, hk, rfl, hgood, hb⟩ := hrel
    by_cases hlt : k < l.length
    · obtain ⟨b, o, rfl, hbl, hc⟩ := Lies_p2 HL.out (by omega)
      have h1 := (hb.cell (p := ⟨b, o + k * 2, none⟩) hbl).trans (hc k hlt).1
      have h2 := (hb.cell (p := ⟨b, o + k * 2 + 1, none⟩) hbl).trans (hc k hlt).2
      clear hc
      have HP : Hid (in2p l[k] = in2 l[k].1 l[k].2) := Lib.hid rfl
      generalize hp1 : l[k].1 = x at *
      generalize hp2 : l[k].2 = y at *
      clear hp1 hp2
      rcases hin : in2 x y with _ | _
      · have HF : Hid (chkP l = 6) := Lib.hid (by rw [chkP, all_fail in2p l k hlt (HP.out.trans hin)]; rfl)
        have c := Lib.hid fun W => check_any x y 0 W
        rw [chk1_no ((in3_flat x y).trans hin)] at c
        clear HP hin
        go_wp2_with fail
        refine (flat_any _ _ _).mono ?_
        rintro e w1 ⟨rfl, hb1⟩
        go_wp2_with fail
        refine (c.out _).mono ?_
        rintro e w2 ⟨rfl, hb2⟩
        go_wp2
        go_returns
        exact ⟨ret_int HF.out.symm, below_trans (below_trans (below_alloc hb _) hb1) hb2⟩
      · have HS : Hid ((l.take (k + 1)).all in2p = true) := Lib.hid (all_step in2p l k hlt hgood.out (HP.out.trans hin))
        have c := Lib.hid fun W => check_any x y 0 W
        rw [chk1_ok ((in3_flat x y).trans hin)] at c
        clear HP hin
        go_wp2_with fail
        refine (flat_any _ _ _).mono ?_
        rintro e w1 ⟨rfl, hb1⟩
        go_wp2_with fail
        refine (c.out _).mono ?_
        rintro e w2 ⟨rfl, hb2⟩
        have hbw := Lib.hid (below_trans (below_trans (below_alloc hb _) hb1) hb2)
        clear hb hb1 hb2 h1 h2
        go_wp2
        go_roundw
        case rel => exact ⟨k + 1, by omega, by go_num, HS, hbw.out⟩
        case measure => simp [intOf]; omega
    · have HF : Hid (chkP l = 0) := Lib.hid (by rw [chkP, all_full in2p l k (by omega) hgood.out]; rfl)
      go_wp2
      go_returns
      exact ⟨ret_int HF.out.symm, hb⟩

set_option maxHeartbeats 400000 in
theorem ordered_yes (ax ay az bx bY bz : Int) (h : 0 < cmp3 ax ay az bx bY bz) (w : World) : Calls Try.prog 58 #[.agg #[.int .i64 ax, .int .i64 ay, .int .i64 az], .agg #[.int .i64 bx, .int .i64 bY, .int .i64 bz]] w fun e w' => e = .returned (.tuple #[.agg #[.int .i64 bx, .int .i64 bY, .int .i64 bz], .agg #[.int .i64 ax, .int .i64 ay, .int .i64 az]]) ∧ Below w.heap.size w w' := by
  have c := Lib.hid fun W => compare_any ax ay az bx bY bz W
  generalize cmp3 ax ay az bx bY bz = R at *
  go_enter Try.func58, Try.ntmps58
  go_wp2_with fail
  refine (c.out _).mono ?_
  rintro e w1 ⟨rfl, hb1⟩
  have HH1 := Lib.hid (((((((Blks.nil (w := w))).new (w.heap.size) 23 [.int .i64 ax, .int .i64 ay, .int .i64 az] rfl).new (w.heap.size + 1) 23 [.int .i64 bx, .int .i64 bY, .int .i64 bz] (by simp)).new (w.heap.size + 1 + 1) 23 [.int .i64 0, .int .i64 0, .int .i64 0] (by simp)).new (w.heap.size + 1 + 1 + 1) 23 [.int .i64 0, .int .i64 0, .int .i64 0] (by simp)).below hb1)
  have HB1 := Lib.hid (below_trans (below_alloc (below_alloc (below_alloc (below_alloc (Below.refl _ _) _) _) _) _) hb1)
  clear hb1
  have B1_0 : Blk w1 (w.heap.size) 23 #[.int .i64 ax, .int .i64 ay, .int .i64 az] := HH1.out (w.heap.size, 23, [.int .i64 ax, .int .i64 ay, .int .i64 az]) (by simp)
  have k1_0_0 : w1.cell? ⟨w.heap.size, 0, none⟩ = some (.int .i64 ax) := B1_0.cell 0
  have f1_0_0 : w1.frozen? ⟨w.heap.size, 0, none⟩ = false := B1_0.frozen 0
  have k1_0_1 : w1.cell? ⟨w.heap.size, 1, none⟩ = some (.int .i64 ay) := B1_0.cell 1
  have f1_0_1 : w1.frozen? ⟨w.heap.size, 1, none⟩ = false := B1_0.frozen 1
  have k1_0_2 : w1.cell? ⟨w.heap.size, 2, none⟩ = some (.int .i64 az) := B1_0.cell 2
  have f1_0_2 : w1.frozen? ⟨w.heap.size, 2, none⟩ = false := B1_0.frozen 2
  have z1_0 : w.heap.size < w1.heap.size := B1_0.lt
  clear B1_0
  have B1_1 : Blk w1 (w.heap.size + 1) 23 #[.int .i64 bx, .int .i64 bY, .int .i64 bz] := HH1.out (w.heap.size + 1, 23, [.int .i64 bx, .int .i64 bY, .int .i64 bz]) (by simp)
  have k1_1_0 : w1.cell? ⟨w.heap.size + 1, 0, none⟩ = some (.int .i64 bx) := B1_1.cell 0
  have f1_1_0 : w1.frozen? ⟨w.heap.size + 1, 0, none⟩ = false := B1_1.frozen 0
  have k1_1_1 : w1.cell? ⟨w.heap.size + 1, 1, none⟩ = some (.int .i64 bY) := B1_1.cell 1
  have f1_1_1 : w1.frozen? ⟨w.heap.size + 1, 1, none⟩ = false := B1_1.frozen 1
  have k1_1_2 : w1.cell? ⟨w.heap.size + 1, 2, none⟩ = some (.int .i64 bz) := B1_1.cell 2
  have f1_1_2 : w1.frozen? ⟨w.heap.size + 1, 2, none⟩ = false := B1_1.frozen 2
  have z1_1 : w.heap.size + 1 < w1.heap.size := B1_1.lt
  clear B1_1
  have B1_2 : Blk w1 (w.heap.size + 1 + 1) 23 #[.int .i64 0, .int .i64 0, .int .i64 0] := HH1.out (w.heap.size + 1 + 1, 23, [.int .i64 0, .int .i64 0, .int .i64 0]) (by simp)
  have k1_2_0 : w1.cell? ⟨w.heap.size + 1 + 1, 0, none⟩ = some (.int .i64 0) := B1_2.cell 0
  have f1_2_0 : w1.frozen? ⟨w.heap.size + 1 + 1, 0, none⟩ = false := B1_2.frozen 0
  have k1_2_1 : w1.cell? ⟨w.heap.size + 1 + 1, 1, none⟩ = some (.int .i64 0) := B1_2.cell 1
  have f1_2_1 : w1.frozen? ⟨w.heap.size + 1 + 1, 1, none⟩ = false := B1_2.frozen 1
  have k1_2_2 : w1.cell? ⟨w.heap.size + 1 + 1, 2, none⟩ = some (.int .i64 0) := B1_2.cell 2
  have f1_2_2 : w1.frozen? ⟨w.heap.size + 1 + 1, 2, none⟩ = false := B1_2.frozen 2
  have z1_2 : w.heap.size + 1 + 1 < w1.heap.size := B1_2.lt
  clear B1_2
  have B1_3 : Blk w1 (w.heap.size + 1 + 1 + 1) 23 #[.int .i64 0, .int .i64 0, .int .i64 0] := HH1.out (w.heap.size + 1 + 1 + 1, 23, [.int .i64 0, .int .i64 0, .int .i64 0]) (by simp)
  have k1_3_0 : w1.cell? ⟨w.heap.size + 1 + 1 + 1, 0, none⟩ = some (.int .i64 0) := B1_3.cell 0
  have f1_3_0 : w1.frozen? ⟨w.heap.size + 1 + 1 + 1, 0, none⟩ = false := B1_3.frozen 0
  have k1_3_1 : w1.cell? ⟨w.heap.size + 1 + 1 + 1, 1, none⟩ = some (.int .i64 0) := B1_3.cell 1
  have f1_3_1 : w1.frozen? ⟨w.heap.size + 1 + 1 + 1, 1, none⟩ = false := B1_3.frozen 1
  have k1_3_2 : w1.cell? ⟨w.heap.size + 1 + 1 + 1, 2, none⟩ = some (.int .i64 0) := B1_3.cell 2
  have f1_3_2 : w1.frozen? ⟨w.heap.size + 1 + 1 + 1, 2, none⟩ = false := B1_3.frozen 2
  have z1_3 : w.heap.size + 1 + 1 + 1 < w1.heap.size := B1_3.lt
  clear B1_3
  go_wp2
  go_region
  all_goals
    go_wp2
    refine bodyPost_ret (v := .tuple #[.agg #[.int .i64 bx, .int .i64 bY, .int .i64 bz], .agg #[.int .i64 ax, .int .i64 ay, .int .i64 az]]) ?_ rfl ⟨rfl, ?_⟩
    · simp [results, Try.results58, go_sem, *]
    · repeat (first | with_reducible exact HB1.out | with_reducible refine Below.drew ?_ | with_reducible refine below_drewN ?_ _ | with_reducible refine below_set ?_ (by have := HB1.out.size; simp <;> omega) _ | with_reducible refine below_alloc ?_ _)
set_option maxHeartbeats 400000 in
theorem ordered_no (ax ay az bx bY bz : Int) (h : ¬ 0 < cmp3 ax ay az bx bY bz) (w : World) : Calls Try.prog 58 #[.agg #[.int .i64 ax, .int .i64 ay, .int .i64 az], .agg #[.int .i64 bx, .int .i64 bY, .int .i64 bz]] w fun e w' => e = .returned (.tuple #[.agg #[.int .i64 ax, .int .i64 ay, .int .i64 az], .agg #[.int .i64 bx, .int .i64 bY, .int .i64 bz]]) ∧ Below w.heap.size w w' := by
  have c := Lib.hid fun W => compare_any ax ay az bx bY bz W
  generalize cmp3 ax ay az bx bY bz = R at *
  go_enter Try.func58, Try.ntmps58
  go_wp2_with fail
  refine (c.out _).mono ?_
  rintro e w1 ⟨rfl, hb1⟩
  have HH1 := Lib.hid (((((((Blks.nil (w := w))).new (w.heap.size) 23 [.int .i64 ax, .int .i64 ay, .int .i64 az] rfl).new (w.heap.size + 1) 23 [.int .i64 bx, .int .i64 bY, .int .i64 bz] (by simp)).new (w.heap.size + 1 + 1) 23 [.int .i64 0, .int .i64 0, .int .i64 0] (by simp)).new (w.heap.size + 1 + 1 + 1) 23 [.int .i64 0, .int .i64 0, .int .i64 0] (by simp)).below hb1)
  have HB1 := Lib.hid (below_trans (below_alloc (below_alloc (below_alloc (below_alloc (Below.refl _ _) _) _) _) _) hb1)
  clear hb1
  have B1_0 : Blk w1 (w.heap.size) 23 #[.int .i64 ax, .int .i64 ay, .int .i64 az] := HH1.out (w.heap.size, 23, [.int .i64 ax, .int .i64 ay, .int .i64 az]) (by simp)
  have k1_0_0 : w1.cell? ⟨w.heap.size, 0, none⟩ = some (.int .i64 ax) := B1_0.cell 0
  have f1_0_0 : w1.frozen? ⟨w.heap.size, 0, none⟩ = false := B1_0.frozen 0
  have k1_0_1 : w1.cell? ⟨w.heap.size, 1, none⟩ = some (.int .i64 ay) := B1_0.cell 1
  have f1_0_1 : w1.frozen? ⟨w.heap.size, 1, none⟩ = false := B1_0.frozen 1
  have k1_0_2 : w1.cell? ⟨w.heap.size, 2, none⟩ = some (.int .i64 az) := B1_0.cell 2
  have f1_0_2 : w1.frozen? ⟨w.heap.size, 2, none⟩ = false := B1_0.frozen 2
  have z1_0 : w.heap.size < w1.heap.size := B1_0.lt
  clear B1_0
  have B1_1 : Blk w1 (w.heap.size + 1) 23 #[.int .i64 bx, .int .i64 bY, .int .i64 bz] := HH1.out (w.heap.size + 1, 23, [.int .i64 bx, .int .i64 bY, .int .i64 bz]) (by simp)
  have k1_1_0 : w1.cell? ⟨w.heap.size + 1, 0, none⟩ = some (.int .i64 bx) := B1_1.cell 0
  have f1_1_0 : w1.frozen? ⟨w.heap.size + 1, 0, none⟩ = false := B1_1.frozen 0
  have k1_1_1 : w1.cell? ⟨w.heap.size + 1, 1, none⟩ = some (.int .i64 bY) := B1_1.cell 1
  have f1_1_1 : w1.frozen? ⟨w.heap.size + 1, 1, none⟩ = false := B1_1.frozen 1
  have k1_1_2 : w1.cell? ⟨w.heap.size + 1, 2, none⟩ = some (.int .i64 bz) := B1_1.cell 2
  have f1_1_2 : w1.frozen? ⟨w.heap.size + 1, 2, none⟩ = false := B1_1.frozen 2
  have z1_1 : w.heap.size + 1 < w1.heap.size := B1_1.lt
  clear B1_1
  have B1_2 : Blk w1 (w.heap.size + 1 + 1) 23 #[.int .i64 0, .int .i64 0, .int .i64 0] := HH1.out (w.heap.size + 1 + 1, 23, [.int .i64 0, .int .i64 0, .int .i64 0]) (by simp)
  have k1_2_0 : w1.cell? ⟨w.heap.size + 1 + 1, 0, none⟩ = some (.int .i64 0) := B1_2.cell 0
  have f1_2_0 : w1.frozen? ⟨w.heap.size + 1 + 1, 0, none⟩ = false := B1_2.frozen 0
  have k1_2_1 : w1.cell? ⟨w.heap.size + 1 + 1, 1, none⟩ = some (.int .i64 0) := B1_2.cell 1
  have f1_2_1 : w1.frozen? ⟨w.heap.size + 1 + 1, 1, none⟩ = false := B1_2.frozen 1
  have k1_2_2 : w1.cell? ⟨w.heap.size + 1 + 1, 2, none⟩ = some (.int .i64 0) := B1_2.cell 2
  have f1_2_2 : w1.frozen? ⟨w.heap.size + 1 + 1, 2, none⟩ = false := B1_2.frozen 2
  have z1_2 : w.heap.size + 1 + 1 < w1.heap.size := B1_2.lt
  clear B1_2
  have B1_3 : Blk w1 (w.heap.size + 1 + 1 + 1) 23 #[.int .i64 0, .int .i64 0, .int .i64 0] := HH1.out (w.heap.size + 1 + 1 + 1, 23, [.int .i64 0, .int .i64 0, .int .i64 0]) (by simp)
  have k1_3_0 : w1.cell? ⟨w.heap.size + 1 + 1 + 1, 0, none⟩ = some (.int .i64 0) := B1_3.cell 0
  have f1_3_0 : w1.frozen? ⟨w.heap.size + 1 + 1 + 1, 0, none⟩ = false := B1_3.frozen 0
  have k1_3_1 : w1.cell? ⟨w.heap.size + 1 + 1 + 1, 1, none⟩ = some (.int .i64 0) := B1_3.cell 1
  have f1_3_1 : w1.frozen? ⟨w.heap.size + 1 + 1 + 1, 1, none⟩ = false := B1_3.frozen 1
  have k1_3_2 : w1.cell? ⟨w.heap.size + 1 + 1 + 1, 2, none⟩ = some (.int .i64 0) := B1_3.cell 2
  have f1_3_2 : w1.frozen? ⟨w.heap.size + 1 + 1 + 1, 2, none⟩ = false := B1_3.frozen 2
  have z1_3 : w.heap.size + 1 + 1 + 1 < w1.heap.size := B1_3.lt
  clear B1_3
  go_wp2
  go_region
  all_goals
    go_wp2
    refine bodyPost_ret (v := .tuple #[.agg #[.int .i64 ax, .int .i64 ay, .int .i64 az], .agg #[.int .i64 bx, .int .i64 bY, .int .i64 bz]]) ?_ rfl ⟨rfl, ?_⟩
    · simp [results, Try.results58, go_sem, *]
    · repeat (first | with_reducible exact HB1.out | with_reducible refine Below.drew ?_ | with_reducible refine below_drewN ?_ _ | with_reducible refine below_set ?_ (by have := HB1.out.size; simp <;> omega) _ | with_reducible refine below_alloc ?_ _)
end Go.Proofs.Ytkfdbhhchnbjdaa.Ve
