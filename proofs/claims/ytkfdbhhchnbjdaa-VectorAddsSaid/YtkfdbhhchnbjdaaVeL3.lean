/- The walk of VectorAdds. -/
import Derived.Test.YtkfdbhhchnbjdaaVeL3a
namespace Go.Proofs.Ytkfdbhhchnbjdaa.Ve
open Go.RowKit Ba
set_option linter.unusedVariables false
attribute [local go_sem ↓] Go.wp_at_zero Go.wp_at_succ

set_option maxHeartbeats 6400000 in
theorem adds_n1 (ax ay az bx bY bz : Int) {hbv : Bool} (hb : in3 bx bY bz = hbv) (ha : in3 ax ay az = false) (w : World) : Calls Try.prog 3 #[.agg #[.int .i64 ax, .int .i64 ay, .int .i64 az], .agg #[.int .i64 bx, .int .i64 bY, .int .i64 bz]] w fun e w' => e = .returned (.bool true) ∧ Below w.heap.size w w' := by
  have c0 := Lib.hid fun W => awake_any W
  obtain ⟨p, q, r, e, ca, f1, f2, f3⟩ := add_ex ax ay az bx bY bz
  obtain ⟨p', q', r', e', cs, g1, g2, g3⟩ := sub_ex ax ay az bx bY bz
  have c1 := Lib.hid ca
  have c2 := Lib.hid cs
  have c3 := Lib.hid fun W => check_any ax ay az W
  have c4 := Lib.hid fun W => rIn_any ax ay az W
  have c8 := Lib.hid fun W => rIn_any bx bY bz W
  have c5 := Lib.hid fun W => compare_any ax ay az bx bY bz W
  have c6 := Lib.hid fun W => rcompare_any ax ay az bx bY bz W
  have gd := fun x y xs ys W => vec_guard .eql x y xs ys W
  obtain ⟨rfl, rfl, rfl, rfl⟩ := f1 (fun hh => by simp [ha] at hh)
  obtain ⟨rfl, rfl, rfl, rfl⟩ := g1 (fun hh => by simp [ha] at hh)
  have e1 := fun W => vec_same_eql 0 0 0 W
  rw [chk1_no ha] at c3
  rw [ha] at c4
  rw [hb] at c8
  clear ca cs f1 f2 f3 g1 g2 g3 ha hb
  generalize cmp3 ax ay az bx bY bz = R at *
  have tR : (R != R) = false := by simp
  go_enter Try.func3, Try.ntmps3
  go_wp2_with fail
  refine (c0.out _).mono ?_
  rintro e w1 ⟨rfl, hb1⟩
  have HH1 := Lib.hid (((((Blks.nil (w := w))).new (w.heap.size) 23 [.int .i64 ax, .int .i64 ay, .int .i64 az] rfl).new (w.heap.size + 1) 23 [.int .i64 bx, .int .i64 bY, .int .i64 bz] (by simp)).below hb1)
  have HB1 := Lib.hid (below_trans (below_alloc (below_alloc (Below.refl _ _) _) _) hb1)
  clear hb1
  have B1_0 : Blk w1 (w.heap.size) 23 #[.int .i64 ax, .int .i64 ay, .int .i64 az] := HH1.out (w.heap.size, 23, [.int .i64 ax, .int .i64 ay, .int .i64 az]) (by simp)
  have k1_0_0 : w1.cell? ⟨w.heap.size, 0, none⟩ = some (.int .i64 ax) := B1_0.cell 0
  have k1_0_1 : w1.cell? ⟨w.heap.size, 1, none⟩ = some (.int .i64 ay) := B1_0.cell 1
  have k1_0_2 : w1.cell? ⟨w.heap.size, 2, none⟩ = some (.int .i64 az) := B1_0.cell 2
  have z1_0 : w.heap.size < w1.heap.size := B1_0.lt
  clear B1_0
  have B1_1 : Blk w1 (w.heap.size + 1) 23 #[.int .i64 bx, .int .i64 bY, .int .i64 bz] := HH1.out (w.heap.size + 1, 23, [.int .i64 bx, .int .i64 bY, .int .i64 bz]) (by simp)
  have k1_1_0 : w1.cell? ⟨w.heap.size + 1, 0, none⟩ = some (.int .i64 bx) := B1_1.cell 0
  have k1_1_1 : w1.cell? ⟨w.heap.size + 1, 1, none⟩ = some (.int .i64 bY) := B1_1.cell 1
  have k1_1_2 : w1.cell? ⟨w.heap.size + 1, 2, none⟩ = some (.int .i64 bz) := B1_1.cell 2
  have z1_1 : w.heap.size + 1 < w1.heap.size := B1_1.lt
  clear B1_1
  go_wp2_with fail
  refine (c1.out _).mono ?_
  rintro e w2 ⟨rfl, hb2⟩
  have HH2 := Lib.hid ((HH1.out).below hb2)
  have HB2 := Lib.hid (below_trans (HB1.out) hb2)
  clear k1_0_0 k1_0_1 k1_0_2 z1_0 k1_1_0 k1_1_1 k1_1_2 z1_1
  clear hb2
  clear HH1 HB1
  have B2_0 : Blk w2 (w.heap.size) 23 #[.int .i64 ax, .int .i64 ay, .int .i64 az] := HH2.out (w.heap.size, 23, [.int .i64 ax, .int .i64 ay, .int .i64 az]) (by simp)
  have k2_0_0 : w2.cell? ⟨w.heap.size, 0, none⟩ = some (.int .i64 ax) := B2_0.cell 0
  have k2_0_1 : w2.cell? ⟨w.heap.size, 1, none⟩ = some (.int .i64 ay) := B2_0.cell 1
  have k2_0_2 : w2.cell? ⟨w.heap.size, 2, none⟩ = some (.int .i64 az) := B2_0.cell 2
  have z2_0 : w.heap.size < w2.heap.size := B2_0.lt
  clear B2_0
  have B2_1 : Blk w2 (w.heap.size + 1) 23 #[.int .i64 bx, .int .i64 bY, .int .i64 bz] := HH2.out (w.heap.size + 1, 23, [.int .i64 bx, .int .i64 bY, .int .i64 bz]) (by simp)
  have k2_1_0 : w2.cell? ⟨w.heap.size + 1, 0, none⟩ = some (.int .i64 bx) := B2_1.cell 0
  have k2_1_1 : w2.cell? ⟨w.heap.size + 1, 1, none⟩ = some (.int .i64 bY) := B2_1.cell 1
  have k2_1_2 : w2.cell? ⟨w.heap.size + 1, 2, none⟩ = some (.int .i64 bz) := B2_1.cell 2
  have z2_1 : w.heap.size + 1 < w2.heap.size := B2_1.lt
  clear B2_1
  go_wp2_with fail
  refine (c2.out _).mono ?_
  rintro e w3 ⟨rfl, hb3⟩
  have HH3 := Lib.hid (((HH2.out).new (w2.heap.size) 23 [.int .i64 0, .int .i64 0, .int .i64 0] rfl).below hb3)
  have HB3 := Lib.hid (below_trans (below_alloc (HB2.out) _) hb3)
  clear k2_0_0 k2_0_1 k2_0_2 z2_0 k2_1_0 k2_1_1 k2_1_2 z2_1
  clear hb3
  clear HH2 HB2
  have B3_0 : Blk w3 (w.heap.size) 23 #[.int .i64 ax, .int .i64 ay, .int .i64 az] := HH3.out (w.heap.size, 23, [.int .i64 ax, .int .i64 ay, .int .i64 az]) (by simp)
  have k3_0_0 : w3.cell? ⟨w.heap.size, 0, none⟩ = some (.int .i64 ax) := B3_0.cell 0
  have k3_0_1 : w3.cell? ⟨w.heap.size, 1, none⟩ = some (.int .i64 ay) := B3_0.cell 1
  have k3_0_2 : w3.cell? ⟨w.heap.size, 2, none⟩ = some (.int .i64 az) := B3_0.cell 2
  have z3_0 : w.heap.size < w3.heap.size := B3_0.lt
  clear B3_0
  have B3_1 : Blk w3 (w.heap.size + 1) 23 #[.int .i64 bx, .int .i64 bY, .int .i64 bz] := HH3.out (w.heap.size + 1, 23, [.int .i64 bx, .int .i64 bY, .int .i64 bz]) (by simp)
  have k3_1_0 : w3.cell? ⟨w.heap.size + 1, 0, none⟩ = some (.int .i64 bx) := B3_1.cell 0
  have k3_1_1 : w3.cell? ⟨w.heap.size + 1, 1, none⟩ = some (.int .i64 bY) := B3_1.cell 1
  have k3_1_2 : w3.cell? ⟨w.heap.size + 1, 2, none⟩ = some (.int .i64 bz) := B3_1.cell 2
  have z3_1 : w.heap.size + 1 < w3.heap.size := B3_1.lt
  clear B3_1
  have B3_2 : Blk w3 (w2.heap.size) 23 #[.int .i64 0, .int .i64 0, .int .i64 0] := HH3.out (w2.heap.size, 23, [.int .i64 0, .int .i64 0, .int .i64 0]) (by simp)
  have k3_2_0 : w3.cell? ⟨w2.heap.size, 0, none⟩ = some (.int .i64 0) := B3_2.cell 0
  have k3_2_1 : w3.cell? ⟨w2.heap.size, 1, none⟩ = some (.int .i64 0) := B3_2.cell 1
  have k3_2_2 : w3.cell? ⟨w2.heap.size, 2, none⟩ = some (.int .i64 0) := B3_2.cell 2
  have z3_2 : w2.heap.size < w3.heap.size := B3_2.lt
  clear B3_2
  go_upto_region 5 with fail
  have HHq : Blks ((w3).alloc (.cells #[.int .i64 0, .int .i64 0, .int .i64 0] 23)) [(w3.heap.size, 23, [.int .i64 0, .int .i64 0, .int .i64 0]), (w2.heap.size, 23, [.int .i64 0, .int .i64 0, .int .i64 0]), (w.heap.size + 1, 23, [.int .i64 bx, .int .i64 bY, .int .i64 bz]), (w.heap.size, 23, [.int .i64 ax, .int .i64 ay, .int .i64 az])] := (HH3.out).new (w3.heap.size) 23 [.int .i64 0, .int .i64 0, .int .i64 0] rfl
  have HBq : Below w.heap.size w ((w3).alloc (.cells #[.int .i64 0, .int .i64 0, .int .i64 0] 23)) := below_alloc (HB3.out) _
  clear k3_0_0 k3_0_1 k3_0_2 z3_0 k3_1_0 k3_1_1 k3_1_2 z3_1 k3_2_0 k3_2_1 k3_2_2 z3_2
  clear HH3 HB3
  obtain ⟨w4, hw4⟩ : ∃ w4 : World, w4 = (w3).alloc (.cells #[.int .i64 0, .int .i64 0, .int .i64 0] 23) := ⟨_, rfl⟩
  rw [← hw4] at HHq HBq ⊢
  have HH4 := Lib.hid HHq
  have HB4 := Lib.hid HBq
  clear hw4 HHq HBq
  have B4_0 : Blk w4 (w.heap.size) 23 #[.int .i64 ax, .int .i64 ay, .int .i64 az] := HH4.out (w.heap.size, 23, [.int .i64 ax, .int .i64 ay, .int .i64 az]) (by simp)
  have k4_0_0 : w4.cell? ⟨w.heap.size, 0, none⟩ = some (.int .i64 ax) := B4_0.cell 0
  have k4_0_1 : w4.cell? ⟨w.heap.size, 1, none⟩ = some (.int .i64 ay) := B4_0.cell 1
  have k4_0_2 : w4.cell? ⟨w.heap.size, 2, none⟩ = some (.int .i64 az) := B4_0.cell 2
  have z4_0 : w.heap.size < w4.heap.size := B4_0.lt
  clear B4_0
  have B4_1 : Blk w4 (w.heap.size + 1) 23 #[.int .i64 bx, .int .i64 bY, .int .i64 bz] := HH4.out (w.heap.size + 1, 23, [.int .i64 bx, .int .i64 bY, .int .i64 bz]) (by simp)
  have k4_1_0 : w4.cell? ⟨w.heap.size + 1, 0, none⟩ = some (.int .i64 bx) := B4_1.cell 0
  have k4_1_1 : w4.cell? ⟨w.heap.size + 1, 1, none⟩ = some (.int .i64 bY) := B4_1.cell 1
  have k4_1_2 : w4.cell? ⟨w.heap.size + 1, 2, none⟩ = some (.int .i64 bz) := B4_1.cell 2
  have z4_1 : w.heap.size + 1 < w4.heap.size := B4_1.lt
  clear B4_1
  have B4_2 : Blk w4 (w2.heap.size) 23 #[.int .i64 0, .int .i64 0, .int .i64 0] := HH4.out (w2.heap.size, 23, [.int .i64 0, .int .i64 0, .int .i64 0]) (by simp)
  have k4_2_0 : w4.cell? ⟨w2.heap.size, 0, none⟩ = some (.int .i64 0) := B4_2.cell 0
  have k4_2_1 : w4.cell? ⟨w2.heap.size, 1, none⟩ = some (.int .i64 0) := B4_2.cell 1
  have k4_2_2 : w4.cell? ⟨w2.heap.size, 2, none⟩ = some (.int .i64 0) := B4_2.cell 2
  have z4_2 : w2.heap.size < w4.heap.size := B4_2.lt
  clear B4_2
  have B4_3 : Blk w4 (w3.heap.size) 23 #[.int .i64 0, .int .i64 0, .int .i64 0] := HH4.out (w3.heap.size, 23, [.int .i64 0, .int .i64 0, .int .i64 0]) (by simp)
  have k4_3_0 : w4.cell? ⟨w3.heap.size, 0, none⟩ = some (.int .i64 0) := B4_3.cell 0
  have k4_3_1 : w4.cell? ⟨w3.heap.size, 1, none⟩ = some (.int .i64 0) := B4_3.cell 1
  have k4_3_2 : w4.cell? ⟨w3.heap.size, 2, none⟩ = some (.int .i64 0) := B4_3.cell 2
  have z4_3 : w3.heap.size < w4.heap.size := B4_3.lt
  clear B4_3
  have HHp := HH4.out
  have HBp := HB4.out
  first
    | go_region_held3 (fun w' => w'.cell? ⟨w.heap.size, 0, none⟩ = some (.int .i64 ax) ∧ w'.cell? ⟨w.heap.size, 1, none⟩ = some (.int .i64 ay) ∧ w'.cell? ⟨w.heap.size, 2, none⟩ = some (.int .i64 az) ∧ w'.cell? ⟨w.heap.size + 1, 0, none⟩ = some (.int .i64 bx) ∧ w'.cell? ⟨w.heap.size + 1, 1, none⟩ = some (.int .i64 bY) ∧ w'.cell? ⟨w.heap.size + 1, 2, none⟩ = some (.int .i64 bz) ∧ w.heap.size < w'.heap.size ∧ w.heap.size + 1 < w'.heap.size ∧ Blks w' [(w3.heap.size, 23, [.int .i64 0, .int .i64 0, .int .i64 0]), (w2.heap.size, 23, [.int .i64 0, .int .i64 0, .int .i64 0]), (w.heap.size + 1, 23, [.int .i64 bx, .int .i64 bY, .int .i64 bz]), (w.heap.size, 23, [.int .i64 ax, .int .i64 ay, .int .i64 az])] ∧ Below w.heap.size w w')
      ((go_split_ands; (repeat' apply And.intro) <;> (first | with_reducible assumption | (with_reducible refine Blks.drew ?_; with_reducible assumption) | (with_reducible refine Below.drew ?_; with_reducible assumption) | (simp only [World.cell?_drew, World.size_drew]; with_reducible assumption) | (with_reducible refine Blks.below ?_ hbm; with_reducible assumption) | (with_reducible refine below_trans ?_ hbm; with_reducible assumption) | (rw [hbm.cell (by first | assumption | (simp only [World.size_drew]; assumption))]; first | with_reducible assumption | (simp only [World.cell?_drew]; with_reducible assumption)) | (refine Nat.lt_of_lt_of_le ?_ hbm.size; first | with_reducible assumption | (simp only [World.size_drew]; with_reducible assumption)))))
      ((first
        | (go_at_call 15; with_reducible refine (c3.out _).mono ?_; rintro e w5 ⟨rfl, hbm⟩)
        | (go_at_call 16; with_reducible refine (c4.out _).mono ?_; rintro e w5 ⟨rfl, hbm⟩)
        | (go_at_call 17; with_reducible refine (c5.out _).mono ?_; rintro e w5 ⟨rfl, hbm⟩)
        | (go_at_call 18; with_reducible refine (c6.out _).mono ?_; rintro e w5 ⟨rfl, hbm⟩)))
    | fail
  go_split_ands
  have HH5 : Blks w5 [(w3.heap.size, 23, [.int .i64 0, .int .i64 0, .int .i64 0]), (w2.heap.size, 23, [.int .i64 0, .int .i64 0, .int .i64 0]), (w.heap.size + 1, 23, [.int .i64 bx, .int .i64 bY, .int .i64 bz]), (w.heap.size, 23, [.int .i64 ax, .int .i64 ay, .int .i64 az])] := by assumption
  have HB5 : Below w.heap.size w w5 := by assumption
  have HH5 := Lib.hid HH5
  have HB5 := Lib.hid HB5
  clear k4_0_0 k4_0_1 k4_0_2 z4_0 k4_1_0 k4_1_1 k4_1_2 z4_1 k4_2_0 k4_2_1 k4_2_2 z4_2 k4_3_0 k4_3_1 k4_3_2 z4_3
  clear HHp HBp HH4 HB4
  have B5_0 : Blk w5 (w.heap.size) 23 #[.int .i64 ax, .int .i64 ay, .int .i64 az] := HH5.out (w.heap.size, 23, [.int .i64 ax, .int .i64 ay, .int .i64 az]) (by simp)
  have k5_0_0 : w5.cell? ⟨w.heap.size, 0, none⟩ = some (.int .i64 ax) := B5_0.cell 0
  have k5_0_1 : w5.cell? ⟨w.heap.size, 1, none⟩ = some (.int .i64 ay) := B5_0.cell 1
  have k5_0_2 : w5.cell? ⟨w.heap.size, 2, none⟩ = some (.int .i64 az) := B5_0.cell 2
  have z5_0 : w.heap.size < w5.heap.size := B5_0.lt
  clear B5_0
  have B5_1 : Blk w5 (w.heap.size + 1) 23 #[.int .i64 bx, .int .i64 bY, .int .i64 bz] := HH5.out (w.heap.size + 1, 23, [.int .i64 bx, .int .i64 bY, .int .i64 bz]) (by simp)
  have k5_1_0 : w5.cell? ⟨w.heap.size + 1, 0, none⟩ = some (.int .i64 bx) := B5_1.cell 0
  have k5_1_1 : w5.cell? ⟨w.heap.size + 1, 1, none⟩ = some (.int .i64 bY) := B5_1.cell 1
  have k5_1_2 : w5.cell? ⟨w.heap.size + 1, 2, none⟩ = some (.int .i64 bz) := B5_1.cell 2
  have z5_1 : w.heap.size + 1 < w5.heap.size := B5_1.lt
  clear B5_1
  have B5_2 : Blk w5 (w2.heap.size) 23 #[.int .i64 0, .int .i64 0, .int .i64 0] := HH5.out (w2.heap.size, 23, [.int .i64 0, .int .i64 0, .int .i64 0]) (by simp)
  have k5_2_0 : w5.cell? ⟨w2.heap.size, 0, none⟩ = some (.int .i64 0) := B5_2.cell 0
  have k5_2_1 : w5.cell? ⟨w2.heap.size, 1, none⟩ = some (.int .i64 0) := B5_2.cell 1
  have k5_2_2 : w5.cell? ⟨w2.heap.size, 2, none⟩ = some (.int .i64 0) := B5_2.cell 2
  have z5_2 : w2.heap.size < w5.heap.size := B5_2.lt
  clear B5_2
  have B5_3 : Blk w5 (w3.heap.size) 23 #[.int .i64 0, .int .i64 0, .int .i64 0] := HH5.out (w3.heap.size, 23, [.int .i64 0, .int .i64 0, .int .i64 0]) (by simp)
  have k5_3_0 : w5.cell? ⟨w3.heap.size, 0, none⟩ = some (.int .i64 0) := B5_3.cell 0
  have k5_3_1 : w5.cell? ⟨w3.heap.size, 1, none⟩ = some (.int .i64 0) := B5_3.cell 1
  have k5_3_2 : w5.cell? ⟨w3.heap.size, 2, none⟩ = some (.int .i64 0) := B5_3.cell 2
  have z5_3 : w3.heap.size < w5.heap.size := B5_3.lt
  clear B5_3
  go_wp2_with fail
  refine (c4.out _).mono ?_
  rintro e w6 ⟨rfl, hb6⟩
  have HH6 := Lib.hid ((HH5.out).below hb6)
  have HB6 := Lib.hid (below_trans (HB5.out) hb6)
  clear k5_0_0 k5_0_1 k5_0_2 z5_0 k5_1_0 k5_1_1 k5_1_2 z5_1 k5_2_0 k5_2_1 k5_2_2 z5_2 k5_3_0 k5_3_1 k5_3_2 z5_3
  clear hb6
  clear HH5 HB5
  have B6_0 : Blk w6 (w.heap.size) 23 #[.int .i64 ax, .int .i64 ay, .int .i64 az] := HH6.out (w.heap.size, 23, [.int .i64 ax, .int .i64 ay, .int .i64 az]) (by simp)
  have k6_0_0 : w6.cell? ⟨w.heap.size, 0, none⟩ = some (.int .i64 ax) := B6_0.cell 0
  have k6_0_1 : w6.cell? ⟨w.heap.size, 1, none⟩ = some (.int .i64 ay) := B6_0.cell 1
  have k6_0_2 : w6.cell? ⟨w.heap.size, 2, none⟩ = some (.int .i64 az) := B6_0.cell 2
  have z6_0 : w.heap.size < w6.heap.size := B6_0.lt
  clear B6_0
  have B6_1 : Blk w6 (w.heap.size + 1) 23 #[.int .i64 bx, .int .i64 bY, .int .i64 bz] := HH6.out (w.heap.size + 1, 23, [.int .i64 bx, .int .i64 bY, .int .i64 bz]) (by simp)
  have k6_1_0 : w6.cell? ⟨w.heap.size + 1, 0, none⟩ = some (.int .i64 bx) := B6_1.cell 0
  have k6_1_1 : w6.cell? ⟨w.heap.size + 1, 1, none⟩ = some (.int .i64 bY) := B6_1.cell 1
  have k6_1_2 : w6.cell? ⟨w.heap.size + 1, 2, none⟩ = some (.int .i64 bz) := B6_1.cell 2
  have z6_1 : w.heap.size + 1 < w6.heap.size := B6_1.lt
  clear B6_1
  have B6_2 : Blk w6 (w2.heap.size) 23 #[.int .i64 0, .int .i64 0, .int .i64 0] := HH6.out (w2.heap.size, 23, [.int .i64 0, .int .i64 0, .int .i64 0]) (by simp)
  have k6_2_0 : w6.cell? ⟨w2.heap.size, 0, none⟩ = some (.int .i64 0) := B6_2.cell 0
  have k6_2_1 : w6.cell? ⟨w2.heap.size, 1, none⟩ = some (.int .i64 0) := B6_2.cell 1
  have k6_2_2 : w6.cell? ⟨w2.heap.size, 2, none⟩ = some (.int .i64 0) := B6_2.cell 2
  have z6_2 : w2.heap.size < w6.heap.size := B6_2.lt
  clear B6_2
  have B6_3 : Blk w6 (w3.heap.size) 23 #[.int .i64 0, .int .i64 0, .int .i64 0] := HH6.out (w3.heap.size, 23, [.int .i64 0, .int .i64 0, .int .i64 0]) (by simp)
  have k6_3_0 : w6.cell? ⟨w3.heap.size, 0, none⟩ = some (.int .i64 0) := B6_3.cell 0
  have k6_3_1 : w6.cell? ⟨w3.heap.size, 1, none⟩ = some (.int .i64 0) := B6_3.cell 1
  have k6_3_2 : w6.cell? ⟨w3.heap.size, 2, none⟩ = some (.int .i64 0) := B6_3.cell 2
  have z6_3 : w3.heap.size < w6.heap.size := B6_3.lt
  clear B6_3
  go_wp2
  go_returns
  exact ⟨rfl, by repeat (first | with_reducible exact HB6.out | with_reducible refine Below.drew ?_ | with_reducible refine below_drewN ?_ _ | with_reducible refine below_set ?_ (by have := HB6.out.size; simp <;> omega) _ | with_reducible refine below_alloc ?_ _)⟩
set_option maxHeartbeats 6400000 in
theorem adds_n2 (ax ay az bx bY bz : Int) (ha : in3 ax ay az = true) (hb : in3 bx bY bz = false) (w : World) : Calls Try.prog 3 #[.agg #[.int .i64 ax, .int .i64 ay, .int .i64 az], .agg #[.int .i64 bx, .int .i64 bY, .int .i64 bz]] w fun e w' => e = .returned (.bool true) ∧ Below w.heap.size w w' := by
  have c0 := Lib.hid fun W => awake_any W
  obtain ⟨p, q, r, e, ca, f1, f2, f3⟩ := add_ex ax ay az bx bY bz
  obtain ⟨p', q', r', e', cs, g1, g2, g3⟩ := sub_ex ax ay az bx bY bz
  have c1 := Lib.hid ca
  have c2 := Lib.hid cs
  have c3 := Lib.hid fun W => check_any ax ay az W
  have c4 := Lib.hid fun W => rIn_any ax ay az W
  have c8 := Lib.hid fun W => rIn_any bx bY bz W
  have c5 := Lib.hid fun W => compare_any ax ay az bx bY bz W
  have c6 := Lib.hid fun W => rcompare_any ax ay az bx bY bz W
  have gd := fun x y xs ys W => vec_guard .eql x y xs ys W
  obtain ⟨rfl, rfl, rfl, rfl⟩ := f1 (fun hh => by simp [hb] at hh)
  obtain ⟨rfl, rfl, rfl, rfl⟩ := g1 (fun hh => by simp [hb] at hh)
  have e1 := fun W => vec_same_eql 0 0 0 W
  rw [chk1_ok ha] at c3
  rw [ha] at c4
  rw [hb] at c8
  clear ca cs f1 f2 f3 g1 g2 g3 ha hb
  generalize cmp3 ax ay az bx bY bz = R at *
  have tR : (R != R) = false := by simp
  go_enter Try.func3, Try.ntmps3
  go_wp2_with fail
  refine (c0.out _).mono ?_
  rintro e w1 ⟨rfl, hb1⟩
  have HH1 := Lib.hid (((((Blks.nil (w := w))).new (w.heap.size) 23 [.int .i64 ax, .int .i64 ay, .int .i64 az] rfl).new (w.heap.size + 1) 23 [.int .i64 bx, .int .i64 bY, .int .i64 bz] (by simp)).below hb1)
  have HB1 := Lib.hid (below_trans (below_alloc (below_alloc (Below.refl _ _) _) _) hb1)
  clear hb1
  have B1_0 : Blk w1 (w.heap.size) 23 #[.int .i64 ax, .int .i64 ay, .int .i64 az] := HH1.out (w.heap.size, 23, [.int .i64 ax, .int .i64 ay, .int .i64 az]) (by simp)
  have k1_0_0 : w1.cell? ⟨w.heap.size, 0, none⟩ = some (.int .i64 ax) := B1_0.cell 0
  have k1_0_1 : w1.cell? ⟨w.heap.size, 1, none⟩ = some (.int .i64 ay) := B1_0.cell 1
  have k1_0_2 : w1.cell? ⟨w.heap.size, 2, none⟩ = some (.int .i64 az) := B1_0.cell 2
  have z1_0 : w.heap.size < w1.heap.size := B1_0.lt
  clear B1_0
  have B1_1 : Blk w1 (w.heap.size + 1) 23 #[.int .i64 bx, .int .i64 bY, .int .i64 bz] := HH1.out (w.heap.size + 1, 23, [.int .i64 bx, .int .i64 bY, .int .i64 bz]) (by simp)
  have k1_1_0 : w1.cell? ⟨w.heap.size + 1, 0, none⟩ = some (.int .i64 bx) := B1_1.cell 0
  have k1_1_1 : w1.cell? ⟨w.heap.size + 1, 1, none⟩ = some (.int .i64 bY) := B1_1.cell 1
  have k1_1_2 : w1.cell? ⟨w.heap.size + 1, 2, none⟩ = some (.int .i64 bz) := B1_1.cell 2
  have z1_1 : w.heap.size + 1 < w1.heap.size := B1_1.lt
  clear B1_1
  go_wp2_with fail
  refine (c1.out _).mono ?_
  rintro e w2 ⟨rfl, hb2⟩
  have HH2 := Lib.hid ((HH1.out).below hb2)
  have HB2 := Lib.hid (below_trans (HB1.out) hb2)
  clear k1_0_0 k1_0_1 k1_0_2 z1_0 k1_1_0 k1_1_1 k1_1_2 z1_1
  clear hb2
  clear HH1 HB1
  have B2_0 : Blk w2 (w.heap.size) 23 #[.int .i64 ax, .int .i64 ay, .int .i64 az] := HH2.out (w.heap.size, 23, [.int .i64 ax, .int .i64 ay, .int .i64 az]) (by simp)
  have k2_0_0 : w2.cell? ⟨w.heap.size, 0, none⟩ = some (.int .i64 ax) := B2_0.cell 0
  have k2_0_1 : w2.cell? ⟨w.heap.size, 1, none⟩ = some (.int .i64 ay) := B2_0.cell 1
  have k2_0_2 : w2.cell? ⟨w.heap.size, 2, none⟩ = some (.int .i64 az) := B2_0.cell 2
  have z2_0 : w.heap.size < w2.heap.size := B2_0.lt
  clear B2_0
  have B2_1 : Blk w2 (w.heap.size + 1) 23 #[.int .i64 bx, .int .i64 bY, .int .i64 bz] := HH2.out (w.heap.size + 1, 23, [.int .i64 bx, .int .i64 bY, .int .i64 bz]) (by simp)
  have k2_1_0 : w2.cell? ⟨w.heap.size + 1, 0, none⟩ = some (.int .i64 bx) := B2_1.cell 0
  have k2_1_1 : w2.cell? ⟨w.heap.size + 1, 1, none⟩ = some (.int .i64 bY) := B2_1.cell 1
  have k2_1_2 : w2.cell? ⟨w.heap.size + 1, 2, none⟩ = some (.int .i64 bz) := B2_1.cell 2
  have z2_1 : w.heap.size + 1 < w2.heap.size := B2_1.lt
  clear B2_1
  go_wp2_with fail
  refine (c2.out _).mono ?_
  rintro e w3 ⟨rfl, hb3⟩
  have HH3 := Lib.hid (((HH2.out).new (w2.heap.size) 23 [.int .i64 0, .int .i64 0, .int .i64 0] rfl).below hb3)
  have HB3 := Lib.hid (below_trans (below_alloc (HB2.out) _) hb3)
  clear k2_0_0 k2_0_1 k2_0_2 z2_0 k2_1_0 k2_1_1 k2_1_2 z2_1
  clear hb3
  clear HH2 HB2
  have B3_0 : Blk w3 (w.heap.size) 23 #[.int .i64 ax, .int .i64 ay, .int .i64 az] := HH3.out (w.heap.size, 23, [.int .i64 ax, .int .i64 ay, .int .i64 az]) (by simp)
  have k3_0_0 : w3.cell? ⟨w.heap.size, 0, none⟩ = some (.int .i64 ax) := B3_0.cell 0
  have k3_0_1 : w3.cell? ⟨w.heap.size, 1, none⟩ = some (.int .i64 ay) := B3_0.cell 1
  have k3_0_2 : w3.cell? ⟨w.heap.size, 2, none⟩ = some (.int .i64 az) := B3_0.cell 2
  have z3_0 : w.heap.size < w3.heap.size := B3_0.lt
  clear B3_0
  have B3_1 : Blk w3 (w.heap.size + 1) 23 #[.int .i64 bx, .int .i64 bY, .int .i64 bz] := HH3.out (w.heap.size + 1, 23, [.int .i64 bx, .int .i64 bY, .int .i64 bz]) (by simp)
  have k3_1_0 : w3.cell? ⟨w.heap.size + 1, 0, none⟩ = some (.int .i64 bx) := B3_1.cell 0
  have k3_1_1 : w3.cell? ⟨w.heap.size + 1, 1, none⟩ = some (.int .i64 bY) := B3_1.cell 1
  have k3_1_2 : w3.cell? ⟨w.heap.size + 1, 2, none⟩ = some (.int .i64 bz) := B3_1.cell 2
  have z3_1 : w.heap.size + 1 < w3.heap.size := B3_1.lt
  clear B3_1
  have B3_2 : Blk w3 (w2.heap.size) 23 #[.int .i64 0, .int .i64 0, .int .i64 0] := HH3.out (w2.heap.size, 23, [.int .i64 0, .int .i64 0, .int .i64 0]) (by simp)
  have k3_2_0 : w3.cell? ⟨w2.heap.size, 0, none⟩ = some (.int .i64 0) := B3_2.cell 0
  have k3_2_1 : w3.cell? ⟨w2.heap.size, 1, none⟩ = some (.int .i64 0) := B3_2.cell 1
  have k3_2_2 : w3.cell? ⟨w2.heap.size, 2, none⟩ = some (.int .i64 0) := B3_2.cell 2
  have z3_2 : w2.heap.size < w3.heap.size := B3_2.lt
  clear B3_2
  go_upto_region 5 with fail
  have HHq : Blks ((w3).alloc (.cells #[.int .i64 0, .int .i64 0, .int .i64 0] 23)) [(w3.heap.size, 23, [.int .i64 0, .int .i64 0, .int .i64 0]), (w2.heap.size, 23, [.int .i64 0, .int .i64 0, .int .i64 0]), (w.heap.size + 1, 23, [.int .i64 bx, .int .i64 bY, .int .i64 bz]), (w.heap.size, 23, [.int .i64 ax, .int .i64 ay, .int .i64 az])] := (HH3.out).new (w3.heap.size) 23 [.int .i64 0, .int .i64 0, .int .i64 0] rfl
  have HBq : Below w.heap.size w ((w3).alloc (.cells #[.int .i64 0, .int .i64 0, .int .i64 0] 23)) := below_alloc (HB3.out) _
  clear k3_0_0 k3_0_1 k3_0_2 z3_0 k3_1_0 k3_1_1 k3_1_2 z3_1 k3_2_0 k3_2_1 k3_2_2 z3_2
  clear HH3 HB3
  obtain ⟨w4, hw4⟩ : ∃ w4 : World, w4 = (w3).alloc (.cells #[.int .i64 0, .int .i64 0, .int .i64 0] 23) := ⟨_, rfl⟩
  rw [← hw4] at HHq HBq ⊢
  have HH4 := Lib.hid HHq
  have HB4 := Lib.hid HBq
  clear hw4 HHq HBq
  have B4_0 : Blk w4 (w.heap.size) 23 #[.int .i64 ax, .int .i64 ay, .int .i64 az] := HH4.out (w.heap.size, 23, [.int .i64 ax, .int .i64 ay, .int .i64 az]) (by simp)
  have k4_0_0 : w4.cell? ⟨w.heap.size, 0, none⟩ = some (.int .i64 ax) := B4_0.cell 0
  have k4_0_1 : w4.cell? ⟨w.heap.size, 1, none⟩ = some (.int .i64 ay) := B4_0.cell 1
  have k4_0_2 : w4.cell? ⟨w.heap.size, 2, none⟩ = some (.int .i64 az) := B4_0.cell 2
  have z4_0 : w.heap.size < w4.heap.size := B4_0.lt
  clear B4_0
  have B4_1 : Blk w4 (w.heap.size + 1) 23 #[.int .i64 bx, .int .i64 bY, .int .i64 bz] := HH4.out (w.heap.size + 1, 23, [.int .i64 bx, .int .i64 bY, .int .i64 bz]) (by simp)
  have k4_1_0 : w4.cell? ⟨w.heap.size + 1, 0, none⟩ = some (.int .i64 bx) := B4_1.cell 0
  have k4_1_1 : w4.cell? ⟨w.heap.size + 1, 1, none⟩ = some (.int .i64 bY) := B4_1.cell 1
  have k4_1_2 : w4.cell? ⟨w.heap.size + 1, 2, none⟩ = some (.int .i64 bz) := B4_1.cell 2
  have z4_1 : w.heap.size + 1 < w4.heap.size := B4_1.lt
  clear B4_1
  have B4_2 : Blk w4 (w2.heap.size) 23 #[.int .i64 0, .int .i64 0, .int .i64 0] := HH4.out (w2.heap.size, 23, [.int .i64 0, .int .i64 0, .int .i64 0]) (by simp)
  have k4_2_0 : w4.cell? ⟨w2.heap.size, 0, none⟩ = some (.int .i64 0) := B4_2.cell 0
  have k4_2_1 : w4.cell? ⟨w2.heap.size, 1, none⟩ = some (.int .i64 0) := B4_2.cell 1
  have k4_2_2 : w4.cell? ⟨w2.heap.size, 2, none⟩ = some (.int .i64 0) := B4_2.cell 2
  have z4_2 : w2.heap.size < w4.heap.size := B4_2.lt
  clear B4_2
  have B4_3 : Blk w4 (w3.heap.size) 23 #[.int .i64 0, .int .i64 0, .int .i64 0] := HH4.out (w3.heap.size, 23, [.int .i64 0, .int .i64 0, .int .i64 0]) (by simp)
  have k4_3_0 : w4.cell? ⟨w3.heap.size, 0, none⟩ = some (.int .i64 0) := B4_3.cell 0
  have k4_3_1 : w4.cell? ⟨w3.heap.size, 1, none⟩ = some (.int .i64 0) := B4_3.cell 1
  have k4_3_2 : w4.cell? ⟨w3.heap.size, 2, none⟩ = some (.int .i64 0) := B4_3.cell 2
  have z4_3 : w3.heap.size < w4.heap.size := B4_3.lt
  clear B4_3
  have HHp := HH4.out
  have HBp := HB4.out
  refine wp_region_held_drew (S := fun w' => w'.cell? ⟨w.heap.size, 0, none⟩ = some (.int .i64 ax) ∧ w'.cell? ⟨w.heap.size, 1, none⟩ = some (.int .i64 ay) ∧ w'.cell? ⟨w.heap.size, 2, none⟩ = some (.int .i64 az) ∧ w'.cell? ⟨w.heap.size + 1, 0, none⟩ = some (.int .i64 bx) ∧ w'.cell? ⟨w.heap.size + 1, 1, none⟩ = some (.int .i64 bY) ∧ w'.cell? ⟨w.heap.size + 1, 2, none⟩ = some (.int .i64 bz) ∧ w.heap.size < w'.heap.size ∧ w.heap.size + 1 < w'.heap.size ∧ Blks w' [(w3.heap.size, 23, [.int .i64 0, .int .i64 0, .int .i64 0]), (w2.heap.size, 23, [.int .i64 0, .int .i64 0, .int .i64 0]), (w.heap.size + 1, 23, [.int .i64 bx, .int .i64 bY, .int .i64 bz]), (w.heap.size, 23, [.int .i64 ax, .int .i64 ay, .int .i64 az])] ∧ Below w.heap.size w w') (by kernel_rfl) ?_ (fun hH0 => ?_)
  · (try dsimp only)
    (go_split_ands; (repeat' apply And.intro) <;> (first | with_reducible assumption | (with_reducible refine Blks.drew ?_; with_reducible assumption) | (with_reducible refine Below.drew ?_; with_reducible assumption) | (simp only [World.cell?_drew, World.size_drew]; with_reducible assumption) | (with_reducible refine Blks.below ?_ hbm; with_reducible assumption) | (with_reducible refine below_trans ?_ hbm; with_reducible assumption) | (rw [hbm.cell (by first | assumption | (simp only [World.size_drew]; assumption))]; first | with_reducible assumption | (simp only [World.cell?_drew]; with_reducible assumption)) | (refine Nat.lt_of_lt_of_le ?_ hbm.size; first | with_reducible assumption | (simp only [World.size_drew]; with_reducible assumption))))
  clear k4_0_0 k4_0_1 k4_0_2 z4_0 k4_1_0 k4_1_1 k4_1_2 z4_1 k4_2_0 k4_2_1 k4_2_2 z4_2 k4_3_0 k4_3_1 k4_3_2 z4_3
  clear HHp HBp
  refine wpAnyH_take (i := 0) (oi := { dst := some 23, op := Go.Op.load 23 (Go.Operand.tmp 2), type := 23, pos := "law.go:28", after := #[], guard := none }) (v := ?_) rfl (by kernel_rfl) (by kernel_rfl) (by kernel_rfl) (fun _ _ _ h => h) (Or.inl ⟨by rfl, ?_⟩) (by assumption) ?_
  rotate_left
  focus
    intro wz hSw
    (try dsimp only at hSw)
    go_simp
    (try with_reducible rfl)
  (try simp only [Act.put, List.setIfInBounds_toArray, List.set_cons_zero, List.set_cons_succ])
  refine wpAnyH_take (i := 3) (oi := { dst := some 26, op := Go.Op.load 23 (Go.Operand.tmp 2), type := 23, pos := "law.go:28", after := #[], guard := none }) (v := ?_) rfl (by kernel_rfl) (by kernel_rfl) (by kernel_rfl) (fun _ _ _ h => h) (Or.inl ⟨by rfl, ?_⟩) (by assumption) ?_
  rotate_left
  focus
    intro wz hSw
    (try dsimp only at hSw)
    go_simp
    (try with_reducible rfl)
  (try simp only [Act.put, List.setIfInBounds_toArray, List.set_cons_zero, List.set_cons_succ])
  refine wpAnyH_ready (rs := [1]) (by kernel_rfl) (by simp) ?_
  refine AllReadyH.cons (o := { dst := some 24, op := Go.Op.call { callee := Go.Callee.value (Go.Operand.func 15), args := #[Go.Operand.tmp 23], argTypes := #[23] }, type := 25, pos := "law.go:28", after := #[{ on := 0, ground := Go.Ground.data }], guard := none }) rfl (fun K hK => ?_) AllReadyH.nil
  go_simp
  with_reducible refine (c3.out _).mono ?_
  rintro e w5 ⟨rfl, hbm⟩
  go_wp2_with fail
  refine hK.out _ _ ?_ (fun hH1 => ?_)
  · (try dsimp only)
    (go_split_ands; (repeat' apply And.intro) <;> (first | with_reducible assumption | (with_reducible refine Blks.drew ?_; with_reducible assumption) | (with_reducible refine Below.drew ?_; with_reducible assumption) | (simp only [World.cell?_drew, World.size_drew]; with_reducible assumption) | (with_reducible refine Blks.below ?_ hbm; with_reducible assumption) | (with_reducible refine below_trans ?_ hbm; with_reducible assumption) | (rw [hbm.cell (by first | assumption | (simp only [World.size_drew]; assumption))]; first | with_reducible assumption | (simp only [World.cell?_drew]; with_reducible assumption)) | (refine Nat.lt_of_lt_of_le ?_ hbm.size; first | with_reducible assumption | (simp only [World.size_drew]; with_reducible assumption))))
  clear hK K hH0 hbm
  (try simp only [Act.put, List.setIfInBounds_toArray, List.set_cons_zero, List.set_cons_succ])
  refine wpAnyH_take (i := 2) (oi := { dst := some 25, op := Go.Op.binOp Go.BinOp.eql 25 (Go.Operand.tmp 24) (Go.Operand.const (Go.Value.int Go.IntKind.i64 0)) 25, type := 4, pos := "law.go:28", after := #[{ on := 1, ground := Go.Ground.data }], guard := none }) (v := ?_) rfl (by kernel_rfl) (by kernel_rfl) (by kernel_rfl) (fun _ _ _ h => h) (Or.inl ⟨by rfl, ?_⟩) (by assumption) ?_
  rotate_left
  focus
    intro wz hSw
    (try dsimp only at hSw)
    go_simp
    (try with_reducible rfl)
  (try simp only [Act.put, List.setIfInBounds_toArray, List.set_cons_zero, List.set_cons_succ])
  refine wpAnyH_ready (rs := [4]) (by kernel_rfl) (by simp) ?_
  refine AllReadyH.cons (o := { dst := some 27, op := Go.Op.call { callee := Go.Callee.value (Go.Operand.func 16), args := #[Go.Operand.tmp 26], argTypes := #[23] }, type := 4, pos := "law.go:28", after := #[{ on := 3, ground := Go.Ground.data }, { on := 1, ground := Go.Ground.chain }], guard := none }) rfl (fun K hK => ?_) AllReadyH.nil
  go_simp
  with_reducible refine (c4.out _).mono ?_
  rintro e w6 ⟨rfl, hbm⟩
  go_wp2_with fail
  refine hK.out _ _ ?_ (fun hH2 => ?_)
  · (try dsimp only)
    (go_split_ands; (repeat' apply And.intro) <;> (first | with_reducible assumption | (with_reducible refine Blks.drew ?_; with_reducible assumption) | (with_reducible refine Below.drew ?_; with_reducible assumption) | (simp only [World.cell?_drew, World.size_drew]; with_reducible assumption) | (with_reducible refine Blks.below ?_ hbm; with_reducible assumption) | (with_reducible refine below_trans ?_ hbm; with_reducible assumption) | (rw [hbm.cell (by first | assumption | (simp only [World.size_drew]; assumption))]; first | with_reducible assumption | (simp only [World.cell?_drew]; with_reducible assumption)) | (refine Nat.lt_of_lt_of_le ?_ hbm.size; first | with_reducible assumption | (simp only [World.size_drew]; with_reducible assumption))))
  clear hK K hH1 hbm
  (try simp only [Act.put, List.setIfInBounds_toArray, List.set_cons_zero, List.set_cons_succ])
  refine wpAnyH_take (i := 5) (oi := { dst := some 28, op := Go.Op.binOp Go.BinOp.neq 4 (Go.Operand.tmp 25) (Go.Operand.tmp 27) 4, type := 4, pos := "law.go:28", after := #[{ on := 2, ground := Go.Ground.data }, { on := 4, ground := Go.Ground.data }], guard := none }) (v := ?_) rfl (by kernel_rfl) (by kernel_rfl) (by kernel_rfl) (fun _ _ _ h => h) (Or.inl ⟨by rfl, ?_⟩) (by assumption) ?_
  rotate_left
  focus
    intro wz hSw
    (try dsimp only at hSw)
    go_simp
    (try with_reducible rfl)
  (try simp only [Act.put, List.setIfInBounds_toArray, List.set_cons_zero, List.set_cons_succ])
  refine wpAnyH_take (i := 6) (oi := { dst := some 29, op := Go.Op.move (Go.Operand.tmp 28), type := 4, pos := "law.go:28", after := #[{ on := 5, ground := Go.Ground.data }, { on := 4, ground := Go.Ground.chain }], guard := none }) (v := ?_) rfl (by kernel_rfl) (by kernel_rfl) (by kernel_rfl) (fun _ _ _ h => h) (Or.inl ⟨by rfl, ?_⟩) (by assumption) ?_
  rotate_left
  focus
    intro wz hSw
    (try dsimp only at hSw)
    go_simp
    (try with_reducible rfl)
  (try simp only [Act.put, List.setIfInBounds_toArray, List.set_cons_zero, List.set_cons_succ])
  refine wpAnyH_take (i := 7) (oi := { dst := some 30, op := Go.Op.load 23 (Go.Operand.tmp 2), type := 23, pos := "law.go:28", after := #[{ on := 6, ground := Go.Ground.guard }], guard := some (6, false) }) (v := ?_) rfl (by kernel_rfl) (by kernel_rfl) (by kernel_rfl) (fun _ _ _ h => h) (Or.inl ⟨by rfl, ?_⟩) (by assumption) ?_
  rotate_left
  focus
    intro wz hSw
    (try dsimp only at hSw)
    go_simp
    (try with_reducible rfl)
  (try simp only [Act.put, List.setIfInBounds_toArray, List.set_cons_zero, List.set_cons_succ])
  refine wpAnyH_ready (rs := [8]) (by kernel_rfl) (by simp) ?_
  refine AllReadyH.cons (o := { dst := some 31, op := Go.Op.call { callee := Go.Callee.value (Go.Operand.func 15), args := #[Go.Operand.tmp 30], argTypes := #[23] }, type := 25, pos := "law.go:28", after := #[{ on := 7, ground := Go.Ground.data }, { on := 6, ground := Go.Ground.chain }, { on := 6, ground := Go.Ground.guard }], guard := some (6, false) }) rfl (fun K hK => ?_) AllReadyH.nil
  go_simp
  with_reducible refine (c3.out _).mono ?_
  rintro e w7 ⟨rfl, hbm⟩
  go_wp2_with fail
  refine hK.out _ _ ?_ (fun hH3 => ?_)
  · (try dsimp only)
    (go_split_ands; (repeat' apply And.intro) <;> (first | with_reducible assumption | (with_reducible refine Blks.drew ?_; with_reducible assumption) | (with_reducible refine Below.drew ?_; with_reducible assumption) | (simp only [World.cell?_drew, World.size_drew]; with_reducible assumption) | (with_reducible refine Blks.below ?_ hbm; with_reducible assumption) | (with_reducible refine below_trans ?_ hbm; with_reducible assumption) | (rw [hbm.cell (by first | assumption | (simp only [World.size_drew]; assumption))]; first | with_reducible assumption | (simp only [World.cell?_drew]; with_reducible assumption)) | (refine Nat.lt_of_lt_of_le ?_ hbm.size; first | with_reducible assumption | (simp only [World.size_drew]; with_reducible assumption))))
  clear hK K hH2 hbm
  (try simp only [Act.put, List.setIfInBounds_toArray, List.set_cons_zero, List.set_cons_succ])
  refine wpAnyH_take (i := 9) (oi := { dst := some 32, op := Go.Op.binOp Go.BinOp.neq 25 (Go.Operand.tmp 31) (Go.Operand.const (Go.Value.int Go.IntKind.i64 0)) 25, type := 4, pos := "law.go:28", after := #[{ on := 8, ground := Go.Ground.data }, { on := 6, ground := Go.Ground.guard }], guard := some (6, false) }) (v := ?_) rfl (by kernel_rfl) (by kernel_rfl) (by kernel_rfl) (fun _ _ _ h => h) (Or.inl ⟨by rfl, ?_⟩) (by assumption) ?_
  rotate_left
  focus
    intro wz hSw
    (try dsimp only at hSw)
    go_simp
    (try with_reducible rfl)
  (try simp only [Act.put, List.setIfInBounds_toArray, List.set_cons_zero, List.set_cons_succ])
  refine wpAnyH_take (i := 10) (oi := { dst := some 33, op := Go.Op.move (Go.Operand.tmp 32), type := 4, pos := "law.go:28", after := #[{ on := 9, ground := Go.Ground.data }, { on := 8, ground := Go.Ground.chain }, { on := 6, ground := Go.Ground.guard }], guard := some (6, false) }) (v := ?_) rfl (by kernel_rfl) (by kernel_rfl) (by kernel_rfl) (fun _ _ _ h => h) (Or.inl ⟨by rfl, ?_⟩) (by assumption) ?_
  rotate_left
  focus
    intro wz hSw
    (try dsimp only at hSw)
    go_simp
    (try with_reducible rfl)
  (try simp only [Act.put, List.setIfInBounds_toArray, List.set_cons_zero, List.set_cons_succ])
  refine wpAnyH_take (i := 11) (oi := { dst := some 34, op := Go.Op.load 23 (Go.Operand.tmp 2), type := 23, pos := "law.go:28", after := #[{ on := 10, ground := Go.Ground.guard }], guard := some (10, true) }) (v := undef) rfl (by kernel_rfl) (by kernel_rfl) (by kernel_rfl) (fun _ _ _ h => h) (Or.inr ⟨by rfl, rfl⟩) (by assumption) ?_
  (try simp only [Act.put, List.setIfInBounds_toArray, List.set_cons_zero, List.set_cons_succ])
  refine wpAnyH_take (i := 12) (oi := { dst := some 35, op := Go.Op.call { callee := Go.Callee.value (Go.Operand.func 15), args := #[Go.Operand.tmp 34], argTypes := #[23] }, type := 25, pos := "law.go:28", after := #[{ on := 11, ground := Go.Ground.data }, { on := 10, ground := Go.Ground.chain }, { on := 10, ground := Go.Ground.guard }], guard := some (10, true) }) (v := undef) rfl (by kernel_rfl) (by kernel_rfl) (by kernel_rfl) (fun _ _ _ h => h) (Or.inr ⟨by rfl, rfl⟩) (by assumption) ?_
  (try simp only [Act.put, List.setIfInBounds_toArray, List.set_cons_zero, List.set_cons_succ])
  refine wpAnyH_take (i := 13) (oi := { dst := some 36, op := Go.Op.binOp Go.BinOp.neq 25 (Go.Operand.tmp 35) (Go.Operand.const (Go.Value.int Go.IntKind.i64 6)) 25, type := 4, pos := "law.go:28", after := #[{ on := 12, ground := Go.Ground.data }, { on := 10, ground := Go.Ground.guard }], guard := some (10, true) }) (v := undef) rfl (by kernel_rfl) (by kernel_rfl) (by kernel_rfl) (fun _ _ _ h => h) (Or.inr ⟨by rfl, rfl⟩) (by assumption) ?_
  (try simp only [Act.put, List.setIfInBounds_toArray, List.set_cons_zero, List.set_cons_succ])
  refine wpAnyH_take (i := 14) (oi := { dst := some 37, op := Go.Op.pick (Go.Operand.tmp 33) (Go.Operand.tmp 36) (Go.Operand.const (Go.Value.bool false)), type := 4, pos := "law.go:28", after := #[{ on := 10, ground := Go.Ground.data }, { on := 13, ground := Go.Ground.data }, { on := 6, ground := Go.Ground.guard }], guard := some (6, false) }) (v := ?_) rfl (by kernel_rfl) (by kernel_rfl) (by kernel_rfl) (fun _ _ _ h => h) (Or.inl ⟨by rfl, ?_⟩) (by assumption) ?_
  rotate_left
  focus
    intro wz hSw
    (try dsimp only at hSw)
    go_simp
    (try with_reducible rfl)
  (try simp only [Act.put, List.setIfInBounds_toArray, List.set_cons_zero, List.set_cons_succ])
  refine wpAnyH_take (i := 15) (oi := { dst := some 38, op := Go.Op.pick (Go.Operand.tmp 29) (Go.Operand.const (Go.Value.bool true)) (Go.Operand.tmp 37), type := 4, pos := "law.go:28", after := #[{ on := 6, ground := Go.Ground.data }, { on := 14, ground := Go.Ground.data }], guard := none }) (v := ?_) rfl (by kernel_rfl) (by kernel_rfl) (by kernel_rfl) (fun _ _ _ h => h) (Or.inl ⟨by rfl, ?_⟩) (by assumption) ?_
  rotate_left
  focus
    intro wz hSw
    (try dsimp only at hSw)
    go_simp
    (try with_reducible rfl)
  (try simp only [Act.put, List.setIfInBounds_toArray, List.set_cons_zero, List.set_cons_succ])
  refine wpAnyH_take (i := 16) (oi := { dst := some 39, op := Go.Op.move (Go.Operand.tmp 38), type := 4, pos := "law.go:28", after := #[{ on := 15, ground := Go.Ground.data }, { on := 12, ground := Go.Ground.chain }], guard := none }) (v := ?_) rfl (by kernel_rfl) (by kernel_rfl) (by kernel_rfl) (fun _ _ _ h => h) (Or.inl ⟨by rfl, ?_⟩) (by assumption) ?_
  rotate_left
  focus
    intro wz hSw
    (try dsimp only at hSw)
    go_simp
    (try with_reducible rfl)
  (try simp only [Act.put, List.setIfInBounds_toArray, List.set_cons_zero, List.set_cons_succ])
  refine wpAnyH_take (i := 17) (oi := { dst := some 40, op := Go.Op.load 23 (Go.Operand.tmp 2), type := 23, pos := "law.go:28", after := #[{ on := 16, ground := Go.Ground.guard }], guard := some (16, false) }) (v := ?_) rfl (by kernel_rfl) (by kernel_rfl) (by kernel_rfl) (fun _ _ _ h => h) (Or.inl ⟨by rfl, ?_⟩) (by assumption) ?_
  rotate_left
  focus
    intro wz hSw
    (try dsimp only at hSw)
    go_simp
    (try with_reducible rfl)
  (try simp only [Act.put, List.setIfInBounds_toArray, List.set_cons_zero, List.set_cons_succ])
  refine wpAnyH_take (i := 18) (oi := { dst := some 41, op := Go.Op.load 23 (Go.Operand.tmp 3), type := 23, pos := "law.go:28", after := #[{ on := 16, ground := Go.Ground.guard }], guard := some (16, false) }) (v := ?_) rfl (by kernel_rfl) (by kernel_rfl) (by kernel_rfl) (fun _ _ _ h => h) (Or.inl ⟨by rfl, ?_⟩) (by assumption) ?_
  rotate_left
  focus
    intro wz hSw
    (try dsimp only at hSw)
    go_simp
    (try with_reducible rfl)
  (try simp only [Act.put, List.setIfInBounds_toArray, List.set_cons_zero, List.set_cons_succ])
  refine wpAnyH_take (i := 20) (oi := { dst := some 43, op := Go.Op.load 23 (Go.Operand.tmp 2), type := 23, pos := "law.go:28", after := #[{ on := 16, ground := Go.Ground.guard }], guard := some (16, false) }) (v := ?_) rfl (by kernel_rfl) (by kernel_rfl) (by kernel_rfl) (fun _ _ _ h => h) (Or.inl ⟨by rfl, ?_⟩) (by assumption) ?_
  rotate_left
  focus
    intro wz hSw
    (try dsimp only at hSw)
    go_simp
    (try with_reducible rfl)
  (try simp only [Act.put, List.setIfInBounds_toArray, List.set_cons_zero, List.set_cons_succ])
  refine wpAnyH_take (i := 21) (oi := { dst := some 44, op := Go.Op.load 23 (Go.Operand.tmp 3), type := 23, pos := "law.go:28", after := #[{ on := 16, ground := Go.Ground.guard }], guard := some (16, false) }) (v := ?_) rfl (by kernel_rfl) (by kernel_rfl) (by kernel_rfl) (fun _ _ _ h => h) (Or.inl ⟨by rfl, ?_⟩) (by assumption) ?_
  rotate_left
  focus
    intro wz hSw
    (try dsimp only at hSw)
    go_simp
    (try with_reducible rfl)
  (try simp only [Act.put, List.setIfInBounds_toArray, List.set_cons_zero, List.set_cons_succ])
  refine wpAnyH_ready (rs := [19]) (by kernel_rfl) (by simp) ?_
  refine AllReadyH.cons (o := { dst := some 42, op := Go.Op.call { callee := Go.Callee.value (Go.Operand.func 17), args := #[Go.Operand.tmp 40, Go.Operand.tmp 41], argTypes := #[23, 23] }, type := 3, pos := "law.go:28", after := #[{ on := 17, ground := Go.Ground.data }, { on := 18, ground := Go.Ground.data }, { on := 16, ground := Go.Ground.chain }, { on := 16, ground := Go.Ground.guard }], guard := some (16, false) }) rfl (fun K hK => ?_) AllReadyH.nil
  go_simp
  with_reducible refine (c5.out _).mono ?_
  rintro e w8 ⟨rfl, hbm⟩
  go_wp2_with fail
  refine hK.out _ _ ?_ (fun hH4 => ?_)
  · (try dsimp only)
    (go_split_ands; (repeat' apply And.intro) <;> (first | with_reducible assumption | (with_reducible refine Blks.drew ?_; with_reducible assumption) | (with_reducible refine Below.drew ?_; with_reducible assumption) | (simp only [World.cell?_drew, World.size_drew]; with_reducible assumption) | (with_reducible refine Blks.below ?_ hbm; with_reducible assumption) | (with_reducible refine below_trans ?_ hbm; with_reducible assumption) | (rw [hbm.cell (by first | assumption | (simp only [World.size_drew]; assumption))]; first | with_reducible assumption | (simp only [World.cell?_drew]; with_reducible assumption)) | (refine Nat.lt_of_lt_of_le ?_ hbm.size; first | with_reducible assumption | (simp only [World.size_drew]; with_reducible assumption))))
  clear hK K hH3 hbm
  (try simp only [Act.put, List.setIfInBounds_toArray, List.set_cons_zero, List.set_cons_succ])
  refine wpAnyH_ready (rs := [22]) (by kernel_rfl) (by simp) ?_
  refine AllReadyH.cons (o := { dst := some 45, op := Go.Op.call { callee := Go.Callee.value (Go.Operand.func 18), args := #[Go.Operand.tmp 43, Go.Operand.tmp 44], argTypes := #[23, 23] }, type := 3, pos := "law.go:28", after := #[{ on := 20, ground := Go.Ground.data }, { on := 21, ground := Go.Ground.data }, { on := 19, ground := Go.Ground.chain }, { on := 16, ground := Go.Ground.guard }], guard := some (16, false) }) rfl (fun K hK => ?_) AllReadyH.nil
  go_simp
  with_reducible refine (c6.out _).mono ?_
  rintro e w9 ⟨rfl, hbm⟩
  go_wp2_with fail
  refine hK.out _ _ ?_ (fun hH5 => ?_)
  · (try dsimp only)
    (go_split_ands; (repeat' apply And.intro) <;> (first | with_reducible assumption | (with_reducible refine Blks.drew ?_; with_reducible assumption) | (with_reducible refine Below.drew ?_; with_reducible assumption) | (simp only [World.cell?_drew, World.size_drew]; with_reducible assumption) | (with_reducible refine Blks.below ?_ hbm; with_reducible assumption) | (with_reducible refine below_trans ?_ hbm; with_reducible assumption) | (rw [hbm.cell (by first | assumption | (simp only [World.size_drew]; assumption))]; first | with_reducible assumption | (simp only [World.cell?_drew]; with_reducible assumption)) | (refine Nat.lt_of_lt_of_le ?_ hbm.size; first | with_reducible assumption | (simp only [World.size_drew]; with_reducible assumption))))
  clear hK K hH4 hbm
  (try simp only [Act.put, List.setIfInBounds_toArray, List.set_cons_zero, List.set_cons_succ])
  refine wpAnyH_take (i := 23) (oi := { dst := some 46, op := Go.Op.binOp Go.BinOp.neq 3 (Go.Operand.tmp 42) (Go.Operand.tmp 45) 3, type := 4, pos := "law.go:28", after := #[{ on := 19, ground := Go.Ground.data }, { on := 22, ground := Go.Ground.data }, { on := 16, ground := Go.Ground.guard }], guard := some (16, false) }) (v := ?_) rfl (by kernel_rfl) (by kernel_rfl) (by kernel_rfl) (fun _ _ _ h => h) (Or.inl ⟨by rfl, ?_⟩) (by assumption) ?_
  rotate_left
  focus
    intro wz hSw
    (try dsimp only at hSw)
    go_simp
    (try with_reducible rfl)
  (try simp only [Act.put, List.setIfInBounds_toArray, List.set_cons_zero, List.set_cons_succ])
  refine wpAnyH_take (i := 24) (oi := { dst := some 47, op := Go.Op.pick (Go.Operand.tmp 39) (Go.Operand.const (Go.Value.bool true)) (Go.Operand.tmp 46), type := 4, pos := "law.go:28", after := #[{ on := 16, ground := Go.Ground.data }, { on := 23, ground := Go.Ground.data }], guard := none }) (v := ?_) rfl (by kernel_rfl) (by kernel_rfl) (by kernel_rfl) (fun _ _ _ h => h) (Or.inl ⟨by rfl, ?_⟩) (by assumption) ?_
  rotate_left
  focus
    intro wz hSw
    (try dsimp only at hSw)
    go_simp
    (try with_reducible rfl)
  (try simp only [Act.put, List.setIfInBounds_toArray, List.set_cons_zero, List.set_cons_succ])
  refine wpAnyH_done (by kernel_rfl) ?_ _
  go_split_ands
  have HHn : Blks w9 [(w3.heap.size, 23, [.int .i64 0, .int .i64 0, .int .i64 0]), (w2.heap.size, 23, [.int .i64 0, .int .i64 0, .int .i64 0]), (w.heap.size + 1, 23, [.int .i64 bx, .int .i64 bY, .int .i64 bz]), (w.heap.size, 23, [.int .i64 ax, .int .i64 ay, .int .i64 az])] := by assumption
  have HBn : Below w.heap.size w w9 := by assumption
  clear HH4 HB4
  have HH9 := Lib.hid HHn
  have HB9 := Lib.hid HBn
  clear HHn HBn
  have B9_0 : Blk w9 (w.heap.size) 23 #[.int .i64 ax, .int .i64 ay, .int .i64 az] := HH9.out (w.heap.size, 23, [.int .i64 ax, .int .i64 ay, .int .i64 az]) (by simp)
  have k9_0_0 : w9.cell? ⟨w.heap.size, 0, none⟩ = some (.int .i64 ax) := B9_0.cell 0
  have k9_0_1 : w9.cell? ⟨w.heap.size, 1, none⟩ = some (.int .i64 ay) := B9_0.cell 1
  have k9_0_2 : w9.cell? ⟨w.heap.size, 2, none⟩ = some (.int .i64 az) := B9_0.cell 2
  have z9_0 : w.heap.size < w9.heap.size := B9_0.lt
  clear B9_0
  have B9_1 : Blk w9 (w.heap.size + 1) 23 #[.int .i64 bx, .int .i64 bY, .int .i64 bz] := HH9.out (w.heap.size + 1, 23, [.int .i64 bx, .int .i64 bY, .int .i64 bz]) (by simp)
  have k9_1_0 : w9.cell? ⟨w.heap.size + 1, 0, none⟩ = some (.int .i64 bx) := B9_1.cell 0
  have k9_1_1 : w9.cell? ⟨w.heap.size + 1, 1, none⟩ = some (.int .i64 bY) := B9_1.cell 1
  have k9_1_2 : w9.cell? ⟨w.heap.size + 1, 2, none⟩ = some (.int .i64 bz) := B9_1.cell 2
  have z9_1 : w.heap.size + 1 < w9.heap.size := B9_1.lt
  clear B9_1
  have B9_2 : Blk w9 (w2.heap.size) 23 #[.int .i64 0, .int .i64 0, .int .i64 0] := HH9.out (w2.heap.size, 23, [.int .i64 0, .int .i64 0, .int .i64 0]) (by simp)
  have k9_2_0 : w9.cell? ⟨w2.heap.size, 0, none⟩ = some (.int .i64 0) := B9_2.cell 0
  have k9_2_1 : w9.cell? ⟨w2.heap.size, 1, none⟩ = some (.int .i64 0) := B9_2.cell 1
  have k9_2_2 : w9.cell? ⟨w2.heap.size, 2, none⟩ = some (.int .i64 0) := B9_2.cell 2
  have z9_2 : w2.heap.size < w9.heap.size := B9_2.lt
  clear B9_2
  have B9_3 : Blk w9 (w3.heap.size) 23 #[.int .i64 0, .int .i64 0, .int .i64 0] := HH9.out (w3.heap.size, 23, [.int .i64 0, .int .i64 0, .int .i64 0]) (by simp)
  have k9_3_0 : w9.cell? ⟨w3.heap.size, 0, none⟩ = some (.int .i64 0) := B9_3.cell 0
  have k9_3_1 : w9.cell? ⟨w3.heap.size, 1, none⟩ = some (.int .i64 0) := B9_3.cell 1
  have k9_3_2 : w9.cell? ⟨w3.heap.size, 2, none⟩ = some (.int .i64 0) := B9_3.cell 2
  have z9_3 : w3.heap.size < w9.heap.size := B9_3.lt
  clear B9_3
  go_wp2_with fail
  refine (c4.out _).mono ?_
  rintro e w10 ⟨rfl, hb10⟩
  have HH10 := Lib.hid ((HH9.out).below hb10)
  have HB10 := Lib.hid (below_trans (HB9.out) hb10)
  clear k9_0_0 k9_0_1 k9_0_2 z9_0 k9_1_0 k9_1_1 k9_1_2 z9_1 k9_2_0 k9_2_1 k9_2_2 z9_2 k9_3_0 k9_3_1 k9_3_2 z9_3
  clear hb10
  clear HH9 HB9
  have B10_0 : Blk w10 (w.heap.size) 23 #[.int .i64 ax, .int .i64 ay, .int .i64 az] := HH10.out (w.heap.size, 23, [.int .i64 ax, .int .i64 ay, .int .i64 az]) (by simp)
  have k10_0_0 : w10.cell? ⟨w.heap.size, 0, none⟩ = some (.int .i64 ax) := B10_0.cell 0
  have k10_0_1 : w10.cell? ⟨w.heap.size, 1, none⟩ = some (.int .i64 ay) := B10_0.cell 1
  have k10_0_2 : w10.cell? ⟨w.heap.size, 2, none⟩ = some (.int .i64 az) := B10_0.cell 2
  have z10_0 : w.heap.size < w10.heap.size := B10_0.lt
  clear B10_0
  have B10_1 : Blk w10 (w.heap.size + 1) 23 #[.int .i64 bx, .int .i64 bY, .int .i64 bz] := HH10.out (w.heap.size + 1, 23, [.int .i64 bx, .int .i64 bY, .int .i64 bz]) (by simp)
  have k10_1_0 : w10.cell? ⟨w.heap.size + 1, 0, none⟩ = some (.int .i64 bx) := B10_1.cell 0
  have k10_1_1 : w10.cell? ⟨w.heap.size + 1, 1, none⟩ = some (.int .i64 bY) := B10_1.cell 1
  have k10_1_2 : w10.cell? ⟨w.heap.size + 1, 2, none⟩ = some (.int .i64 bz) := B10_1.cell 2
  have z10_1 : w.heap.size + 1 < w10.heap.size := B10_1.lt
  clear B10_1
  have B10_2 : Blk w10 (w2.heap.size) 23 #[.int .i64 0, .int .i64 0, .int .i64 0] := HH10.out (w2.heap.size, 23, [.int .i64 0, .int .i64 0, .int .i64 0]) (by simp)
  have k10_2_0 : w10.cell? ⟨w2.heap.size, 0, none⟩ = some (.int .i64 0) := B10_2.cell 0
  have k10_2_1 : w10.cell? ⟨w2.heap.size, 1, none⟩ = some (.int .i64 0) := B10_2.cell 1
  have k10_2_2 : w10.cell? ⟨w2.heap.size, 2, none⟩ = some (.int .i64 0) := B10_2.cell 2
  have z10_2 : w2.heap.size < w10.heap.size := B10_2.lt
  clear B10_2
  have B10_3 : Blk w10 (w3.heap.size) 23 #[.int .i64 0, .int .i64 0, .int .i64 0] := HH10.out (w3.heap.size, 23, [.int .i64 0, .int .i64 0, .int .i64 0]) (by simp)
  have k10_3_0 : w10.cell? ⟨w3.heap.size, 0, none⟩ = some (.int .i64 0) := B10_3.cell 0
  have k10_3_1 : w10.cell? ⟨w3.heap.size, 1, none⟩ = some (.int .i64 0) := B10_3.cell 1
  have k10_3_2 : w10.cell? ⟨w3.heap.size, 2, none⟩ = some (.int .i64 0) := B10_3.cell 2
  have z10_3 : w3.heap.size < w10.heap.size := B10_3.lt
  clear B10_3
  go_wp2_with fail
  refine (c8.out _).mono ?_
  rintro e w11 ⟨rfl, hb11⟩
  have HH11 := Lib.hid ((HH10.out).below hb11)
  have HB11 := Lib.hid (below_trans (HB10.out) hb11)
  clear k10_0_0 k10_0_1 k10_0_2 z10_0 k10_1_0 k10_1_1 k10_1_2 z10_1 k10_2_0 k10_2_1 k10_2_2 z10_2 k10_3_0 k10_3_1 k10_3_2 z10_3
  clear hb11
  clear HH10 HB10
  have B11_0 : Blk w11 (w.heap.size) 23 #[.int .i64 ax, .int .i64 ay, .int .i64 az] := HH11.out (w.heap.size, 23, [.int .i64 ax, .int .i64 ay, .int .i64 az]) (by simp)
  have k11_0_0 : w11.cell? ⟨w.heap.size, 0, none⟩ = some (.int .i64 ax) := B11_0.cell 0
  have k11_0_1 : w11.cell? ⟨w.heap.size, 1, none⟩ = some (.int .i64 ay) := B11_0.cell 1
  have k11_0_2 : w11.cell? ⟨w.heap.size, 2, none⟩ = some (.int .i64 az) := B11_0.cell 2
  have z11_0 : w.heap.size < w11.heap.size := B11_0.lt
  clear B11_0
  have B11_1 : Blk w11 (w.heap.size + 1) 23 #[.int .i64 bx, .int .i64 bY, .int .i64 bz] := HH11.out (w.heap.size + 1, 23, [.int .i64 bx, .int .i64 bY, .int .i64 bz]) (by simp)
  have k11_1_0 : w11.cell? ⟨w.heap.size + 1, 0, none⟩ = some (.int .i64 bx) := B11_1.cell 0
  have k11_1_1 : w11.cell? ⟨w.heap.size + 1, 1, none⟩ = some (.int .i64 bY) := B11_1.cell 1
  have k11_1_2 : w11.cell? ⟨w.heap.size + 1, 2, none⟩ = some (.int .i64 bz) := B11_1.cell 2
  have z11_1 : w.heap.size + 1 < w11.heap.size := B11_1.lt
  clear B11_1
  have B11_2 : Blk w11 (w2.heap.size) 23 #[.int .i64 0, .int .i64 0, .int .i64 0] := HH11.out (w2.heap.size, 23, [.int .i64 0, .int .i64 0, .int .i64 0]) (by simp)
  have k11_2_0 : w11.cell? ⟨w2.heap.size, 0, none⟩ = some (.int .i64 0) := B11_2.cell 0
  have k11_2_1 : w11.cell? ⟨w2.heap.size, 1, none⟩ = some (.int .i64 0) := B11_2.cell 1
  have k11_2_2 : w11.cell? ⟨w2.heap.size, 2, none⟩ = some (.int .i64 0) := B11_2.cell 2
  have z11_2 : w2.heap.size < w11.heap.size := B11_2.lt
  clear B11_2
  have B11_3 : Blk w11 (w3.heap.size) 23 #[.int .i64 0, .int .i64 0, .int .i64 0] := HH11.out (w3.heap.size, 23, [.int .i64 0, .int .i64 0, .int .i64 0]) (by simp)
  have k11_3_0 : w11.cell? ⟨w3.heap.size, 0, none⟩ = some (.int .i64 0) := B11_3.cell 0
  have k11_3_1 : w11.cell? ⟨w3.heap.size, 1, none⟩ = some (.int .i64 0) := B11_3.cell 1
  have k11_3_2 : w11.cell? ⟨w3.heap.size, 2, none⟩ = some (.int .i64 0) := B11_3.cell 2
  have z11_3 : w3.heap.size < w11.heap.size := B11_3.lt
  clear B11_3
  go_wp2
  go_returns
  exact ⟨rfl, by repeat (first | with_reducible exact HB11.out | with_reducible refine Below.drew ?_ | with_reducible refine below_drewN ?_ _ | with_reducible refine below_set ?_ (by have := HB11.out.size; simp <;> omega) _ | with_reducible refine below_alloc ?_ _)⟩
set_option maxHeartbeats 6400000 in
theorem adds_yy (ax ay az bx bY bz : Int) (ha : in3 ax ay az = true) (hb : in3 bx bY bz = true) (hs : in3 (ax + bx) (ay + bY) (az + bz) = true) (hd : in3 (ax - bx) (ay - bY) (az - bz) = true) (w : World) : Calls Try.prog 3 #[.agg #[.int .i64 ax, .int .i64 ay, .int .i64 az], .agg #[.int .i64 bx, .int .i64 bY, .int .i64 bz]] w fun e w' => e = .returned (.bool true) ∧ Below w.heap.size w w' := by
  have c0 := Lib.hid fun W => awake_any W
  obtain ⟨p, q, r, e, ca, f1, f2, f3⟩ := add_ex ax ay az bx bY bz
  obtain ⟨p', q', r', e', cs, g1, g2, g3⟩ := sub_ex ax ay az bx bY bz
  have c1 := Lib.hid ca
  have c2 := Lib.hid cs
  have c3 := Lib.hid fun W => check_any ax ay az W
  have c4 := Lib.hid fun W => rIn_any ax ay az W
  have c8 := Lib.hid fun W => rIn_any bx bY bz W
  have c5 := Lib.hid fun W => compare_any ax ay az bx bY bz W
  have c6 := Lib.hid fun W => rcompare_any ax ay az bx bY bz W
  have gd := fun x y xs ys W => vec_guard .eql x y xs ys W
  have c9 := Lib.hid fun W => radd_any ax ay az bx bY bz ha hb W
  have c10 := Lib.hid fun W => rsub_any ax ay az bx bY bz ha hb W
  have c11 := Lib.hid fun W => sum_ok (ax + bx) (ay + bY) (az + bz) hs W
  have c12 := Lib.hid fun W => sum_ok (ax - bx) (ay - bY) (az - bz) hd W
  obtain ⟨rfl, rfl, rfl, rfl⟩ := f2 ha hb hs
  obtain ⟨rfl, rfl, rfl, rfl⟩ := g2 ha hb hd
  rw [chk1_ok ha] at c3
  rw [ha] at c4
  rw [hb] at c8
  clear ca cs f1 f2 f3 g1 g2 g3 ha hb hs hd
  generalize cmp3 ax ay az bx bY bz = R at *
  have tR : (R != R) = false := by simp
  generalize ax + bx = sx at *
  generalize ay + bY = sy at *
  generalize az + bz = sz at *
  generalize ax - bx = dx at *
  generalize ay - bY = dy at *
  generalize az - bz = dz at *
  go_enter Try.func3, Try.ntmps3
  go_wp2_with fail
  refine (c0.out _).mono ?_
  rintro e w1 ⟨rfl, hb1⟩
  have HH1 := Lib.hid (((((Blks.nil (w := w))).new (w.heap.size) 23 [.int .i64 ax, .int .i64 ay, .int .i64 az] rfl).new (w.heap.size + 1) 23 [.int .i64 bx, .int .i64 bY, .int .i64 bz] (by simp)).below hb1)
  have HB1 := Lib.hid (below_trans (below_alloc (below_alloc (Below.refl _ _) _) _) hb1)
  clear hb1
  have B1_0 : Blk w1 (w.heap.size) 23 #[.int .i64 ax, .int .i64 ay, .int .i64 az] := HH1.out (w.heap.size, 23, [.int .i64 ax, .int .i64 ay, .int .i64 az]) (by simp)
  have k1_0_0 : w1.cell? ⟨w.heap.size, 0, none⟩ = some (.int .i64 ax) := B1_0.cell 0
  have k1_0_1 : w1.cell? ⟨w.heap.size, 1, none⟩ = some (.int .i64 ay) := B1_0.cell 1
  have k1_0_2 : w1.cell? ⟨w.heap.size, 2, none⟩ = some (.int .i64 az) := B1_0.cell 2
  have z1_0 : w.heap.size < w1.heap.size := B1_0.lt
  clear B1_0
  have B1_1 : Blk w1 (w.heap.size + 1) 23 #[.int .i64 bx, .int .i64 bY, .int .i64 bz] := HH1.out (w.heap.size + 1, 23, [.int .i64 bx, .int .i64 bY, .int .i64 bz]) (by simp)
  have k1_1_0 : w1.cell? ⟨w.heap.size + 1, 0, none⟩ = some (.int .i64 bx) := B1_1.cell 0
  have k1_1_1 : w1.cell? ⟨w.heap.size + 1, 1, none⟩ = some (.int .i64 bY) := B1_1.cell 1
  have k1_1_2 : w1.cell? ⟨w.heap.size + 1, 2, none⟩ = some (.int .i64 bz) := B1_1.cell 2
  have z1_1 : w.heap.size + 1 < w1.heap.size := B1_1.lt
  clear B1_1
  go_wp2_with fail
  refine (c1.out _).mono ?_
  rintro e w2 ⟨rfl, hb2⟩
  have HH2 := Lib.hid ((HH1.out).below hb2)
  have HB2 := Lib.hid (below_trans (HB1.out) hb2)
  clear k1_0_0 k1_0_1 k1_0_2 z1_0 k1_1_0 k1_1_1 k1_1_2 z1_1
  clear hb2
  clear HH1 HB1
  have B2_0 : Blk w2 (w.heap.size) 23 #[.int .i64 ax, .int .i64 ay, .int .i64 az] := HH2.out (w.heap.size, 23, [.int .i64 ax, .int .i64 ay, .int .i64 az]) (by simp)
  have k2_0_0 : w2.cell? ⟨w.heap.size, 0, none⟩ = some (.int .i64 ax) := B2_0.cell 0
  have k2_0_1 : w2.cell? ⟨w.heap.size, 1, none⟩ = some (.int .i64 ay) := B2_0.cell 1
  have k2_0_2 : w2.cell? ⟨w.heap.size, 2, none⟩ = some (.int .i64 az) := B2_0.cell 2
  have z2_0 : w.heap.size < w2.heap.size := B2_0.lt
  clear B2_0
  have B2_1 : Blk w2 (w.heap.size + 1) 23 #[.int .i64 bx, .int .i64 bY, .int .i64 bz] := HH2.out (w.heap.size + 1, 23, [.int .i64 bx, .int .i64 bY, .int .i64 bz]) (by simp)
  have k2_1_0 : w2.cell? ⟨w.heap.size + 1, 0, none⟩ = some (.int .i64 bx) := B2_1.cell 0
  have k2_1_1 : w2.cell? ⟨w.heap.size + 1, 1, none⟩ = some (.int .i64 bY) := B2_1.cell 1
  have k2_1_2 : w2.cell? ⟨w.heap.size + 1, 2, none⟩ = some (.int .i64 bz) := B2_1.cell 2
  have z2_1 : w.heap.size + 1 < w2.heap.size := B2_1.lt
  clear B2_1
  go_wp2_with fail
  refine (c2.out _).mono ?_
  rintro e w3 ⟨rfl, hb3⟩
  have HH3 := Lib.hid (((HH2.out).new (w2.heap.size) 23 [.int .i64 sx, .int .i64 sy, .int .i64 sz] rfl).below hb3)
  have HB3 := Lib.hid (below_trans (below_alloc (HB2.out) _) hb3)
  clear k2_0_0 k2_0_1 k2_0_2 z2_0 k2_1_0 k2_1_1 k2_1_2 z2_1
  clear hb3
  clear HH2 HB2
  have B3_0 : Blk w3 (w.heap.size) 23 #[.int .i64 ax, .int .i64 ay, .int .i64 az] := HH3.out (w.heap.size, 23, [.int .i64 ax, .int .i64 ay, .int .i64 az]) (by simp)
  have k3_0_0 : w3.cell? ⟨w.heap.size, 0, none⟩ = some (.int .i64 ax) := B3_0.cell 0
  have k3_0_1 : w3.cell? ⟨w.heap.size, 1, none⟩ = some (.int .i64 ay) := B3_0.cell 1
  have k3_0_2 : w3.cell? ⟨w.heap.size, 2, none⟩ = some (.int .i64 az) := B3_0.cell 2
  have z3_0 : w.heap.size < w3.heap.size := B3_0.lt
  clear B3_0
  have B3_1 : Blk w3 (w.heap.size + 1) 23 #[.int .i64 bx, .int .i64 bY, .int .i64 bz] := HH3.out (w.heap.size + 1, 23, [.int .i64 bx, .int .i64 bY, .int .i64 bz]) (by simp)
  have k3_1_0 : w3.cell? ⟨w.heap.size + 1, 0, none⟩ = some (.int .i64 bx) := B3_1.cell 0
  have k3_1_1 : w3.cell? ⟨w.heap.size + 1, 1, none⟩ = some (.int .i64 bY) := B3_1.cell 1
  have k3_1_2 : w3.cell? ⟨w.heap.size + 1, 2, none⟩ = some (.int .i64 bz) := B3_1.cell 2
  have z3_1 : w.heap.size + 1 < w3.heap.size := B3_1.lt
  clear B3_1
  have B3_2 : Blk w3 (w2.heap.size) 23 #[.int .i64 sx, .int .i64 sy, .int .i64 sz] := HH3.out (w2.heap.size, 23, [.int .i64 sx, .int .i64 sy, .int .i64 sz]) (by simp)
  have k3_2_0 : w3.cell? ⟨w2.heap.size, 0, none⟩ = some (.int .i64 sx) := B3_2.cell 0
  have k3_2_1 : w3.cell? ⟨w2.heap.size, 1, none⟩ = some (.int .i64 sy) := B3_2.cell 1
  have k3_2_2 : w3.cell? ⟨w2.heap.size, 2, none⟩ = some (.int .i64 sz) := B3_2.cell 2
  have z3_2 : w2.heap.size < w3.heap.size := B3_2.lt
  clear B3_2
  go_upto_region 5 with fail
  have HHq : Blks ((w3).alloc (.cells #[.int .i64 dx, .int .i64 dy, .int .i64 dz] 23)) [(w3.heap.size, 23, [.int .i64 dx, .int .i64 dy, .int .i64 dz]), (w2.heap.size, 23, [.int .i64 sx, .int .i64 sy, .int .i64 sz]), (w.heap.size + 1, 23, [.int .i64 bx, .int .i64 bY, .int .i64 bz]), (w.heap.size, 23, [.int .i64 ax, .int .i64 ay, .int .i64 az])] := (HH3.out).new (w3.heap.size) 23 [.int .i64 dx, .int .i64 dy, .int .i64 dz] rfl
  have HBq : Below w.heap.size w ((w3).alloc (.cells #[.int .i64 dx, .int .i64 dy, .int .i64 dz] 23)) := below_alloc (HB3.out) _
  clear k3_0_0 k3_0_1 k3_0_2 z3_0 k3_1_0 k3_1_1 k3_1_2 z3_1 k3_2_0 k3_2_1 k3_2_2 z3_2
  clear HH3 HB3
  obtain ⟨w4, hw4⟩ : ∃ w4 : World, w4 = (w3).alloc (.cells #[.int .i64 dx, .int .i64 dy, .int .i64 dz] 23) := ⟨_, rfl⟩
  rw [← hw4] at HHq HBq ⊢
  have HH4 := Lib.hid HHq
  have HB4 := Lib.hid HBq
  clear hw4 HHq HBq
  have B4_0 : Blk w4 (w.heap.size) 23 #[.int .i64 ax, .int .i64 ay, .int .i64 az] := HH4.out (w.heap.size, 23, [.int .i64 ax, .int .i64 ay, .int .i64 az]) (by simp)
  have k4_0_0 : w4.cell? ⟨w.heap.size, 0, none⟩ = some (.int .i64 ax) := B4_0.cell 0
  have k4_0_1 : w4.cell? ⟨w.heap.size, 1, none⟩ = some (.int .i64 ay) := B4_0.cell 1
  have k4_0_2 : w4.cell? ⟨w.heap.size, 2, none⟩ = some (.int .i64 az) := B4_0.cell 2
  have z4_0 : w.heap.size < w4.heap.size := B4_0.lt
  clear B4_0
  have B4_1 : Blk w4 (w.heap.size + 1) 23 #[.int .i64 bx, .int .i64 bY, .int .i64 bz] := HH4.out (w.heap.size + 1, 23, [.int .i64 bx, .int .i64 bY, .int .i64 bz]) (by simp)
  have k4_1_0 : w4.cell? ⟨w.heap.size + 1, 0, none⟩ = some (.int .i64 bx) := B4_1.cell 0
  have k4_1_1 : w4.cell? ⟨w.heap.size + 1, 1, none⟩ = some (.int .i64 bY) := B4_1.cell 1
  have k4_1_2 : w4.cell? ⟨w.heap.size + 1, 2, none⟩ = some (.int .i64 bz) := B4_1.cell 2
  have z4_1 : w.heap.size + 1 < w4.heap.size := B4_1.lt
  clear B4_1
  have B4_2 : Blk w4 (w2.heap.size) 23 #[.int .i64 sx, .int .i64 sy, .int .i64 sz] := HH4.out (w2.heap.size, 23, [.int .i64 sx, .int .i64 sy, .int .i64 sz]) (by simp)
  have k4_2_0 : w4.cell? ⟨w2.heap.size, 0, none⟩ = some (.int .i64 sx) := B4_2.cell 0
  have k4_2_1 : w4.cell? ⟨w2.heap.size, 1, none⟩ = some (.int .i64 sy) := B4_2.cell 1
  have k4_2_2 : w4.cell? ⟨w2.heap.size, 2, none⟩ = some (.int .i64 sz) := B4_2.cell 2
  have z4_2 : w2.heap.size < w4.heap.size := B4_2.lt
  clear B4_2
  have B4_3 : Blk w4 (w3.heap.size) 23 #[.int .i64 dx, .int .i64 dy, .int .i64 dz] := HH4.out (w3.heap.size, 23, [.int .i64 dx, .int .i64 dy, .int .i64 dz]) (by simp)
  have k4_3_0 : w4.cell? ⟨w3.heap.size, 0, none⟩ = some (.int .i64 dx) := B4_3.cell 0
  have k4_3_1 : w4.cell? ⟨w3.heap.size, 1, none⟩ = some (.int .i64 dy) := B4_3.cell 1
  have k4_3_2 : w4.cell? ⟨w3.heap.size, 2, none⟩ = some (.int .i64 dz) := B4_3.cell 2
  have z4_3 : w3.heap.size < w4.heap.size := B4_3.lt
  clear B4_3
  have HHp := HH4.out
  have HBp := HB4.out
  refine wp_region_held_drew (S := fun w' => w'.cell? ⟨w.heap.size, 0, none⟩ = some (.int .i64 ax) ∧ w'.cell? ⟨w.heap.size, 1, none⟩ = some (.int .i64 ay) ∧ w'.cell? ⟨w.heap.size, 2, none⟩ = some (.int .i64 az) ∧ w'.cell? ⟨w.heap.size + 1, 0, none⟩ = some (.int .i64 bx) ∧ w'.cell? ⟨w.heap.size + 1, 1, none⟩ = some (.int .i64 bY) ∧ w'.cell? ⟨w.heap.size + 1, 2, none⟩ = some (.int .i64 bz) ∧ w.heap.size < w'.heap.size ∧ w.heap.size + 1 < w'.heap.size ∧ Blks w' [(w3.heap.size, 23, [.int .i64 dx, .int .i64 dy, .int .i64 dz]), (w2.heap.size, 23, [.int .i64 sx, .int .i64 sy, .int .i64 sz]), (w.heap.size + 1, 23, [.int .i64 bx, .int .i64 bY, .int .i64 bz]), (w.heap.size, 23, [.int .i64 ax, .int .i64 ay, .int .i64 az])] ∧ Below w.heap.size w w') (by kernel_rfl) ?_ (fun hH0 => ?_)
  · (try dsimp only)
    (go_split_ands; (repeat' apply And.intro) <;> (first | with_reducible assumption | (with_reducible refine Blks.drew ?_; with_reducible assumption) | (with_reducible refine Below.drew ?_; with_reducible assumption) | (simp only [World.cell?_drew, World.size_drew]; with_reducible assumption) | (with_reducible refine Blks.below ?_ hbm; with_reducible assumption) | (with_reducible refine below_trans ?_ hbm; with_reducible assumption) | (rw [hbm.cell (by first | assumption | (simp only [World.size_drew]; assumption))]; first | with_reducible assumption | (simp only [World.cell?_drew]; with_reducible assumption)) | (refine Nat.lt_of_lt_of_le ?_ hbm.size; first | with_reducible assumption | (simp only [World.size_drew]; with_reducible assumption))))
  clear k4_0_0 k4_0_1 k4_0_2 z4_0 k4_1_0 k4_1_1 k4_1_2 z4_1 k4_2_0 k4_2_1 k4_2_2 z4_2 k4_3_0 k4_3_1 k4_3_2 z4_3
  clear HHp HBp
  refine wpAnyH_take (i := 0) (oi := { dst := some 23, op := Go.Op.load 23 (Go.Operand.tmp 2), type := 23, pos := "law.go:28", after := #[], guard := none }) (v := ?_) rfl (by kernel_rfl) (by kernel_rfl) (by kernel_rfl) (fun _ _ _ h => h) (Or.inl ⟨by rfl, ?_⟩) (by assumption) ?_
  rotate_left
  focus
    intro wz hSw
    (try dsimp only at hSw)
    go_simp
    (try with_reducible rfl)
  (try simp only [Act.put, List.setIfInBounds_toArray, List.set_cons_zero, List.set_cons_succ])
  refine wpAnyH_take (i := 3) (oi := { dst := some 26, op := Go.Op.load 23 (Go.Operand.tmp 2), type := 23, pos := "law.go:28", after := #[], guard := none }) (v := ?_) rfl (by kernel_rfl) (by kernel_rfl) (by kernel_rfl) (fun _ _ _ h => h) (Or.inl ⟨by rfl, ?_⟩) (by assumption) ?_
  rotate_left
  focus
    intro wz hSw
    (try dsimp only at hSw)
    go_simp
    (try with_reducible rfl)
  (try simp only [Act.put, List.setIfInBounds_toArray, List.set_cons_zero, List.set_cons_succ])
  refine wpAnyH_ready (rs := [1]) (by kernel_rfl) (by simp) ?_
  refine AllReadyH.cons (o := { dst := some 24, op := Go.Op.call { callee := Go.Callee.value (Go.Operand.func 15), args := #[Go.Operand.tmp 23], argTypes := #[23] }, type := 25, pos := "law.go:28", after := #[{ on := 0, ground := Go.Ground.data }], guard := none }) rfl (fun K hK => ?_) AllReadyH.nil
  go_simp
  with_reducible refine (c3.out _).mono ?_
  rintro e w5 ⟨rfl, hbm⟩
  go_wp2_with fail
  refine hK.out _ _ ?_ (fun hH1 => ?_)
  · (try dsimp only)
    (go_split_ands; (repeat' apply And.intro) <;> (first | with_reducible assumption | (with_reducible refine Blks.drew ?_; with_reducible assumption) | (with_reducible refine Below.drew ?_; with_reducible assumption) | (simp only [World.cell?_drew, World.size_drew]; with_reducible assumption) | (with_reducible refine Blks.below ?_ hbm; with_reducible assumption) | (with_reducible refine below_trans ?_ hbm; with_reducible assumption) | (rw [hbm.cell (by first | assumption | (simp only [World.size_drew]; assumption))]; first | with_reducible assumption | (simp only [World.cell?_drew]; with_reducible assumption)) | (refine Nat.lt_of_lt_of_le ?_ hbm.size; first | with_reducible assumption | (simp only [World.size_drew]; with_reducible assumption))))
  clear hK K hH0 hbm
  (try simp only [Act.put, List.setIfInBounds_toArray, List.set_cons_zero, List.set_cons_succ])
  refine wpAnyH_take (i := 2) (oi := { dst := some 25, op := Go.Op.binOp Go.BinOp.eql 25 (Go.Operand.tmp 24) (Go.Operand.const (Go.Value.int Go.IntKind.i64 0)) 25, type := 4, pos := "law.go:28", after := #[{ on := 1, ground := Go.Ground.data }], guard := none }) (v := ?_) rfl (by kernel_rfl) (by kernel_rfl) (by kernel_rfl) (fun _ _ _ h => h) (Or.inl ⟨by rfl, ?_⟩) (by assumption) ?_
  rotate_left
  focus
    intro wz hSw
    (try dsimp only at hSw)
    go_simp
    (try with_reducible rfl)
  (try simp only [Act.put, List.setIfInBounds_toArray, List.set_cons_zero, List.set_cons_succ])
  refine wpAnyH_ready (rs := [4]) (by kernel_rfl) (by simp) ?_
  refine AllReadyH.cons (o := { dst := some 27, op := Go.Op.call { callee := Go.Callee.value (Go.Operand.func 16), args := #[Go.Operand.tmp 26], argTypes := #[23] }, type := 4, pos := "law.go:28", after := #[{ on := 3, ground := Go.Ground.data }, { on := 1, ground := Go.Ground.chain }], guard := none }) rfl (fun K hK => ?_) AllReadyH.nil
  go_simp
  with_reducible refine (c4.out _).mono ?_
  rintro e w6 ⟨rfl, hbm⟩
  go_wp2_with fail
  refine hK.out _ _ ?_ (fun hH2 => ?_)
  · (try dsimp only)
    (go_split_ands; (repeat' apply And.intro) <;> (first | with_reducible assumption | (with_reducible refine Blks.drew ?_; with_reducible assumption) | (with_reducible refine Below.drew ?_; with_reducible assumption) | (simp only [World.cell?_drew, World.size_drew]; with_reducible assumption) | (with_reducible refine Blks.below ?_ hbm; with_reducible assumption) | (with_reducible refine below_trans ?_ hbm; with_reducible assumption) | (rw [hbm.cell (by first | assumption | (simp only [World.size_drew]; assumption))]; first | with_reducible assumption | (simp only [World.cell?_drew]; with_reducible assumption)) | (refine Nat.lt_of_lt_of_le ?_ hbm.size; first | with_reducible assumption | (simp only [World.size_drew]; with_reducible assumption))))
  clear hK K hH1 hbm
  (try simp only [Act.put, List.setIfInBounds_toArray, List.set_cons_zero, List.set_cons_succ])
  refine wpAnyH_take (i := 5) (oi := { dst := some 28, op := Go.Op.binOp Go.BinOp.neq 4 (Go.Operand.tmp 25) (Go.Operand.tmp 27) 4, type := 4, pos := "law.go:28", after := #[{ on := 2, ground := Go.Ground.data }, { on := 4, ground := Go.Ground.data }], guard := none }) (v := ?_) rfl (by kernel_rfl) (by kernel_rfl) (by kernel_rfl) (fun _ _ _ h => h) (Or.inl ⟨by rfl, ?_⟩) (by assumption) ?_
  rotate_left
  focus
    intro wz hSw
    (try dsimp only at hSw)
    go_simp
    (try with_reducible rfl)
  (try simp only [Act.put, List.setIfInBounds_toArray, List.set_cons_zero, List.set_cons_succ])
  refine wpAnyH_take (i := 6) (oi := { dst := some 29, op := Go.Op.move (Go.Operand.tmp 28), type := 4, pos := "law.go:28", after := #[{ on := 5, ground := Go.Ground.data }, { on := 4, ground := Go.Ground.chain }], guard := none }) (v := ?_) rfl (by kernel_rfl) (by kernel_rfl) (by kernel_rfl) (fun _ _ _ h => h) (Or.inl ⟨by rfl, ?_⟩) (by assumption) ?_
  rotate_left
  focus
    intro wz hSw
    (try dsimp only at hSw)
    go_simp
    (try with_reducible rfl)
  (try simp only [Act.put, List.setIfInBounds_toArray, List.set_cons_zero, List.set_cons_succ])
  refine wpAnyH_take (i := 7) (oi := { dst := some 30, op := Go.Op.load 23 (Go.Operand.tmp 2), type := 23, pos := "law.go:28", after := #[{ on := 6, ground := Go.Ground.guard }], guard := some (6, false) }) (v := ?_) rfl (by kernel_rfl) (by kernel_rfl) (by kernel_rfl) (fun _ _ _ h => h) (Or.inl ⟨by rfl, ?_⟩) (by assumption) ?_
  rotate_left
  focus
    intro wz hSw
    (try dsimp only at hSw)
    go_simp
    (try with_reducible rfl)
  (try simp only [Act.put, List.setIfInBounds_toArray, List.set_cons_zero, List.set_cons_succ])
  refine wpAnyH_ready (rs := [8]) (by kernel_rfl) (by simp) ?_
  refine AllReadyH.cons (o := { dst := some 31, op := Go.Op.call { callee := Go.Callee.value (Go.Operand.func 15), args := #[Go.Operand.tmp 30], argTypes := #[23] }, type := 25, pos := "law.go:28", after := #[{ on := 7, ground := Go.Ground.data }, { on := 6, ground := Go.Ground.chain }, { on := 6, ground := Go.Ground.guard }], guard := some (6, false) }) rfl (fun K hK => ?_) AllReadyH.nil
  go_simp
  with_reducible refine (c3.out _).mono ?_
  rintro e w7 ⟨rfl, hbm⟩
  go_wp2_with fail
  refine hK.out _ _ ?_ (fun hH3 => ?_)
  · (try dsimp only)
    (go_split_ands; (repeat' apply And.intro) <;> (first | with_reducible assumption | (with_reducible refine Blks.drew ?_; with_reducible assumption) | (with_reducible refine Below.drew ?_; with_reducible assumption) | (simp only [World.cell?_drew, World.size_drew]; with_reducible assumption) | (with_reducible refine Blks.below ?_ hbm; with_reducible assumption) | (with_reducible refine below_trans ?_ hbm; with_reducible assumption) | (rw [hbm.cell (by first | assumption | (simp only [World.size_drew]; assumption))]; first | with_reducible assumption | (simp only [World.cell?_drew]; with_reducible assumption)) | (refine Nat.lt_of_lt_of_le ?_ hbm.size; first | with_reducible assumption | (simp only [World.size_drew]; with_reducible assumption))))
  clear hK K hH2 hbm
  (try simp only [Act.put, List.setIfInBounds_toArray, List.set_cons_zero, List.set_cons_succ])
  refine wpAnyH_take (i := 9) (oi := { dst := some 32, op := Go.Op.binOp Go.BinOp.neq 25 (Go.Operand.tmp 31) (Go.Operand.const (Go.Value.int Go.IntKind.i64 0)) 25, type := 4, pos := "law.go:28", after := #[{ on := 8, ground := Go.Ground.data }, { on := 6, ground := Go.Ground.guard }], guard := some (6, false) }) (v := ?_) rfl (by kernel_rfl) (by kernel_rfl) (by kernel_rfl) (fun _ _ _ h => h) (Or.inl ⟨by rfl, ?_⟩) (by assumption) ?_
  rotate_left
  focus
    intro wz hSw
    (try dsimp only at hSw)
    go_simp
    (try with_reducible rfl)
  (try simp only [Act.put, List.setIfInBounds_toArray, List.set_cons_zero, List.set_cons_succ])
  refine wpAnyH_take (i := 10) (oi := { dst := some 33, op := Go.Op.move (Go.Operand.tmp 32), type := 4, pos := "law.go:28", after := #[{ on := 9, ground := Go.Ground.data }, { on := 8, ground := Go.Ground.chain }, { on := 6, ground := Go.Ground.guard }], guard := some (6, false) }) (v := ?_) rfl (by kernel_rfl) (by kernel_rfl) (by kernel_rfl) (fun _ _ _ h => h) (Or.inl ⟨by rfl, ?_⟩) (by assumption) ?_
  rotate_left
  focus
    intro wz hSw
    (try dsimp only at hSw)
    go_simp
    (try with_reducible rfl)
  (try simp only [Act.put, List.setIfInBounds_toArray, List.set_cons_zero, List.set_cons_succ])
  refine wpAnyH_take (i := 11) (oi := { dst := some 34, op := Go.Op.load 23 (Go.Operand.tmp 2), type := 23, pos := "law.go:28", after := #[{ on := 10, ground := Go.Ground.guard }], guard := some (10, true) }) (v := undef) rfl (by kernel_rfl) (by kernel_rfl) (by kernel_rfl) (fun _ _ _ h => h) (Or.inr ⟨by rfl, rfl⟩) (by assumption) ?_
  (try simp only [Act.put, List.setIfInBounds_toArray, List.set_cons_zero, List.set_cons_succ])
  refine wpAnyH_take (i := 12) (oi := { dst := some 35, op := Go.Op.call { callee := Go.Callee.value (Go.Operand.func 15), args := #[Go.Operand.tmp 34], argTypes := #[23] }, type := 25, pos := "law.go:28", after := #[{ on := 11, ground := Go.Ground.data }, { on := 10, ground := Go.Ground.chain }, { on := 10, ground := Go.Ground.guard }], guard := some (10, true) }) (v := undef) rfl (by kernel_rfl) (by kernel_rfl) (by kernel_rfl) (fun _ _ _ h => h) (Or.inr ⟨by rfl, rfl⟩) (by assumption) ?_
  (try simp only [Act.put, List.setIfInBounds_toArray, List.set_cons_zero, List.set_cons_succ])
  refine wpAnyH_take (i := 13) (oi := { dst := some 36, op := Go.Op.binOp Go.BinOp.neq 25 (Go.Operand.tmp 35) (Go.Operand.const (Go.Value.int Go.IntKind.i64 6)) 25, type := 4, pos := "law.go:28", after := #[{ on := 12, ground := Go.Ground.data }, { on := 10, ground := Go.Ground.guard }], guard := some (10, true) }) (v := undef) rfl (by kernel_rfl) (by kernel_rfl) (by kernel_rfl) (fun _ _ _ h => h) (Or.inr ⟨by rfl, rfl⟩) (by assumption) ?_
  (try simp only [Act.put, List.setIfInBounds_toArray, List.set_cons_zero, List.set_cons_succ])
  refine wpAnyH_take (i := 14) (oi := { dst := some 37, op := Go.Op.pick (Go.Operand.tmp 33) (Go.Operand.tmp 36) (Go.Operand.const (Go.Value.bool false)), type := 4, pos := "law.go:28", after := #[{ on := 10, ground := Go.Ground.data }, { on := 13, ground := Go.Ground.data }, { on := 6, ground := Go.Ground.guard }], guard := some (6, false) }) (v := ?_) rfl (by kernel_rfl) (by kernel_rfl) (by kernel_rfl) (fun _ _ _ h => h) (Or.inl ⟨by rfl, ?_⟩) (by assumption) ?_
  rotate_left
  focus
    intro wz hSw
    (try dsimp only at hSw)
    go_simp
    (try with_reducible rfl)
  (try simp only [Act.put, List.setIfInBounds_toArray, List.set_cons_zero, List.set_cons_succ])
  refine wpAnyH_take (i := 15) (oi := { dst := some 38, op := Go.Op.pick (Go.Operand.tmp 29) (Go.Operand.const (Go.Value.bool true)) (Go.Operand.tmp 37), type := 4, pos := "law.go:28", after := #[{ on := 6, ground := Go.Ground.data }, { on := 14, ground := Go.Ground.data }], guard := none }) (v := ?_) rfl (by kernel_rfl) (by kernel_rfl) (by kernel_rfl) (fun _ _ _ h => h) (Or.inl ⟨by rfl, ?_⟩) (by assumption) ?_
  rotate_left
  focus
    intro wz hSw
    (try dsimp only at hSw)
    go_simp
    (try with_reducible rfl)
  (try simp only [Act.put, List.setIfInBounds_toArray, List.set_cons_zero, List.set_cons_succ])
  refine wpAnyH_take (i := 16) (oi := { dst := some 39, op := Go.Op.move (Go.Operand.tmp 38), type := 4, pos := "law.go:28", after := #[{ on := 15, ground := Go.Ground.data }, { on := 12, ground := Go.Ground.chain }], guard := none }) (v := ?_) rfl (by kernel_rfl) (by kernel_rfl) (by kernel_rfl) (fun _ _ _ h => h) (Or.inl ⟨by rfl, ?_⟩) (by assumption) ?_
  rotate_left
  focus
    intro wz hSw
    (try dsimp only at hSw)
    go_simp
    (try with_reducible rfl)
  (try simp only [Act.put, List.setIfInBounds_toArray, List.set_cons_zero, List.set_cons_succ])
  refine wpAnyH_take (i := 17) (oi := { dst := some 40, op := Go.Op.load 23 (Go.Operand.tmp 2), type := 23, pos := "law.go:28", after := #[{ on := 16, ground := Go.Ground.guard }], guard := some (16, false) }) (v := ?_) rfl (by kernel_rfl) (by kernel_rfl) (by kernel_rfl) (fun _ _ _ h => h) (Or.inl ⟨by rfl, ?_⟩) (by assumption) ?_
  rotate_left
  focus
    intro wz hSw
    (try dsimp only at hSw)
    go_simp
    (try with_reducible rfl)
  (try simp only [Act.put, List.setIfInBounds_toArray, List.set_cons_zero, List.set_cons_succ])
  refine wpAnyH_take (i := 18) (oi := { dst := some 41, op := Go.Op.load 23 (Go.Operand.tmp 3), type := 23, pos := "law.go:28", after := #[{ on := 16, ground := Go.Ground.guard }], guard := some (16, false) }) (v := ?_) rfl (by kernel_rfl) (by kernel_rfl) (by kernel_rfl) (fun _ _ _ h => h) (Or.inl ⟨by rfl, ?_⟩) (by assumption) ?_
  rotate_left
  focus
    intro wz hSw
    (try dsimp only at hSw)
    go_simp
    (try with_reducible rfl)
  (try simp only [Act.put, List.setIfInBounds_toArray, List.set_cons_zero, List.set_cons_succ])
  refine wpAnyH_take (i := 20) (oi := { dst := some 43, op := Go.Op.load 23 (Go.Operand.tmp 2), type := 23, pos := "law.go:28", after := #[{ on := 16, ground := Go.Ground.guard }], guard := some (16, false) }) (v := ?_) rfl (by kernel_rfl) (by kernel_rfl) (by kernel_rfl) (fun _ _ _ h => h) (Or.inl ⟨by rfl, ?_⟩) (by assumption) ?_
  rotate_left
  focus
    intro wz hSw
    (try dsimp only at hSw)
    go_simp
    (try with_reducible rfl)
  (try simp only [Act.put, List.setIfInBounds_toArray, List.set_cons_zero, List.set_cons_succ])
  refine wpAnyH_take (i := 21) (oi := { dst := some 44, op := Go.Op.load 23 (Go.Operand.tmp 3), type := 23, pos := "law.go:28", after := #[{ on := 16, ground := Go.Ground.guard }], guard := some (16, false) }) (v := ?_) rfl (by kernel_rfl) (by kernel_rfl) (by kernel_rfl) (fun _ _ _ h => h) (Or.inl ⟨by rfl, ?_⟩) (by assumption) ?_
  rotate_left
  focus
    intro wz hSw
    (try dsimp only at hSw)
    go_simp
    (try with_reducible rfl)
  (try simp only [Act.put, List.setIfInBounds_toArray, List.set_cons_zero, List.set_cons_succ])
  refine wpAnyH_ready (rs := [19]) (by kernel_rfl) (by simp) ?_
  refine AllReadyH.cons (o := { dst := some 42, op := Go.Op.call { callee := Go.Callee.value (Go.Operand.func 17), args := #[Go.Operand.tmp 40, Go.Operand.tmp 41], argTypes := #[23, 23] }, type := 3, pos := "law.go:28", after := #[{ on := 17, ground := Go.Ground.data }, { on := 18, ground := Go.Ground.data }, { on := 16, ground := Go.Ground.chain }, { on := 16, ground := Go.Ground.guard }], guard := some (16, false) }) rfl (fun K hK => ?_) AllReadyH.nil
  go_simp
  with_reducible refine (c5.out _).mono ?_
  rintro e w8 ⟨rfl, hbm⟩
  go_wp2_with fail
  refine hK.out _ _ ?_ (fun hH4 => ?_)
  · (try dsimp only)
    (go_split_ands; (repeat' apply And.intro) <;> (first | with_reducible assumption | (with_reducible refine Blks.drew ?_; with_reducible assumption) | (with_reducible refine Below.drew ?_; with_reducible assumption) | (simp only [World.cell?_drew, World.size_drew]; with_reducible assumption) | (with_reducible refine Blks.below ?_ hbm; with_reducible assumption) | (with_reducible refine below_trans ?_ hbm; with_reducible assumption) | (rw [hbm.cell (by first | assumption | (simp only [World.size_drew]; assumption))]; first | with_reducible assumption | (simp only [World.cell?_drew]; with_reducible assumption)) | (refine Nat.lt_of_lt_of_le ?_ hbm.size; first | with_reducible assumption | (simp only [World.size_drew]; with_reducible assumption))))
  clear hK K hH3 hbm
  (try simp only [Act.put, List.setIfInBounds_toArray, List.set_cons_zero, List.set_cons_succ])
  refine wpAnyH_ready (rs := [22]) (by kernel_rfl) (by simp) ?_
  refine AllReadyH.cons (o := { dst := some 45, op := Go.Op.call { callee := Go.Callee.value (Go.Operand.func 18), args := #[Go.Operand.tmp 43, Go.Operand.tmp 44], argTypes := #[23, 23] }, type := 3, pos := "law.go:28", after := #[{ on := 20, ground := Go.Ground.data }, { on := 21, ground := Go.Ground.data }, { on := 19, ground := Go.Ground.chain }, { on := 16, ground := Go.Ground.guard }], guard := some (16, false) }) rfl (fun K hK => ?_) AllReadyH.nil
  go_simp
  with_reducible refine (c6.out _).mono ?_
  rintro e w9 ⟨rfl, hbm⟩
  go_wp2_with fail
  refine hK.out _ _ ?_ (fun hH5 => ?_)
  · (try dsimp only)
    (go_split_ands; (repeat' apply And.intro) <;> (first | with_reducible assumption | (with_reducible refine Blks.drew ?_; with_reducible assumption) | (with_reducible refine Below.drew ?_; with_reducible assumption) | (simp only [World.cell?_drew, World.size_drew]; with_reducible assumption) | (with_reducible refine Blks.below ?_ hbm; with_reducible assumption) | (with_reducible refine below_trans ?_ hbm; with_reducible assumption) | (rw [hbm.cell (by first | assumption | (simp only [World.size_drew]; assumption))]; first | with_reducible assumption | (simp only [World.cell?_drew]; with_reducible assumption)) | (refine Nat.lt_of_lt_of_le ?_ hbm.size; first | with_reducible assumption | (simp only [World.size_drew]; with_reducible assumption))))
  clear hK K hH4 hbm
  (try simp only [Act.put, List.setIfInBounds_toArray, List.set_cons_zero, List.set_cons_succ])
  refine wpAnyH_take (i := 23) (oi := { dst := some 46, op := Go.Op.binOp Go.BinOp.neq 3 (Go.Operand.tmp 42) (Go.Operand.tmp 45) 3, type := 4, pos := "law.go:28", after := #[{ on := 19, ground := Go.Ground.data }, { on := 22, ground := Go.Ground.data }, { on := 16, ground := Go.Ground.guard }], guard := some (16, false) }) (v := ?_) rfl (by kernel_rfl) (by kernel_rfl) (by kernel_rfl) (fun _ _ _ h => h) (Or.inl ⟨by rfl, ?_⟩) (by assumption) ?_
  rotate_left
  focus
    intro wz hSw
    (try dsimp only at hSw)
    go_simp
    (try with_reducible rfl)
  (try simp only [Act.put, List.setIfInBounds_toArray, List.set_cons_zero, List.set_cons_succ])
  refine wpAnyH_take (i := 24) (oi := { dst := some 47, op := Go.Op.pick (Go.Operand.tmp 39) (Go.Operand.const (Go.Value.bool true)) (Go.Operand.tmp 46), type := 4, pos := "law.go:28", after := #[{ on := 16, ground := Go.Ground.data }, { on := 23, ground := Go.Ground.data }], guard := none }) (v := ?_) rfl (by kernel_rfl) (by kernel_rfl) (by kernel_rfl) (fun _ _ _ h => h) (Or.inl ⟨by rfl, ?_⟩) (by assumption) ?_
  rotate_left
  focus
    intro wz hSw
    (try dsimp only at hSw)
    go_simp
    (try with_reducible rfl)
  (try simp only [Act.put, List.setIfInBounds_toArray, List.set_cons_zero, List.set_cons_succ])
  refine wpAnyH_done (by kernel_rfl) ?_ _
  go_split_ands
  have HHn : Blks w9 [(w3.heap.size, 23, [.int .i64 dx, .int .i64 dy, .int .i64 dz]), (w2.heap.size, 23, [.int .i64 sx, .int .i64 sy, .int .i64 sz]), (w.heap.size + 1, 23, [.int .i64 bx, .int .i64 bY, .int .i64 bz]), (w.heap.size, 23, [.int .i64 ax, .int .i64 ay, .int .i64 az])] := by assumption
  have HBn : Below w.heap.size w w9 := by assumption
  clear HH4 HB4
  have HH9 := Lib.hid HHn
  have HB9 := Lib.hid HBn
  clear HHn HBn
  have B9_0 : Blk w9 (w.heap.size) 23 #[.int .i64 ax, .int .i64 ay, .int .i64 az] := HH9.out (w.heap.size, 23, [.int .i64 ax, .int .i64 ay, .int .i64 az]) (by simp)
  have k9_0_0 : w9.cell? ⟨w.heap.size, 0, none⟩ = some (.int .i64 ax) := B9_0.cell 0
  have k9_0_1 : w9.cell? ⟨w.heap.size, 1, none⟩ = some (.int .i64 ay) := B9_0.cell 1
  have k9_0_2 : w9.cell? ⟨w.heap.size, 2, none⟩ = some (.int .i64 az) := B9_0.cell 2
  have z9_0 : w.heap.size < w9.heap.size := B9_0.lt
  clear B9_0
  have B9_1 : Blk w9 (w.heap.size + 1) 23 #[.int .i64 bx, .int .i64 bY, .int .i64 bz] := HH9.out (w.heap.size + 1, 23, [.int .i64 bx, .int .i64 bY, .int .i64 bz]) (by simp)
  have k9_1_0 : w9.cell? ⟨w.heap.size + 1, 0, none⟩ = some (.int .i64 bx) := B9_1.cell 0
  have k9_1_1 : w9.cell? ⟨w.heap.size + 1, 1, none⟩ = some (.int .i64 bY) := B9_1.cell 1
  have k9_1_2 : w9.cell? ⟨w.heap.size + 1, 2, none⟩ = some (.int .i64 bz) := B9_1.cell 2
  have z9_1 : w.heap.size + 1 < w9.heap.size := B9_1.lt
  clear B9_1
  have B9_2 : Blk w9 (w2.heap.size) 23 #[.int .i64 sx, .int .i64 sy, .int .i64 sz] := HH9.out (w2.heap.size, 23, [.int .i64 sx, .int .i64 sy, .int .i64 sz]) (by simp)
  have k9_2_0 : w9.cell? ⟨w2.heap.size, 0, none⟩ = some (.int .i64 sx) := B9_2.cell 0
  have k9_2_1 : w9.cell? ⟨w2.heap.size, 1, none⟩ = some (.int .i64 sy) := B9_2.cell 1
  have k9_2_2 : w9.cell? ⟨w2.heap.size, 2, none⟩ = some (.int .i64 sz) := B9_2.cell 2
  have z9_2 : w2.heap.size < w9.heap.size := B9_2.lt
  clear B9_2
  have B9_3 : Blk w9 (w3.heap.size) 23 #[.int .i64 dx, .int .i64 dy, .int .i64 dz] := HH9.out (w3.heap.size, 23, [.int .i64 dx, .int .i64 dy, .int .i64 dz]) (by simp)
  have k9_3_0 : w9.cell? ⟨w3.heap.size, 0, none⟩ = some (.int .i64 dx) := B9_3.cell 0
  have k9_3_1 : w9.cell? ⟨w3.heap.size, 1, none⟩ = some (.int .i64 dy) := B9_3.cell 1
  have k9_3_2 : w9.cell? ⟨w3.heap.size, 2, none⟩ = some (.int .i64 dz) := B9_3.cell 2
  have z9_3 : w3.heap.size < w9.heap.size := B9_3.lt
  clear B9_3
  go_wp2_with fail
  refine (c4.out _).mono ?_
  rintro e w10 ⟨rfl, hb10⟩
  have HH10 := Lib.hid ((HH9.out).below hb10)
  have HB10 := Lib.hid (below_trans (HB9.out) hb10)
  clear k9_0_0 k9_0_1 k9_0_2 z9_0 k9_1_0 k9_1_1 k9_1_2 z9_1 k9_2_0 k9_2_1 k9_2_2 z9_2 k9_3_0 k9_3_1 k9_3_2 z9_3
  clear hb10
  clear HH9 HB9
  have B10_0 : Blk w10 (w.heap.size) 23 #[.int .i64 ax, .int .i64 ay, .int .i64 az] := HH10.out (w.heap.size, 23, [.int .i64 ax, .int .i64 ay, .int .i64 az]) (by simp)
  have k10_0_0 : w10.cell? ⟨w.heap.size, 0, none⟩ = some (.int .i64 ax) := B10_0.cell 0
  have k10_0_1 : w10.cell? ⟨w.heap.size, 1, none⟩ = some (.int .i64 ay) := B10_0.cell 1
  have k10_0_2 : w10.cell? ⟨w.heap.size, 2, none⟩ = some (.int .i64 az) := B10_0.cell 2
  have z10_0 : w.heap.size < w10.heap.size := B10_0.lt
  clear B10_0
  have B10_1 : Blk w10 (w.heap.size + 1) 23 #[.int .i64 bx, .int .i64 bY, .int .i64 bz] := HH10.out (w.heap.size + 1, 23, [.int .i64 bx, .int .i64 bY, .int .i64 bz]) (by simp)
  have k10_1_0 : w10.cell? ⟨w.heap.size + 1, 0, none⟩ = some (.int .i64 bx) := B10_1.cell 0
  have k10_1_1 : w10.cell? ⟨w.heap.size + 1, 1, none⟩ = some (.int .i64 bY) := B10_1.cell 1
  have k10_1_2 : w10.cell? ⟨w.heap.size + 1, 2, none⟩ = some (.int .i64 bz) := B10_1.cell 2
  have z10_1 : w.heap.size + 1 < w10.heap.size := B10_1.lt
  clear B10_1
  have B10_2 : Blk w10 (w2.heap.size) 23 #[.int .i64 sx, .int .i64 sy, .int .i64 sz] := HH10.out (w2.heap.size, 23, [.int .i64 sx, .int .i64 sy, .int .i64 sz]) (by simp)
  have k10_2_0 : w10.cell? ⟨w2.heap.size, 0, none⟩ = some (.int .i64 sx) := B10_2.cell 0
  have k10_2_1 : w10.cell? ⟨w2.heap.size, 1, none⟩ = some (.int .i64 sy) := B10_2.cell 1
  have k10_2_2 : w10.cell? ⟨w2.heap.size, 2, none⟩ = some (.int .i64 sz) := B10_2.cell 2
  have z10_2 : w2.heap.size < w10.heap.size := B10_2.lt
  clear B10_2
  have B10_3 : Blk w10 (w3.heap.size) 23 #[.int .i64 dx, .int .i64 dy, .int .i64 dz] := HH10.out (w3.heap.size, 23, [.int .i64 dx, .int .i64 dy, .int .i64 dz]) (by simp)
  have k10_3_0 : w10.cell? ⟨w3.heap.size, 0, none⟩ = some (.int .i64 dx) := B10_3.cell 0
  have k10_3_1 : w10.cell? ⟨w3.heap.size, 1, none⟩ = some (.int .i64 dy) := B10_3.cell 1
  have k10_3_2 : w10.cell? ⟨w3.heap.size, 2, none⟩ = some (.int .i64 dz) := B10_3.cell 2
  have z10_3 : w3.heap.size < w10.heap.size := B10_3.lt
  clear B10_3
  go_wp2_with fail
  refine (c8.out _).mono ?_
  rintro e w11 ⟨rfl, hb11⟩
  have HH11 := Lib.hid ((HH10.out).below hb11)
  have HB11 := Lib.hid (below_trans (HB10.out) hb11)
  clear k10_0_0 k10_0_1 k10_0_2 z10_0 k10_1_0 k10_1_1 k10_1_2 z10_1 k10_2_0 k10_2_1 k10_2_2 z10_2 k10_3_0 k10_3_1 k10_3_2 z10_3
  clear hb11
  clear HH10 HB10
  have B11_0 : Blk w11 (w.heap.size) 23 #[.int .i64 ax, .int .i64 ay, .int .i64 az] := HH11.out (w.heap.size, 23, [.int .i64 ax, .int .i64 ay, .int .i64 az]) (by simp)
  have k11_0_0 : w11.cell? ⟨w.heap.size, 0, none⟩ = some (.int .i64 ax) := B11_0.cell 0
  have k11_0_1 : w11.cell? ⟨w.heap.size, 1, none⟩ = some (.int .i64 ay) := B11_0.cell 1
  have k11_0_2 : w11.cell? ⟨w.heap.size, 2, none⟩ = some (.int .i64 az) := B11_0.cell 2
  have z11_0 : w.heap.size < w11.heap.size := B11_0.lt
  clear B11_0
  have B11_1 : Blk w11 (w.heap.size + 1) 23 #[.int .i64 bx, .int .i64 bY, .int .i64 bz] := HH11.out (w.heap.size + 1, 23, [.int .i64 bx, .int .i64 bY, .int .i64 bz]) (by simp)
  have k11_1_0 : w11.cell? ⟨w.heap.size + 1, 0, none⟩ = some (.int .i64 bx) := B11_1.cell 0
  have k11_1_1 : w11.cell? ⟨w.heap.size + 1, 1, none⟩ = some (.int .i64 bY) := B11_1.cell 1
  have k11_1_2 : w11.cell? ⟨w.heap.size + 1, 2, none⟩ = some (.int .i64 bz) := B11_1.cell 2
  have z11_1 : w.heap.size + 1 < w11.heap.size := B11_1.lt
  clear B11_1
  have B11_2 : Blk w11 (w2.heap.size) 23 #[.int .i64 sx, .int .i64 sy, .int .i64 sz] := HH11.out (w2.heap.size, 23, [.int .i64 sx, .int .i64 sy, .int .i64 sz]) (by simp)
  have k11_2_0 : w11.cell? ⟨w2.heap.size, 0, none⟩ = some (.int .i64 sx) := B11_2.cell 0
  have k11_2_1 : w11.cell? ⟨w2.heap.size, 1, none⟩ = some (.int .i64 sy) := B11_2.cell 1
  have k11_2_2 : w11.cell? ⟨w2.heap.size, 2, none⟩ = some (.int .i64 sz) := B11_2.cell 2
  have z11_2 : w2.heap.size < w11.heap.size := B11_2.lt
  clear B11_2
  have B11_3 : Blk w11 (w3.heap.size) 23 #[.int .i64 dx, .int .i64 dy, .int .i64 dz] := HH11.out (w3.heap.size, 23, [.int .i64 dx, .int .i64 dy, .int .i64 dz]) (by simp)
  have k11_3_0 : w11.cell? ⟨w3.heap.size, 0, none⟩ = some (.int .i64 dx) := B11_3.cell 0
  have k11_3_1 : w11.cell? ⟨w3.heap.size, 1, none⟩ = some (.int .i64 dy) := B11_3.cell 1
  have k11_3_2 : w11.cell? ⟨w3.heap.size, 2, none⟩ = some (.int .i64 dz) := B11_3.cell 2
  have z11_3 : w3.heap.size < w11.heap.size := B11_3.lt
  clear B11_3
  have tok1 : True := trivial
  go_upto_region 9 with fail
  have HHp := HH11.out
  have HBp := HB11.out
  first
    | go_region_held3 (fun w' => w'.cell? ⟨w.heap.size, 0, none⟩ = some (.int .i64 ax) ∧ w'.cell? ⟨w.heap.size, 1, none⟩ = some (.int .i64 ay) ∧ w'.cell? ⟨w.heap.size, 2, none⟩ = some (.int .i64 az) ∧ w'.cell? ⟨w.heap.size + 1, 0, none⟩ = some (.int .i64 bx) ∧ w'.cell? ⟨w.heap.size + 1, 1, none⟩ = some (.int .i64 bY) ∧ w'.cell? ⟨w.heap.size + 1, 2, none⟩ = some (.int .i64 bz) ∧ w'.cell? ⟨w2.heap.size, 0, none⟩ = some (.int .i64 sx) ∧ w'.cell? ⟨w2.heap.size, 1, none⟩ = some (.int .i64 sy) ∧ w'.cell? ⟨w2.heap.size, 2, none⟩ = some (.int .i64 sz) ∧ w'.cell? ⟨w3.heap.size, 0, none⟩ = some (.int .i64 dx) ∧ w'.cell? ⟨w3.heap.size, 1, none⟩ = some (.int .i64 dy) ∧ w'.cell? ⟨w3.heap.size, 2, none⟩ = some (.int .i64 dz) ∧ w.heap.size < w'.heap.size ∧ w.heap.size + 1 < w'.heap.size ∧ w2.heap.size < w'.heap.size ∧ w3.heap.size < w'.heap.size ∧ Blks w' [(w3.heap.size, 23, [.int .i64 dx, .int .i64 dy, .int .i64 dz]), (w2.heap.size, 23, [.int .i64 sx, .int .i64 sy, .int .i64 sz]), (w.heap.size + 1, 23, [.int .i64 bx, .int .i64 bY, .int .i64 bz]), (w.heap.size, 23, [.int .i64 ax, .int .i64 ay, .int .i64 az])] ∧ Below w.heap.size w w')
      ((go_split_ands; (repeat' apply And.intro) <;> (first | with_reducible assumption | (with_reducible refine Blks.drew ?_; with_reducible assumption) | (with_reducible refine Below.drew ?_; with_reducible assumption) | (simp only [World.cell?_drew, World.size_drew]; with_reducible assumption) | (with_reducible refine Blks.below ?_ hbm; with_reducible assumption) | (with_reducible refine below_trans ?_ hbm; with_reducible assumption) | (rw [hbm.cell (by first | assumption | (simp only [World.size_drew]; assumption))]; first | with_reducible assumption | (simp only [World.cell?_drew]; with_reducible assumption)) | (refine Nat.lt_of_lt_of_le ?_ hbm.size; first | with_reducible assumption | (simp only [World.size_drew]; with_reducible assumption)))))
      ((first
        | (go_at_call 20; with_reducible refine (c9.out _).mono ?_; rintro e w12 ⟨rfl, hbm⟩)
        | (go_at_call 21; with_reducible refine (c10.out _).mono ?_; rintro e w12 ⟨rfl, hbm⟩)
        | (go_at_call 19; have _t := tok1; with_reducible refine (c11.out _).mono ?_; clear tok1 _t; rintro e w12 ⟨rfl, hbm⟩)
        | (go_at_call 19; with_reducible refine (c12.out _).mono ?_; rintro e w12 ⟨rfl, hbm⟩)))
    | fail
  go_split_ands
  have HH12 : Blks w12 [(w3.heap.size, 23, [.int .i64 dx, .int .i64 dy, .int .i64 dz]), (w2.heap.size, 23, [.int .i64 sx, .int .i64 sy, .int .i64 sz]), (w.heap.size + 1, 23, [.int .i64 bx, .int .i64 bY, .int .i64 bz]), (w.heap.size, 23, [.int .i64 ax, .int .i64 ay, .int .i64 az])] := by assumption
  have HB12 : Below w.heap.size w w12 := by assumption
  have HH12 := Lib.hid HH12
  have HB12 := Lib.hid HB12
  clear k11_0_0 k11_0_1 k11_0_2 z11_0 k11_1_0 k11_1_1 k11_1_2 z11_1 k11_2_0 k11_2_1 k11_2_2 z11_2 k11_3_0 k11_3_1 k11_3_2 z11_3
  clear HHp HBp HH11 HB11
  have B12_0 : Blk w12 (w.heap.size) 23 #[.int .i64 ax, .int .i64 ay, .int .i64 az] := HH12.out (w.heap.size, 23, [.int .i64 ax, .int .i64 ay, .int .i64 az]) (by simp)
  have k12_0_0 : w12.cell? ⟨w.heap.size, 0, none⟩ = some (.int .i64 ax) := B12_0.cell 0
  have k12_0_1 : w12.cell? ⟨w.heap.size, 1, none⟩ = some (.int .i64 ay) := B12_0.cell 1
  have k12_0_2 : w12.cell? ⟨w.heap.size, 2, none⟩ = some (.int .i64 az) := B12_0.cell 2
  have z12_0 : w.heap.size < w12.heap.size := B12_0.lt
  clear B12_0
  have B12_1 : Blk w12 (w.heap.size + 1) 23 #[.int .i64 bx, .int .i64 bY, .int .i64 bz] := HH12.out (w.heap.size + 1, 23, [.int .i64 bx, .int .i64 bY, .int .i64 bz]) (by simp)
  have k12_1_0 : w12.cell? ⟨w.heap.size + 1, 0, none⟩ = some (.int .i64 bx) := B12_1.cell 0
  have k12_1_1 : w12.cell? ⟨w.heap.size + 1, 1, none⟩ = some (.int .i64 bY) := B12_1.cell 1
  have k12_1_2 : w12.cell? ⟨w.heap.size + 1, 2, none⟩ = some (.int .i64 bz) := B12_1.cell 2
  have z12_1 : w.heap.size + 1 < w12.heap.size := B12_1.lt
  clear B12_1
  have B12_2 : Blk w12 (w2.heap.size) 23 #[.int .i64 sx, .int .i64 sy, .int .i64 sz] := HH12.out (w2.heap.size, 23, [.int .i64 sx, .int .i64 sy, .int .i64 sz]) (by simp)
  have k12_2_0 : w12.cell? ⟨w2.heap.size, 0, none⟩ = some (.int .i64 sx) := B12_2.cell 0
  have k12_2_1 : w12.cell? ⟨w2.heap.size, 1, none⟩ = some (.int .i64 sy) := B12_2.cell 1
  have k12_2_2 : w12.cell? ⟨w2.heap.size, 2, none⟩ = some (.int .i64 sz) := B12_2.cell 2
  have z12_2 : w2.heap.size < w12.heap.size := B12_2.lt
  clear B12_2
  have B12_3 : Blk w12 (w3.heap.size) 23 #[.int .i64 dx, .int .i64 dy, .int .i64 dz] := HH12.out (w3.heap.size, 23, [.int .i64 dx, .int .i64 dy, .int .i64 dz]) (by simp)
  have k12_3_0 : w12.cell? ⟨w3.heap.size, 0, none⟩ = some (.int .i64 dx) := B12_3.cell 0
  have k12_3_1 : w12.cell? ⟨w3.heap.size, 1, none⟩ = some (.int .i64 dy) := B12_3.cell 1
  have k12_3_2 : w12.cell? ⟨w3.heap.size, 2, none⟩ = some (.int .i64 dz) := B12_3.cell 2
  have z12_3 : w3.heap.size < w12.heap.size := B12_3.lt
  clear B12_3
  go_wp2
  go_returns
  exact ⟨rfl, by repeat (first | with_reducible exact HB12.out | with_reducible refine Below.drew ?_ | with_reducible refine below_drewN ?_ _ | with_reducible refine below_set ?_ (by have := HB12.out.size; simp <;> omega) _ | with_reducible refine below_alloc ?_ _)⟩
set_option maxHeartbeats 6400000 in
theorem adds_yn (ax ay az bx bY bz : Int) (ha : in3 ax ay az = true) (hb : in3 bx bY bz = true) (hs : in3 (ax + bx) (ay + bY) (az + bz) = true) (hd : in3 (ax - bx) (ay - bY) (az - bz) = false) (w : World) : Calls Try.prog 3 #[.agg #[.int .i64 ax, .int .i64 ay, .int .i64 az], .agg #[.int .i64 bx, .int .i64 bY, .int .i64 bz]] w fun e w' => e = .returned (.bool true) ∧ Below w.heap.size w w' := by
  have c0 := Lib.hid fun W => awake_any W
  obtain ⟨p, q, r, e, ca, f1, f2, f3⟩ := add_ex ax ay az bx bY bz
  obtain ⟨p', q', r', e', cs, g1, g2, g3⟩ := sub_ex ax ay az bx bY bz
  have c1 := Lib.hid ca
  have c2 := Lib.hid cs
  have c3 := Lib.hid fun W => check_any ax ay az W
  have c4 := Lib.hid fun W => rIn_any ax ay az W
  have c8 := Lib.hid fun W => rIn_any bx bY bz W
  have c5 := Lib.hid fun W => compare_any ax ay az bx bY bz W
  have c6 := Lib.hid fun W => rcompare_any ax ay az bx bY bz W
  have gd := fun x y xs ys W => vec_guard .eql x y xs ys W
  have c9 := Lib.hid fun W => radd_any ax ay az bx bY bz ha hb W
  have c10 := Lib.hid fun W => rsub_any ax ay az bx bY bz ha hb W
  have c11 := Lib.hid fun W => sum_ok (ax + bx) (ay + bY) (az + bz) hs W
  have c12 := Lib.hid fun W => sum_no (ax - bx) (ay - bY) (az - bz) hd W
  obtain ⟨rfl, rfl, rfl, rfl⟩ := f2 ha hb hs
  obtain ⟨rfl, rfl, rfl, rfl⟩ := g3 ha hb hd
  rw [chk1_ok ha] at c3
  rw [ha] at c4
  rw [hb] at c8
  clear ca cs f1 f2 f3 g1 g2 g3 ha hb hs hd
  generalize cmp3 ax ay az bx bY bz = R at *
  have tR : (R != R) = false := by simp
  generalize ax + bx = sx at *
  generalize ay + bY = sy at *
  generalize az + bz = sz at *
  generalize ax - bx = dx at *
  generalize ay - bY = dy at *
  generalize az - bz = dz at *
  go_enter Try.func3, Try.ntmps3
  go_wp2_with fail
  refine (c0.out _).mono ?_
  rintro e w1 ⟨rfl, hb1⟩
  have HH1 := Lib.hid (((((Blks.nil (w := w))).new (w.heap.size) 23 [.int .i64 ax, .int .i64 ay, .int .i64 az] rfl).new (w.heap.size + 1) 23 [.int .i64 bx, .int .i64 bY, .int .i64 bz] (by simp)).below hb1)
  have HB1 := Lib.hid (below_trans (below_alloc (below_alloc (Below.refl _ _) _) _) hb1)
  clear hb1
  have B1_0 : Blk w1 (w.heap.size) 23 #[.int .i64 ax, .int .i64 ay, .int .i64 az] := HH1.out (w.heap.size, 23, [.int .i64 ax, .int .i64 ay, .int .i64 az]) (by simp)
  have k1_0_0 : w1.cell? ⟨w.heap.size, 0, none⟩ = some (.int .i64 ax) := B1_0.cell 0
  have k1_0_1 : w1.cell? ⟨w.heap.size, 1, none⟩ = some (.int .i64 ay) := B1_0.cell 1
  have k1_0_2 : w1.cell? ⟨w.heap.size, 2, none⟩ = some (.int .i64 az) := B1_0.cell 2
  have z1_0 : w.heap.size < w1.heap.size := B1_0.lt
  clear B1_0
  have B1_1 : Blk w1 (w.heap.size + 1) 23 #[.int .i64 bx, .int .i64 bY, .int .i64 bz] := HH1.out (w.heap.size + 1, 23, [.int .i64 bx, .int .i64 bY, .int .i64 bz]) (by simp)
  have k1_1_0 : w1.cell? ⟨w.heap.size + 1, 0, none⟩ = some (.int .i64 bx) := B1_1.cell 0
  have k1_1_1 : w1.cell? ⟨w.heap.size + 1, 1, none⟩ = some (.int .i64 bY) := B1_1.cell 1
  have k1_1_2 : w1.cell? ⟨w.heap.size + 1, 2, none⟩ = some (.int .i64 bz) := B1_1.cell 2
  have z1_1 : w.heap.size + 1 < w1.heap.size := B1_1.lt
  clear B1_1
  go_wp2_with fail
  refine (c1.out _).mono ?_
  rintro e w2 ⟨rfl, hb2⟩
  have HH2 := Lib.hid ((HH1.out).below hb2)
  have HB2 := Lib.hid (below_trans (HB1.out) hb2)
  clear k1_0_0 k1_0_1 k1_0_2 z1_0 k1_1_0 k1_1_1 k1_1_2 z1_1
  clear hb2
  clear HH1 HB1
  have B2_0 : Blk w2 (w.heap.size) 23 #[.int .i64 ax, .int .i64 ay, .int .i64 az] := HH2.out (w.heap.size, 23, [.int .i64 ax, .int .i64 ay, .int .i64 az]) (by simp)
  have k2_0_0 : w2.cell? ⟨w.heap.size, 0, none⟩ = some (.int .i64 ax) := B2_0.cell 0
  have k2_0_1 : w2.cell? ⟨w.heap.size, 1, none⟩ = some (.int .i64 ay) := B2_0.cell 1
  have k2_0_2 : w2.cell? ⟨w.heap.size, 2, none⟩ = some (.int .i64 az) := B2_0.cell 2
  have z2_0 : w.heap.size < w2.heap.size := B2_0.lt
  clear B2_0
  have B2_1 : Blk w2 (w.heap.size + 1) 23 #[.int .i64 bx, .int .i64 bY, .int .i64 bz] := HH2.out (w.heap.size + 1, 23, [.int .i64 bx, .int .i64 bY, .int .i64 bz]) (by simp)
  have k2_1_0 : w2.cell? ⟨w.heap.size + 1, 0, none⟩ = some (.int .i64 bx) := B2_1.cell 0
  have k2_1_1 : w2.cell? ⟨w.heap.size + 1, 1, none⟩ = some (.int .i64 bY) := B2_1.cell 1
  have k2_1_2 : w2.cell? ⟨w.heap.size + 1, 2, none⟩ = some (.int .i64 bz) := B2_1.cell 2
  have z2_1 : w.heap.size + 1 < w2.heap.size := B2_1.lt
  clear B2_1
  go_wp2_with fail
  refine (c2.out _).mono ?_
  rintro e w3 ⟨rfl, hb3⟩
  have HH3 := Lib.hid (((HH2.out).new (w2.heap.size) 23 [.int .i64 sx, .int .i64 sy, .int .i64 sz] rfl).below hb3)
  have HB3 := Lib.hid (below_trans (below_alloc (HB2.out) _) hb3)
  clear k2_0_0 k2_0_1 k2_0_2 z2_0 k2_1_0 k2_1_1 k2_1_2 z2_1
  clear hb3
  clear HH2 HB2
  have B3_0 : Blk w3 (w.heap.size) 23 #[.int .i64 ax, .int .i64 ay, .int .i64 az] := HH3.out (w.heap.size, 23, [.int .i64 ax, .int .i64 ay, .int .i64 az]) (by simp)
  have k3_0_0 : w3.cell? ⟨w.heap.size, 0, none⟩ = some (.int .i64 ax) := B3_0.cell 0
  have k3_0_1 : w3.cell? ⟨w.heap.size, 1, none⟩ = some (.int .i64 ay) := B3_0.cell 1
  have k3_0_2 : w3.cell? ⟨w.heap.size, 2, none⟩ = some (.int .i64 az) := B3_0.cell 2
  have z3_0 : w.heap.size < w3.heap.size := B3_0.lt
  clear B3_0
  have B3_1 : Blk w3 (w.heap.size + 1) 23 #[.int .i64 bx, .int .i64 bY, .int .i64 bz] := HH3.out (w.heap.size + 1, 23, [.int .i64 bx, .int .i64 bY, .int .i64 bz]) (by simp)
  have k3_1_0 : w3.cell? ⟨w.heap.size + 1, 0, none⟩ = some (.int .i64 bx) := B3_1.cell 0
  have k3_1_1 : w3.cell? ⟨w.heap.size + 1, 1, none⟩ = some (.int .i64 bY) := B3_1.cell 1
  have k3_1_2 : w3.cell? ⟨w.heap.size + 1, 2, none⟩ = some (.int .i64 bz) := B3_1.cell 2
  have z3_1 : w.heap.size + 1 < w3.heap.size := B3_1.lt
  clear B3_1
  have B3_2 : Blk w3 (w2.heap.size) 23 #[.int .i64 sx, .int .i64 sy, .int .i64 sz] := HH3.out (w2.heap.size, 23, [.int .i64 sx, .int .i64 sy, .int .i64 sz]) (by simp)
  have k3_2_0 : w3.cell? ⟨w2.heap.size, 0, none⟩ = some (.int .i64 sx) := B3_2.cell 0
  have k3_2_1 : w3.cell? ⟨w2.heap.size, 1, none⟩ = some (.int .i64 sy) := B3_2.cell 1
  have k3_2_2 : w3.cell? ⟨w2.heap.size, 2, none⟩ = some (.int .i64 sz) := B3_2.cell 2
  have z3_2 : w2.heap.size < w3.heap.size := B3_2.lt
  clear B3_2
  go_upto_region 5 with fail
  have HHq : Blks ((w3).alloc (.cells #[.int .i64 0, .int .i64 0, .int .i64 0] 23)) [(w3.heap.size, 23, [.int .i64 0, .int .i64 0, .int .i64 0]), (w2.heap.size, 23, [.int .i64 sx, .int .i64 sy, .int .i64 sz]), (w.heap.size + 1, 23, [.int .i64 bx, .int .i64 bY, .int .i64 bz]), (w.heap.size, 23, [.int .i64 ax, .int .i64 ay, .int .i64 az])] := (HH3.out).new (w3.heap.size) 23 [.int .i64 0, .int .i64 0, .int .i64 0] rfl
  have HBq : Below w.heap.size w ((w3).alloc (.cells #[.int .i64 0, .int .i64 0, .int .i64 0] 23)) := below_alloc (HB3.out) _
  clear k3_0_0 k3_0_1 k3_0_2 z3_0 k3_1_0 k3_1_1 k3_1_2 z3_1 k3_2_0 k3_2_1 k3_2_2 z3_2
  clear HH3 HB3
  obtain ⟨w4, hw4⟩ : ∃ w4 : World, w4 = (w3).alloc (.cells #[.int .i64 0, .int .i64 0, .int .i64 0] 23) := ⟨_, rfl⟩
  rw [← hw4] at HHq HBq ⊢
  have HH4 := Lib.hid HHq
  have HB4 := Lib.hid HBq
  clear hw4 HHq HBq
  have B4_0 : Blk w4 (w.heap.size) 23 #[.int .i64 ax, .int .i64 ay, .int .i64 az] := HH4.out (w.heap.size, 23, [.int .i64 ax, .int .i64 ay, .int .i64 az]) (by simp)
  have k4_0_0 : w4.cell? ⟨w.heap.size, 0, none⟩ = some (.int .i64 ax) := B4_0.cell 0
  have k4_0_1 : w4.cell? ⟨w.heap.size, 1, none⟩ = some (.int .i64 ay) := B4_0.cell 1
  have k4_0_2 : w4.cell? ⟨w.heap.size, 2, none⟩ = some (.int .i64 az) := B4_0.cell 2
  have z4_0 : w.heap.size < w4.heap.size := B4_0.lt
  clear B4_0
  have B4_1 : Blk w4 (w.heap.size + 1) 23 #[.int .i64 bx, .int .i64 bY, .int .i64 bz] := HH4.out (w.heap.size + 1, 23, [.int .i64 bx, .int .i64 bY, .int .i64 bz]) (by simp)
  have k4_1_0 : w4.cell? ⟨w.heap.size + 1, 0, none⟩ = some (.int .i64 bx) := B4_1.cell 0
  have k4_1_1 : w4.cell? ⟨w.heap.size + 1, 1, none⟩ = some (.int .i64 bY) := B4_1.cell 1
  have k4_1_2 : w4.cell? ⟨w.heap.size + 1, 2, none⟩ = some (.int .i64 bz) := B4_1.cell 2
  have z4_1 : w.heap.size + 1 < w4.heap.size := B4_1.lt
  clear B4_1
  have B4_2 : Blk w4 (w2.heap.size) 23 #[.int .i64 sx, .int .i64 sy, .int .i64 sz] := HH4.out (w2.heap.size, 23, [.int .i64 sx, .int .i64 sy, .int .i64 sz]) (by simp)
  have k4_2_0 : w4.cell? ⟨w2.heap.size, 0, none⟩ = some (.int .i64 sx) := B4_2.cell 0
  have k4_2_1 : w4.cell? ⟨w2.heap.size, 1, none⟩ = some (.int .i64 sy) := B4_2.cell 1
  have k4_2_2 : w4.cell? ⟨w2.heap.size, 2, none⟩ = some (.int .i64 sz) := B4_2.cell 2
  have z4_2 : w2.heap.size < w4.heap.size := B4_2.lt
  clear B4_2
  have B4_3 : Blk w4 (w3.heap.size) 23 #[.int .i64 0, .int .i64 0, .int .i64 0] := HH4.out (w3.heap.size, 23, [.int .i64 0, .int .i64 0, .int .i64 0]) (by simp)
  have k4_3_0 : w4.cell? ⟨w3.heap.size, 0, none⟩ = some (.int .i64 0) := B4_3.cell 0
  have k4_3_1 : w4.cell? ⟨w3.heap.size, 1, none⟩ = some (.int .i64 0) := B4_3.cell 1
  have k4_3_2 : w4.cell? ⟨w3.heap.size, 2, none⟩ = some (.int .i64 0) := B4_3.cell 2
  have z4_3 : w3.heap.size < w4.heap.size := B4_3.lt
  clear B4_3
  have HHp := HH4.out
  have HBp := HB4.out
  refine wp_region_held_drew (S := fun w' => w'.cell? ⟨w.heap.size, 0, none⟩ = some (.int .i64 ax) ∧ w'.cell? ⟨w.heap.size, 1, none⟩ = some (.int .i64 ay) ∧ w'.cell? ⟨w.heap.size, 2, none⟩ = some (.int .i64 az) ∧ w'.cell? ⟨w.heap.size + 1, 0, none⟩ = some (.int .i64 bx) ∧ w'.cell? ⟨w.heap.size + 1, 1, none⟩ = some (.int .i64 bY) ∧ w'.cell? ⟨w.heap.size + 1, 2, none⟩ = some (.int .i64 bz) ∧ w.heap.size < w'.heap.size ∧ w.heap.size + 1 < w'.heap.size ∧ Blks w' [(w3.heap.size, 23, [.int .i64 0, .int .i64 0, .int .i64 0]), (w2.heap.size, 23, [.int .i64 sx, .int .i64 sy, .int .i64 sz]), (w.heap.size + 1, 23, [.int .i64 bx, .int .i64 bY, .int .i64 bz]), (w.heap.size, 23, [.int .i64 ax, .int .i64 ay, .int .i64 az])] ∧ Below w.heap.size w w') (by kernel_rfl) ?_ (fun hH0 => ?_)
  · (try dsimp only)
    (go_split_ands; (repeat' apply And.intro) <;> (first | with_reducible assumption | (with_reducible refine Blks.drew ?_; with_reducible assumption) | (with_reducible refine Below.drew ?_; with_reducible assumption) | (simp only [World.cell?_drew, World.size_drew]; with_reducible assumption) | (with_reducible refine Blks.below ?_ hbm; with_reducible assumption) | (with_reducible refine below_trans ?_ hbm; with_reducible assumption) | (rw [hbm.cell (by first | assumption | (simp only [World.size_drew]; assumption))]; first | with_reducible assumption | (simp only [World.cell?_drew]; with_reducible assumption)) | (refine Nat.lt_of_lt_of_le ?_ hbm.size; first | with_reducible assumption | (simp only [World.size_drew]; with_reducible assumption))))
  clear k4_0_0 k4_0_1 k4_0_2 z4_0 k4_1_0 k4_1_1 k4_1_2 z4_1 k4_2_0 k4_2_1 k4_2_2 z4_2 k4_3_0 k4_3_1 k4_3_2 z4_3
  clear HHp HBp
  refine wpAnyH_take (i := 0) (oi := { dst := some 23, op := Go.Op.load 23 (Go.Operand.tmp 2), type := 23, pos := "law.go:28", after := #[], guard := none }) (v := ?_) rfl (by kernel_rfl) (by kernel_rfl) (by kernel_rfl) (fun _ _ _ h => h) (Or.inl ⟨by rfl, ?_⟩) (by assumption) ?_
  rotate_left
  focus
    intro wz hSw
    (try dsimp only at hSw)
    go_simp
    (try with_reducible rfl)
  (try simp only [Act.put, List.setIfInBounds_toArray, List.set_cons_zero, List.set_cons_succ])
  refine wpAnyH_take (i := 3) (oi := { dst := some 26, op := Go.Op.load 23 (Go.Operand.tmp 2), type := 23, pos := "law.go:28", after := #[], guard := none }) (v := ?_) rfl (by kernel_rfl) (by kernel_rfl) (by kernel_rfl) (fun _ _ _ h => h) (Or.inl ⟨by rfl, ?_⟩) (by assumption) ?_
  rotate_left
  focus
    intro wz hSw
    (try dsimp only at hSw)
    go_simp
    (try with_reducible rfl)
  (try simp only [Act.put, List.setIfInBounds_toArray, List.set_cons_zero, List.set_cons_succ])
  refine wpAnyH_ready (rs := [1]) (by kernel_rfl) (by simp) ?_
  refine AllReadyH.cons (o := { dst := some 24, op := Go.Op.call { callee := Go.Callee.value (Go.Operand.func 15), args := #[Go.Operand.tmp 23], argTypes := #[23] }, type := 25, pos := "law.go:28", after := #[{ on := 0, ground := Go.Ground.data }], guard := none }) rfl (fun K hK => ?_) AllReadyH.nil
  go_simp
  with_reducible refine (c3.out _).mono ?_
  rintro e w5 ⟨rfl, hbm⟩
  go_wp2_with fail
  refine hK.out _ _ ?_ (fun hH1 => ?_)
  · (try dsimp only)
    (go_split_ands; (repeat' apply And.intro) <;> (first | with_reducible assumption | (with_reducible refine Blks.drew ?_; with_reducible assumption) | (with_reducible refine Below.drew ?_; with_reducible assumption) | (simp only [World.cell?_drew, World.size_drew]; with_reducible assumption) | (with_reducible refine Blks.below ?_ hbm; with_reducible assumption) | (with_reducible refine below_trans ?_ hbm; with_reducible assumption) | (rw [hbm.cell (by first | assumption | (simp only [World.size_drew]; assumption))]; first | with_reducible assumption | (simp only [World.cell?_drew]; with_reducible assumption)) | (refine Nat.lt_of_lt_of_le ?_ hbm.size; first | with_reducible assumption | (simp only [World.size_drew]; with_reducible assumption))))
  clear hK K hH0 hbm
  (try simp only [Act.put, List.setIfInBounds_toArray, List.set_cons_zero, List.set_cons_succ])
  refine wpAnyH_take (i := 2) (oi := { dst := some 25, op := Go.Op.binOp Go.BinOp.eql 25 (Go.Operand.tmp 24) (Go.Operand.const (Go.Value.int Go.IntKind.i64 0)) 25, type := 4, pos := "law.go:28", after := #[{ on := 1, ground := Go.Ground.data }], guard := none }) (v := ?_) rfl (by kernel_rfl) (by kernel_rfl) (by kernel_rfl) (fun _ _ _ h => h) (Or.inl ⟨by rfl, ?_⟩) (by assumption) ?_
  rotate_left
  focus
    intro wz hSw
    (try dsimp only at hSw)
    go_simp
    (try with_reducible rfl)
  (try simp only [Act.put, List.setIfInBounds_toArray, List.set_cons_zero, List.set_cons_succ])
  refine wpAnyH_ready (rs := [4]) (by kernel_rfl) (by simp) ?_
  refine AllReadyH.cons (o := { dst := some 27, op := Go.Op.call { callee := Go.Callee.value (Go.Operand.func 16), args := #[Go.Operand.tmp 26], argTypes := #[23] }, type := 4, pos := "law.go:28", after := #[{ on := 3, ground := Go.Ground.data }, { on := 1, ground := Go.Ground.chain }], guard := none }) rfl (fun K hK => ?_) AllReadyH.nil
  go_simp
  with_reducible refine (c4.out _).mono ?_
  rintro e w6 ⟨rfl, hbm⟩
  go_wp2_with fail
  refine hK.out _ _ ?_ (fun hH2 => ?_)
  · (try dsimp only)
    (go_split_ands; (repeat' apply And.intro) <;> (first | with_reducible assumption | (with_reducible refine Blks.drew ?_; with_reducible assumption) | (with_reducible refine Below.drew ?_; with_reducible assumption) | (simp only [World.cell?_drew, World.size_drew]; with_reducible assumption) | (with_reducible refine Blks.below ?_ hbm; with_reducible assumption) | (with_reducible refine below_trans ?_ hbm; with_reducible assumption) | (rw [hbm.cell (by first | assumption | (simp only [World.size_drew]; assumption))]; first | with_reducible assumption | (simp only [World.cell?_drew]; with_reducible assumption)) | (refine Nat.lt_of_lt_of_le ?_ hbm.size; first | with_reducible assumption | (simp only [World.size_drew]; with_reducible assumption))))
  clear hK K hH1 hbm
  (try simp only [Act.put, List.setIfInBounds_toArray, List.set_cons_zero, List.set_cons_succ])
  refine wpAnyH_take (i := 5) (oi := { dst := some 28, op := Go.Op.binOp Go.BinOp.neq 4 (Go.Operand.tmp 25) (Go.Operand.tmp 27) 4, type := 4, pos := "law.go:28", after := #[{ on := 2, ground := Go.Ground.data }, { on := 4, ground := Go.Ground.data }], guard := none }) (v := ?_) rfl (by kernel_rfl) (by kernel_rfl) (by kernel_rfl) (fun _ _ _ h => h) (Or.inl ⟨by rfl, ?_⟩) (by assumption) ?_
  rotate_left
  focus
    intro wz hSw
    (try dsimp only at hSw)
    go_simp
    (try with_reducible rfl)
  (try simp only [Act.put, List.setIfInBounds_toArray, List.set_cons_zero, List.set_cons_succ])
  refine wpAnyH_take (i := 6) (oi := { dst := some 29, op := Go.Op.move (Go.Operand.tmp 28), type := 4, pos := "law.go:28", after := #[{ on := 5, ground := Go.Ground.data }, { on := 4, ground := Go.Ground.chain }], guard := none }) (v := ?_) rfl (by kernel_rfl) (by kernel_rfl) (by kernel_rfl) (fun _ _ _ h => h) (Or.inl ⟨by rfl, ?_⟩) (by assumption) ?_
  rotate_left
  focus
    intro wz hSw
    (try dsimp only at hSw)
    go_simp
    (try with_reducible rfl)
  (try simp only [Act.put, List.setIfInBounds_toArray, List.set_cons_zero, List.set_cons_succ])
  refine wpAnyH_take (i := 7) (oi := { dst := some 30, op := Go.Op.load 23 (Go.Operand.tmp 2), type := 23, pos := "law.go:28", after := #[{ on := 6, ground := Go.Ground.guard }], guard := some (6, false) }) (v := ?_) rfl (by kernel_rfl) (by kernel_rfl) (by kernel_rfl) (fun _ _ _ h => h) (Or.inl ⟨by rfl, ?_⟩) (by assumption) ?_
  rotate_left
  focus
    intro wz hSw
    (try dsimp only at hSw)
    go_simp
    (try with_reducible rfl)
  (try simp only [Act.put, List.setIfInBounds_toArray, List.set_cons_zero, List.set_cons_succ])
  refine wpAnyH_ready (rs := [8]) (by kernel_rfl) (by simp) ?_
  refine AllReadyH.cons (o := { dst := some 31, op := Go.Op.call { callee := Go.Callee.value (Go.Operand.func 15), args := #[Go.Operand.tmp 30], argTypes := #[23] }, type := 25, pos := "law.go:28", after := #[{ on := 7, ground := Go.Ground.data }, { on := 6, ground := Go.Ground.chain }, { on := 6, ground := Go.Ground.guard }], guard := some (6, false) }) rfl (fun K hK => ?_) AllReadyH.nil
  go_simp
  with_reducible refine (c3.out _).mono ?_
  rintro e w7 ⟨rfl, hbm⟩
  go_wp2_with fail
  refine hK.out _ _ ?_ (fun hH3 => ?_)
  · (try dsimp only)
    (go_split_ands; (repeat' apply And.intro) <;> (first | with_reducible assumption | (with_reducible refine Blks.drew ?_; with_reducible assumption) | (with_reducible refine Below.drew ?_; with_reducible assumption) | (simp only [World.cell?_drew, World.size_drew]; with_reducible assumption) | (with_reducible refine Blks.below ?_ hbm; with_reducible assumption) | (with_reducible refine below_trans ?_ hbm; with_reducible assumption) | (rw [hbm.cell (by first | assumption | (simp only [World.size_drew]; assumption))]; first | with_reducible assumption | (simp only [World.cell?_drew]; with_reducible assumption)) | (refine Nat.lt_of_lt_of_le ?_ hbm.size; first | with_reducible assumption | (simp only [World.size_drew]; with_reducible assumption))))
  clear hK K hH2 hbm
  (try simp only [Act.put, List.setIfInBounds_toArray, List.set_cons_zero, List.set_cons_succ])
  refine wpAnyH_take (i := 9) (oi := { dst := some 32, op := Go.Op.binOp Go.BinOp.neq 25 (Go.Operand.tmp 31) (Go.Operand.const (Go.Value.int Go.IntKind.i64 0)) 25, type := 4, pos := "law.go:28", after := #[{ on := 8, ground := Go.Ground.data }, { on := 6, ground := Go.Ground.guard }], guard := some (6, false) }) (v := ?_) rfl (by kernel_rfl) (by kernel_rfl) (by kernel_rfl) (fun _ _ _ h => h) (Or.inl ⟨by rfl, ?_⟩) (by assumption) ?_
  rotate_left
  focus
    intro wz hSw
    (try dsimp only at hSw)
    go_simp
    (try with_reducible rfl)
  (try simp only [Act.put, List.setIfInBounds_toArray, List.set_cons_zero, List.set_cons_succ])
  refine wpAnyH_take (i := 10) (oi := { dst := some 33, op := Go.Op.move (Go.Operand.tmp 32), type := 4, pos := "law.go:28", after := #[{ on := 9, ground := Go.Ground.data }, { on := 8, ground := Go.Ground.chain }, { on := 6, ground := Go.Ground.guard }], guard := some (6, false) }) (v := ?_) rfl (by kernel_rfl) (by kernel_rfl) (by kernel_rfl) (fun _ _ _ h => h) (Or.inl ⟨by rfl, ?_⟩) (by assumption) ?_
  rotate_left
  focus
    intro wz hSw
    (try dsimp only at hSw)
    go_simp
    (try with_reducible rfl)
  (try simp only [Act.put, List.setIfInBounds_toArray, List.set_cons_zero, List.set_cons_succ])
  refine wpAnyH_take (i := 11) (oi := { dst := some 34, op := Go.Op.load 23 (Go.Operand.tmp 2), type := 23, pos := "law.go:28", after := #[{ on := 10, ground := Go.Ground.guard }], guard := some (10, true) }) (v := undef) rfl (by kernel_rfl) (by kernel_rfl) (by kernel_rfl) (fun _ _ _ h => h) (Or.inr ⟨by rfl, rfl⟩) (by assumption) ?_
  (try simp only [Act.put, List.setIfInBounds_toArray, List.set_cons_zero, List.set_cons_succ])
  refine wpAnyH_take (i := 12) (oi := { dst := some 35, op := Go.Op.call { callee := Go.Callee.value (Go.Operand.func 15), args := #[Go.Operand.tmp 34], argTypes := #[23] }, type := 25, pos := "law.go:28", after := #[{ on := 11, ground := Go.Ground.data }, { on := 10, ground := Go.Ground.chain }, { on := 10, ground := Go.Ground.guard }], guard := some (10, true) }) (v := undef) rfl (by kernel_rfl) (by kernel_rfl) (by kernel_rfl) (fun _ _ _ h => h) (Or.inr ⟨by rfl, rfl⟩) (by assumption) ?_
  (try simp only [Act.put, List.setIfInBounds_toArray, List.set_cons_zero, List.set_cons_succ])
  refine wpAnyH_take (i := 13) (oi := { dst := some 36, op := Go.Op.binOp Go.BinOp.neq 25 (Go.Operand.tmp 35) (Go.Operand.const (Go.Value.int Go.IntKind.i64 6)) 25, type := 4, pos := "law.go:28", after := #[{ on := 12, ground := Go.Ground.data }, { on := 10, ground := Go.Ground.guard }], guard := some (10, true) }) (v := undef) rfl (by kernel_rfl) (by kernel_rfl) (by kernel_rfl) (fun _ _ _ h => h) (Or.inr ⟨by rfl, rfl⟩) (by assumption) ?_
  (try simp only [Act.put, List.setIfInBounds_toArray, List.set_cons_zero, List.set_cons_succ])
  refine wpAnyH_take (i := 14) (oi := { dst := some 37, op := Go.Op.pick (Go.Operand.tmp 33) (Go.Operand.tmp 36) (Go.Operand.const (Go.Value.bool false)), type := 4, pos := "law.go:28", after := #[{ on := 10, ground := Go.Ground.data }, { on := 13, ground := Go.Ground.data }, { on := 6, ground := Go.Ground.guard }], guard := some (6, false) }) (v := ?_) rfl (by kernel_rfl) (by kernel_rfl) (by kernel_rfl) (fun _ _ _ h => h) (Or.inl ⟨by rfl, ?_⟩) (by assumption) ?_
  rotate_left
  focus
    intro wz hSw
    (try dsimp only at hSw)
    go_simp
    (try with_reducible rfl)
  (try simp only [Act.put, List.setIfInBounds_toArray, List.set_cons_zero, List.set_cons_succ])
  refine wpAnyH_take (i := 15) (oi := { dst := some 38, op := Go.Op.pick (Go.Operand.tmp 29) (Go.Operand.const (Go.Value.bool true)) (Go.Operand.tmp 37), type := 4, pos := "law.go:28", after := #[{ on := 6, ground := Go.Ground.data }, { on := 14, ground := Go.Ground.data }], guard := none }) (v := ?_) rfl (by kernel_rfl) (by kernel_rfl) (by kernel_rfl) (fun _ _ _ h => h) (Or.inl ⟨by rfl, ?_⟩) (by assumption) ?_
  rotate_left
  focus
    intro wz hSw
    (try dsimp only at hSw)
    go_simp
    (try with_reducible rfl)
  (try simp only [Act.put, List.setIfInBounds_toArray, List.set_cons_zero, List.set_cons_succ])
  refine wpAnyH_take (i := 16) (oi := { dst := some 39, op := Go.Op.move (Go.Operand.tmp 38), type := 4, pos := "law.go:28", after := #[{ on := 15, ground := Go.Ground.data }, { on := 12, ground := Go.Ground.chain }], guard := none }) (v := ?_) rfl (by kernel_rfl) (by kernel_rfl) (by kernel_rfl) (fun _ _ _ h => h) (Or.inl ⟨by rfl, ?_⟩) (by assumption) ?_
  rotate_left
  focus
    intro wz hSw
    (try dsimp only at hSw)
    go_simp
    (try with_reducible rfl)
  (try simp only [Act.put, List.setIfInBounds_toArray, List.set_cons_zero, List.set_cons_succ])
  refine wpAnyH_take (i := 17) (oi := { dst := some 40, op := Go.Op.load 23 (Go.Operand.tmp 2), type := 23, pos := "law.go:28", after := #[{ on := 16, ground := Go.Ground.guard }], guard := some (16, false) }) (v := ?_) rfl (by kernel_rfl) (by kernel_rfl) (by kernel_rfl) (fun _ _ _ h => h) (Or.inl ⟨by rfl, ?_⟩) (by assumption) ?_
  rotate_left
  focus
    intro wz hSw
    (try dsimp only at hSw)
    go_simp
    (try with_reducible rfl)
  (try simp only [Act.put, List.setIfInBounds_toArray, List.set_cons_zero, List.set_cons_succ])
  refine wpAnyH_take (i := 18) (oi := { dst := some 41, op := Go.Op.load 23 (Go.Operand.tmp 3), type := 23, pos := "law.go:28", after := #[{ on := 16, ground := Go.Ground.guard }], guard := some (16, false) }) (v := ?_) rfl (by kernel_rfl) (by kernel_rfl) (by kernel_rfl) (fun _ _ _ h => h) (Or.inl ⟨by rfl, ?_⟩) (by assumption) ?_
  rotate_left
  focus
    intro wz hSw
    (try dsimp only at hSw)
    go_simp
    (try with_reducible rfl)
  (try simp only [Act.put, List.setIfInBounds_toArray, List.set_cons_zero, List.set_cons_succ])
  refine wpAnyH_take (i := 20) (oi := { dst := some 43, op := Go.Op.load 23 (Go.Operand.tmp 2), type := 23, pos := "law.go:28", after := #[{ on := 16, ground := Go.Ground.guard }], guard := some (16, false) }) (v := ?_) rfl (by kernel_rfl) (by kernel_rfl) (by kernel_rfl) (fun _ _ _ h => h) (Or.inl ⟨by rfl, ?_⟩) (by assumption) ?_
  rotate_left
  focus
    intro wz hSw
    (try dsimp only at hSw)
    go_simp
    (try with_reducible rfl)
  (try simp only [Act.put, List.setIfInBounds_toArray, List.set_cons_zero, List.set_cons_succ])
  refine wpAnyH_take (i := 21) (oi := { dst := some 44, op := Go.Op.load 23 (Go.Operand.tmp 3), type := 23, pos := "law.go:28", after := #[{ on := 16, ground := Go.Ground.guard }], guard := some (16, false) }) (v := ?_) rfl (by kernel_rfl) (by kernel_rfl) (by kernel_rfl) (fun _ _ _ h => h) (Or.inl ⟨by rfl, ?_⟩) (by assumption) ?_
  rotate_left
  focus
    intro wz hSw
    (try dsimp only at hSw)
    go_simp
    (try with_reducible rfl)
  (try simp only [Act.put, List.setIfInBounds_toArray, List.set_cons_zero, List.set_cons_succ])
  refine wpAnyH_ready (rs := [19]) (by kernel_rfl) (by simp) ?_
  refine AllReadyH.cons (o := { dst := some 42, op := Go.Op.call { callee := Go.Callee.value (Go.Operand.func 17), args := #[Go.Operand.tmp 40, Go.Operand.tmp 41], argTypes := #[23, 23] }, type := 3, pos := "law.go:28", after := #[{ on := 17, ground := Go.Ground.data }, { on := 18, ground := Go.Ground.data }, { on := 16, ground := Go.Ground.chain }, { on := 16, ground := Go.Ground.guard }], guard := some (16, false) }) rfl (fun K hK => ?_) AllReadyH.nil
  go_simp
  with_reducible refine (c5.out _).mono ?_
  rintro e w8 ⟨rfl, hbm⟩
  go_wp2_with fail
  refine hK.out _ _ ?_ (fun hH4 => ?_)
  · (try dsimp only)
    (go_split_ands; (repeat' apply And.intro) <;> (first | with_reducible assumption | (with_reducible refine Blks.drew ?_; with_reducible assumption) | (with_reducible refine Below.drew ?_; with_reducible assumption) | (simp only [World.cell?_drew, World.size_drew]; with_reducible assumption) | (with_reducible refine Blks.below ?_ hbm; with_reducible assumption) | (with_reducible refine below_trans ?_ hbm; with_reducible assumption) | (rw [hbm.cell (by first | assumption | (simp only [World.size_drew]; assumption))]; first | with_reducible assumption | (simp only [World.cell?_drew]; with_reducible assumption)) | (refine Nat.lt_of_lt_of_le ?_ hbm.size; first | with_reducible assumption | (simp only [World.size_drew]; with_reducible assumption))))
  clear hK K hH3 hbm
  (try simp only [Act.put, List.setIfInBounds_toArray, List.set_cons_zero, List.set_cons_succ])
  refine wpAnyH_ready (rs := [22]) (by kernel_rfl) (by simp) ?_
  refine AllReadyH.cons (o := { dst := some 45, op := Go.Op.call { callee := Go.Callee.value (Go.Operand.func 18), args := #[Go.Operand.tmp 43, Go.Operand.tmp 44], argTypes := #[23, 23] }, type := 3, pos := "law.go:28", after := #[{ on := 20, ground := Go.Ground.data }, { on := 21, ground := Go.Ground.data }, { on := 19, ground := Go.Ground.chain }, { on := 16, ground := Go.Ground.guard }], guard := some (16, false) }) rfl (fun K hK => ?_) AllReadyH.nil
  go_simp
  with_reducible refine (c6.out _).mono ?_
  rintro e w9 ⟨rfl, hbm⟩
  go_wp2_with fail
  refine hK.out _ _ ?_ (fun hH5 => ?_)
  · (try dsimp only)
    (go_split_ands; (repeat' apply And.intro) <;> (first | with_reducible assumption | (with_reducible refine Blks.drew ?_; with_reducible assumption) | (with_reducible refine Below.drew ?_; with_reducible assumption) | (simp only [World.cell?_drew, World.size_drew]; with_reducible assumption) | (with_reducible refine Blks.below ?_ hbm; with_reducible assumption) | (with_reducible refine below_trans ?_ hbm; with_reducible assumption) | (rw [hbm.cell (by first | assumption | (simp only [World.size_drew]; assumption))]; first | with_reducible assumption | (simp only [World.cell?_drew]; with_reducible assumption)) | (refine Nat.lt_of_lt_of_le ?_ hbm.size; first | with_reducible assumption | (simp only [World.size_drew]; with_reducible assumption))))
  clear hK K hH4 hbm
  (try simp only [Act.put, List.setIfInBounds_toArray, List.set_cons_zero, List.set_cons_succ])
  refine wpAnyH_take (i := 23) (oi := { dst := some 46, op := Go.Op.binOp Go.BinOp.neq 3 (Go.Operand.tmp 42) (Go.Operand.tmp 45) 3, type := 4, pos := "law.go:28", after := #[{ on := 19, ground := Go.Ground.data }, { on := 22, ground := Go.Ground.data }, { on := 16, ground := Go.Ground.guard }], guard := some (16, false) }) (v := ?_) rfl (by kernel_rfl) (by kernel_rfl) (by kernel_rfl) (fun _ _ _ h => h) (Or.inl ⟨by rfl, ?_⟩) (by assumption) ?_
  rotate_left
  focus
    intro wz hSw
    (try dsimp only at hSw)
    go_simp
    (try with_reducible rfl)
  (try simp only [Act.put, List.setIfInBounds_toArray, List.set_cons_zero, List.set_cons_succ])
  refine wpAnyH_take (i := 24) (oi := { dst := some 47, op := Go.Op.pick (Go.Operand.tmp 39) (Go.Operand.const (Go.Value.bool true)) (Go.Operand.tmp 46), type := 4, pos := "law.go:28", after := #[{ on := 16, ground := Go.Ground.data }, { on := 23, ground := Go.Ground.data }], guard := none }) (v := ?_) rfl (by kernel_rfl) (by kernel_rfl) (by kernel_rfl) (fun _ _ _ h => h) (Or.inl ⟨by rfl, ?_⟩) (by assumption) ?_
  rotate_left
  focus
    intro wz hSw
    (try dsimp only at hSw)
    go_simp
    (try with_reducible rfl)
  (try simp only [Act.put, List.setIfInBounds_toArray, List.set_cons_zero, List.set_cons_succ])
  refine wpAnyH_done (by kernel_rfl) ?_ _
  go_split_ands
  have HHn : Blks w9 [(w3.heap.size, 23, [.int .i64 0, .int .i64 0, .int .i64 0]), (w2.heap.size, 23, [.int .i64 sx, .int .i64 sy, .int .i64 sz]), (w.heap.size + 1, 23, [.int .i64 bx, .int .i64 bY, .int .i64 bz]), (w.heap.size, 23, [.int .i64 ax, .int .i64 ay, .int .i64 az])] := by assumption
  have HBn : Below w.heap.size w w9 := by assumption
  clear HH4 HB4
  have HH9 := Lib.hid HHn
  have HB9 := Lib.hid HBn
  clear HHn HBn
  have B9_0 : Blk w9 (w.heap.size) 23 #[.int .i64 ax, .int .i64 ay, .int .i64 az] := HH9.out (w.heap.size, 23, [.int .i64 ax, .int .i64 ay, .int .i64 az]) (by simp)
  have k9_0_0 : w9.cell? ⟨w.heap.size, 0, none⟩ = some (.int .i64 ax) := B9_0.cell 0
  have k9_0_1 : w9.cell? ⟨w.heap.size, 1, none⟩ = some (.int .i64 ay) := B9_0.cell 1
  have k9_0_2 : w9.cell? ⟨w.heap.size, 2, none⟩ = some (.int .i64 az) := B9_0.cell 2
  have z9_0 : w.heap.size < w9.heap.size := B9_0.lt
  clear B9_0
  have B9_1 : Blk w9 (w.heap.size + 1) 23 #[.int .i64 bx, .int .i64 bY, .int .i64 bz] := HH9.out (w.heap.size + 1, 23, [.int .i64 bx, .int .i64 bY, .int .i64 bz]) (by simp)
  have k9_1_0 : w9.cell? ⟨w.heap.size + 1, 0, none⟩ = some (.int .i64 bx) := B9_1.cell 0
  have k9_1_1 : w9.cell? ⟨w.heap.size + 1, 1, none⟩ = some (.int .i64 bY) := B9_1.cell 1
  have k9_1_2 : w9.cell? ⟨w.heap.size + 1, 2, none⟩ = some (.int .i64 bz) := B9_1.cell 2
  have z9_1 : w.heap.size + 1 < w9.heap.size := B9_1.lt
  clear B9_1
  have B9_2 : Blk w9 (w2.heap.size) 23 #[.int .i64 sx, .int .i64 sy, .int .i64 sz] := HH9.out (w2.heap.size, 23, [.int .i64 sx, .int .i64 sy, .int .i64 sz]) (by simp)
  have k9_2_0 : w9.cell? ⟨w2.heap.size, 0, none⟩ = some (.int .i64 sx) := B9_2.cell 0
  have k9_2_1 : w9.cell? ⟨w2.heap.size, 1, none⟩ = some (.int .i64 sy) := B9_2.cell 1
  have k9_2_2 : w9.cell? ⟨w2.heap.size, 2, none⟩ = some (.int .i64 sz) := B9_2.cell 2
  have z9_2 : w2.heap.size < w9.heap.size := B9_2.lt
  clear B9_2
  have B9_3 : Blk w9 (w3.heap.size) 23 #[.int .i64 0, .int .i64 0, .int .i64 0] := HH9.out (w3.heap.size, 23, [.int .i64 0, .int .i64 0, .int .i64 0]) (by simp)
  have k9_3_0 : w9.cell? ⟨w3.heap.size, 0, none⟩ = some (.int .i64 0) := B9_3.cell 0
  have k9_3_1 : w9.cell? ⟨w3.heap.size, 1, none⟩ = some (.int .i64 0) := B9_3.cell 1
  have k9_3_2 : w9.cell? ⟨w3.heap.size, 2, none⟩ = some (.int .i64 0) := B9_3.cell 2
  have z9_3 : w3.heap.size < w9.heap.size := B9_3.lt
  clear B9_3
  go_wp2_with fail
  refine (c4.out _).mono ?_
  rintro e w10 ⟨rfl, hb10⟩
  have HH10 := Lib.hid ((HH9.out).below hb10)
  have HB10 := Lib.hid (below_trans (HB9.out) hb10)
  clear k9_0_0 k9_0_1 k9_0_2 z9_0 k9_1_0 k9_1_1 k9_1_2 z9_1 k9_2_0 k9_2_1 k9_2_2 z9_2 k9_3_0 k9_3_1 k9_3_2 z9_3
  clear hb10
  clear HH9 HB9
  have B10_0 : Blk w10 (w.heap.size) 23 #[.int .i64 ax, .int .i64 ay, .int .i64 az] := HH10.out (w.heap.size, 23, [.int .i64 ax, .int .i64 ay, .int .i64 az]) (by simp)
  have k10_0_0 : w10.cell? ⟨w.heap.size, 0, none⟩ = some (.int .i64 ax) := B10_0.cell 0
  have k10_0_1 : w10.cell? ⟨w.heap.size, 1, none⟩ = some (.int .i64 ay) := B10_0.cell 1
  have k10_0_2 : w10.cell? ⟨w.heap.size, 2, none⟩ = some (.int .i64 az) := B10_0.cell 2
  have z10_0 : w.heap.size < w10.heap.size := B10_0.lt
  clear B10_0
  have B10_1 : Blk w10 (w.heap.size + 1) 23 #[.int .i64 bx, .int .i64 bY, .int .i64 bz] := HH10.out (w.heap.size + 1, 23, [.int .i64 bx, .int .i64 bY, .int .i64 bz]) (by simp)
  have k10_1_0 : w10.cell? ⟨w.heap.size + 1, 0, none⟩ = some (.int .i64 bx) := B10_1.cell 0
  have k10_1_1 : w10.cell? ⟨w.heap.size + 1, 1, none⟩ = some (.int .i64 bY) := B10_1.cell 1
  have k10_1_2 : w10.cell? ⟨w.heap.size + 1, 2, none⟩ = some (.int .i64 bz) := B10_1.cell 2
  have z10_1 : w.heap.size + 1 < w10.heap.size := B10_1.lt
  clear B10_1
  have B10_2 : Blk w10 (w2.heap.size) 23 #[.int .i64 sx, .int .i64 sy, .int .i64 sz] := HH10.out (w2.heap.size, 23, [.int .i64 sx, .int .i64 sy, .int .i64 sz]) (by simp)
  have k10_2_0 : w10.cell? ⟨w2.heap.size, 0, none⟩ = some (.int .i64 sx) := B10_2.cell 0
  have k10_2_1 : w10.cell? ⟨w2.heap.size, 1, none⟩ = some (.int .i64 sy) := B10_2.cell 1
  have k10_2_2 : w10.cell? ⟨w2.heap.size, 2, none⟩ = some (.int .i64 sz) := B10_2.cell 2
  have z10_2 : w2.heap.size < w10.heap.size := B10_2.lt
  clear B10_2
  have B10_3 : Blk w10 (w3.heap.size) 23 #[.int .i64 0, .int .i64 0, .int .i64 0] := HH10.out (w3.heap.size, 23, [.int .i64 0, .int .i64 0, .int .i64 0]) (by simp)
  have k10_3_0 : w10.cell? ⟨w3.heap.size, 0, none⟩ = some (.int .i64 0) := B10_3.cell 0
  have k10_3_1 : w10.cell? ⟨w3.heap.size, 1, none⟩ = some (.int .i64 0) := B10_3.cell 1
  have k10_3_2 : w10.cell? ⟨w3.heap.size, 2, none⟩ = some (.int .i64 0) := B10_3.cell 2
  have z10_3 : w3.heap.size < w10.heap.size := B10_3.lt
  clear B10_3
  go_wp2_with fail
  refine (c8.out _).mono ?_
  rintro e w11 ⟨rfl, hb11⟩
  have HH11 := Lib.hid ((HH10.out).below hb11)
  have HB11 := Lib.hid (below_trans (HB10.out) hb11)
  clear k10_0_0 k10_0_1 k10_0_2 z10_0 k10_1_0 k10_1_1 k10_1_2 z10_1 k10_2_0 k10_2_1 k10_2_2 z10_2 k10_3_0 k10_3_1 k10_3_2 z10_3
  clear hb11
  clear HH10 HB10
  have B11_0 : Blk w11 (w.heap.size) 23 #[.int .i64 ax, .int .i64 ay, .int .i64 az] := HH11.out (w.heap.size, 23, [.int .i64 ax, .int .i64 ay, .int .i64 az]) (by simp)
  have k11_0_0 : w11.cell? ⟨w.heap.size, 0, none⟩ = some (.int .i64 ax) := B11_0.cell 0
  have k11_0_1 : w11.cell? ⟨w.heap.size, 1, none⟩ = some (.int .i64 ay) := B11_0.cell 1
  have k11_0_2 : w11.cell? ⟨w.heap.size, 2, none⟩ = some (.int .i64 az) := B11_0.cell 2
  have z11_0 : w.heap.size < w11.heap.size := B11_0.lt
  clear B11_0
  have B11_1 : Blk w11 (w.heap.size + 1) 23 #[.int .i64 bx, .int .i64 bY, .int .i64 bz] := HH11.out (w.heap.size + 1, 23, [.int .i64 bx, .int .i64 bY, .int .i64 bz]) (by simp)
  have k11_1_0 : w11.cell? ⟨w.heap.size + 1, 0, none⟩ = some (.int .i64 bx) := B11_1.cell 0
  have k11_1_1 : w11.cell? ⟨w.heap.size + 1, 1, none⟩ = some (.int .i64 bY) := B11_1.cell 1
  have k11_1_2 : w11.cell? ⟨w.heap.size + 1, 2, none⟩ = some (.int .i64 bz) := B11_1.cell 2
  have z11_1 : w.heap.size + 1 < w11.heap.size := B11_1.lt
  clear B11_1
  have B11_2 : Blk w11 (w2.heap.size) 23 #[.int .i64 sx, .int .i64 sy, .int .i64 sz] := HH11.out (w2.heap.size, 23, [.int .i64 sx, .int .i64 sy, .int .i64 sz]) (by simp)
  have k11_2_0 : w11.cell? ⟨w2.heap.size, 0, none⟩ = some (.int .i64 sx) := B11_2.cell 0
  have k11_2_1 : w11.cell? ⟨w2.heap.size, 1, none⟩ = some (.int .i64 sy) := B11_2.cell 1
  have k11_2_2 : w11.cell? ⟨w2.heap.size, 2, none⟩ = some (.int .i64 sz) := B11_2.cell 2
  have z11_2 : w2.heap.size < w11.heap.size := B11_2.lt
  clear B11_2
  have B11_3 : Blk w11 (w3.heap.size) 23 #[.int .i64 0, .int .i64 0, .int .i64 0] := HH11.out (w3.heap.size, 23, [.int .i64 0, .int .i64 0, .int .i64 0]) (by simp)
  have k11_3_0 : w11.cell? ⟨w3.heap.size, 0, none⟩ = some (.int .i64 0) := B11_3.cell 0
  have k11_3_1 : w11.cell? ⟨w3.heap.size, 1, none⟩ = some (.int .i64 0) := B11_3.cell 1
  have k11_3_2 : w11.cell? ⟨w3.heap.size, 2, none⟩ = some (.int .i64 0) := B11_3.cell 2
  have z11_3 : w3.heap.size < w11.heap.size := B11_3.lt
  clear B11_3
  have tok1 : True := trivial
  go_upto_region 9 with fail
  have HHp := HH11.out
  have HBp := HB11.out
  first
    | go_region_held3 (fun w' => w'.cell? ⟨w.heap.size, 0, none⟩ = some (.int .i64 ax) ∧ w'.cell? ⟨w.heap.size, 1, none⟩ = some (.int .i64 ay) ∧ w'.cell? ⟨w.heap.size, 2, none⟩ = some (.int .i64 az) ∧ w'.cell? ⟨w.heap.size + 1, 0, none⟩ = some (.int .i64 bx) ∧ w'.cell? ⟨w.heap.size + 1, 1, none⟩ = some (.int .i64 bY) ∧ w'.cell? ⟨w.heap.size + 1, 2, none⟩ = some (.int .i64 bz) ∧ w'.cell? ⟨w2.heap.size, 0, none⟩ = some (.int .i64 sx) ∧ w'.cell? ⟨w2.heap.size, 1, none⟩ = some (.int .i64 sy) ∧ w'.cell? ⟨w2.heap.size, 2, none⟩ = some (.int .i64 sz) ∧ w'.cell? ⟨w3.heap.size, 0, none⟩ = some (.int .i64 0) ∧ w'.cell? ⟨w3.heap.size, 1, none⟩ = some (.int .i64 0) ∧ w'.cell? ⟨w3.heap.size, 2, none⟩ = some (.int .i64 0) ∧ w.heap.size < w'.heap.size ∧ w.heap.size + 1 < w'.heap.size ∧ w2.heap.size < w'.heap.size ∧ w3.heap.size < w'.heap.size ∧ Blks w' [(w3.heap.size, 23, [.int .i64 0, .int .i64 0, .int .i64 0]), (w2.heap.size, 23, [.int .i64 sx, .int .i64 sy, .int .i64 sz]), (w.heap.size + 1, 23, [.int .i64 bx, .int .i64 bY, .int .i64 bz]), (w.heap.size, 23, [.int .i64 ax, .int .i64 ay, .int .i64 az])] ∧ Below w.heap.size w w')
      ((go_split_ands; (repeat' apply And.intro) <;> (first | with_reducible assumption | (with_reducible refine Blks.drew ?_; with_reducible assumption) | (with_reducible refine Below.drew ?_; with_reducible assumption) | (simp only [World.cell?_drew, World.size_drew]; with_reducible assumption) | (with_reducible refine Blks.below ?_ hbm; with_reducible assumption) | (with_reducible refine below_trans ?_ hbm; with_reducible assumption) | (rw [hbm.cell (by first | assumption | (simp only [World.size_drew]; assumption))]; first | with_reducible assumption | (simp only [World.cell?_drew]; with_reducible assumption)) | (refine Nat.lt_of_lt_of_le ?_ hbm.size; first | with_reducible assumption | (simp only [World.size_drew]; with_reducible assumption)))))
      ((first
        | (go_at_call 20; with_reducible refine (c9.out _).mono ?_; rintro e w12 ⟨rfl, hbm⟩)
        | (go_at_call 21; with_reducible refine (c10.out _).mono ?_; rintro e w12 ⟨rfl, hbm⟩)
        | (go_at_call 19; have _t := tok1; with_reducible refine (c11.out _).mono ?_; clear tok1 _t; rintro e w12 ⟨rfl, hbm⟩)
        | (go_at_call 19; with_reducible refine (c12.out _).mono ?_; rintro e w12 ⟨rfl, hbm⟩)))
    | fail
  go_split_ands
  have HH12 : Blks w12 [(w3.heap.size, 23, [.int .i64 0, .int .i64 0, .int .i64 0]), (w2.heap.size, 23, [.int .i64 sx, .int .i64 sy, .int .i64 sz]), (w.heap.size + 1, 23, [.int .i64 bx, .int .i64 bY, .int .i64 bz]), (w.heap.size, 23, [.int .i64 ax, .int .i64 ay, .int .i64 az])] := by assumption
  have HB12 : Below w.heap.size w w12 := by assumption
  have HH12 := Lib.hid HH12
  have HB12 := Lib.hid HB12
  clear k11_0_0 k11_0_1 k11_0_2 z11_0 k11_1_0 k11_1_1 k11_1_2 z11_1 k11_2_0 k11_2_1 k11_2_2 z11_2 k11_3_0 k11_3_1 k11_3_2 z11_3
  clear HHp HBp HH11 HB11
  have B12_0 : Blk w12 (w.heap.size) 23 #[.int .i64 ax, .int .i64 ay, .int .i64 az] := HH12.out (w.heap.size, 23, [.int .i64 ax, .int .i64 ay, .int .i64 az]) (by simp)
  have k12_0_0 : w12.cell? ⟨w.heap.size, 0, none⟩ = some (.int .i64 ax) := B12_0.cell 0
  have k12_0_1 : w12.cell? ⟨w.heap.size, 1, none⟩ = some (.int .i64 ay) := B12_0.cell 1
  have k12_0_2 : w12.cell? ⟨w.heap.size, 2, none⟩ = some (.int .i64 az) := B12_0.cell 2
  have z12_0 : w.heap.size < w12.heap.size := B12_0.lt
  clear B12_0
  have B12_1 : Blk w12 (w.heap.size + 1) 23 #[.int .i64 bx, .int .i64 bY, .int .i64 bz] := HH12.out (w.heap.size + 1, 23, [.int .i64 bx, .int .i64 bY, .int .i64 bz]) (by simp)
  have k12_1_0 : w12.cell? ⟨w.heap.size + 1, 0, none⟩ = some (.int .i64 bx) := B12_1.cell 0
  have k12_1_1 : w12.cell? ⟨w.heap.size + 1, 1, none⟩ = some (.int .i64 bY) := B12_1.cell 1
  have k12_1_2 : w12.cell? ⟨w.heap.size + 1, 2, none⟩ = some (.int .i64 bz) := B12_1.cell 2
  have z12_1 : w.heap.size + 1 < w12.heap.size := B12_1.lt
  clear B12_1
  have B12_2 : Blk w12 (w2.heap.size) 23 #[.int .i64 sx, .int .i64 sy, .int .i64 sz] := HH12.out (w2.heap.size, 23, [.int .i64 sx, .int .i64 sy, .int .i64 sz]) (by simp)
  have k12_2_0 : w12.cell? ⟨w2.heap.size, 0, none⟩ = some (.int .i64 sx) := B12_2.cell 0
  have k12_2_1 : w12.cell? ⟨w2.heap.size, 1, none⟩ = some (.int .i64 sy) := B12_2.cell 1
  have k12_2_2 : w12.cell? ⟨w2.heap.size, 2, none⟩ = some (.int .i64 sz) := B12_2.cell 2
  have z12_2 : w2.heap.size < w12.heap.size := B12_2.lt
  clear B12_2
  have B12_3 : Blk w12 (w3.heap.size) 23 #[.int .i64 0, .int .i64 0, .int .i64 0] := HH12.out (w3.heap.size, 23, [.int .i64 0, .int .i64 0, .int .i64 0]) (by simp)
  have k12_3_0 : w12.cell? ⟨w3.heap.size, 0, none⟩ = some (.int .i64 0) := B12_3.cell 0
  have k12_3_1 : w12.cell? ⟨w3.heap.size, 1, none⟩ = some (.int .i64 0) := B12_3.cell 1
  have k12_3_2 : w12.cell? ⟨w3.heap.size, 2, none⟩ = some (.int .i64 0) := B12_3.cell 2
  have z12_3 : w3.heap.size < w12.heap.size := B12_3.lt
  clear B12_3
  go_wp2
  go_returns
  exact ⟨rfl, by repeat (first | with_reducible exact HB12.out | with_reducible refine Below.drew ?_ | with_reducible refine below_drewN ?_ _ | with_reducible refine below_set ?_ (by have := HB12.out.size; simp <;> omega) _ | with_reducible refine below_alloc ?_ _)⟩
set_option maxHeartbeats 6400000 in
theorem adds_ny (ax ay az bx bY bz : Int) (ha : in3 ax ay az = true) (hb : in3 bx bY bz = true) (hs : in3 (ax + bx) (ay + bY) (az + bz) = false) (hd : in3 (ax - bx) (ay - bY) (az - bz) = true) (w : World) : Calls Try.prog 3 #[.agg #[.int .i64 ax, .int .i64 ay, .int .i64 az], .agg #[.int .i64 bx, .int .i64 bY, .int .i64 bz]] w fun e w' => e = .returned (.bool true) ∧ Below w.heap.size w w' := by
  have c0 := Lib.hid fun W => awake_any W
  obtain ⟨p, q, r, e, ca, f1, f2, f3⟩ := add_ex ax ay az bx bY bz
  obtain ⟨p', q', r', e', cs, g1, g2, g3⟩ := sub_ex ax ay az bx bY bz
  have c1 := Lib.hid ca
  have c2 := Lib.hid cs
  have c3 := Lib.hid fun W => check_any ax ay az W
  have c4 := Lib.hid fun W => rIn_any ax ay az W
  have c8 := Lib.hid fun W => rIn_any bx bY bz W
  have c5 := Lib.hid fun W => compare_any ax ay az bx bY bz W
  have c6 := Lib.hid fun W => rcompare_any ax ay az bx bY bz W
  have gd := fun x y xs ys W => vec_guard .eql x y xs ys W
  have c9 := Lib.hid fun W => radd_any ax ay az bx bY bz ha hb W
  have c10 := Lib.hid fun W => rsub_any ax ay az bx bY bz ha hb W
  have c11 := Lib.hid fun W => sum_no (ax + bx) (ay + bY) (az + bz) hs W
  have c12 := Lib.hid fun W => sum_ok (ax - bx) (ay - bY) (az - bz) hd W
  obtain ⟨rfl, rfl, rfl, rfl⟩ := f3 ha hb hs
  obtain ⟨rfl, rfl, rfl, rfl⟩ := g2 ha hb hd
  rw [chk1_ok ha] at c3
  rw [ha] at c4
  rw [hb] at c8
  clear ca cs f1 f2 f3 g1 g2 g3 ha hb hs hd
  generalize cmp3 ax ay az bx bY bz = R at *
  have tR : (R != R) = false := by simp
  generalize ax + bx = sx at *
  generalize ay + bY = sy at *
  generalize az + bz = sz at *
  generalize ax - bx = dx at *
  generalize ay - bY = dy at *
  generalize az - bz = dz at *
  go_enter Try.func3, Try.ntmps3
  go_wp2_with fail
  refine (c0.out _).mono ?_
  rintro e w1 ⟨rfl, hb1⟩
  have HH1 := Lib.hid (((((Blks.nil (w := w))).new (w.heap.size) 23 [.int .i64 ax, .int .i64 ay, .int .i64 az] rfl).new (w.heap.size + 1) 23 [.int .i64 bx, .int .i64 bY, .int .i64 bz] (by simp)).below hb1)
  have HB1 := Lib.hid (below_trans (below_alloc (below_alloc (Below.refl _ _) _) _) hb1)
  clear hb1
  have B1_0 : Blk w1 (w.heap.size) 23 #[.int .i64 ax, .int .i64 ay, .int .i64 az] := HH1.out (w.heap.size, 23, [.int .i64 ax, .int .i64 ay, .int .i64 az]) (by simp)
  have k1_0_0 : w1.cell? ⟨w.heap.size, 0, none⟩ = some (.int .i64 ax) := B1_0.cell 0
  have k1_0_1 : w1.cell? ⟨w.heap.size, 1, none⟩ = some (.int .i64 ay) := B1_0.cell 1
  have k1_0_2 : w1.cell? ⟨w.heap.size, 2, none⟩ = some (.int .i64 az) := B1_0.cell 2
  have z1_0 : w.heap.size < w1.heap.size := B1_0.lt
  clear B1_0
  have B1_1 : Blk w1 (w.heap.size + 1) 23 #[.int .i64 bx, .int .i64 bY, .int .i64 bz] := HH1.out (w.heap.size + 1, 23, [.int .i64 bx, .int .i64 bY, .int .i64 bz]) (by simp)
  have k1_1_0 : w1.cell? ⟨w.heap.size + 1, 0, none⟩ = some (.int .i64 bx) := B1_1.cell 0
  have k1_1_1 : w1.cell? ⟨w.heap.size + 1, 1, none⟩ = some (.int .i64 bY) := B1_1.cell 1
  have k1_1_2 : w1.cell? ⟨w.heap.size + 1, 2, none⟩ = some (.int .i64 bz) := B1_1.cell 2
  have z1_1 : w.heap.size + 1 < w1.heap.size := B1_1.lt
  clear B1_1
  go_wp2_with fail
  refine (c1.out _).mono ?_
  rintro e w2 ⟨rfl, hb2⟩
  have HH2 := Lib.hid ((HH1.out).below hb2)
  have HB2 := Lib.hid (below_trans (HB1.out) hb2)
  clear k1_0_0 k1_0_1 k1_0_2 z1_0 k1_1_0 k1_1_1 k1_1_2 z1_1
  clear hb2
  clear HH1 HB1
  have B2_0 : Blk w2 (w.heap.size) 23 #[.int .i64 ax, .int .i64 ay, .int .i64 az] := HH2.out (w.heap.size, 23, [.int .i64 ax, .int .i64 ay, .int .i64 az]) (by simp)
  have k2_0_0 : w2.cell? ⟨w.heap.size, 0, none⟩ = some (.int .i64 ax) := B2_0.cell 0
  have k2_0_1 : w2.cell? ⟨w.heap.size, 1, none⟩ = some (.int .i64 ay) := B2_0.cell 1
  have k2_0_2 : w2.cell? ⟨w.heap.size, 2, none⟩ = some (.int .i64 az) := B2_0.cell 2
  have z2_0 : w.heap.size < w2.heap.size := B2_0.lt
  clear B2_0
  have B2_1 : Blk w2 (w.heap.size + 1) 23 #[.int .i64 bx, .int .i64 bY, .int .i64 bz] := HH2.out (w.heap.size + 1, 23, [.int .i64 bx, .int .i64 bY, .int .i64 bz]) (by simp)
  have k2_1_0 : w2.cell? ⟨w.heap.size + 1, 0, none⟩ = some (.int .i64 bx) := B2_1.cell 0
  have k2_1_1 : w2.cell? ⟨w.heap.size + 1, 1, none⟩ = some (.int .i64 bY) := B2_1.cell 1
  have k2_1_2 : w2.cell? ⟨w.heap.size + 1, 2, none⟩ = some (.int .i64 bz) := B2_1.cell 2
  have z2_1 : w.heap.size + 1 < w2.heap.size := B2_1.lt
  clear B2_1
  go_wp2_with fail
  refine (c2.out _).mono ?_
  rintro e w3 ⟨rfl, hb3⟩
  have HH3 := Lib.hid (((HH2.out).new (w2.heap.size) 23 [.int .i64 0, .int .i64 0, .int .i64 0] rfl).below hb3)
  have HB3 := Lib.hid (below_trans (below_alloc (HB2.out) _) hb3)
  clear k2_0_0 k2_0_1 k2_0_2 z2_0 k2_1_0 k2_1_1 k2_1_2 z2_1
  clear hb3
  clear HH2 HB2
  have B3_0 : Blk w3 (w.heap.size) 23 #[.int .i64 ax, .int .i64 ay, .int .i64 az] := HH3.out (w.heap.size, 23, [.int .i64 ax, .int .i64 ay, .int .i64 az]) (by simp)
  have k3_0_0 : w3.cell? ⟨w.heap.size, 0, none⟩ = some (.int .i64 ax) := B3_0.cell 0
  have k3_0_1 : w3.cell? ⟨w.heap.size, 1, none⟩ = some (.int .i64 ay) := B3_0.cell 1
  have k3_0_2 : w3.cell? ⟨w.heap.size, 2, none⟩ = some (.int .i64 az) := B3_0.cell 2
  have z3_0 : w.heap.size < w3.heap.size := B3_0.lt
  clear B3_0
  have B3_1 : Blk w3 (w.heap.size + 1) 23 #[.int .i64 bx, .int .i64 bY, .int .i64 bz] := HH3.out (w.heap.size + 1, 23, [.int .i64 bx, .int .i64 bY, .int .i64 bz]) (by simp)
  have k3_1_0 : w3.cell? ⟨w.heap.size + 1, 0, none⟩ = some (.int .i64 bx) := B3_1.cell 0
  have k3_1_1 : w3.cell? ⟨w.heap.size + 1, 1, none⟩ = some (.int .i64 bY) := B3_1.cell 1
  have k3_1_2 : w3.cell? ⟨w.heap.size + 1, 2, none⟩ = some (.int .i64 bz) := B3_1.cell 2
  have z3_1 : w.heap.size + 1 < w3.heap.size := B3_1.lt
  clear B3_1
  have B3_2 : Blk w3 (w2.heap.size) 23 #[.int .i64 0, .int .i64 0, .int .i64 0] := HH3.out (w2.heap.size, 23, [.int .i64 0, .int .i64 0, .int .i64 0]) (by simp)
  have k3_2_0 : w3.cell? ⟨w2.heap.size, 0, none⟩ = some (.int .i64 0) := B3_2.cell 0
  have k3_2_1 : w3.cell? ⟨w2.heap.size, 1, none⟩ = some (.int .i64 0) := B3_2.cell 1
  have k3_2_2 : w3.cell? ⟨w2.heap.size, 2, none⟩ = some (.int .i64 0) := B3_2.cell 2
  have z3_2 : w2.heap.size < w3.heap.size := B3_2.lt
  clear B3_2
  go_upto_region 5 with fail
  have HHq : Blks ((w3).alloc (.cells #[.int .i64 dx, .int .i64 dy, .int .i64 dz] 23)) [(w3.heap.size, 23, [.int .i64 dx, .int .i64 dy, .int .i64 dz]), (w2.heap.size, 23, [.int .i64 0, .int .i64 0, .int .i64 0]), (w.heap.size + 1, 23, [.int .i64 bx, .int .i64 bY, .int .i64 bz]), (w.heap.size, 23, [.int .i64 ax, .int .i64 ay, .int .i64 az])] := (HH3.out).new (w3.heap.size) 23 [.int .i64 dx, .int .i64 dy, .int .i64 dz] rfl
  have HBq : Below w.heap.size w ((w3).alloc (.cells #[.int .i64 dx, .int .i64 dy, .int .i64 dz] 23)) := below_alloc (HB3.out) _
  clear k3_0_0 k3_0_1 k3_0_2 z3_0 k3_1_0 k3_1_1 k3_1_2 z3_1 k3_2_0 k3_2_1 k3_2_2 z3_2
  clear HH3 HB3
  obtain ⟨w4, hw4⟩ : ∃ w4 : World, w4 = (w3).alloc (.cells #[.int .i64 dx, .int .i64 dy, .int .i64 dz] 23) := ⟨_, rfl⟩
  rw [← hw4] at HHq HBq ⊢
  have HH4 := Lib.hid HHq
  have HB4 := Lib.hid HBq
  clear hw4 HHq HBq
  have B4_0 : Blk w4 (w.heap.size) 23 #[.int .i64 ax, .int .i64 ay, .int .i64 az] := HH4.out (w.heap.size, 23, [.int .i64 ax, .int .i64 ay, .int .i64 az]) (by simp)
  have k4_0_0 : w4.cell? ⟨w.heap.size, 0, none⟩ = some (.int .i64 ax) := B4_0.cell 0
  have k4_0_1 : w4.cell? ⟨w.heap.size, 1, none⟩ = some (.int .i64 ay) := B4_0.cell 1
  have k4_0_2 : w4.cell? ⟨w.heap.size, 2, none⟩ = some (.int .i64 az) := B4_0.cell 2
  have z4_0 : w.heap.size < w4.heap.size := B4_0.lt
  clear B4_0
  have B4_1 : Blk w4 (w.heap.size + 1) 23 #[.int .i64 bx, .int .i64 bY, .int .i64 bz] := HH4.out (w.heap.size + 1, 23, [.int .i64 bx, .int .i64 bY, .int .i64 bz]) (by simp)
  have k4_1_0 : w4.cell? ⟨w.heap.size + 1, 0, none⟩ = some (.int .i64 bx) := B4_1.cell 0
  have k4_1_1 : w4.cell? ⟨w.heap.size + 1, 1, none⟩ = some (.int .i64 bY) := B4_1.cell 1
  have k4_1_2 : w4.cell? ⟨w.heap.size + 1, 2, none⟩ = some (.int .i64 bz) := B4_1.cell 2
  have z4_1 : w.heap.size + 1 < w4.heap.size := B4_1.lt
  clear B4_1
  have B4_2 : Blk w4 (w2.heap.size) 23 #[.int .i64 0, .int .i64 0, .int .i64 0] := HH4.out (w2.heap.size, 23, [.int .i64 0, .int .i64 0, .int .i64 0]) (by simp)
  have k4_2_0 : w4.cell? ⟨w2.heap.size, 0, none⟩ = some (.int .i64 0) := B4_2.cell 0
  have k4_2_1 : w4.cell? ⟨w2.heap.size, 1, none⟩ = some (.int .i64 0) := B4_2.cell 1
  have k4_2_2 : w4.cell? ⟨w2.heap.size, 2, none⟩ = some (.int .i64 0) := B4_2.cell 2
  have z4_2 : w2.heap.size < w4.heap.size := B4_2.lt
  clear B4_2
  have B4_3 : Blk w4 (w3.heap.size) 23 #[.int .i64 dx, .int .i64 dy, .int .i64 dz] := HH4.out (w3.heap.size, 23, [.int .i64 dx, .int .i64 dy, .int .i64 dz]) (by simp)
  have k4_3_0 : w4.cell? ⟨w3.heap.size, 0, none⟩ = some (.int .i64 dx) := B4_3.cell 0
  have k4_3_1 : w4.cell? ⟨w3.heap.size, 1, none⟩ = some (.int .i64 dy) := B4_3.cell 1
  have k4_3_2 : w4.cell? ⟨w3.heap.size, 2, none⟩ = some (.int .i64 dz) := B4_3.cell 2
  have z4_3 : w3.heap.size < w4.heap.size := B4_3.lt
  clear B4_3
  have HHp := HH4.out
  have HBp := HB4.out
  refine wp_region_held_drew (S := fun w' => w'.cell? ⟨w.heap.size, 0, none⟩ = some (.int .i64 ax) ∧ w'.cell? ⟨w.heap.size, 1, none⟩ = some (.int .i64 ay) ∧ w'.cell? ⟨w.heap.size, 2, none⟩ = some (.int .i64 az) ∧ w'.cell? ⟨w.heap.size + 1, 0, none⟩ = some (.int .i64 bx) ∧ w'.cell? ⟨w.heap.size + 1, 1, none⟩ = some (.int .i64 bY) ∧ w'.cell? ⟨w.heap.size + 1, 2, none⟩ = some (.int .i64 bz) ∧ w.heap.size < w'.heap.size ∧ w.heap.size + 1 < w'.heap.size ∧ Blks w' [(w3.heap.size, 23, [.int .i64 dx, .int .i64 dy, .int .i64 dz]), (w2.heap.size, 23, [.int .i64 0, .int .i64 0, .int .i64 0]), (w.heap.size + 1, 23, [.int .i64 bx, .int .i64 bY, .int .i64 bz]), (w.heap.size, 23, [.int .i64 ax, .int .i64 ay, .int .i64 az])] ∧ Below w.heap.size w w') (by kernel_rfl) ?_ (fun hH0 => ?_)
  · (try dsimp only)
    (go_split_ands; (repeat' apply And.intro) <;> (first | with_reducible assumption | (with_reducible refine Blks.drew ?_; with_reducible assumption) | (with_reducible refine Below.drew ?_; with_reducible assumption) | (simp only [World.cell?_drew, World.size_drew]; with_reducible assumption) | (with_reducible refine Blks.below ?_ hbm; with_reducible assumption) | (with_reducible refine below_trans ?_ hbm; with_reducible assumption) | (rw [hbm.cell (by first | assumption | (simp only [World.size_drew]; assumption))]; first | with_reducible assumption | (simp only [World.cell?_drew]; with_reducible assumption)) | (refine Nat.lt_of_lt_of_le ?_ hbm.size; first | with_reducible assumption | (simp only [World.size_drew]; with_reducible assumption))))
  clear k4_0_0 k4_0_1 k4_0_2 z4_0 k4_1_0 k4_1_1 k4_1_2 z4_1 k4_2_0 k4_2_1 k4_2_2 z4_2 k4_3_0 k4_3_1 k4_3_2 z4_3
  clear HHp HBp
  refine wpAnyH_take (i := 0) (oi := { dst := some 23, op := Go.Op.load 23 (Go.Operand.tmp 2), type := 23, pos := "law.go:28", after := #[], guard := none }) (v := ?_) rfl (by kernel_rfl) (by kernel_rfl) (by kernel_rfl) (fun _ _ _ h => h) (Or.inl ⟨by rfl, ?_⟩) (by assumption) ?_
  rotate_left
  focus
    intro wz hSw
    (try dsimp only at hSw)
    go_simp
    (try with_reducible rfl)
  (try simp only [Act.put, List.setIfInBounds_toArray, List.set_cons_zero, List.set_cons_succ])
  refine wpAnyH_take (i := 3) (oi := { dst := some 26, op := Go.Op.load 23 (Go.Operand.tmp 2), type := 23, pos := "law.go:28", after := #[], guard := none }) (v := ?_) rfl (by kernel_rfl) (by kernel_rfl) (by kernel_rfl) (fun _ _ _ h => h) (Or.inl ⟨by rfl, ?_⟩) (by assumption) ?_
  rotate_left
  focus
    intro wz hSw
    (try dsimp only at hSw)
    go_simp
    (try with_reducible rfl)
  (try simp only [Act.put, List.setIfInBounds_toArray, List.set_cons_zero, List.set_cons_succ])
  refine wpAnyH_ready (rs := [1]) (by kernel_rfl) (by simp) ?_
  refine AllReadyH.cons (o := { dst := some 24, op := Go.Op.call { callee := Go.Callee.value (Go.Operand.func 15), args := #[Go.Operand.tmp 23], argTypes := #[23] }, type := 25, pos := "law.go:28", after := #[{ on := 0, ground := Go.Ground.data }], guard := none }) rfl (fun K hK => ?_) AllReadyH.nil
  go_simp
  with_reducible refine (c3.out _).mono ?_
  rintro e w5 ⟨rfl, hbm⟩
  go_wp2_with fail
  refine hK.out _ _ ?_ (fun hH1 => ?_)
  · (try dsimp only)
    (go_split_ands; (repeat' apply And.intro) <;> (first | with_reducible assumption | (with_reducible refine Blks.drew ?_; with_reducible assumption) | (with_reducible refine Below.drew ?_; with_reducible assumption) | (simp only [World.cell?_drew, World.size_drew]; with_reducible assumption) | (with_reducible refine Blks.below ?_ hbm; with_reducible assumption) | (with_reducible refine below_trans ?_ hbm; with_reducible assumption) | (rw [hbm.cell (by first | assumption | (simp only [World.size_drew]; assumption))]; first | with_reducible assumption | (simp only [World.cell?_drew]; with_reducible assumption)) | (refine Nat.lt_of_lt_of_le ?_ hbm.size; first | with_reducible assumption | (simp only [World.size_drew]; with_reducible assumption))))
  clear hK K hH0 hbm
  (try simp only [Act.put, List.setIfInBounds_toArray, List.set_cons_zero, List.set_cons_succ])
  refine wpAnyH_take (i := 2) (oi := { dst := some 25, op := Go.Op.binOp Go.BinOp.eql 25 (Go.Operand.tmp 24) (Go.Operand.const (Go.Value.int Go.IntKind.i64 0)) 25, type := 4, pos := "law.go:28", after := #[{ on := 1, ground := Go.Ground.data }], guard := none }) (v := ?_) rfl (by kernel_rfl) (by kernel_rfl) (by kernel_rfl) (fun _ _ _ h => h) (Or.inl ⟨by rfl, ?_⟩) (by assumption) ?_
  rotate_left
  focus
    intro wz hSw
    (try dsimp only at hSw)
    go_simp
    (try with_reducible rfl)
  (try simp only [Act.put, List.setIfInBounds_toArray, List.set_cons_zero, List.set_cons_succ])
  refine wpAnyH_ready (rs := [4]) (by kernel_rfl) (by simp) ?_
  refine AllReadyH.cons (o := { dst := some 27, op := Go.Op.call { callee := Go.Callee.value (Go.Operand.func 16), args := #[Go.Operand.tmp 26], argTypes := #[23] }, type := 4, pos := "law.go:28", after := #[{ on := 3, ground := Go.Ground.data }, { on := 1, ground := Go.Ground.chain }], guard := none }) rfl (fun K hK => ?_) AllReadyH.nil
  go_simp
  with_reducible refine (c4.out _).mono ?_
  rintro e w6 ⟨rfl, hbm⟩
  go_wp2_with fail
  refine hK.out _ _ ?_ (fun hH2 => ?_)
  · (try dsimp only)
    (go_split_ands; (repeat' apply And.intro) <;> (first | with_reducible assumption | (with_reducible refine Blks.drew ?_; with_reducible assumption) | (with_reducible refine Below.drew ?_; with_reducible assumption) | (simp only [World.cell?_drew, World.size_drew]; with_reducible assumption) | (with_reducible refine Blks.below ?_ hbm; with_reducible assumption) | (with_reducible refine below_trans ?_ hbm; with_reducible assumption) | (rw [hbm.cell (by first | assumption | (simp only [World.size_drew]; assumption))]; first | with_reducible assumption | (simp only [World.cell?_drew]; with_reducible assumption)) | (refine Nat.lt_of_lt_of_le ?_ hbm.size; first | with_reducible assumption | (simp only [World.size_drew]; with_reducible assumption))))
  clear hK K hH1 hbm
  (try simp only [Act.put, List.setIfInBounds_toArray, List.set_cons_zero, List.set_cons_succ])
  refine wpAnyH_take (i := 5) (oi := { dst := some 28, op := Go.Op.binOp Go.BinOp.neq 4 (Go.Operand.tmp 25) (Go.Operand.tmp 27) 4, type := 4, pos := "law.go:28", after := #[{ on := 2, ground := Go.Ground.data }, { on := 4, ground := Go.Ground.data }], guard := none }) (v := ?_) rfl (by kernel_rfl) (by kernel_rfl) (by kernel_rfl) (fun _ _ _ h => h) (Or.inl ⟨by rfl, ?_⟩) (by assumption) ?_
  rotate_left
  focus
    intro wz hSw
    (try dsimp only at hSw)
    go_simp
    (try with_reducible rfl)
  (try simp only [Act.put, List.setIfInBounds_toArray, List.set_cons_zero, List.set_cons_succ])
  refine wpAnyH_take (i := 6) (oi := { dst := some 29, op := Go.Op.move (Go.Operand.tmp 28), type := 4, pos := "law.go:28", after := #[{ on := 5, ground := Go.Ground.data }, { on := 4, ground := Go.Ground.chain }], guard := none }) (v := ?_) rfl (by kernel_rfl) (by kernel_rfl) (by kernel_rfl) (fun _ _ _ h => h) (Or.inl ⟨by rfl, ?_⟩) (by assumption) ?_
  rotate_left
  focus
    intro wz hSw
    (try dsimp only at hSw)
    go_simp
    (try with_reducible rfl)
  (try simp only [Act.put, List.setIfInBounds_toArray, List.set_cons_zero, List.set_cons_succ])
  refine wpAnyH_take (i := 7) (oi := { dst := some 30, op := Go.Op.load 23 (Go.Operand.tmp 2), type := 23, pos := "law.go:28", after := #[{ on := 6, ground := Go.Ground.guard }], guard := some (6, false) }) (v := ?_) rfl (by kernel_rfl) (by kernel_rfl) (by kernel_rfl) (fun _ _ _ h => h) (Or.inl ⟨by rfl, ?_⟩) (by assumption) ?_
  rotate_left
  focus
    intro wz hSw
    (try dsimp only at hSw)
    go_simp
    (try with_reducible rfl)
  (try simp only [Act.put, List.setIfInBounds_toArray, List.set_cons_zero, List.set_cons_succ])
  refine wpAnyH_ready (rs := [8]) (by kernel_rfl) (by simp) ?_
  refine AllReadyH.cons (o := { dst := some 31, op := Go.Op.call { callee := Go.Callee.value (Go.Operand.func 15), args := #[Go.Operand.tmp 30], argTypes := #[23] }, type := 25, pos := "law.go:28", after := #[{ on := 7, ground := Go.Ground.data }, { on := 6, ground := Go.Ground.chain }, { on := 6, ground := Go.Ground.guard }], guard := some (6, false) }) rfl (fun K hK => ?_) AllReadyH.nil
  go_simp
  with_reducible refine (c3.out _).mono ?_
  rintro e w7 ⟨rfl, hbm⟩
  go_wp2_with fail
  refine hK.out _ _ ?_ (fun hH3 => ?_)
  · (try dsimp only)
    (go_split_ands; (repeat' apply And.intro) <;> (first | with_reducible assumption | (with_reducible refine Blks.drew ?_; with_reducible assumption) | (with_reducible refine Below.drew ?_; with_reducible assumption) | (simp only [World.cell?_drew, World.size_drew]; with_reducible assumption) | (with_reducible refine Blks.below ?_ hbm; with_reducible assumption) | (with_reducible refine below_trans ?_ hbm; with_reducible assumption) | (rw [hbm.cell (by first | assumption | (simp only [World.size_drew]; assumption))]; first | with_reducible assumption | (simp only [World.cell?_drew]; with_reducible assumption)) | (refine Nat.lt_of_lt_of_le ?_ hbm.size; first | with_reducible assumption | (simp only [World.size_drew]; with_reducible assumption))))
  clear hK K hH2 hbm
  (try simp only [Act.put, List.setIfInBounds_toArray, List.set_cons_zero, List.set_cons_succ])
  refine wpAnyH_take (i := 9) (oi := { dst := some 32, op := Go.Op.binOp Go.BinOp.neq 25 (Go.Operand.tmp 31) (Go.Operand.const (Go.Value.int Go.IntKind.i64 0)) 25, type := 4, pos := "law.go:28", after := #[{ on := 8, ground := Go.Ground.data }, { on := 6, ground := Go.Ground.guard }], guard := some (6, false) }) (v := ?_) rfl (by kernel_rfl) (by kernel_rfl) (by kernel_rfl) (fun _ _ _ h => h) (Or.inl ⟨by rfl, ?_⟩) (by assumption) ?_
  rotate_left
  focus
    intro wz hSw
    (try dsimp only at hSw)
    go_simp
    (try with_reducible rfl)
  (try simp only [Act.put, List.setIfInBounds_toArray, List.set_cons_zero, List.set_cons_succ])
  refine wpAnyH_take (i := 10) (oi := { dst := some 33, op := Go.Op.move (Go.Operand.tmp 32), type := 4, pos := "law.go:28", after := #[{ on := 9, ground := Go.Ground.data }, { on := 8, ground := Go.Ground.chain }, { on := 6, ground := Go.Ground.guard }], guard := some (6, false) }) (v := ?_) rfl (by kernel_rfl) (by kernel_rfl) (by kernel_rfl) (fun _ _ _ h => h) (Or.inl ⟨by rfl, ?_⟩) (by assumption) ?_
  rotate_left
  focus
    intro wz hSw
    (try dsimp only at hSw)
    go_simp
    (try with_reducible rfl)
  (try simp only [Act.put, List.setIfInBounds_toArray, List.set_cons_zero, List.set_cons_succ])
  refine wpAnyH_take (i := 11) (oi := { dst := some 34, op := Go.Op.load 23 (Go.Operand.tmp 2), type := 23, pos := "law.go:28", after := #[{ on := 10, ground := Go.Ground.guard }], guard := some (10, true) }) (v := undef) rfl (by kernel_rfl) (by kernel_rfl) (by kernel_rfl) (fun _ _ _ h => h) (Or.inr ⟨by rfl, rfl⟩) (by assumption) ?_
  (try simp only [Act.put, List.setIfInBounds_toArray, List.set_cons_zero, List.set_cons_succ])
  refine wpAnyH_take (i := 12) (oi := { dst := some 35, op := Go.Op.call { callee := Go.Callee.value (Go.Operand.func 15), args := #[Go.Operand.tmp 34], argTypes := #[23] }, type := 25, pos := "law.go:28", after := #[{ on := 11, ground := Go.Ground.data }, { on := 10, ground := Go.Ground.chain }, { on := 10, ground := Go.Ground.guard }], guard := some (10, true) }) (v := undef) rfl (by kernel_rfl) (by kernel_rfl) (by kernel_rfl) (fun _ _ _ h => h) (Or.inr ⟨by rfl, rfl⟩) (by assumption) ?_
  (try simp only [Act.put, List.setIfInBounds_toArray, List.set_cons_zero, List.set_cons_succ])
  refine wpAnyH_take (i := 13) (oi := { dst := some 36, op := Go.Op.binOp Go.BinOp.neq 25 (Go.Operand.tmp 35) (Go.Operand.const (Go.Value.int Go.IntKind.i64 6)) 25, type := 4, pos := "law.go:28", after := #[{ on := 12, ground := Go.Ground.data }, { on := 10, ground := Go.Ground.guard }], guard := some (10, true) }) (v := undef) rfl (by kernel_rfl) (by kernel_rfl) (by kernel_rfl) (fun _ _ _ h => h) (Or.inr ⟨by rfl, rfl⟩) (by assumption) ?_
  (try simp only [Act.put, List.setIfInBounds_toArray, List.set_cons_zero, List.set_cons_succ])
  refine wpAnyH_take (i := 14) (oi := { dst := some 37, op := Go.Op.pick (Go.Operand.tmp 33) (Go.Operand.tmp 36) (Go.Operand.const (Go.Value.bool false)), type := 4, pos := "law.go:28", after := #[{ on := 10, ground := Go.Ground.data }, { on := 13, ground := Go.Ground.data }, { on := 6, ground := Go.Ground.guard }], guard := some (6, false) }) (v := ?_) rfl (by kernel_rfl) (by kernel_rfl) (by kernel_rfl) (fun _ _ _ h => h) (Or.inl ⟨by rfl, ?_⟩) (by assumption) ?_
  rotate_left
  focus
    intro wz hSw
    (try dsimp only at hSw)
    go_simp
    (try with_reducible rfl)
  (try simp only [Act.put, List.setIfInBounds_toArray, List.set_cons_zero, List.set_cons_succ])
  refine wpAnyH_take (i := 15) (oi := { dst := some 38, op := Go.Op.pick (Go.Operand.tmp 29) (Go.Operand.const (Go.Value.bool true)) (Go.Operand.tmp 37), type := 4, pos := "law.go:28", after := #[{ on := 6, ground := Go.Ground.data }, { on := 14, ground := Go.Ground.data }], guard := none }) (v := ?_) rfl (by kernel_rfl) (by kernel_rfl) (by kernel_rfl) (fun _ _ _ h => h) (Or.inl ⟨by rfl, ?_⟩) (by assumption) ?_
  rotate_left
  focus
    intro wz hSw
    (try dsimp only at hSw)
    go_simp
    (try with_reducible rfl)
  (try simp only [Act.put, List.setIfInBounds_toArray, List.set_cons_zero, List.set_cons_succ])
  refine wpAnyH_take (i := 16) (oi := { dst := some 39, op := Go.Op.move (Go.Operand.tmp 38), type := 4, pos := "law.go:28", after := #[{ on := 15, ground := Go.Ground.data }, { on := 12, ground := Go.Ground.chain }], guard := none }) (v := ?_) rfl (by kernel_rfl) (by kernel_rfl) (by kernel_rfl) (fun _ _ _ h => h) (Or.inl ⟨by rfl, ?_⟩) (by assumption) ?_
  rotate_left
  focus
    intro wz hSw
    (try dsimp only at hSw)
    go_simp
    (try with_reducible rfl)
  (try simp only [Act.put, List.setIfInBounds_toArray, List.set_cons_zero, List.set_cons_succ])
  refine wpAnyH_take (i := 17) (oi := { dst := some 40, op := Go.Op.load 23 (Go.Operand.tmp 2), type := 23, pos := "law.go:28", after := #[{ on := 16, ground := Go.Ground.guard }], guard := some (16, false) }) (v := ?_) rfl (by kernel_rfl) (by kernel_rfl) (by kernel_rfl) (fun _ _ _ h => h) (Or.inl ⟨by rfl, ?_⟩) (by assumption) ?_
  rotate_left
  focus
    intro wz hSw
    (try dsimp only at hSw)
    go_simp
    (try with_reducible rfl)
  (try simp only [Act.put, List.setIfInBounds_toArray, List.set_cons_zero, List.set_cons_succ])
  refine wpAnyH_take (i := 18) (oi := { dst := some 41, op := Go.Op.load 23 (Go.Operand.tmp 3), type := 23, pos := "law.go:28", after := #[{ on := 16, ground := Go.Ground.guard }], guard := some (16, false) }) (v := ?_) rfl (by kernel_rfl) (by kernel_rfl) (by kernel_rfl) (fun _ _ _ h => h) (Or.inl ⟨by rfl, ?_⟩) (by assumption) ?_
  rotate_left
  focus
    intro wz hSw
    (try dsimp only at hSw)
    go_simp
    (try with_reducible rfl)
  (try simp only [Act.put, List.setIfInBounds_toArray, List.set_cons_zero, List.set_cons_succ])
  refine wpAnyH_take (i := 20) (oi := { dst := some 43, op := Go.Op.load 23 (Go.Operand.tmp 2), type := 23, pos := "law.go:28", after := #[{ on := 16, ground := Go.Ground.guard }], guard := some (16, false) }) (v := ?_) rfl (by kernel_rfl) (by kernel_rfl) (by kernel_rfl) (fun _ _ _ h => h) (Or.inl ⟨by rfl, ?_⟩) (by assumption) ?_
  rotate_left
  focus
    intro wz hSw
    (try dsimp only at hSw)
    go_simp
    (try with_reducible rfl)
  (try simp only [Act.put, List.setIfInBounds_toArray, List.set_cons_zero, List.set_cons_succ])
  refine wpAnyH_take (i := 21) (oi := { dst := some 44, op := Go.Op.load 23 (Go.Operand.tmp 3), type := 23, pos := "law.go:28", after := #[{ on := 16, ground := Go.Ground.guard }], guard := some (16, false) }) (v := ?_) rfl (by kernel_rfl) (by kernel_rfl) (by kernel_rfl) (fun _ _ _ h => h) (Or.inl ⟨by rfl, ?_⟩) (by assumption) ?_
  rotate_left
  focus
    intro wz hSw
    (try dsimp only at hSw)
    go_simp
    (try with_reducible rfl)
  (try simp only [Act.put, List.setIfInBounds_toArray, List.set_cons_zero, List.set_cons_succ])
  refine wpAnyH_ready (rs := [19]) (by kernel_rfl) (by simp) ?_
  refine AllReadyH.cons (o := { dst := some 42, op := Go.Op.call { callee := Go.Callee.value (Go.Operand.func 17), args := #[Go.Operand.tmp 40, Go.Operand.tmp 41], argTypes := #[23, 23] }, type := 3, pos := "law.go:28", after := #[{ on := 17, ground := Go.Ground.data }, { on := 18, ground := Go.Ground.data }, { on := 16, ground := Go.Ground.chain }, { on := 16, ground := Go.Ground.guard }], guard := some (16, false) }) rfl (fun K hK => ?_) AllReadyH.nil
  go_simp
  with_reducible refine (c5.out _).mono ?_
  rintro e w8 ⟨rfl, hbm⟩
  go_wp2_with fail
  refine hK.out _ _ ?_ (fun hH4 => ?_)
  · (try dsimp only)
    (go_split_ands; (repeat' apply And.intro) <;> (first | with_reducible assumption | (with_reducible refine Blks.drew ?_; with_reducible assumption) | (with_reducible refine Below.drew ?_; with_reducible assumption) | (simp only [World.cell?_drew, World.size_drew]; with_reducible assumption) | (with_reducible refine Blks.below ?_ hbm; with_reducible assumption) | (with_reducible refine below_trans ?_ hbm; with_reducible assumption) | (rw [hbm.cell (by first | assumption | (simp only [World.size_drew]; assumption))]; first | with_reducible assumption | (simp only [World.cell?_drew]; with_reducible assumption)) | (refine Nat.lt_of_lt_of_le ?_ hbm.size; first | with_reducible assumption | (simp only [World.size_drew]; with_reducible assumption))))
  clear hK K hH3 hbm
  (try simp only [Act.put, List.setIfInBounds_toArray, List.set_cons_zero, List.set_cons_succ])
  refine wpAnyH_ready (rs := [22]) (by kernel_rfl) (by simp) ?_
  refine AllReadyH.cons (o := { dst := some 45, op := Go.Op.call { callee := Go.Callee.value (Go.Operand.func 18), args := #[Go.Operand.tmp 43, Go.Operand.tmp 44], argTypes := #[23, 23] }, type := 3, pos := "law.go:28", after := #[{ on := 20, ground := Go.Ground.data }, { on := 21, ground := Go.Ground.data }, { on := 19, ground := Go.Ground.chain }, { on := 16, ground := Go.Ground.guard }], guard := some (16, false) }) rfl (fun K hK => ?_) AllReadyH.nil
  go_simp
  with_reducible refine (c6.out _).mono ?_
  rintro e w9 ⟨rfl, hbm⟩
  go_wp2_with fail
  refine hK.out _ _ ?_ (fun hH5 => ?_)
  · (try dsimp only)
    (go_split_ands; (repeat' apply And.intro) <;> (first | with_reducible assumption | (with_reducible refine Blks.drew ?_; with_reducible assumption) | (with_reducible refine Below.drew ?_; with_reducible assumption) | (simp only [World.cell?_drew, World.size_drew]; with_reducible assumption) | (with_reducible refine Blks.below ?_ hbm; with_reducible assumption) | (with_reducible refine below_trans ?_ hbm; with_reducible assumption) | (rw [hbm.cell (by first | assumption | (simp only [World.size_drew]; assumption))]; first | with_reducible assumption | (simp only [World.cell?_drew]; with_reducible assumption)) | (refine Nat.lt_of_lt_of_le ?_ hbm.size; first | with_reducible assumption | (simp only [World.size_drew]; with_reducible assumption))))
  clear hK K hH4 hbm
  (try simp only [Act.put, List.setIfInBounds_toArray, List.set_cons_zero, List.set_cons_succ])
  refine wpAnyH_take (i := 23) (oi := { dst := some 46, op := Go.Op.binOp Go.BinOp.neq 3 (Go.Operand.tmp 42) (Go.Operand.tmp 45) 3, type := 4, pos := "law.go:28", after := #[{ on := 19, ground := Go.Ground.data }, { on := 22, ground := Go.Ground.data }, { on := 16, ground := Go.Ground.guard }], guard := some (16, false) }) (v := ?_) rfl (by kernel_rfl) (by kernel_rfl) (by kernel_rfl) (fun _ _ _ h => h) (Or.inl ⟨by rfl, ?_⟩) (by assumption) ?_
  rotate_left
  focus
    intro wz hSw
    (try dsimp only at hSw)
    go_simp
    (try with_reducible rfl)
  (try simp only [Act.put, List.setIfInBounds_toArray, List.set_cons_zero, List.set_cons_succ])
  refine wpAnyH_take (i := 24) (oi := { dst := some 47, op := Go.Op.pick (Go.Operand.tmp 39) (Go.Operand.const (Go.Value.bool true)) (Go.Operand.tmp 46), type := 4, pos := "law.go:28", after := #[{ on := 16, ground := Go.Ground.data }, { on := 23, ground := Go.Ground.data }], guard := none }) (v := ?_) rfl (by kernel_rfl) (by kernel_rfl) (by kernel_rfl) (fun _ _ _ h => h) (Or.inl ⟨by rfl, ?_⟩) (by assumption) ?_
  rotate_left
  focus
    intro wz hSw
    (try dsimp only at hSw)
    go_simp
    (try with_reducible rfl)
  (try simp only [Act.put, List.setIfInBounds_toArray, List.set_cons_zero, List.set_cons_succ])
  refine wpAnyH_done (by kernel_rfl) ?_ _
  go_split_ands
  have HHn : Blks w9 [(w3.heap.size, 23, [.int .i64 dx, .int .i64 dy, .int .i64 dz]), (w2.heap.size, 23, [.int .i64 0, .int .i64 0, .int .i64 0]), (w.heap.size + 1, 23, [.int .i64 bx, .int .i64 bY, .int .i64 bz]), (w.heap.size, 23, [.int .i64 ax, .int .i64 ay, .int .i64 az])] := by assumption
  have HBn : Below w.heap.size w w9 := by assumption
  clear HH4 HB4
  have HH9 := Lib.hid HHn
  have HB9 := Lib.hid HBn
  clear HHn HBn
  have B9_0 : Blk w9 (w.heap.size) 23 #[.int .i64 ax, .int .i64 ay, .int .i64 az] := HH9.out (w.heap.size, 23, [.int .i64 ax, .int .i64 ay, .int .i64 az]) (by simp)
  have k9_0_0 : w9.cell? ⟨w.heap.size, 0, none⟩ = some (.int .i64 ax) := B9_0.cell 0
  have k9_0_1 : w9.cell? ⟨w.heap.size, 1, none⟩ = some (.int .i64 ay) := B9_0.cell 1
  have k9_0_2 : w9.cell? ⟨w.heap.size, 2, none⟩ = some (.int .i64 az) := B9_0.cell 2
  have z9_0 : w.heap.size < w9.heap.size := B9_0.lt
  clear B9_0
  have B9_1 : Blk w9 (w.heap.size + 1) 23 #[.int .i64 bx, .int .i64 bY, .int .i64 bz] := HH9.out (w.heap.size + 1, 23, [.int .i64 bx, .int .i64 bY, .int .i64 bz]) (by simp)
  have k9_1_0 : w9.cell? ⟨w.heap.size + 1, 0, none⟩ = some (.int .i64 bx) := B9_1.cell 0
  have k9_1_1 : w9.cell? ⟨w.heap.size + 1, 1, none⟩ = some (.int .i64 bY) := B9_1.cell 1
  have k9_1_2 : w9.cell? ⟨w.heap.size + 1, 2, none⟩ = some (.int .i64 bz) := B9_1.cell 2
  have z9_1 : w.heap.size + 1 < w9.heap.size := B9_1.lt
  clear B9_1
  have B9_2 : Blk w9 (w2.heap.size) 23 #[.int .i64 0, .int .i64 0, .int .i64 0] := HH9.out (w2.heap.size, 23, [.int .i64 0, .int .i64 0, .int .i64 0]) (by simp)
  have k9_2_0 : w9.cell? ⟨w2.heap.size, 0, none⟩ = some (.int .i64 0) := B9_2.cell 0
  have k9_2_1 : w9.cell? ⟨w2.heap.size, 1, none⟩ = some (.int .i64 0) := B9_2.cell 1
  have k9_2_2 : w9.cell? ⟨w2.heap.size, 2, none⟩ = some (.int .i64 0) := B9_2.cell 2
  have z9_2 : w2.heap.size < w9.heap.size := B9_2.lt
  clear B9_2
  have B9_3 : Blk w9 (w3.heap.size) 23 #[.int .i64 dx, .int .i64 dy, .int .i64 dz] := HH9.out (w3.heap.size, 23, [.int .i64 dx, .int .i64 dy, .int .i64 dz]) (by simp)
  have k9_3_0 : w9.cell? ⟨w3.heap.size, 0, none⟩ = some (.int .i64 dx) := B9_3.cell 0
  have k9_3_1 : w9.cell? ⟨w3.heap.size, 1, none⟩ = some (.int .i64 dy) := B9_3.cell 1
  have k9_3_2 : w9.cell? ⟨w3.heap.size, 2, none⟩ = some (.int .i64 dz) := B9_3.cell 2
  have z9_3 : w3.heap.size < w9.heap.size := B9_3.lt
  clear B9_3
  go_wp2_with fail
  refine (c4.out _).mono ?_
  rintro e w10 ⟨rfl, hb10⟩
  have HH10 := Lib.hid ((HH9.out).below hb10)
  have HB10 := Lib.hid (below_trans (HB9.out) hb10)
  clear k9_0_0 k9_0_1 k9_0_2 z9_0 k9_1_0 k9_1_1 k9_1_2 z9_1 k9_2_0 k9_2_1 k9_2_2 z9_2 k9_3_0 k9_3_1 k9_3_2 z9_3
  clear hb10
  clear HH9 HB9
  have B10_0 : Blk w10 (w.heap.size) 23 #[.int .i64 ax, .int .i64 ay, .int .i64 az] := HH10.out (w.heap.size, 23, [.int .i64 ax, .int .i64 ay, .int .i64 az]) (by simp)
  have k10_0_0 : w10.cell? ⟨w.heap.size, 0, none⟩ = some (.int .i64 ax) := B10_0.cell 0
  have k10_0_1 : w10.cell? ⟨w.heap.size, 1, none⟩ = some (.int .i64 ay) := B10_0.cell 1
  have k10_0_2 : w10.cell? ⟨w.heap.size, 2, none⟩ = some (.int .i64 az) := B10_0.cell 2
  have z10_0 : w.heap.size < w10.heap.size := B10_0.lt
  clear B10_0
  have B10_1 : Blk w10 (w.heap.size + 1) 23 #[.int .i64 bx, .int .i64 bY, .int .i64 bz] := HH10.out (w.heap.size + 1, 23, [.int .i64 bx, .int .i64 bY, .int .i64 bz]) (by simp)
  have k10_1_0 : w10.cell? ⟨w.heap.size + 1, 0, none⟩ = some (.int .i64 bx) := B10_1.cell 0
  have k10_1_1 : w10.cell? ⟨w.heap.size + 1, 1, none⟩ = some (.int .i64 bY) := B10_1.cell 1
  have k10_1_2 : w10.cell? ⟨w.heap.size + 1, 2, none⟩ = some (.int .i64 bz) := B10_1.cell 2
  have z10_1 : w.heap.size + 1 < w10.heap.size := B10_1.lt
  clear B10_1
  have B10_2 : Blk w10 (w2.heap.size) 23 #[.int .i64 0, .int .i64 0, .int .i64 0] := HH10.out (w2.heap.size, 23, [.int .i64 0, .int .i64 0, .int .i64 0]) (by simp)
  have k10_2_0 : w10.cell? ⟨w2.heap.size, 0, none⟩ = some (.int .i64 0) := B10_2.cell 0
  have k10_2_1 : w10.cell? ⟨w2.heap.size, 1, none⟩ = some (.int .i64 0) := B10_2.cell 1
  have k10_2_2 : w10.cell? ⟨w2.heap.size, 2, none⟩ = some (.int .i64 0) := B10_2.cell 2
  have z10_2 : w2.heap.size < w10.heap.size := B10_2.lt
  clear B10_2
  have B10_3 : Blk w10 (w3.heap.size) 23 #[.int .i64 dx, .int .i64 dy, .int .i64 dz] := HH10.out (w3.heap.size, 23, [.int .i64 dx, .int .i64 dy, .int .i64 dz]) (by simp)
  have k10_3_0 : w10.cell? ⟨w3.heap.size, 0, none⟩ = some (.int .i64 dx) := B10_3.cell 0
  have k10_3_1 : w10.cell? ⟨w3.heap.size, 1, none⟩ = some (.int .i64 dy) := B10_3.cell 1
  have k10_3_2 : w10.cell? ⟨w3.heap.size, 2, none⟩ = some (.int .i64 dz) := B10_3.cell 2
  have z10_3 : w3.heap.size < w10.heap.size := B10_3.lt
  clear B10_3
  go_wp2_with fail
  refine (c8.out _).mono ?_
  rintro e w11 ⟨rfl, hb11⟩
  have HH11 := Lib.hid ((HH10.out).below hb11)
  have HB11 := Lib.hid (below_trans (HB10.out) hb11)
  clear k10_0_0 k10_0_1 k10_0_2 z10_0 k10_1_0 k10_1_1 k10_1_2 z10_1 k10_2_0 k10_2_1 k10_2_2 z10_2 k10_3_0 k10_3_1 k10_3_2 z10_3
  clear hb11
  clear HH10 HB10
  have B11_0 : Blk w11 (w.heap.size) 23 #[.int .i64 ax, .int .i64 ay, .int .i64 az] := HH11.out (w.heap.size, 23, [.int .i64 ax, .int .i64 ay, .int .i64 az]) (by simp)
  have k11_0_0 : w11.cell? ⟨w.heap.size, 0, none⟩ = some (.int .i64 ax) := B11_0.cell 0
  have k11_0_1 : w11.cell? ⟨w.heap.size, 1, none⟩ = some (.int .i64 ay) := B11_0.cell 1
  have k11_0_2 : w11.cell? ⟨w.heap.size, 2, none⟩ = some (.int .i64 az) := B11_0.cell 2
  have z11_0 : w.heap.size < w11.heap.size := B11_0.lt
  clear B11_0
  have B11_1 : Blk w11 (w.heap.size + 1) 23 #[.int .i64 bx, .int .i64 bY, .int .i64 bz] := HH11.out (w.heap.size + 1, 23, [.int .i64 bx, .int .i64 bY, .int .i64 bz]) (by simp)
  have k11_1_0 : w11.cell? ⟨w.heap.size + 1, 0, none⟩ = some (.int .i64 bx) := B11_1.cell 0
  have k11_1_1 : w11.cell? ⟨w.heap.size + 1, 1, none⟩ = some (.int .i64 bY) := B11_1.cell 1
  have k11_1_2 : w11.cell? ⟨w.heap.size + 1, 2, none⟩ = some (.int .i64 bz) := B11_1.cell 2
  have z11_1 : w.heap.size + 1 < w11.heap.size := B11_1.lt
  clear B11_1
  have B11_2 : Blk w11 (w2.heap.size) 23 #[.int .i64 0, .int .i64 0, .int .i64 0] := HH11.out (w2.heap.size, 23, [.int .i64 0, .int .i64 0, .int .i64 0]) (by simp)
  have k11_2_0 : w11.cell? ⟨w2.heap.size, 0, none⟩ = some (.int .i64 0) := B11_2.cell 0
  have k11_2_1 : w11.cell? ⟨w2.heap.size, 1, none⟩ = some (.int .i64 0) := B11_2.cell 1
  have k11_2_2 : w11.cell? ⟨w2.heap.size, 2, none⟩ = some (.int .i64 0) := B11_2.cell 2
  have z11_2 : w2.heap.size < w11.heap.size := B11_2.lt
  clear B11_2
  have B11_3 : Blk w11 (w3.heap.size) 23 #[.int .i64 dx, .int .i64 dy, .int .i64 dz] := HH11.out (w3.heap.size, 23, [.int .i64 dx, .int .i64 dy, .int .i64 dz]) (by simp)
  have k11_3_0 : w11.cell? ⟨w3.heap.size, 0, none⟩ = some (.int .i64 dx) := B11_3.cell 0
  have k11_3_1 : w11.cell? ⟨w3.heap.size, 1, none⟩ = some (.int .i64 dy) := B11_3.cell 1
  have k11_3_2 : w11.cell? ⟨w3.heap.size, 2, none⟩ = some (.int .i64 dz) := B11_3.cell 2
  have z11_3 : w3.heap.size < w11.heap.size := B11_3.lt
  clear B11_3
  have tok1 : True := trivial
  go_upto_region 9 with fail
  have HHp := HH11.out
  have HBp := HB11.out
  first
    | go_region_held3 (fun w' => w'.cell? ⟨w.heap.size, 0, none⟩ = some (.int .i64 ax) ∧ w'.cell? ⟨w.heap.size, 1, none⟩ = some (.int .i64 ay) ∧ w'.cell? ⟨w.heap.size, 2, none⟩ = some (.int .i64 az) ∧ w'.cell? ⟨w.heap.size + 1, 0, none⟩ = some (.int .i64 bx) ∧ w'.cell? ⟨w.heap.size + 1, 1, none⟩ = some (.int .i64 bY) ∧ w'.cell? ⟨w.heap.size + 1, 2, none⟩ = some (.int .i64 bz) ∧ w'.cell? ⟨w2.heap.size, 0, none⟩ = some (.int .i64 0) ∧ w'.cell? ⟨w2.heap.size, 1, none⟩ = some (.int .i64 0) ∧ w'.cell? ⟨w2.heap.size, 2, none⟩ = some (.int .i64 0) ∧ w'.cell? ⟨w3.heap.size, 0, none⟩ = some (.int .i64 dx) ∧ w'.cell? ⟨w3.heap.size, 1, none⟩ = some (.int .i64 dy) ∧ w'.cell? ⟨w3.heap.size, 2, none⟩ = some (.int .i64 dz) ∧ w.heap.size < w'.heap.size ∧ w.heap.size + 1 < w'.heap.size ∧ w2.heap.size < w'.heap.size ∧ w3.heap.size < w'.heap.size ∧ Blks w' [(w3.heap.size, 23, [.int .i64 dx, .int .i64 dy, .int .i64 dz]), (w2.heap.size, 23, [.int .i64 0, .int .i64 0, .int .i64 0]), (w.heap.size + 1, 23, [.int .i64 bx, .int .i64 bY, .int .i64 bz]), (w.heap.size, 23, [.int .i64 ax, .int .i64 ay, .int .i64 az])] ∧ Below w.heap.size w w')
      ((go_split_ands; (repeat' apply And.intro) <;> (first | with_reducible assumption | (with_reducible refine Blks.drew ?_; with_reducible assumption) | (with_reducible refine Below.drew ?_; with_reducible assumption) | (simp only [World.cell?_drew, World.size_drew]; with_reducible assumption) | (with_reducible refine Blks.below ?_ hbm; with_reducible assumption) | (with_reducible refine below_trans ?_ hbm; with_reducible assumption) | (rw [hbm.cell (by first | assumption | (simp only [World.size_drew]; assumption))]; first | with_reducible assumption | (simp only [World.cell?_drew]; with_reducible assumption)) | (refine Nat.lt_of_lt_of_le ?_ hbm.size; first | with_reducible assumption | (simp only [World.size_drew]; with_reducible assumption)))))
      ((first
        | (go_at_call 20; with_reducible refine (c9.out _).mono ?_; rintro e w12 ⟨rfl, hbm⟩)
        | (go_at_call 21; with_reducible refine (c10.out _).mono ?_; rintro e w12 ⟨rfl, hbm⟩)
        | (go_at_call 19; have _t := tok1; with_reducible refine (c11.out _).mono ?_; clear tok1 _t; rintro e w12 ⟨rfl, hbm⟩)
        | (go_at_call 19; with_reducible refine (c12.out _).mono ?_; rintro e w12 ⟨rfl, hbm⟩)))
    | fail
  go_split_ands
  have HH12 : Blks w12 [(w3.heap.size, 23, [.int .i64 dx, .int .i64 dy, .int .i64 dz]), (w2.heap.size, 23, [.int .i64 0, .int .i64 0, .int .i64 0]), (w.heap.size + 1, 23, [.int .i64 bx, .int .i64 bY, .int .i64 bz]), (w.heap.size, 23, [.int .i64 ax, .int .i64 ay, .int .i64 az])] := by assumption
  have HB12 : Below w.heap.size w w12 := by assumption
  have HH12 := Lib.hid HH12
  have HB12 := Lib.hid HB12
  clear k11_0_0 k11_0_1 k11_0_2 z11_0 k11_1_0 k11_1_1 k11_1_2 z11_1 k11_2_0 k11_2_1 k11_2_2 z11_2 k11_3_0 k11_3_1 k11_3_2 z11_3
  clear HHp HBp HH11 HB11
  have B12_0 : Blk w12 (w.heap.size) 23 #[.int .i64 ax, .int .i64 ay, .int .i64 az] := HH12.out (w.heap.size, 23, [.int .i64 ax, .int .i64 ay, .int .i64 az]) (by simp)
  have k12_0_0 : w12.cell? ⟨w.heap.size, 0, none⟩ = some (.int .i64 ax) := B12_0.cell 0
  have k12_0_1 : w12.cell? ⟨w.heap.size, 1, none⟩ = some (.int .i64 ay) := B12_0.cell 1
  have k12_0_2 : w12.cell? ⟨w.heap.size, 2, none⟩ = some (.int .i64 az) := B12_0.cell 2
  have z12_0 : w.heap.size < w12.heap.size := B12_0.lt
  clear B12_0
  have B12_1 : Blk w12 (w.heap.size + 1) 23 #[.int .i64 bx, .int .i64 bY, .int .i64 bz] := HH12.out (w.heap.size + 1, 23, [.int .i64 bx, .int .i64 bY, .int .i64 bz]) (by simp)
  have k12_1_0 : w12.cell? ⟨w.heap.size + 1, 0, none⟩ = some (.int .i64 bx) := B12_1.cell 0
  have k12_1_1 : w12.cell? ⟨w.heap.size + 1, 1, none⟩ = some (.int .i64 bY) := B12_1.cell 1
  have k12_1_2 : w12.cell? ⟨w.heap.size + 1, 2, none⟩ = some (.int .i64 bz) := B12_1.cell 2
  have z12_1 : w.heap.size + 1 < w12.heap.size := B12_1.lt
  clear B12_1
  have B12_2 : Blk w12 (w2.heap.size) 23 #[.int .i64 0, .int .i64 0, .int .i64 0] := HH12.out (w2.heap.size, 23, [.int .i64 0, .int .i64 0, .int .i64 0]) (by simp)
  have k12_2_0 : w12.cell? ⟨w2.heap.size, 0, none⟩ = some (.int .i64 0) := B12_2.cell 0
  have k12_2_1 : w12.cell? ⟨w2.heap.size, 1, none⟩ = some (.int .i64 0) := B12_2.cell 1
  have k12_2_2 : w12.cell? ⟨w2.heap.size, 2, none⟩ = some (.int .i64 0) := B12_2.cell 2
  have z12_2 : w2.heap.size < w12.heap.size := B12_2.lt
  clear B12_2
  have B12_3 : Blk w12 (w3.heap.size) 23 #[.int .i64 dx, .int .i64 dy, .int .i64 dz] := HH12.out (w3.heap.size, 23, [.int .i64 dx, .int .i64 dy, .int .i64 dz]) (by simp)
  have k12_3_0 : w12.cell? ⟨w3.heap.size, 0, none⟩ = some (.int .i64 dx) := B12_3.cell 0
  have k12_3_1 : w12.cell? ⟨w3.heap.size, 1, none⟩ = some (.int .i64 dy) := B12_3.cell 1
  have k12_3_2 : w12.cell? ⟨w3.heap.size, 2, none⟩ = some (.int .i64 dz) := B12_3.cell 2
  have z12_3 : w3.heap.size < w12.heap.size := B12_3.lt
  clear B12_3
  go_wp2
  go_returns
  exact ⟨rfl, by repeat (first | with_reducible exact HB12.out | with_reducible refine Below.drew ?_ | with_reducible refine below_drewN ?_ _ | with_reducible refine below_set ?_ (by have := HB12.out.size; simp <;> omega) _ | with_reducible refine below_alloc ?_ _)⟩
set_option maxHeartbeats 6400000 in
theorem adds_nn (ax ay az bx bY bz : Int) (ha : in3 ax ay az = true) (hb : in3 bx bY bz = true) (hs : in3 (ax + bx) (ay + bY) (az + bz) = false) (hd : in3 (ax - bx) (ay - bY) (az - bz) = false) (w : World) : Calls Try.prog 3 #[.agg #[.int .i64 ax, .int .i64 ay, .int .i64 az], .agg #[.int .i64 bx, .int .i64 bY, .int .i64 bz]] w fun e w' => e = .returned (.bool true) ∧ Below w.heap.size w w' := by
  have c0 := Lib.hid fun W => awake_any W
  obtain ⟨p, q, r, e, ca, f1, f2, f3⟩ := add_ex ax ay az bx bY bz
  obtain ⟨p', q', r', e', cs, g1, g2, g3⟩ := sub_ex ax ay az bx bY bz
  have c1 := Lib.hid ca
  have c2 := Lib.hid cs
  have c3 := Lib.hid fun W => check_any ax ay az W
  have c4 := Lib.hid fun W => rIn_any ax ay az W
  have c8 := Lib.hid fun W => rIn_any bx bY bz W
  have c5 := Lib.hid fun W => compare_any ax ay az bx bY bz W
  have c6 := Lib.hid fun W => rcompare_any ax ay az bx bY bz W
  have gd := fun x y xs ys W => vec_guard .eql x y xs ys W
  have c9 := Lib.hid fun W => radd_any ax ay az bx bY bz ha hb W
  have c10 := Lib.hid fun W => rsub_any ax ay az bx bY bz ha hb W
  have c11 := Lib.hid fun W => sum_no (ax + bx) (ay + bY) (az + bz) hs W
  have c12 := Lib.hid fun W => sum_no (ax - bx) (ay - bY) (az - bz) hd W
  obtain ⟨rfl, rfl, rfl, rfl⟩ := f3 ha hb hs
  obtain ⟨rfl, rfl, rfl, rfl⟩ := g3 ha hb hd
  rw [chk1_ok ha] at c3
  rw [ha] at c4
  rw [hb] at c8
  clear ca cs f1 f2 f3 g1 g2 g3 ha hb hs hd
  generalize cmp3 ax ay az bx bY bz = R at *
  have tR : (R != R) = false := by simp
  generalize ax + bx = sx at *
  generalize ay + bY = sy at *
  generalize az + bz = sz at *
  generalize ax - bx = dx at *
  generalize ay - bY = dy at *
  generalize az - bz = dz at *
  go_enter Try.func3, Try.ntmps3
  go_wp2_with fail
  refine (c0.out _).mono ?_
  rintro e w1 ⟨rfl, hb1⟩
  have HH1 := Lib.hid (((((Blks.nil (w := w))).new (w.heap.size) 23 [.int .i64 ax, .int .i64 ay, .int .i64 az] rfl).new (w.heap.size + 1) 23 [.int .i64 bx, .int .i64 bY, .int .i64 bz] (by simp)).below hb1)
  have HB1 := Lib.hid (below_trans (below_alloc (below_alloc (Below.refl _ _) _) _) hb1)
  clear hb1
  have B1_0 : Blk w1 (w.heap.size) 23 #[.int .i64 ax, .int .i64 ay, .int .i64 az] := HH1.out (w.heap.size, 23, [.int .i64 ax, .int .i64 ay, .int .i64 az]) (by simp)
  have k1_0_0 : w1.cell? ⟨w.heap.size, 0, none⟩ = some (.int .i64 ax) := B1_0.cell 0
  have k1_0_1 : w1.cell? ⟨w.heap.size, 1, none⟩ = some (.int .i64 ay) := B1_0.cell 1
  have k1_0_2 : w1.cell? ⟨w.heap.size, 2, none⟩ = some (.int .i64 az) := B1_0.cell 2
  have z1_0 : w.heap.size < w1.heap.size := B1_0.lt
  clear B1_0
  have B1_1 : Blk w1 (w.heap.size + 1) 23 #[.int .i64 bx, .int .i64 bY, .int .i64 bz] := HH1.out (w.heap.size + 1, 23, [.int .i64 bx, .int .i64 bY, .int .i64 bz]) (by simp)
  have k1_1_0 : w1.cell? ⟨w.heap.size + 1, 0, none⟩ = some (.int .i64 bx) := B1_1.cell 0
  have k1_1_1 : w1.cell? ⟨w.heap.size + 1, 1, none⟩ = some (.int .i64 bY) := B1_1.cell 1
  have k1_1_2 : w1.cell? ⟨w.heap.size + 1, 2, none⟩ = some (.int .i64 bz) := B1_1.cell 2
  have z1_1 : w.heap.size + 1 < w1.heap.size := B1_1.lt
  clear B1_1
  go_wp2_with fail
  refine (c1.out _).mono ?_
  rintro e w2 ⟨rfl, hb2⟩
  have HH2 := Lib.hid ((HH1.out).below hb2)
  have HB2 := Lib.hid (below_trans (HB1.out) hb2)
  clear k1_0_0 k1_0_1 k1_0_2 z1_0 k1_1_0 k1_1_1 k1_1_2 z1_1
  clear hb2
  clear HH1 HB1
  have B2_0 : Blk w2 (w.heap.size) 23 #[.int .i64 ax, .int .i64 ay, .int .i64 az] := HH2.out (w.heap.size, 23, [.int .i64 ax, .int .i64 ay, .int .i64 az]) (by simp)
  have k2_0_0 : w2.cell? ⟨w.heap.size, 0, none⟩ = some (.int .i64 ax) := B2_0.cell 0
  have k2_0_1 : w2.cell? ⟨w.heap.size, 1, none⟩ = some (.int .i64 ay) := B2_0.cell 1
  have k2_0_2 : w2.cell? ⟨w.heap.size, 2, none⟩ = some (.int .i64 az) := B2_0.cell 2
  have z2_0 : w.heap.size < w2.heap.size := B2_0.lt
  clear B2_0
  have B2_1 : Blk w2 (w.heap.size + 1) 23 #[.int .i64 bx, .int .i64 bY, .int .i64 bz] := HH2.out (w.heap.size + 1, 23, [.int .i64 bx, .int .i64 bY, .int .i64 bz]) (by simp)
  have k2_1_0 : w2.cell? ⟨w.heap.size + 1, 0, none⟩ = some (.int .i64 bx) := B2_1.cell 0
  have k2_1_1 : w2.cell? ⟨w.heap.size + 1, 1, none⟩ = some (.int .i64 bY) := B2_1.cell 1
  have k2_1_2 : w2.cell? ⟨w.heap.size + 1, 2, none⟩ = some (.int .i64 bz) := B2_1.cell 2
  have z2_1 : w.heap.size + 1 < w2.heap.size := B2_1.lt
  clear B2_1
  go_wp2_with fail
  refine (c2.out _).mono ?_
  rintro e w3 ⟨rfl, hb3⟩
  have HH3 := Lib.hid (((HH2.out).new (w2.heap.size) 23 [.int .i64 0, .int .i64 0, .int .i64 0] rfl).below hb3)
  have HB3 := Lib.hid (below_trans (below_alloc (HB2.out) _) hb3)
  clear k2_0_0 k2_0_1 k2_0_2 z2_0 k2_1_0 k2_1_1 k2_1_2 z2_1
  clear hb3
  clear HH2 HB2
  have B3_0 : Blk w3 (w.heap.size) 23 #[.int .i64 ax, .int .i64 ay, .int .i64 az] := HH3.out (w.heap.size, 23, [.int .i64 ax, .int .i64 ay, .int .i64 az]) (by simp)
  have k3_0_0 : w3.cell? ⟨w.heap.size, 0, none⟩ = some (.int .i64 ax) := B3_0.cell 0
  have k3_0_1 : w3.cell? ⟨w.heap.size, 1, none⟩ = some (.int .i64 ay) := B3_0.cell 1
  have k3_0_2 : w3.cell? ⟨w.heap.size, 2, none⟩ = some (.int .i64 az) := B3_0.cell 2
  have z3_0 : w.heap.size < w3.heap.size := B3_0.lt
  clear B3_0
  have B3_1 : Blk w3 (w.heap.size + 1) 23 #[.int .i64 bx, .int .i64 bY, .int .i64 bz] := HH3.out (w.heap.size + 1, 23, [.int .i64 bx, .int .i64 bY, .int .i64 bz]) (by simp)
  have k3_1_0 : w3.cell? ⟨w.heap.size + 1, 0, none⟩ = some (.int .i64 bx) := B3_1.cell 0
  have k3_1_1 : w3.cell? ⟨w.heap.size + 1, 1, none⟩ = some (.int .i64 bY) := B3_1.cell 1
  have k3_1_2 : w3.cell? ⟨w.heap.size + 1, 2, none⟩ = some (.int .i64 bz) := B3_1.cell 2
  have z3_1 : w.heap.size + 1 < w3.heap.size := B3_1.lt
  clear B3_1
  have B3_2 : Blk w3 (w2.heap.size) 23 #[.int .i64 0, .int .i64 0, .int .i64 0] := HH3.out (w2.heap.size, 23, [.int .i64 0, .int .i64 0, .int .i64 0]) (by simp)
  have k3_2_0 : w3.cell? ⟨w2.heap.size, 0, none⟩ = some (.int .i64 0) := B3_2.cell 0
  have k3_2_1 : w3.cell? ⟨w2.heap.size, 1, none⟩ = some (.int .i64 0) := B3_2.cell 1
  have k3_2_2 : w3.cell? ⟨w2.heap.size, 2, none⟩ = some (.int .i64 0) := B3_2.cell 2
  have z3_2 : w2.heap.size < w3.heap.size := B3_2.lt
  clear B3_2
  go_upto_region 5 with fail
  have HHq : Blks ((w3).alloc (.cells #[.int .i64 0, .int .i64 0, .int .i64 0] 23)) [(w3.heap.size, 23, [.int .i64 0, .int .i64 0, .int .i64 0]), (w2.heap.size, 23, [.int .i64 0, .int .i64 0, .int .i64 0]), (w.heap.size + 1, 23, [.int .i64 bx, .int .i64 bY, .int .i64 bz]), (w.heap.size, 23, [.int .i64 ax, .int .i64 ay, .int .i64 az])] := (HH3.out).new (w3.heap.size) 23 [.int .i64 0, .int .i64 0, .int .i64 0] rfl
  have HBq : Below w.heap.size w ((w3).alloc (.cells #[.int .i64 0, .int .i64 0, .int .i64 0] 23)) := below_alloc (HB3.out) _
  clear k3_0_0 k3_0_1 k3_0_2 z3_0 k3_1_0 k3_1_1 k3_1_2 z3_1 k3_2_0 k3_2_1 k3_2_2 z3_2
  clear HH3 HB3
  obtain ⟨w4, hw4⟩ : ∃ w4 : World, w4 = (w3).alloc (.cells #[.int .i64 0, .int .i64 0, .int .i64 0] 23) := ⟨_, rfl⟩
  rw [← hw4] at HHq HBq ⊢
  have HH4 := Lib.hid HHq
  have HB4 := Lib.hid HBq
  clear hw4 HHq HBq
  have B4_0 : Blk w4 (w.heap.size) 23 #[.int .i64 ax, .int .i64 ay, .int .i64 az] := HH4.out (w.heap.size, 23, [.int .i64 ax, .int .i64 ay, .int .i64 az]) (by simp)
  have k4_0_0 : w4.cell? ⟨w.heap.size, 0, none⟩ = some (.int .i64 ax) := B4_0.cell 0
  have k4_0_1 : w4.cell? ⟨w.heap.size, 1, none⟩ = some (.int .i64 ay) := B4_0.cell 1
  have k4_0_2 : w4.cell? ⟨w.heap.size, 2, none⟩ = some (.int .i64 az) := B4_0.cell 2
  have z4_0 : w.heap.size < w4.heap.size := B4_0.lt
  clear B4_0
  have B4_1 : Blk w4 (w.heap.size + 1) 23 #[.int .i64 bx, .int .i64 bY, .int .i64 bz] := HH4.out (w.heap.size + 1, 23, [.int .i64 bx, .int .i64 bY, .int .i64 bz]) (by simp)
  have k4_1_0 : w4.cell? ⟨w.heap.size + 1, 0, none⟩ = some (.int .i64 bx) := B4_1.cell 0
  have k4_1_1 : w4.cell? ⟨w.heap.size + 1, 1, none⟩ = some (.int .i64 bY) := B4_1.cell 1
  have k4_1_2 : w4.cell? ⟨w.heap.size + 1, 2, none⟩ = some (.int .i64 bz) := B4_1.cell 2
  have z4_1 : w.heap.size + 1 < w4.heap.size := B4_1.lt
  clear B4_1
  have B4_2 : Blk w4 (w2.heap.size) 23 #[.int .i64 0, .int .i64 0, .int .i64 0] := HH4.out (w2.heap.size, 23, [.int .i64 0, .int .i64 0, .int .i64 0]) (by simp)
  have k4_2_0 : w4.cell? ⟨w2.heap.size, 0, none⟩ = some (.int .i64 0) := B4_2.cell 0
  have k4_2_1 : w4.cell? ⟨w2.heap.size, 1, none⟩ = some (.int .i64 0) := B4_2.cell 1
  have k4_2_2 : w4.cell? ⟨w2.heap.size, 2, none⟩ = some (.int .i64 0) := B4_2.cell 2
  have z4_2 : w2.heap.size < w4.heap.size := B4_2.lt
  clear B4_2
  have B4_3 : Blk w4 (w3.heap.size) 23 #[.int .i64 0, .int .i64 0, .int .i64 0] := HH4.out (w3.heap.size, 23, [.int .i64 0, .int .i64 0, .int .i64 0]) (by simp)
  have k4_3_0 : w4.cell? ⟨w3.heap.size, 0, none⟩ = some (.int .i64 0) := B4_3.cell 0
  have k4_3_1 : w4.cell? ⟨w3.heap.size, 1, none⟩ = some (.int .i64 0) := B4_3.cell 1
  have k4_3_2 : w4.cell? ⟨w3.heap.size, 2, none⟩ = some (.int .i64 0) := B4_3.cell 2
  have z4_3 : w3.heap.size < w4.heap.size := B4_3.lt
  clear B4_3
  have HHp := HH4.out
  have HBp := HB4.out
  refine wp_region_held_drew (S := fun w' => w'.cell? ⟨w.heap.size, 0, none⟩ = some (.int .i64 ax) ∧ w'.cell? ⟨w.heap.size, 1, none⟩ = some (.int .i64 ay) ∧ w'.cell? ⟨w.heap.size, 2, none⟩ = some (.int .i64 az) ∧ w'.cell? ⟨w.heap.size + 1, 0, none⟩ = some (.int .i64 bx) ∧ w'.cell? ⟨w.heap.size + 1, 1, none⟩ = some (.int .i64 bY) ∧ w'.cell? ⟨w.heap.size + 1, 2, none⟩ = some (.int .i64 bz) ∧ w.heap.size < w'.heap.size ∧ w.heap.size + 1 < w'.heap.size ∧ Blks w' [(w3.heap.size, 23, [.int .i64 0, .int .i64 0, .int .i64 0]), (w2.heap.size, 23, [.int .i64 0, .int .i64 0, .int .i64 0]), (w.heap.size + 1, 23, [.int .i64 bx, .int .i64 bY, .int .i64 bz]), (w.heap.size, 23, [.int .i64 ax, .int .i64 ay, .int .i64 az])] ∧ Below w.heap.size w w') (by kernel_rfl) ?_ (fun hH0 => ?_)
  · (try dsimp only)
    (go_split_ands; (repeat' apply And.intro) <;> (first | with_reducible assumption | (with_reducible refine Blks.drew ?_; with_reducible assumption) | (with_reducible refine Below.drew ?_; with_reducible assumption) | (simp only [World.cell?_drew, World.size_drew]; with_reducible assumption) | (with_reducible refine Blks.below ?_ hbm; with_reducible assumption) | (with_reducible refine below_trans ?_ hbm; with_reducible assumption) | (rw [hbm.cell (by first | assumption | (simp only [World.size_drew]; assumption))]; first | with_reducible assumption | (simp only [World.cell?_drew]; with_reducible assumption)) | (refine Nat.lt_of_lt_of_le ?_ hbm.size; first | with_reducible assumption | (simp only [World.size_drew]; with_reducible assumption))))
  clear k4_0_0 k4_0_1 k4_0_2 z4_0 k4_1_0 k4_1_1 k4_1_2 z4_1 k4_2_0 k4_2_1 k4_2_2 z4_2 k4_3_0 k4_3_1 k4_3_2 z4_3
  clear HHp HBp
  refine wpAnyH_take (i := 0) (oi := { dst := some 23, op := Go.Op.load 23 (Go.Operand.tmp 2), type := 23, pos := "law.go:28", after := #[], guard := none }) (v := ?_) rfl (by kernel_rfl) (by kernel_rfl) (by kernel_rfl) (fun _ _ _ h => h) (Or.inl ⟨by rfl, ?_⟩) (by assumption) ?_
  rotate_left
  focus
    intro wz hSw
    (try dsimp only at hSw)
    go_simp
    (try with_reducible rfl)
  (try simp only [Act.put, List.setIfInBounds_toArray, List.set_cons_zero, List.set_cons_succ])
  refine wpAnyH_take (i := 3) (oi := { dst := some 26, op := Go.Op.load 23 (Go.Operand.tmp 2), type := 23, pos := "law.go:28", after := #[], guard := none }) (v := ?_) rfl (by kernel_rfl) (by kernel_rfl) (by kernel_rfl) (fun _ _ _ h => h) (Or.inl ⟨by rfl, ?_⟩) (by assumption) ?_
  rotate_left
  focus
    intro wz hSw
    (try dsimp only at hSw)
    go_simp
    (try with_reducible rfl)
  (try simp only [Act.put, List.setIfInBounds_toArray, List.set_cons_zero, List.set_cons_succ])
  refine wpAnyH_ready (rs := [1]) (by kernel_rfl) (by simp) ?_
  refine AllReadyH.cons (o := { dst := some 24, op := Go.Op.call { callee := Go.Callee.value (Go.Operand.func 15), args := #[Go.Operand.tmp 23], argTypes := #[23] }, type := 25, pos := "law.go:28", after := #[{ on := 0, ground := Go.Ground.data }], guard := none }) rfl (fun K hK => ?_) AllReadyH.nil
  go_simp
  with_reducible refine (c3.out _).mono ?_
  rintro e w5 ⟨rfl, hbm⟩
  go_wp2_with fail
  refine hK.out _ _ ?_ (fun hH1 => ?_)
  · (try dsimp only)
    (go_split_ands; (repeat' apply And.intro) <;> (first | with_reducible assumption | (with_reducible refine Blks.drew ?_; with_reducible assumption) | (with_reducible refine Below.drew ?_; with_reducible assumption) | (simp only [World.cell?_drew, World.size_drew]; with_reducible assumption) | (with_reducible refine Blks.below ?_ hbm; with_reducible assumption) | (with_reducible refine below_trans ?_ hbm; with_reducible assumption) | (rw [hbm.cell (by first | assumption | (simp only [World.size_drew]; assumption))]; first | with_reducible assumption | (simp only [World.cell?_drew]; with_reducible assumption)) | (refine Nat.lt_of_lt_of_le ?_ hbm.size; first | with_reducible assumption | (simp only [World.size_drew]; with_reducible assumption))))
  clear hK K hH0 hbm
  (try simp only [Act.put, List.setIfInBounds_toArray, List.set_cons_zero, List.set_cons_succ])
  refine wpAnyH_take (i := 2) (oi := { dst := some 25, op := Go.Op.binOp Go.BinOp.eql 25 (Go.Operand.tmp 24) (Go.Operand.const (Go.Value.int Go.IntKind.i64 0)) 25, type := 4, pos := "law.go:28", after := #[{ on := 1, ground := Go.Ground.data }], guard := none }) (v := ?_) rfl (by kernel_rfl) (by kernel_rfl) (by kernel_rfl) (fun _ _ _ h => h) (Or.inl ⟨by rfl, ?_⟩) (by assumption) ?_
  rotate_left
  focus
    intro wz hSw
    (try dsimp only at hSw)
    go_simp
    (try with_reducible rfl)
  (try simp only [Act.put, List.setIfInBounds_toArray, List.set_cons_zero, List.set_cons_succ])
  refine wpAnyH_ready (rs := [4]) (by kernel_rfl) (by simp) ?_
  refine AllReadyH.cons (o := { dst := some 27, op := Go.Op.call { callee := Go.Callee.value (Go.Operand.func 16), args := #[Go.Operand.tmp 26], argTypes := #[23] }, type := 4, pos := "law.go:28", after := #[{ on := 3, ground := Go.Ground.data }, { on := 1, ground := Go.Ground.chain }], guard := none }) rfl (fun K hK => ?_) AllReadyH.nil
  go_simp
  with_reducible refine (c4.out _).mono ?_
  rintro e w6 ⟨rfl, hbm⟩
  go_wp2_with fail
  refine hK.out _ _ ?_ (fun hH2 => ?_)
  · (try dsimp only)
    (go_split_ands; (repeat' apply And.intro) <;> (first | with_reducible assumption | (with_reducible refine Blks.drew ?_; with_reducible assumption) | (with_reducible refine Below.drew ?_; with_reducible assumption) | (simp only [World.cell?_drew, World.size_drew]; with_reducible assumption) | (with_reducible refine Blks.below ?_ hbm; with_reducible assumption) | (with_reducible refine below_trans ?_ hbm; with_reducible assumption) | (rw [hbm.cell (by first | assumption | (simp only [World.size_drew]; assumption))]; first | with_reducible assumption | (simp only [World.cell?_drew]; with_reducible assumption)) | (refine Nat.lt_of_lt_of_le ?_ hbm.size; first | with_reducible assumption | (simp only [World.size_drew]; with_reducible assumption))))
  clear hK K hH1 hbm
  (try simp only [Act.put, List.setIfInBounds_toArray, List.set_cons_zero, List.set_cons_succ])
  refine wpAnyH_take (i := 5) (oi := { dst := some 28, op := Go.Op.binOp Go.BinOp.neq 4 (Go.Operand.tmp 25) (Go.Operand.tmp 27) 4, type := 4, pos := "law.go:28", after := #[{ on := 2, ground := Go.Ground.data }, { on := 4, ground := Go.Ground.data }], guard := none }) (v := ?_) rfl (by kernel_rfl) (by kernel_rfl) (by kernel_rfl) (fun _ _ _ h => h) (Or.inl ⟨by rfl, ?_⟩) (by assumption) ?_
  rotate_left
  focus
    intro wz hSw
    (try dsimp only at hSw)
    go_simp
    (try with_reducible rfl)
  (try simp only [Act.put, List.setIfInBounds_toArray, List.set_cons_zero, List.set_cons_succ])
  refine wpAnyH_take (i := 6) (oi := { dst := some 29, op := Go.Op.move (Go.Operand.tmp 28), type := 4, pos := "law.go:28", after := #[{ on := 5, ground := Go.Ground.data }, { on := 4, ground := Go.Ground.chain }], guard := none }) (v := ?_) rfl (by kernel_rfl) (by kernel_rfl) (by kernel_rfl) (fun _ _ _ h => h) (Or.inl ⟨by rfl, ?_⟩) (by assumption) ?_
  rotate_left
  focus
    intro wz hSw
    (try dsimp only at hSw)
    go_simp
    (try with_reducible rfl)
  (try simp only [Act.put, List.setIfInBounds_toArray, List.set_cons_zero, List.set_cons_succ])
  refine wpAnyH_take (i := 7) (oi := { dst := some 30, op := Go.Op.load 23 (Go.Operand.tmp 2), type := 23, pos := "law.go:28", after := #[{ on := 6, ground := Go.Ground.guard }], guard := some (6, false) }) (v := ?_) rfl (by kernel_rfl) (by kernel_rfl) (by kernel_rfl) (fun _ _ _ h => h) (Or.inl ⟨by rfl, ?_⟩) (by assumption) ?_
  rotate_left
  focus
    intro wz hSw
    (try dsimp only at hSw)
    go_simp
    (try with_reducible rfl)
  (try simp only [Act.put, List.setIfInBounds_toArray, List.set_cons_zero, List.set_cons_succ])
  refine wpAnyH_ready (rs := [8]) (by kernel_rfl) (by simp) ?_
  refine AllReadyH.cons (o := { dst := some 31, op := Go.Op.call { callee := Go.Callee.value (Go.Operand.func 15), args := #[Go.Operand.tmp 30], argTypes := #[23] }, type := 25, pos := "law.go:28", after := #[{ on := 7, ground := Go.Ground.data }, { on := 6, ground := Go.Ground.chain }, { on := 6, ground := Go.Ground.guard }], guard := some (6, false) }) rfl (fun K hK => ?_) AllReadyH.nil
  go_simp
  with_reducible refine (c3.out _).mono ?_
  rintro e w7 ⟨rfl, hbm⟩
  go_wp2_with fail
  refine hK.out _ _ ?_ (fun hH3 => ?_)
  · (try dsimp only)
    (go_split_ands; (repeat' apply And.intro) <;> (first | with_reducible assumption | (with_reducible refine Blks.drew ?_; with_reducible assumption) | (with_reducible refine Below.drew ?_; with_reducible assumption) | (simp only [World.cell?_drew, World.size_drew]; with_reducible assumption) | (with_reducible refine Blks.below ?_ hbm; with_reducible assumption) | (with_reducible refine below_trans ?_ hbm; with_reducible assumption) | (rw [hbm.cell (by first | assumption | (simp only [World.size_drew]; assumption))]; first | with_reducible assumption | (simp only [World.cell?_drew]; with_reducible assumption)) | (refine Nat.lt_of_lt_of_le ?_ hbm.size; first | with_reducible assumption | (simp only [World.size_drew]; with_reducible assumption))))
  clear hK K hH2 hbm
  (try simp only [Act.put, List.setIfInBounds_toArray, List.set_cons_zero, List.set_cons_succ])
  refine wpAnyH_take (i := 9) (oi := { dst := some 32, op := Go.Op.binOp Go.BinOp.neq 25 (Go.Operand.tmp 31) (Go.Operand.const (Go.Value.int Go.IntKind.i64 0)) 25, type := 4, pos := "law.go:28", after := #[{ on := 8, ground := Go.Ground.data }, { on := 6, ground := Go.Ground.guard }], guard := some (6, false) }) (v := ?_) rfl (by kernel_rfl) (by kernel_rfl) (by kernel_rfl) (fun _ _ _ h => h) (Or.inl ⟨by rfl, ?_⟩) (by assumption) ?_
  rotate_left
  focus
    intro wz hSw
    (try dsimp only at hSw)
    go_simp
    (try with_reducible rfl)
  (try simp only [Act.put, List.setIfInBounds_toArray, List.set_cons_zero, List.set_cons_succ])
  refine wpAnyH_take (i := 10) (oi := { dst := some 33, op := Go.Op.move (Go.Operand.tmp 32), type := 4, pos := "law.go:28", after := #[{ on := 9, ground := Go.Ground.data }, { on := 8, ground := Go.Ground.chain }, { on := 6, ground := Go.Ground.guard }], guard := some (6, false) }) (v := ?_) rfl (by kernel_rfl) (by kernel_rfl) (by kernel_rfl) (fun _ _ _ h => h) (Or.inl ⟨by rfl, ?_⟩) (by assumption) ?_
  rotate_left
  focus
    intro wz hSw
    (try dsimp only at hSw)
    go_simp
    (try with_reducible rfl)
  (try simp only [Act.put, List.setIfInBounds_toArray, List.set_cons_zero, List.set_cons_succ])
  refine wpAnyH_take (i := 11) (oi := { dst := some 34, op := Go.Op.load 23 (Go.Operand.tmp 2), type := 23, pos := "law.go:28", after := #[{ on := 10, ground := Go.Ground.guard }], guard := some (10, true) }) (v := undef) rfl (by kernel_rfl) (by kernel_rfl) (by kernel_rfl) (fun _ _ _ h => h) (Or.inr ⟨by rfl, rfl⟩) (by assumption) ?_
  (try simp only [Act.put, List.setIfInBounds_toArray, List.set_cons_zero, List.set_cons_succ])
  refine wpAnyH_take (i := 12) (oi := { dst := some 35, op := Go.Op.call { callee := Go.Callee.value (Go.Operand.func 15), args := #[Go.Operand.tmp 34], argTypes := #[23] }, type := 25, pos := "law.go:28", after := #[{ on := 11, ground := Go.Ground.data }, { on := 10, ground := Go.Ground.chain }, { on := 10, ground := Go.Ground.guard }], guard := some (10, true) }) (v := undef) rfl (by kernel_rfl) (by kernel_rfl) (by kernel_rfl) (fun _ _ _ h => h) (Or.inr ⟨by rfl, rfl⟩) (by assumption) ?_
  (try simp only [Act.put, List.setIfInBounds_toArray, List.set_cons_zero, List.set_cons_succ])
  refine wpAnyH_take (i := 13) (oi := { dst := some 36, op := Go.Op.binOp Go.BinOp.neq 25 (Go.Operand.tmp 35) (Go.Operand.const (Go.Value.int Go.IntKind.i64 6)) 25, type := 4, pos := "law.go:28", after := #[{ on := 12, ground := Go.Ground.data }, { on := 10, ground := Go.Ground.guard }], guard := some (10, true) }) (v := undef) rfl (by kernel_rfl) (by kernel_rfl) (by kernel_rfl) (fun _ _ _ h => h) (Or.inr ⟨by rfl, rfl⟩) (by assumption) ?_
  (try simp only [Act.put, List.setIfInBounds_toArray, List.set_cons_zero, List.set_cons_succ])
  refine wpAnyH_take (i := 14) (oi := { dst := some 37, op := Go.Op.pick (Go.Operand.tmp 33) (Go.Operand.tmp 36) (Go.Operand.const (Go.Value.bool false)), type := 4, pos := "law.go:28", after := #[{ on := 10, ground := Go.Ground.data }, { on := 13, ground := Go.Ground.data }, { on := 6, ground := Go.Ground.guard }], guard := some (6, false) }) (v := ?_) rfl (by kernel_rfl) (by kernel_rfl) (by kernel_rfl) (fun _ _ _ h => h) (Or.inl ⟨by rfl, ?_⟩) (by assumption) ?_
  rotate_left
  focus
    intro wz hSw
    (try dsimp only at hSw)
    go_simp
    (try with_reducible rfl)
  (try simp only [Act.put, List.setIfInBounds_toArray, List.set_cons_zero, List.set_cons_succ])
  refine wpAnyH_take (i := 15) (oi := { dst := some 38, op := Go.Op.pick (Go.Operand.tmp 29) (Go.Operand.const (Go.Value.bool true)) (Go.Operand.tmp 37), type := 4, pos := "law.go:28", after := #[{ on := 6, ground := Go.Ground.data }, { on := 14, ground := Go.Ground.data }], guard := none }) (v := ?_) rfl (by kernel_rfl) (by kernel_rfl) (by kernel_rfl) (fun _ _ _ h => h) (Or.inl ⟨by rfl, ?_⟩) (by assumption) ?_
  rotate_left
  focus
    intro wz hSw
    (try dsimp only at hSw)
    go_simp
    (try with_reducible rfl)
  (try simp only [Act.put, List.setIfInBounds_toArray, List.set_cons_zero, List.set_cons_succ])
  refine wpAnyH_take (i := 16) (oi := { dst := some 39, op := Go.Op.move (Go.Operand.tmp 38), type := 4, pos := "law.go:28", after := #[{ on := 15, ground := Go.Ground.data }, { on := 12, ground := Go.Ground.chain }], guard := none }) (v := ?_) rfl (by kernel_rfl) (by kernel_rfl) (by kernel_rfl) (fun _ _ _ h => h) (Or.inl ⟨by rfl, ?_⟩) (by assumption) ?_
  rotate_left
  focus
    intro wz hSw
    (try dsimp only at hSw)
    go_simp
    (try with_reducible rfl)
  (try simp only [Act.put, List.setIfInBounds_toArray, List.set_cons_zero, List.set_cons_succ])
  refine wpAnyH_take (i := 17) (oi := { dst := some 40, op := Go.Op.load 23 (Go.Operand.tmp 2), type := 23, pos := "law.go:28", after := #[{ on := 16, ground := Go.Ground.guard }], guard := some (16, false) }) (v := ?_) rfl (by kernel_rfl) (by kernel_rfl) (by kernel_rfl) (fun _ _ _ h => h) (Or.inl ⟨by rfl, ?_⟩) (by assumption) ?_
  rotate_left
  focus
    intro wz hSw
    (try dsimp only at hSw)
    go_simp
    (try with_reducible rfl)
  (try simp only [Act.put, List.setIfInBounds_toArray, List.set_cons_zero, List.set_cons_succ])
  refine wpAnyH_take (i := 18) (oi := { dst := some 41, op := Go.Op.load 23 (Go.Operand.tmp 3), type := 23, pos := "law.go:28", after := #[{ on := 16, ground := Go.Ground.guard }], guard := some (16, false) }) (v := ?_) rfl (by kernel_rfl) (by kernel_rfl) (by kernel_rfl) (fun _ _ _ h => h) (Or.inl ⟨by rfl, ?_⟩) (by assumption) ?_
  rotate_left
  focus
    intro wz hSw
    (try dsimp only at hSw)
    go_simp
    (try with_reducible rfl)
  (try simp only [Act.put, List.setIfInBounds_toArray, List.set_cons_zero, List.set_cons_succ])
  refine wpAnyH_take (i := 20) (oi := { dst := some 43, op := Go.Op.load 23 (Go.Operand.tmp 2), type := 23, pos := "law.go:28", after := #[{ on := 16, ground := Go.Ground.guard }], guard := some (16, false) }) (v := ?_) rfl (by kernel_rfl) (by kernel_rfl) (by kernel_rfl) (fun _ _ _ h => h) (Or.inl ⟨by rfl, ?_⟩) (by assumption) ?_
  rotate_left
  focus
    intro wz hSw
    (try dsimp only at hSw)
    go_simp
    (try with_reducible rfl)
  (try simp only [Act.put, List.setIfInBounds_toArray, List.set_cons_zero, List.set_cons_succ])
  refine wpAnyH_take (i := 21) (oi := { dst := some 44, op := Go.Op.load 23 (Go.Operand.tmp 3), type := 23, pos := "law.go:28", after := #[{ on := 16, ground := Go.Ground.guard }], guard := some (16, false) }) (v := ?_) rfl (by kernel_rfl) (by kernel_rfl) (by kernel_rfl) (fun _ _ _ h => h) (Or.inl ⟨by rfl, ?_⟩) (by assumption) ?_
  rotate_left
  focus
    intro wz hSw
    (try dsimp only at hSw)
    go_simp
    (try with_reducible rfl)
  (try simp only [Act.put, List.setIfInBounds_toArray, List.set_cons_zero, List.set_cons_succ])
  refine wpAnyH_ready (rs := [19]) (by kernel_rfl) (by simp) ?_
  refine AllReadyH.cons (o := { dst := some 42, op := Go.Op.call { callee := Go.Callee.value (Go.Operand.func 17), args := #[Go.Operand.tmp 40, Go.Operand.tmp 41], argTypes := #[23, 23] }, type := 3, pos := "law.go:28", after := #[{ on := 17, ground := Go.Ground.data }, { on := 18, ground := Go.Ground.data }, { on := 16, ground := Go.Ground.chain }, { on := 16, ground := Go.Ground.guard }], guard := some (16, false) }) rfl (fun K hK => ?_) AllReadyH.nil
  go_simp
  with_reducible refine (c5.out _).mono ?_
  rintro e w8 ⟨rfl, hbm⟩
  go_wp2_with fail
  refine hK.out _ _ ?_ (fun hH4 => ?_)
  · (try dsimp only)
    (go_split_ands; (repeat' apply And.intro) <;> (first | with_reducible assumption | (with_reducible refine Blks.drew ?_; with_reducible assumption) | (with_reducible refine Below.drew ?_; with_reducible assumption) | (simp only [World.cell?_drew, World.size_drew]; with_reducible assumption) | (with_reducible refine Blks.below ?_ hbm; with_reducible assumption) | (with_reducible refine below_trans ?_ hbm; with_reducible assumption) | (rw [hbm.cell (by first | assumption | (simp only [World.size_drew]; assumption))]; first | with_reducible assumption | (simp only [World.cell?_drew]; with_reducible assumption)) | (refine Nat.lt_of_lt_of_le ?_ hbm.size; first | with_reducible assumption | (simp only [World.size_drew]; with_reducible assumption))))
  clear hK K hH3 hbm
  (try simp only [Act.put, List.setIfInBounds_toArray, List.set_cons_zero, List.set_cons_succ])
  refine wpAnyH_ready (rs := [22]) (by kernel_rfl) (by simp) ?_
  refine AllReadyH.cons (o := { dst := some 45, op := Go.Op.call { callee := Go.Callee.value (Go.Operand.func 18), args := #[Go.Operand.tmp 43, Go.Operand.tmp 44], argTypes := #[23, 23] }, type := 3, pos := "law.go:28", after := #[{ on := 20, ground := Go.Ground.data }, { on := 21, ground := Go.Ground.data }, { on := 19, ground := Go.Ground.chain }, { on := 16, ground := Go.Ground.guard }], guard := some (16, false) }) rfl (fun K hK => ?_) AllReadyH.nil
  go_simp
  with_reducible refine (c6.out _).mono ?_
  rintro e w9 ⟨rfl, hbm⟩
  go_wp2_with fail
  refine hK.out _ _ ?_ (fun hH5 => ?_)
  · (try dsimp only)
    (go_split_ands; (repeat' apply And.intro) <;> (first | with_reducible assumption | (with_reducible refine Blks.drew ?_; with_reducible assumption) | (with_reducible refine Below.drew ?_; with_reducible assumption) | (simp only [World.cell?_drew, World.size_drew]; with_reducible assumption) | (with_reducible refine Blks.below ?_ hbm; with_reducible assumption) | (with_reducible refine below_trans ?_ hbm; with_reducible assumption) | (rw [hbm.cell (by first | assumption | (simp only [World.size_drew]; assumption))]; first | with_reducible assumption | (simp only [World.cell?_drew]; with_reducible assumption)) | (refine Nat.lt_of_lt_of_le ?_ hbm.size; first | with_reducible assumption | (simp only [World.size_drew]; with_reducible assumption))))
  clear hK K hH4 hbm
  (try simp only [Act.put, List.setIfInBounds_toArray, List.set_cons_zero, List.set_cons_succ])
  refine wpAnyH_take (i := 23) (oi := { dst := some 46, op := Go.Op.binOp Go.BinOp.neq 3 (Go.Operand.tmp 42) (Go.Operand.tmp 45) 3, type := 4, pos := "law.go:28", after := #[{ on := 19, ground := Go.Ground.data }, { on := 22, ground := Go.Ground.data }, { on := 16, ground := Go.Ground.guard }], guard := some (16, false) }) (v := ?_) rfl (by kernel_rfl) (by kernel_rfl) (by kernel_rfl) (fun _ _ _ h => h) (Or.inl ⟨by rfl, ?_⟩) (by assumption) ?_
  rotate_left
  focus
    intro wz hSw
    (try dsimp only at hSw)
    go_simp
    (try with_reducible rfl)
  (try simp only [Act.put, List.setIfInBounds_toArray, List.set_cons_zero, List.set_cons_succ])
  refine wpAnyH_take (i := 24) (oi := { dst := some 47, op := Go.Op.pick (Go.Operand.tmp 39) (Go.Operand.const (Go.Value.bool true)) (Go.Operand.tmp 46), type := 4, pos := "law.go:28", after := #[{ on := 16, ground := Go.Ground.data }, { on := 23, ground := Go.Ground.data }], guard := none }) (v := ?_) rfl (by kernel_rfl) (by kernel_rfl) (by kernel_rfl) (fun _ _ _ h => h) (Or.inl ⟨by rfl, ?_⟩) (by assumption) ?_
  rotate_left
  focus
    intro wz hSw
    (try dsimp only at hSw)
    go_simp
    (try with_reducible rfl)
  (try simp only [Act.put, List.setIfInBounds_toArray, List.set_cons_zero, List.set_cons_succ])
  refine wpAnyH_done (by kernel_rfl) ?_ _
  go_split_ands
  have HHn : Blks w9 [(w3.heap.size, 23, [.int .i64 0, .int .i64 0, .int .i64 0]), (w2.heap.size, 23, [.int .i64 0, .int .i64 0, .int .i64 0]), (w.heap.size + 1, 23, [.int .i64 bx, .int .i64 bY, .int .i64 bz]), (w.heap.size, 23, [.int .i64 ax, .int .i64 ay, .int .i64 az])] := by assumption
  have HBn : Below w.heap.size w w9 := by assumption
  clear HH4 HB4
  have HH9 := Lib.hid HHn
  have HB9 := Lib.hid HBn
  clear HHn HBn
  have B9_0 : Blk w9 (w.heap.size) 23 #[.int .i64 ax, .int .i64 ay, .int .i64 az] := HH9.out (w.heap.size, 23, [.int .i64 ax, .int .i64 ay, .int .i64 az]) (by simp)
  have k9_0_0 : w9.cell? ⟨w.heap.size, 0, none⟩ = some (.int .i64 ax) := B9_0.cell 0
  have k9_0_1 : w9.cell? ⟨w.heap.size, 1, none⟩ = some (.int .i64 ay) := B9_0.cell 1
  have k9_0_2 : w9.cell? ⟨w.heap.size, 2, none⟩ = some (.int .i64 az) := B9_0.cell 2
  have z9_0 : w.heap.size < w9.heap.size := B9_0.lt
  clear B9_0
  have B9_1 : Blk w9 (w.heap.size + 1) 23 #[.int .i64 bx, .int .i64 bY, .int .i64 bz] := HH9.out (w.heap.size + 1, 23, [.int .i64 bx, .int .i64 bY, .int .i64 bz]) (by simp)
  have k9_1_0 : w9.cell? ⟨w.heap.size + 1, 0, none⟩ = some (.int .i64 bx) := B9_1.cell 0
  have k9_1_1 : w9.cell? ⟨w.heap.size + 1, 1, none⟩ = some (.int .i64 bY) := B9_1.cell 1
  have k9_1_2 : w9.cell? ⟨w.heap.size + 1, 2, none⟩ = some (.int .i64 bz) := B9_1.cell 2
  have z9_1 : w.heap.size + 1 < w9.heap.size := B9_1.lt
  clear B9_1
  have B9_2 : Blk w9 (w2.heap.size) 23 #[.int .i64 0, .int .i64 0, .int .i64 0] := HH9.out (w2.heap.size, 23, [.int .i64 0, .int .i64 0, .int .i64 0]) (by simp)
  have k9_2_0 : w9.cell? ⟨w2.heap.size, 0, none⟩ = some (.int .i64 0) := B9_2.cell 0
  have k9_2_1 : w9.cell? ⟨w2.heap.size, 1, none⟩ = some (.int .i64 0) := B9_2.cell 1
  have k9_2_2 : w9.cell? ⟨w2.heap.size, 2, none⟩ = some (.int .i64 0) := B9_2.cell 2
  have z9_2 : w2.heap.size < w9.heap.size := B9_2.lt
  clear B9_2
  have B9_3 : Blk w9 (w3.heap.size) 23 #[.int .i64 0, .int .i64 0, .int .i64 0] := HH9.out (w3.heap.size, 23, [.int .i64 0, .int .i64 0, .int .i64 0]) (by simp)
  have k9_3_0 : w9.cell? ⟨w3.heap.size, 0, none⟩ = some (.int .i64 0) := B9_3.cell 0
  have k9_3_1 : w9.cell? ⟨w3.heap.size, 1, none⟩ = some (.int .i64 0) := B9_3.cell 1
  have k9_3_2 : w9.cell? ⟨w3.heap.size, 2, none⟩ = some (.int .i64 0) := B9_3.cell 2
  have z9_3 : w3.heap.size < w9.heap.size := B9_3.lt
  clear B9_3
  go_wp2_with fail
  refine (c4.out _).mono ?_
  rintro e w10 ⟨rfl, hb10⟩
  have HH10 := Lib.hid ((HH9.out).below hb10)
  have HB10 := Lib.hid (below_trans (HB9.out) hb10)
  clear k9_0_0 k9_0_1 k9_0_2 z9_0 k9_1_0 k9_1_1 k9_1_2 z9_1 k9_2_0 k9_2_1 k9_2_2 z9_2 k9_3_0 k9_3_1 k9_3_2 z9_3
  clear hb10
  clear HH9 HB9
  have B10_0 : Blk w10 (w.heap.size) 23 #[.int .i64 ax, .int .i64 ay, .int .i64 az] := HH10.out (w.heap.size, 23, [.int .i64 ax, .int .i64 ay, .int .i64 az]) (by simp)
  have k10_0_0 : w10.cell? ⟨w.heap.size, 0, none⟩ = some (.int .i64 ax) := B10_0.cell 0
  have k10_0_1 : w10.cell? ⟨w.heap.size, 1, none⟩ = some (.int .i64 ay) := B10_0.cell 1
  have k10_0_2 : w10.cell? ⟨w.heap.size, 2, none⟩ = some (.int .i64 az) := B10_0.cell 2
  have z10_0 : w.heap.size < w10.heap.size := B10_0.lt
  clear B10_0
  have B10_1 : Blk w10 (w.heap.size + 1) 23 #[.int .i64 bx, .int .i64 bY, .int .i64 bz] := HH10.out (w.heap.size + 1, 23, [.int .i64 bx, .int .i64 bY, .int .i64 bz]) (by simp)
  have k10_1_0 : w10.cell? ⟨w.heap.size + 1, 0, none⟩ = some (.int .i64 bx) := B10_1.cell 0
  have k10_1_1 : w10.cell? ⟨w.heap.size + 1, 1, none⟩ = some (.int .i64 bY) := B10_1.cell 1
  have k10_1_2 : w10.cell? ⟨w.heap.size + 1, 2, none⟩ = some (.int .i64 bz) := B10_1.cell 2
  have z10_1 : w.heap.size + 1 < w10.heap.size := B10_1.lt
  clear B10_1
  have B10_2 : Blk w10 (w2.heap.size) 23 #[.int .i64 0, .int .i64 0, .int .i64 0] := HH10.out (w2.heap.size, 23, [.int .i64 0, .int .i64 0, .int .i64 0]) (by simp)
  have k10_2_0 : w10.cell? ⟨w2.heap.size, 0, none⟩ = some (.int .i64 0) := B10_2.cell 0
  have k10_2_1 : w10.cell? ⟨w2.heap.size, 1, none⟩ = some (.int .i64 0) := B10_2.cell 1
  have k10_2_2 : w10.cell? ⟨w2.heap.size, 2, none⟩ = some (.int .i64 0) := B10_2.cell 2
  have z10_2 : w2.heap.size < w10.heap.size := B10_2.lt
  clear B10_2
  have B10_3 : Blk w10 (w3.heap.size) 23 #[.int .i64 0, .int .i64 0, .int .i64 0] := HH10.out (w3.heap.size, 23, [.int .i64 0, .int .i64 0, .int .i64 0]) (by simp)
  have k10_3_0 : w10.cell? ⟨w3.heap.size, 0, none⟩ = some (.int .i64 0) := B10_3.cell 0
  have k10_3_1 : w10.cell? ⟨w3.heap.size, 1, none⟩ = some (.int .i64 0) := B10_3.cell 1
  have k10_3_2 : w10.cell? ⟨w3.heap.size, 2, none⟩ = some (.int .i64 0) := B10_3.cell 2
  have z10_3 : w3.heap.size < w10.heap.size := B10_3.lt
  clear B10_3
  go_wp2_with fail
  refine (c8.out _).mono ?_
  rintro e w11 ⟨rfl, hb11⟩
  have HH11 := Lib.hid ((HH10.out).below hb11)
  have HB11 := Lib.hid (below_trans (HB10.out) hb11)
  clear k10_0_0 k10_0_1 k10_0_2 z10_0 k10_1_0 k10_1_1 k10_1_2 z10_1 k10_2_0 k10_2_1 k10_2_2 z10_2 k10_3_0 k10_3_1 k10_3_2 z10_3
  clear hb11
  clear HH10 HB10
  have B11_0 : Blk w11 (w.heap.size) 23 #[.int .i64 ax, .int .i64 ay, .int .i64 az] := HH11.out (w.heap.size, 23, [.int .i64 ax, .int .i64 ay, .int .i64 az]) (by simp)
  have k11_0_0 : w11.cell? ⟨w.heap.size, 0, none⟩ = some (.int .i64 ax) := B11_0.cell 0
  have k11_0_1 : w11.cell? ⟨w.heap.size, 1, none⟩ = some (.int .i64 ay) := B11_0.cell 1
  have k11_0_2 : w11.cell? ⟨w.heap.size, 2, none⟩ = some (.int .i64 az) := B11_0.cell 2
  have z11_0 : w.heap.size < w11.heap.size := B11_0.lt
  clear B11_0
  have B11_1 : Blk w11 (w.heap.size + 1) 23 #[.int .i64 bx, .int .i64 bY, .int .i64 bz] := HH11.out (w.heap.size + 1, 23, [.int .i64 bx, .int .i64 bY, .int .i64 bz]) (by simp)
  have k11_1_0 : w11.cell? ⟨w.heap.size + 1, 0, none⟩ = some (.int .i64 bx) := B11_1.cell 0
  have k11_1_1 : w11.cell? ⟨w.heap.size + 1, 1, none⟩ = some (.int .i64 bY) := B11_1.cell 1
  have k11_1_2 : w11.cell? ⟨w.heap.size + 1, 2, none⟩ = some (.int .i64 bz) := B11_1.cell 2
  have z11_1 : w.heap.size + 1 < w11.heap.size := B11_1.lt
  clear B11_1
  have B11_2 : Blk w11 (w2.heap.size) 23 #[.int .i64 0, .int .i64 0, .int .i64 0] := HH11.out (w2.heap.size, 23, [.int .i64 0, .int .i64 0, .int .i64 0]) (by simp)
  have k11_2_0 : w11.cell? ⟨w2.heap.size, 0, none⟩ = some (.int .i64 0) := B11_2.cell 0
  have k11_2_1 : w11.cell? ⟨w2.heap.size, 1, none⟩ = some (.int .i64 0) := B11_2.cell 1
  have k11_2_2 : w11.cell? ⟨w2.heap.size, 2, none⟩ = some (.int .i64 0) := B11_2.cell 2
  have z11_2 : w2.heap.size < w11.heap.size := B11_2.lt
  clear B11_2
  have B11_3 : Blk w11 (w3.heap.size) 23 #[.int .i64 0, .int .i64 0, .int .i64 0] := HH11.out (w3.heap.size, 23, [.int .i64 0, .int .i64 0, .int .i64 0]) (by simp)
  have k11_3_0 : w11.cell? ⟨w3.heap.size, 0, none⟩ = some (.int .i64 0) := B11_3.cell 0
  have k11_3_1 : w11.cell? ⟨w3.heap.size, 1, none⟩ = some (.int .i64 0) := B11_3.cell 1
  have k11_3_2 : w11.cell? ⟨w3.heap.size, 2, none⟩ = some (.int .i64 0) := B11_3.cell 2
  have z11_3 : w3.heap.size < w11.heap.size := B11_3.lt
  clear B11_3
  have tok1 : True := trivial
  go_upto_region 9 with fail
  have HHp := HH11.out
  have HBp := HB11.out
  first
    | go_region_held3 (fun w' => w'.cell? ⟨w.heap.size, 0, none⟩ = some (.int .i64 ax) ∧ w'.cell? ⟨w.heap.size, 1, none⟩ = some (.int .i64 ay) ∧ w'.cell? ⟨w.heap.size, 2, none⟩ = some (.int .i64 az) ∧ w'.cell? ⟨w.heap.size + 1, 0, none⟩ = some (.int .i64 bx) ∧ w'.cell? ⟨w.heap.size + 1, 1, none⟩ = some (.int .i64 bY) ∧ w'.cell? ⟨w.heap.size + 1, 2, none⟩ = some (.int .i64 bz) ∧ w'.cell? ⟨w2.heap.size, 0, none⟩ = some (.int .i64 0) ∧ w'.cell? ⟨w2.heap.size, 1, none⟩ = some (.int .i64 0) ∧ w'.cell? ⟨w2.heap.size, 2, none⟩ = some (.int .i64 0) ∧ w'.cell? ⟨w3.heap.size, 0, none⟩ = some (.int .i64 0) ∧ w'.cell? ⟨w3.heap.size, 1, none⟩ = some (.int .i64 0) ∧ w'.cell? ⟨w3.heap.size, 2, none⟩ = some (.int .i64 0) ∧ w.heap.size < w'.heap.size ∧ w.heap.size + 1 < w'.heap.size ∧ w2.heap.size < w'.heap.size ∧ w3.heap.size < w'.heap.size ∧ Blks w' [(w3.heap.size, 23, [.int .i64 0, .int .i64 0, .int .i64 0]), (w2.heap.size, 23, [.int .i64 0, .int .i64 0, .int .i64 0]), (w.heap.size + 1, 23, [.int .i64 bx, .int .i64 bY, .int .i64 bz]), (w.heap.size, 23, [.int .i64 ax, .int .i64 ay, .int .i64 az])] ∧ Below w.heap.size w w')
      ((go_split_ands; (repeat' apply And.intro) <;> (first | with_reducible assumption | (with_reducible refine Blks.drew ?_; with_reducible assumption) | (with_reducible refine Below.drew ?_; with_reducible assumption) | (simp only [World.cell?_drew, World.size_drew]; with_reducible assumption) | (with_reducible refine Blks.below ?_ hbm; with_reducible assumption) | (with_reducible refine below_trans ?_ hbm; with_reducible assumption) | (rw [hbm.cell (by first | assumption | (simp only [World.size_drew]; assumption))]; first | with_reducible assumption | (simp only [World.cell?_drew]; with_reducible assumption)) | (refine Nat.lt_of_lt_of_le ?_ hbm.size; first | with_reducible assumption | (simp only [World.size_drew]; with_reducible assumption)))))
      ((first
        | (go_at_call 20; with_reducible refine (c9.out _).mono ?_; rintro e w12 ⟨rfl, hbm⟩)
        | (go_at_call 21; with_reducible refine (c10.out _).mono ?_; rintro e w12 ⟨rfl, hbm⟩)
        | (go_at_call 19; have _t := tok1; with_reducible refine (c11.out _).mono ?_; clear tok1 _t; rintro e w12 ⟨rfl, hbm⟩)
        | (go_at_call 19; with_reducible refine (c12.out _).mono ?_; rintro e w12 ⟨rfl, hbm⟩)))
    | fail
  go_split_ands
  have HH12 : Blks w12 [(w3.heap.size, 23, [.int .i64 0, .int .i64 0, .int .i64 0]), (w2.heap.size, 23, [.int .i64 0, .int .i64 0, .int .i64 0]), (w.heap.size + 1, 23, [.int .i64 bx, .int .i64 bY, .int .i64 bz]), (w.heap.size, 23, [.int .i64 ax, .int .i64 ay, .int .i64 az])] := by assumption
  have HB12 : Below w.heap.size w w12 := by assumption
  have HH12 := Lib.hid HH12
  have HB12 := Lib.hid HB12
  clear k11_0_0 k11_0_1 k11_0_2 z11_0 k11_1_0 k11_1_1 k11_1_2 z11_1 k11_2_0 k11_2_1 k11_2_2 z11_2 k11_3_0 k11_3_1 k11_3_2 z11_3
  clear HHp HBp HH11 HB11
  have B12_0 : Blk w12 (w.heap.size) 23 #[.int .i64 ax, .int .i64 ay, .int .i64 az] := HH12.out (w.heap.size, 23, [.int .i64 ax, .int .i64 ay, .int .i64 az]) (by simp)
  have k12_0_0 : w12.cell? ⟨w.heap.size, 0, none⟩ = some (.int .i64 ax) := B12_0.cell 0
  have k12_0_1 : w12.cell? ⟨w.heap.size, 1, none⟩ = some (.int .i64 ay) := B12_0.cell 1
  have k12_0_2 : w12.cell? ⟨w.heap.size, 2, none⟩ = some (.int .i64 az) := B12_0.cell 2
  have z12_0 : w.heap.size < w12.heap.size := B12_0.lt
  clear B12_0
  have B12_1 : Blk w12 (w.heap.size + 1) 23 #[.int .i64 bx, .int .i64 bY, .int .i64 bz] := HH12.out (w.heap.size + 1, 23, [.int .i64 bx, .int .i64 bY, .int .i64 bz]) (by simp)
  have k12_1_0 : w12.cell? ⟨w.heap.size + 1, 0, none⟩ = some (.int .i64 bx) := B12_1.cell 0
  have k12_1_1 : w12.cell? ⟨w.heap.size + 1, 1, none⟩ = some (.int .i64 bY) := B12_1.cell 1
  have k12_1_2 : w12.cell? ⟨w.heap.size + 1, 2, none⟩ = some (.int .i64 bz) := B12_1.cell 2
  have z12_1 : w.heap.size + 1 < w12.heap.size := B12_1.lt
  clear B12_1
  have B12_2 : Blk w12 (w2.heap.size) 23 #[.int .i64 0, .int .i64 0, .int .i64 0] := HH12.out (w2.heap.size, 23, [.int .i64 0, .int .i64 0, .int .i64 0]) (by simp)
  have k12_2_0 : w12.cell? ⟨w2.heap.size, 0, none⟩ = some (.int .i64 0) := B12_2.cell 0
  have k12_2_1 : w12.cell? ⟨w2.heap.size, 1, none⟩ = some (.int .i64 0) := B12_2.cell 1
  have k12_2_2 : w12.cell? ⟨w2.heap.size, 2, none⟩ = some (.int .i64 0) := B12_2.cell 2
  have z12_2 : w2.heap.size < w12.heap.size := B12_2.lt
  clear B12_2
  have B12_3 : Blk w12 (w3.heap.size) 23 #[.int .i64 0, .int .i64 0, .int .i64 0] := HH12.out (w3.heap.size, 23, [.int .i64 0, .int .i64 0, .int .i64 0]) (by simp)
  have k12_3_0 : w12.cell? ⟨w3.heap.size, 0, none⟩ = some (.int .i64 0) := B12_3.cell 0
  have k12_3_1 : w12.cell? ⟨w3.heap.size, 1, none⟩ = some (.int .i64 0) := B12_3.cell 1
  have k12_3_2 : w12.cell? ⟨w3.heap.size, 2, none⟩ = some (.int .i64 0) := B12_3.cell 2
  have z12_3 : w3.heap.size < w12.heap.size := B12_3.lt
  clear B12_3
  go_wp2
  go_returns
  exact ⟨rfl, by repeat (first | with_reducible exact HB12.out | with_reducible refine Below.drew ?_ | with_reducible refine below_drewN ?_ _ | with_reducible refine below_set ?_ (by have := HB12.out.size; simp <;> omega) _ | with_reducible refine below_alloc ?_ _)⟩
theorem addsLaw_any (ax ay az bx bY bz : Int) (w : World) : Calls Try.prog 3 #[.agg #[.int .i64 ax, .int .i64 ay, .int .i64 az], .agg #[.int .i64 bx, .int .i64 bY, .int .i64 bz]] w fun e w' => e = .returned (.bool true) ∧ Below w.heap.size w w' := by

  rcases ha : in3 ax ay az with _ | _
  · exact adds_n1 ax ay az bx bY bz rfl ha w
  rcases hb : in3 bx bY bz with _ | _
  · exact adds_n2 ax ay az bx bY bz ha hb w
  rcases hs : in3 (ax + bx) (ay + bY) (az + bz) with _ | _ <;> rcases hd : in3 (ax - bx) (ay - bY) (az - bz) with _ | _
  · exact adds_nn ax ay az bx bY bz ha hb hs hd w
  · exact adds_ny ax ay az bx bY bz ha hb hs hd w
  · exact adds_yn ax ay az bx bY bz ha hb hs hd w
  · exact adds_yy ax ay az bx bY bz ha hb hs hd w

end Go.Proofs.Ytkfdbhhchnbjdaa.Ve
