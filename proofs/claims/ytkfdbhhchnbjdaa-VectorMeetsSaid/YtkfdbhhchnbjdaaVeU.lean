/- Segments: meet, Turn, On, Meet. -/
import Derived.Test.YtkfdbhhchnbjdaaVeT
import Derived.Test.YtkfdbhhchnbjdaaVeD
namespace Go.Proofs.Ytkfdbhhchnbjdaa.Ve
open Go.RowKit Ba
set_option linter.unusedVariables false
attribute [local go_sem ↓] Go.wp_at_zero Go.wp_at_succ

def meetI (ax ay bx bY cx cy dx dy : Int) : Int :=
  if turnI cx cy dx dy ax ay = 0 ∧ turnI cx cy dx dy bx bY = 0 ∧ turnI ax ay bx bY cx cy = 0 ∧ turnI ax ay bx bY dx dy = 0 then lineI ax ay bx bY cx cy dx dy
  else if 0 < turnI ax ay bx bY cx cy * turnI ax ay bx bY dx dy ∨ 0 < turnI cx cy dx dy ax ay * turnI cx cy dx dy bx bY then 0 else 1
theorem mul1 {a b : Int} (h1 : -1 ≤ a ∧ a ≤ 1) (h2 : -1 ≤ b ∧ b ≤ 1) : -1 ≤ a * b ∧ a * b ≤ 1 := mul_bd 1 1 h1.1 h1.2 h2.1 h2.2
theorem turn_lit (ax ay bx bY cx cy : Int) (h1 : in2 ax ay = true) (h2 : in2 bx bY = true) (h3 : in2 cx cy = true) (w : World) : Calls Try.prog 49 #[.agg #[.int .i64 ax, .int .i64 ay], .agg #[.int .i64 bx, .int .i64 bY], .agg #[.int .i64 cx, .int .i64 cy]] w fun e w' => e = .returned (.int .i64 (turnI ax ay bx bY cx cy)) ∧ w' = ((w.alloc (.cells #[.int .i64 ax, .int .i64 ay] 46)).alloc (.cells #[.int .i64 bx, .int .i64 bY] 46)).alloc (.cells #[.int .i64 cx, .int .i64 cy] 46) := by
  obtain ⟨⟨_, _⟩, ⟨_, _⟩⟩ := in2_iff.1 h1
  obtain ⟨⟨_, _⟩, ⟨_, _⟩⟩ := in2_iff.1 h2
  obtain ⟨⟨_, _⟩, ⟨_, _⟩⟩ := in2_iff.1 h3
  clear h1 h2 h3
  obtain ⟨_, _⟩ := mul7 (a := bx - ax) (b := cy - ay) ⟨by omega, by omega⟩ ⟨by omega, by omega⟩
  obtain ⟨_, _⟩ := mul7 (a := bY - ay) (b := cx - ax) ⟨by omega, by omega⟩ ⟨by omega, by omega⟩
  have HT := Lib.hid (show turnI ax ay bx bY cx cy = cmpI ((bx - ax) * (cy - ay)) ((bY - ay) * (cx - ax)) from rfl)
  go_enter Try.func49, Try.ntmps49
  go_wp2_with (go_at_call 55; refine (cmp_int64 _ _ _).mono ?_; rintro e w' ⟨rfl, rfl⟩)
  go_returns
  exact ⟨ret_int HT.out.symm, rfl⟩
set_option maxHeartbeats 3200000 in
theorem meet_any (ax ay bx bY cx cy dx dy : Int) (h1 : in2 ax ay = true) (h2 : in2 bx bY = true) (h3 : in2 cx cy = true) (h4 : in2 dx dy = true) (w : World) : Calls Try.prog 50 #[.agg #[.int .i64 ax, .int .i64 ay], .agg #[.int .i64 bx, .int .i64 bY], .agg #[.int .i64 cx, .int .i64 cy], .agg #[.int .i64 dx, .int .i64 dy]] w fun e w' => e = .returned (.int .i64 (meetI ax ay bx bY cx cy dx dy)) ∧ Below w.heap.size w w' := by

  have C5 := Lib.hid fun W => meetOnLine_any ax ay bx bY cx cy dx dy W
  have HM : Hid (meetI ax ay bx bY cx cy dx dy = if turnI cx cy dx dy ax ay = 0 ∧ turnI cx cy dx dy bx bY = 0 ∧ turnI ax ay bx bY cx cy = 0 ∧ turnI ax ay bx bY dx dy = 0 then lineI ax ay bx bY cx cy dx dy else if 0 < turnI ax ay bx bY cx cy * turnI ax ay bx bY dx dy ∨ 0 < turnI cx cy dx dy ax ay * turnI cx cy dx dy bx bY then 0 else 1) := Lib.hid rfl
  obtain ⟨b1, b2⟩ := mul1 (cmpI_bd ((bx - ax) * (cy - ay)) ((bY - ay) * (cx - ax))) (cmpI_bd ((bx - ax) * (dy - ay)) ((bY - ay) * (dx - ax)))
  obtain ⟨b3, b4⟩ := mul1 (cmpI_bd ((dx - cx) * (ay - cy)) ((dy - cy) * (ax - cx))) (cmpI_bd ((dx - cx) * (bY - cy)) ((dy - cy) * (bx - cx)))
  change -1 ≤ turnI ax ay bx bY cx cy * turnI ax ay bx bY dx dy at b1
  change turnI ax ay bx bY cx cy * turnI ax ay bx bY dx dy ≤ 1 at b2
  change -1 ≤ turnI cx cy dx dy ax ay * turnI cx cy dx dy bx bY at b3
  change turnI cx cy dx dy ax ay * turnI cx cy dx dy bx bY ≤ 1 at b4
  have BB := Lib.hid (And.intro b1 (And.intro b2 (And.intro b3 b4)))
  clear b1 b2 b3 b4
  go_enter Try.func50, Try.ntmps50
  go_upto_region 1 with fail
  go_cut [9, 10] (fun p q wx => p = .int .i64 (turnI ax ay bx bY cx cy) ∧ q = .int .i64 (turnI ax ay bx bY dx dy) ∧ Blk wx (w.heap.size) 46 #[.int .i64 ax, .int .i64 ay] ∧ Blk wx (w.heap.size + 1) 46 #[.int .i64 bx, .int .i64 bY] ∧ Blk wx (w.heap.size + 1 + 1) 46 #[.int .i64 cx, .int .i64 cy] ∧ Blk wx (w.heap.size + 1 + 1 + 1) 46 #[.int .i64 dx, .int .i64 dy] ∧ Below w.heap.size w wx)
  case first =>
    go_region_held3 (fun w' => w'.cell? ⟨w.heap.size, 0, none⟩ = some (.int .i64 ax) ∧ w'.cell? ⟨w.heap.size, 1, none⟩ = some (.int .i64 ay) ∧ w'.cell? ⟨w.heap.size + 1, 0, none⟩ = some (.int .i64 bx) ∧ w'.cell? ⟨w.heap.size + 1, 1, none⟩ = some (.int .i64 bY) ∧ w'.cell? ⟨w.heap.size + 1 + 1, 0, none⟩ = some (.int .i64 cx) ∧ w'.cell? ⟨w.heap.size + 1 + 1, 1, none⟩ = some (.int .i64 cy) ∧ w'.cell? ⟨w.heap.size + 1 + 1 + 1, 0, none⟩ = some (.int .i64 dx) ∧ w'.cell? ⟨w.heap.size + 1 + 1 + 1, 1, none⟩ = some (.int .i64 dy)) (((try simp only [World.cell?_drew]); (repeat' apply And.intro) <;> (first | assumption | ((simp (disch := ((try simp only [World.size_alloc, World.size_drew]); first | done | omega)) only [World.cell?_drew, World.cell?_alloc_past, World.cell?_alloc_at]); first | done | assumption | rfl))))
      ((go_at_call 49; refine (turn_lit _ _ _ _ _ _ (by assumption) (by assumption) (by assumption) _).mono ?_; rintro e w2 ⟨rfl, rfl⟩))
    all_goals
      go_wp2_with fail
      go_meet
      refine ⟨rfl, rfl, ?_, ?_, ?_, ?_, ?_⟩
      · repeat (first | assumption | (refine Blk_at ?_; simp only [World.size_alloc, World.size_drew]; done) | with_reducible refine Blk.drew ?_ | with_reducible refine Blk.alloc ?_ _)
      · repeat (first | assumption | (refine Blk_at ?_; simp only [World.size_alloc, World.size_drew]; done) | with_reducible refine Blk.drew ?_ | with_reducible refine Blk.alloc ?_ _)
      · repeat (first | assumption | (refine Blk_at ?_; simp only [World.size_alloc, World.size_drew]; done) | with_reducible refine Blk.drew ?_ | with_reducible refine Blk.alloc ?_ _)
      · repeat (first | assumption | (refine Blk_at ?_; simp only [World.size_alloc, World.size_drew]; done) | with_reducible refine Blk.drew ?_ | with_reducible refine Blk.alloc ?_ _)
      · repeat (first | with_reducible exact Below.refl _ _ | with_reducible refine Below.drew ?_ | with_reducible refine below_drewN ?_ _ | with_reducible refine below_set ?_ (by simp <;> omega) _ | with_reducible refine below_alloc ?_ _)
  case rest =>
    obtain ⟨wa, rfl⟩ : ∃ wa : World, wa = wc := ⟨_, rfl⟩
    obtain ⟨rfl, rfl, hX0, hX1, hX2, hX3, hbwa⟩ := hcut
    have wac00 : wa.cell? ⟨w.heap.size, 0, none⟩ = some (.int .i64 ax) := hX0.cell 0
    have wac01 : wa.cell? ⟨w.heap.size, 1, none⟩ = some (.int .i64 ay) := hX0.cell 1
    have wac10 : wa.cell? ⟨w.heap.size + 1, 0, none⟩ = some (.int .i64 bx) := hX1.cell 0
    have wac11 : wa.cell? ⟨w.heap.size + 1, 1, none⟩ = some (.int .i64 bY) := hX1.cell 1
    have wac20 : wa.cell? ⟨w.heap.size + 1 + 1, 0, none⟩ = some (.int .i64 cx) := hX2.cell 0
    have wac21 : wa.cell? ⟨w.heap.size + 1 + 1, 1, none⟩ = some (.int .i64 cy) := hX2.cell 1
    have wac30 : wa.cell? ⟨w.heap.size + 1 + 1 + 1, 0, none⟩ = some (.int .i64 dx) := hX3.cell 0
    have wac31 : wa.cell? ⟨w.heap.size + 1 + 1 + 1, 1, none⟩ = some (.int .i64 dy) := hX3.cell 1
    have waz0 : w.heap.size < wa.heap.size := hX0.lt
    have waz1 : w.heap.size + 1 < wa.heap.size := hX1.lt
    have waz2 : w.heap.size + 1 + 1 < wa.heap.size := hX2.lt
    have waz3 : w.heap.size + 1 + 1 + 1 < wa.heap.size := hX3.lt
    go_upto_region 2 with fail
    go_cut [11, 12] (fun p q wx => p = .int .i64 (turnI cx cy dx dy ax ay) ∧ q = .int .i64 (turnI cx cy dx dy bx bY) ∧ Blk wx (w.heap.size) 46 #[.int .i64 ax, .int .i64 ay] ∧ Blk wx (w.heap.size + 1) 46 #[.int .i64 bx, .int .i64 bY] ∧ Blk wx (w.heap.size + 1 + 1) 46 #[.int .i64 cx, .int .i64 cy] ∧ Blk wx (w.heap.size + 1 + 1 + 1) 46 #[.int .i64 dx, .int .i64 dy] ∧ Below w.heap.size w wx)
    case first =>
      go_region_held3 (fun w' => w'.cell? ⟨w.heap.size, 0, none⟩ = some (.int .i64 ax) ∧ w'.cell? ⟨w.heap.size, 1, none⟩ = some (.int .i64 ay) ∧ w'.cell? ⟨w.heap.size + 1, 0, none⟩ = some (.int .i64 bx) ∧ w'.cell? ⟨w.heap.size + 1, 1, none⟩ = some (.int .i64 bY) ∧ w'.cell? ⟨w.heap.size + 1 + 1, 0, none⟩ = some (.int .i64 cx) ∧ w'.cell? ⟨w.heap.size + 1 + 1, 1, none⟩ = some (.int .i64 cy) ∧ w'.cell? ⟨w.heap.size + 1 + 1 + 1, 0, none⟩ = some (.int .i64 dx) ∧ w'.cell? ⟨w.heap.size + 1 + 1 + 1, 1, none⟩ = some (.int .i64 dy)) (((try simp only [World.cell?_drew]); (repeat' apply And.intro) <;> (first | assumption | ((simp (disch := ((try simp only [World.size_alloc, World.size_drew]); first | done | omega)) only [World.cell?_drew, World.cell?_alloc_past, World.cell?_alloc_at]); first | done | assumption | rfl))))
        ((go_at_call 49; refine (turn_lit _ _ _ _ _ _ (by assumption) (by assumption) (by assumption) _).mono ?_; rintro e w2 ⟨rfl, rfl⟩))
      all_goals
        go_wp2_with fail
        go_meet
        refine ⟨rfl, rfl, ?_, ?_, ?_, ?_, ?_⟩
        · repeat (first | assumption | (refine Blk_at ?_; simp only [World.size_alloc, World.size_drew]; done) | with_reducible refine Blk.drew ?_ | with_reducible refine Blk.alloc ?_ _)
        · repeat (first | assumption | (refine Blk_at ?_; simp only [World.size_alloc, World.size_drew]; done) | with_reducible refine Blk.drew ?_ | with_reducible refine Blk.alloc ?_ _)
        · repeat (first | assumption | (refine Blk_at ?_; simp only [World.size_alloc, World.size_drew]; done) | with_reducible refine Blk.drew ?_ | with_reducible refine Blk.alloc ?_ _)
        · repeat (first | assumption | (refine Blk_at ?_; simp only [World.size_alloc, World.size_drew]; done) | with_reducible refine Blk.drew ?_ | with_reducible refine Blk.alloc ?_ _)
        · repeat (first | with_reducible exact hbwa | with_reducible refine Below.drew ?_ | with_reducible refine below_drewN ?_ _ | with_reducible refine below_set ?_ (by simp <;> omega) _ | with_reducible refine below_alloc ?_ _)
    case rest =>
      obtain ⟨wb, rfl⟩ : ∃ wb : World, wb = wc := ⟨_, rfl⟩
      obtain ⟨rfl, rfl, hX0, hX1, hX2, hX3, hbwb⟩ := hcut
      clear hbwa wac00 wac01 wac10 wac11 wac20 wac21 wac30 wac31 waz0 waz1 waz2 waz3
      have wbc00 : wb.cell? ⟨w.heap.size, 0, none⟩ = some (.int .i64 ax) := hX0.cell 0
      have wbc01 : wb.cell? ⟨w.heap.size, 1, none⟩ = some (.int .i64 ay) := hX0.cell 1
      have wbc10 : wb.cell? ⟨w.heap.size + 1, 0, none⟩ = some (.int .i64 bx) := hX1.cell 0
      have wbc11 : wb.cell? ⟨w.heap.size + 1, 1, none⟩ = some (.int .i64 bY) := hX1.cell 1
      have wbc20 : wb.cell? ⟨w.heap.size + 1 + 1, 0, none⟩ = some (.int .i64 cx) := hX2.cell 0
      have wbc21 : wb.cell? ⟨w.heap.size + 1 + 1, 1, none⟩ = some (.int .i64 cy) := hX2.cell 1
      have wbc30 : wb.cell? ⟨w.heap.size + 1 + 1 + 1, 0, none⟩ = some (.int .i64 dx) := hX3.cell 0
      have wbc31 : wb.cell? ⟨w.heap.size + 1 + 1 + 1, 1, none⟩ = some (.int .i64 dy) := hX3.cell 1
      have wbz0 : w.heap.size < wb.heap.size := hX0.lt
      have wbz1 : w.heap.size + 1 < wb.heap.size := hX1.lt
      have wbz2 : w.heap.size + 1 + 1 < wb.heap.size := hX2.lt
      have wbz3 : w.heap.size + 1 + 1 + 1 < wb.heap.size := hX3.lt
      clear hX0 hX1 hX2 hX3
      obtain ⟨b1, b2, b3, b4⟩ := BB.out
      clear h1 h2 h3 h4 BB
      generalize turnI ax ay bx bY cx cy = sc at *
      generalize turnI ax ay bx bY dx dy = sd at *
      generalize turnI cx cy dx dy ax ay = sa at *
      generalize turnI cx cy dx dy bx bY = sb at *
      have HF0 : Hid (¬ (sa = 0 ∧ sb = 0 ∧ sc = 0 ∧ sd = 0) → meetI ax ay bx bY cx cy dx dy = if 0 < sc * sd ∨ 0 < sa * sb then 0 else 1) := Lib.hid (fun h => by rw [HM.out, if_neg h])
      have HF1 : Hid (sa = 0 → sb = 0 → sc = 0 → sd = 0 → meetI ax ay bx bY cx cy dx dy = lineI ax ay bx bY cx cy dx dy) := Lib.hid (fun h1 h2 h3 h4 => by rw [HM.out, if_pos ⟨h1, h2, h3, h4⟩])
      clear HM
      have fin : ∀ (x : Int) (W : World), Below w.heap.size w W → x = meetI ax ay bx bY cx cy dx dy → True := fun _ _ _ _ => trivial
      by_cases e1 : sa = 0
      · by_cases e2 : sb = 0
        · by_cases e3 : sc = 0
          · by_cases e4 : sd = 0
            · have HF := Lib.hid (HF1.out e1 e2 e3 e4)
              clear HF0 HF1 b1 b2 b3 b4 fin
              subst e1 e2 e3 e4
              go_wp2_with fail
              refine (C5.out _).mono ?_
              rintro e w5 ⟨rfl, hb5⟩
              go_wp2
              go_returns
              exact ⟨ret_int HF.out.symm, below_trans hbwb hb5⟩
            · have HF := Lib.hid (HF0.out (by omega))
              have t4 : (sd == 0) = false := by simp [e4]
              clear HF0 HF1 C5 fin e4
              subst e1 e2 e3
              go_wp2; all_goals (go_returns; exact ⟨ret_int (by rw [HF.out]; first | rw [if_pos (by omega)] | rw [if_neg (by omega)]), hbwb⟩)
          · have HF := Lib.hid (HF0.out (by omega))
            have t3 : (sc == 0) = false := by simp [e3]
            clear HF0 HF1 C5 fin e3
            subst e1 e2
            go_wp2; all_goals (go_returns; exact ⟨ret_int (by rw [HF.out]; first | rw [if_pos (by omega)] | rw [if_neg (by omega)]), hbwb⟩)
        · have HF := Lib.hid (HF0.out (by omega))
          have t2 : (sb == 0) = false := by simp [e2]
          clear HF0 HF1 C5 fin e2
          subst e1
          go_wp2; all_goals (go_returns; exact ⟨ret_int (by rw [HF.out]; first | rw [if_pos (by omega)] | rw [if_neg (by omega)]), hbwb⟩)
      · have HF := Lib.hid (HF0.out (by omega))
        have t1 : (sa == 0) = false := by simp [e1]
        clear HF0 HF1 C5 fin e1
        go_wp2; all_goals (go_returns; exact ⟨ret_int (by rw [HF.out]; first | rw [if_pos (by omega)] | rw [if_neg (by omega)]), hbwb⟩)

end Go.Proofs.Ytkfdbhhchnbjdaa.Ve
