/- The program's order of vectors. -/
import Derived.Test.YtkfdbhhchnbjdaaVeF
import Derived.Test.YtkfdbhhchnbjdaaVeH1
namespace Go.Proofs.Ytkfdbhhchnbjdaa.Ve
open Go.RowKit Ba
set_option linter.unusedVariables false
attribute [local go_sem ↓] Go.wp_at_zero Go.wp_at_succ

theorem quiet_add_left {P : Program} {f : FuncId} {args : Array Value} {w : World} {a n : Nat} {v : Value}
    (h : Calls P f args (w.drewN (a + n)) fun e w' => e = .returned v ∧ w.drewN (a + n) = w') :
    Calls P f args (w.drewN (a + n)) fun e w'' => e = .returned v ∧ ∃ m, w'' = w.drewN (a + m) :=
  h.mono fun _ _ ⟨he, hm⟩ => ⟨he, n, hm.symm⟩
theorem quiet_left {P : Program} {f : FuncId} {args : Array Value} {w : World} {n : Nat} {v : Value}
    (h : Calls P f args (w.drewN n) fun e w' => e = .returned v ∧ w.drewN n = w') : Calls P f args (w.drewN n) fun e w'' => e = .returned v ∧ ∃ m, w'' = w.drewN m :=
  h.mono fun _ _ ⟨he, hm⟩ => ⟨he, n, hm.symm⟩
theorem cmp3_eq (ax ay az bx bY bz : Int) : cmp3 ax ay az bx bY bz = if cmpI ax bx = 0 then (if cmpI ay bY = 0 then cmpI az bz else cmpI ay bY) else cmpI ax bx := by
  unfold cmp3
  by_cases h1 : ax < bx
  · rw [if_pos h1, cmpI_lt h1]; rfl
  by_cases h2 : bx < ax
  · rw [if_neg h1, if_pos h2, cmpI_gt h2]; rfl
  obtain rfl : ax = bx := by omega
  rw [cmpI_eq, if_neg h1, if_neg h2, if_pos rfl]
  by_cases h3 : ay < bY
  · rw [if_pos h3, cmpI_lt h3]; rfl
  by_cases h4 : bY < ay
  · rw [if_neg h3, if_pos h4, cmpI_gt h4]; rfl
  obtain rfl : ay = bY := by omega
  rw [cmpI_eq, if_neg h3, if_neg h4, if_pos rfl]
set_option maxHeartbeats 12800000 in
theorem compare_any (ax ay az bx bY bz : Int) (w : World) : Calls Try.prog 17 #[.agg #[.int .i64 ax, .int .i64 ay, .int .i64 az], .agg #[.int .i64 bx, .int .i64 bY, .int .i64 bz]] w fun e w' => e = .returned (.int .i64 (cmp3 ax ay az bx bY bz)) ∧ Below w.heap.size w w' := by

  have hgd := fun x y xs ys W => vec_guard .eql x y xs ys W
  have heq := fun W => vec_eql ax ay az bx bY bz W
  by_cases h : ax = bx ∧ ay = bY ∧ az = bz
  · obtain ⟨rfl, rfl, rfl⟩ := h
    have HV := Lib.hid (show cmp3 ax ay az ax ay az = 0 by rw [cmp3_eq, cmpI_eq, cmpI_eq, cmpI_eq]; rfl)
    simp only [BEq.rfl, Bool.and_true] at heq
    go_enter Try.func17, Try.ntmps17
    go_wp2
    go_returns
    exact ⟨ret_int HV.out.symm, by go_grown⟩
  · have hv : ((ax == bx) && ((ay == bY) && (az == bz))) = false := by
      rw [Bool.eq_false_iff]; intro hh; simp at hh; exact h hh
    rw [hv] at heq
    clear h hv
    go_enter Try.func17, Try.ntmps17
    go_upto_region 3 with fail
    go_cut [5, 6] (fun p q wx => ∃ g h : Nat, p = .pointer (some ⟨g, 0, none⟩) ∧ q = .pointer (some ⟨h, 0, none⟩) ∧ g ≠ h ∧ w.heap.size + 1 < g ∧ w.heap.size + 1 < h ∧ Blk wx g 62 #[.int .i64 ax, .int .i64 ay, .int .i64 az] ∧ Blk wx h 62 #[.int .i64 bx, .int .i64 bY, .int .i64 bz]  ∧ Below w.heap.size w wx)
    case first =>
      go_region_held3 (fun w' => w'.cell? ⟨w.heap.size, 0, none⟩ = some (.int .i64 ax) ∧ w'.cell? ⟨w.heap.size, 1, none⟩ = some (.int .i64 ay) ∧ w'.cell? ⟨w.heap.size, 2, none⟩ = some (.int .i64 az) ∧ w'.cell? ⟨w.heap.size + 1, 0, none⟩ = some (.int .i64 bx) ∧ w'.cell? ⟨w.heap.size + 1, 1, none⟩ = some (.int .i64 bY) ∧ w'.cell? ⟨w.heap.size + 1, 2, none⟩ = some (.int .i64 bz)) ((first | (go_keep; done) | (simp only [World.cell?_drew]; (repeat' apply And.intro) <;> (simp (disch := (simp only [World.size_alloc]; first | done | omega)) only [World.cell?_alloc_past, World.cell?_alloc_at]; first | done | rfl)))) ((go_at_call 40; refine (coordinates_lit _ _ _ _).mono ?_; rintro e w2 ⟨rfl, rfl⟩))
      all_goals
        go_wp2_with fail
        go_meet
        refine ⟨_, _, rfl, rfl, by omega, by omega, by omega, ?_, ?_, ?_⟩
        · repeat (first | (refine Blk_at ?_; simp only [World.size_alloc]; done) | refine Blk.drew ?_ | refine Blk.alloc ?_ _)
        · repeat (first | (refine Blk_at ?_; simp only [World.size_alloc]; done) | refine Blk.drew ?_ | refine Blk.alloc ?_ _)
        · repeat (first | exact Below.refl _ _ | refine Below.drew ?_ | refine below_alloc ?_ _)
    case rest =>
      obtain ⟨g, h, rfl, rfl, hgh, hg, hh, hB1, hB2, hbw⟩ := hcut
      have a0 := hB1.cell 0
      have a1 := hB1.cell 1
      have a2 := hB1.cell 2
      have b0 := hB2.cell 0
      have b1 := hB2.cell 1
      have b2 := hB2.cell 2
      simp at a0 a1 a2 b0 b1 b2
      clear hB1 hB2 hgd heq
      have HV := Lib.hid (cmp3_eq ax ay az bx bY bz)
      by_cases e1 : cmpI ax bx = 0
      · by_cases e2 : cmpI ay bY = 0
        · by_cases e3 : cmpI az bz = 0
          · have HV := Lib.hid (show cmp3 ax ay az bx bY bz = 0 by rw [HV.out, if_pos e1, if_pos e2, e3])
            have t1 : (cmpI ax bx != 0) = false := by simp [e1]
            have t2 : (cmpI ay bY != 0) = false := by simp [e2]
            have t3 : (cmpI az bz != 0) = false := by simp [e3]
            clear e1 e2 e3
            go_wp2
            refine wp_loop_rounds 4 ?_
            rw [rounds_succ]
            go_wp2
            go_quiet ((go_at_call 41; first | exact quiet_left (cmp_int _ _ _) | exact quiet_add_left (cmp_int _ _ _)))
            go_wp2
            rw [rounds_succ]
            go_wp2
            go_quiet ((go_at_call 41; first | exact quiet_left (cmp_int _ _ _) | exact quiet_add_left (cmp_int _ _ _)))
            go_wp2
            rw [rounds_succ]
            go_wp2
            go_quiet ((go_at_call 41; first | exact quiet_left (cmp_int _ _ _) | exact quiet_add_left (cmp_int _ _ _)))
            go_wp2
            rw [rounds_succ]
            go_wp2
            go_returns
            exact ⟨ret_int HV.out.symm, by repeat (first | exact hbw | refine below_drewN ?_ _ | refine Below.drew ?_)⟩
          · have HV := Lib.hid (show cmp3 ax ay az bx bY bz = cmpI az bz by rw [HV.out, if_pos e1, if_pos e2])
            have t1 : (cmpI ax bx != 0) = false := by simp [e1]
            have t2 : (cmpI ay bY != 0) = false := by simp [e2]
            have t3 : (cmpI az bz != 0) = true := by simp [e3]
            clear e1 e2 e3
            go_wp2
            refine wp_loop_rounds 4 ?_
            rw [rounds_succ]
            go_wp2
            go_quiet ((go_at_call 41; first | exact quiet_left (cmp_int _ _ _) | exact quiet_add_left (cmp_int _ _ _)))
            go_wp2
            rw [rounds_succ]
            go_wp2
            go_quiet ((go_at_call 41; first | exact quiet_left (cmp_int _ _ _) | exact quiet_add_left (cmp_int _ _ _)))
            go_wp2
            rw [rounds_succ]
            go_wp2
            go_quiet ((go_at_call 41; first | exact quiet_left (cmp_int _ _ _) | exact quiet_add_left (cmp_int _ _ _)))
            go_wp2
            go_returns
            exact ⟨ret_int HV.out.symm, by repeat (first | exact hbw | refine below_drewN ?_ _ | refine Below.drew ?_)⟩
        · have HV := Lib.hid (show cmp3 ax ay az bx bY bz = cmpI ay bY by rw [HV.out, if_pos e1, if_neg e2])
          have t1 : (cmpI ax bx != 0) = false := by simp [e1]
          have t2 : (cmpI ay bY != 0) = true := by simp [e2]
          clear e1 e2
          go_wp2
          refine wp_loop_rounds 4 ?_
          rw [rounds_succ]
          go_wp2
          go_quiet ((go_at_call 41; first | exact quiet_left (cmp_int _ _ _) | exact quiet_add_left (cmp_int _ _ _)))
          go_wp2
          rw [rounds_succ]
          go_wp2
          go_quiet ((go_at_call 41; first | exact quiet_left (cmp_int _ _ _) | exact quiet_add_left (cmp_int _ _ _)))
          go_wp2
          go_returns
          exact ⟨ret_int HV.out.symm, by repeat (first | exact hbw | refine below_drewN ?_ _ | refine Below.drew ?_)⟩
      · have HV := Lib.hid (show cmp3 ax ay az bx bY bz = cmpI ax bx by rw [HV.out, if_neg e1])
        have t1 : (cmpI ax bx != 0) = true := by simp [e1]
        clear e1
        go_wp2
        refine wp_loop_rounds 4 ?_
        rw [rounds_succ]
        go_wp2
        go_quiet ((go_at_call 41; first | exact quiet_left (cmp_int _ _ _) | exact quiet_add_left (cmp_int _ _ _)))
        go_wp2
        go_returns
        exact ⟨ret_int HV.out.symm, by repeat (first | exact hbw | refine below_drewN ?_ _ | refine Below.drew ?_)⟩

end Go.Proofs.Ytkfdbhhchnbjdaa.Ve
