/- The reference's Meet of two segments that do not lie on one line. -/
import Derived.Test.YtkfdbhhchnbjdaaVeN1
namespace Go.Proofs.Ytkfdbhhchnbjdaa.Ve
open Go.RowKit Ba
set_option linter.unusedVariables false
set_option linter.unusedSimpArgs false
attribute [local go_sem ↓] Go.wp_at_zero Go.wp_at_succ

set_option maxRecDepth 100000 in
set_option maxHeartbeats 3200000 in
theorem rmeet_3b10 (ax ay bx bY cx cy dx dy : Int) (h1 : in2 ax ay = true) (h2 : in2 bx bY = true) (h3 : in2 cx cy = true) (h4 : in2 dx dy = true) (hab : ¬ (ax = bx ∧ ay = bY)) (hcd : ¬ (cx = dx ∧ cy = dy)) (ht : ¬ turnI ax ay bx bY cx cy = 0) (hp : 0 < turnI ax ay bx bY cx cy * turnI ax ay bx bY dx dy) (w : World) : Calls Try.prog 35 #[.agg #[.int .i64 ax, .int .i64 ay], .agg #[.int .i64 bx, .int .i64 bY], .agg #[.int .i64 cx, .int .i64 cy], .agg #[.int .i64 dx, .int .i64 dy]] w fun e w' => e = .returned (.int .i64 0) ∧ Below w.heap.size w w' := by
  have gd := fun x y xs ys W => pt_guard .eql x y xs ys W
  have e1 := fun W => pt_diff_eql hab W
  have e2 := fun W => pt_diff_eql hcd W
  have c1 := Lib.hid fun W => rturn_any ax ay bx bY cx cy h1 h2 h3 W
  have c2 := Lib.hid fun W => rturn_any ax ay bx bY dx dy h1 h2 h4 W
  have c3 := Lib.hid fun W => rturn_any cx cy dx dy ax ay h3 h4 h1 W
  have c4 := Lib.hid fun W => rturn_any cx cy dx dy bx bY h3 h4 h2 W
  obtain ⟨b1, b2⟩ := mul1 (cmpI_bd ((bx - ax) * (cy - ay)) ((bY - ay) * (cx - ax))) (cmpI_bd ((bx - ax) * (dy - ay)) ((bY - ay) * (dx - ax)))
  obtain ⟨b3, b4⟩ := mul1 (cmpI_bd ((dx - cx) * (ay - cy)) ((dy - cy) * (ax - cx))) (cmpI_bd ((dx - cx) * (bY - cy)) ((dy - cy) * (bx - cx)))
  change -1 ≤ turnI ax ay bx bY cx cy * turnI ax ay bx bY dx dy at b1
  change turnI ax ay bx bY cx cy * turnI ax ay bx bY dx dy ≤ 1 at b2
  change -1 ≤ turnI cx cy dx dy ax ay * turnI cx cy dx dy bx bY at b3
  change turnI cx cy dx dy ax ay * turnI cx cy dx dy bx bY ≤ 1 at b4
  clear h1 h2 h3 h4 hab hcd
  generalize turnI ax ay bx bY cx cy = t1 at *
  generalize turnI ax ay bx bY dx dy = t2 at *
  generalize turnI cx cy dx dy ax ay = t3 at *
  generalize turnI cx cy dx dy bx bY = t4 at *
  have m1 : IntKind.i64.wrap (t1 * t2) = t1 * t2 := IntWalk.i64_in _ (by omega)
  have m2 : IntKind.i64.wrap (t3 * t4) = t3 * t4 := IntWalk.i64_in _ (by omega)
  have f1 : (t1 == 0) = false := by simp [ht]
  clear ht
  have d1 : decide (t1 * t2 ≤ 0) = false := by simp; omega
  go_enter Try.func35, Try.ntmps35
  go_wp2_with fail
  refine (c1.out _).mono ?_
  rintro e w1 ⟨rfl, hb1⟩
  have HH1 := Lib.hid (((((((Blks.nil (w := w))).new (w.heap.size) 46 [.int .i64 ax, .int .i64 ay] rfl).new (w.heap.size + 1) 46 [.int .i64 bx, .int .i64 bY] (by simp)).new (w.heap.size + 1 + 1) 46 [.int .i64 cx, .int .i64 cy] (by simp)).new (w.heap.size + 1 + 1 + 1) 46 [.int .i64 dx, .int .i64 dy] (by simp)).below hb1)
  have HB1 := Lib.hid (below_trans (below_alloc (below_alloc (below_alloc (below_alloc (Below.refl _ _) _) _) _) _) hb1)
  clear hb1
  have B1_0 : Blk w1 (w.heap.size) 46 #[.int .i64 ax, .int .i64 ay] := HH1.out (w.heap.size, 46, [.int .i64 ax, .int .i64 ay]) (by simp)
  have k1_0_0 : w1.cell? ⟨w.heap.size, 0, none⟩ = some (.int .i64 ax) := B1_0.cell 0
  have k1_0_1 : w1.cell? ⟨w.heap.size, 1, none⟩ = some (.int .i64 ay) := B1_0.cell 1
  have z1_0 : w.heap.size < w1.heap.size := B1_0.lt
  clear B1_0
  have B1_1 : Blk w1 (w.heap.size + 1) 46 #[.int .i64 bx, .int .i64 bY] := HH1.out (w.heap.size + 1, 46, [.int .i64 bx, .int .i64 bY]) (by simp)
  have k1_1_0 : w1.cell? ⟨w.heap.size + 1, 0, none⟩ = some (.int .i64 bx) := B1_1.cell 0
  have k1_1_1 : w1.cell? ⟨w.heap.size + 1, 1, none⟩ = some (.int .i64 bY) := B1_1.cell 1
  have z1_1 : w.heap.size + 1 < w1.heap.size := B1_1.lt
  clear B1_1
  have B1_2 : Blk w1 (w.heap.size + 1 + 1) 46 #[.int .i64 cx, .int .i64 cy] := HH1.out (w.heap.size + 1 + 1, 46, [.int .i64 cx, .int .i64 cy]) (by simp)
  have k1_2_0 : w1.cell? ⟨w.heap.size + 1 + 1, 0, none⟩ = some (.int .i64 cx) := B1_2.cell 0
  have k1_2_1 : w1.cell? ⟨w.heap.size + 1 + 1, 1, none⟩ = some (.int .i64 cy) := B1_2.cell 1
  have z1_2 : w.heap.size + 1 + 1 < w1.heap.size := B1_2.lt
  clear B1_2
  have B1_3 : Blk w1 (w.heap.size + 1 + 1 + 1) 46 #[.int .i64 dx, .int .i64 dy] := HH1.out (w.heap.size + 1 + 1 + 1, 46, [.int .i64 dx, .int .i64 dy]) (by simp)
  have k1_3_0 : w1.cell? ⟨w.heap.size + 1 + 1 + 1, 0, none⟩ = some (.int .i64 dx) := B1_3.cell 0
  have k1_3_1 : w1.cell? ⟨w.heap.size + 1 + 1 + 1, 1, none⟩ = some (.int .i64 dy) := B1_3.cell 1
  have z1_3 : w.heap.size + 1 + 1 + 1 < w1.heap.size := B1_3.lt
  clear B1_3
  go_upto_region 18 with fail
  have HHp := HH1.out
  have HBp := HB1.out
  refine wp_region_held_drew (S := fun w' => w'.cell? ⟨w.heap.size, 0, none⟩ = some (.int .i64 ax) ∧ w'.cell? ⟨w.heap.size, 1, none⟩ = some (.int .i64 ay) ∧ w'.cell? ⟨w.heap.size + 1, 0, none⟩ = some (.int .i64 bx) ∧ w'.cell? ⟨w.heap.size + 1, 1, none⟩ = some (.int .i64 bY) ∧ w'.cell? ⟨w.heap.size + 1 + 1, 0, none⟩ = some (.int .i64 cx) ∧ w'.cell? ⟨w.heap.size + 1 + 1, 1, none⟩ = some (.int .i64 cy) ∧ w'.cell? ⟨w.heap.size + 1 + 1 + 1, 0, none⟩ = some (.int .i64 dx) ∧ w'.cell? ⟨w.heap.size + 1 + 1 + 1, 1, none⟩ = some (.int .i64 dy) ∧ w.heap.size < w'.heap.size ∧ w.heap.size + 1 < w'.heap.size ∧ w.heap.size + 1 + 1 < w'.heap.size ∧ w.heap.size + 1 + 1 + 1 < w'.heap.size ∧ Blks w' [(w.heap.size + 1 + 1 + 1, 46, [.int .i64 dx, .int .i64 dy]), (w.heap.size + 1 + 1, 46, [.int .i64 cx, .int .i64 cy]), (w.heap.size + 1, 46, [.int .i64 bx, .int .i64 bY]), (w.heap.size, 46, [.int .i64 ax, .int .i64 ay])] ∧ Below w.heap.size w w') (by kernel_rfl) ?_ (fun hH0 => ?_)
  · (try dsimp only)
    (go_split_ands; (repeat' apply And.intro) <;> (first | with_reducible assumption | (with_reducible refine Blks.drew ?_; with_reducible assumption) | (with_reducible refine Below.drew ?_; with_reducible assumption) | (simp only [World.cell?_drew, World.size_drew]; with_reducible assumption) | (with_reducible refine Blks.below ?_ hbm; with_reducible assumption) | (with_reducible refine below_trans ?_ hbm; with_reducible assumption) | (rw [hbm.cell (by first | assumption | (simp only [World.size_drew]; assumption))]; first | with_reducible assumption | (simp only [World.cell?_drew]; with_reducible assumption)) | (refine Nat.lt_of_lt_of_le ?_ hbm.size; first | with_reducible assumption | (simp only [World.size_drew]; with_reducible assumption))))
  clear k1_0_0 k1_0_1 z1_0 k1_1_0 k1_1_1 z1_1 k1_2_0 k1_2_1 z1_2 k1_3_0 k1_3_1 z1_3
  clear HHp HBp
  refine wpAnyH_take (i := 0) (oi := { dst := some 79, op := Go.Op.load 46 (Go.Operand.tmp 4), type := 46, pos := "ref.go:133", after := #[], guard := none }) (v := ?_) rfl (by kernel_rfl) (by kernel_rfl) (by kernel_rfl) (fun _ _ _ h => h) (Or.inl ⟨by rfl, ?_⟩) (by assumption) ?_
  rotate_left
  focus
    intro wz hSw
    (try dsimp only at hSw)
    go_simp
    (try with_reducible rfl)
  (try simp only [Act.put, List.setIfInBounds_toArray, List.set_cons_zero, List.set_cons_succ])
  refine wpAnyH_take (i := 1) (oi := { dst := some 80, op := Go.Op.load 46 (Go.Operand.tmp 5), type := 46, pos := "ref.go:133", after := #[], guard := none }) (v := ?_) rfl (by kernel_rfl) (by kernel_rfl) (by kernel_rfl) (fun _ _ _ h => h) (Or.inl ⟨by rfl, ?_⟩) (by assumption) ?_
  rotate_left
  focus
    intro wz hSw
    (try dsimp only at hSw)
    go_simp
    (try with_reducible rfl)
  (try simp only [Act.put, List.setIfInBounds_toArray, List.set_cons_zero, List.set_cons_succ])
  refine wpAnyH_take (i := 2) (oi := { dst := some 81, op := Go.Op.load 46 (Go.Operand.tmp 6), type := 46, pos := "ref.go:133", after := #[], guard := none }) (v := ?_) rfl (by kernel_rfl) (by kernel_rfl) (by kernel_rfl) (fun _ _ _ h => h) (Or.inl ⟨by rfl, ?_⟩) (by assumption) ?_
  rotate_left
  focus
    intro wz hSw
    (try dsimp only at hSw)
    go_simp
    (try with_reducible rfl)
  (try simp only [Act.put, List.setIfInBounds_toArray, List.set_cons_zero, List.set_cons_succ])
  refine wpAnyH_take (i := 4) (oi := { dst := some 83, op := Go.Op.load 46 (Go.Operand.tmp 4), type := 46, pos := "ref.go:133", after := #[], guard := none }) (v := ?_) rfl (by kernel_rfl) (by kernel_rfl) (by kernel_rfl) (fun _ _ _ h => h) (Or.inl ⟨by rfl, ?_⟩) (by assumption) ?_
  rotate_left
  focus
    intro wz hSw
    (try dsimp only at hSw)
    go_simp
    (try with_reducible rfl)
  (try simp only [Act.put, List.setIfInBounds_toArray, List.set_cons_zero, List.set_cons_succ])
  refine wpAnyH_take (i := 5) (oi := { dst := some 84, op := Go.Op.load 46 (Go.Operand.tmp 5), type := 46, pos := "ref.go:133", after := #[], guard := none }) (v := ?_) rfl (by kernel_rfl) (by kernel_rfl) (by kernel_rfl) (fun _ _ _ h => h) (Or.inl ⟨by rfl, ?_⟩) (by assumption) ?_
  rotate_left
  focus
    intro wz hSw
    (try dsimp only at hSw)
    go_simp
    (try with_reducible rfl)
  (try simp only [Act.put, List.setIfInBounds_toArray, List.set_cons_zero, List.set_cons_succ])
  refine wpAnyH_take (i := 6) (oi := { dst := some 85, op := Go.Op.load 46 (Go.Operand.tmp 7), type := 46, pos := "ref.go:133", after := #[], guard := none }) (v := ?_) rfl (by kernel_rfl) (by kernel_rfl) (by kernel_rfl) (fun _ _ _ h => h) (Or.inl ⟨by rfl, ?_⟩) (by assumption) ?_
  rotate_left
  focus
    intro wz hSw
    (try dsimp only at hSw)
    go_simp
    (try with_reducible rfl)
  (try simp only [Act.put, List.setIfInBounds_toArray, List.set_cons_zero, List.set_cons_succ])
  refine wpAnyH_ready (rs := [3]) (by kernel_rfl) (by simp) ?_
  refine AllReadyH.cons (o := { dst := some 82, op := Go.Op.call { callee := Go.Callee.value (Go.Operand.func 32), args := #[Go.Operand.tmp 79, Go.Operand.tmp 80, Go.Operand.tmp 81], argTypes := #[46, 46, 46] }, type := 3, pos := "ref.go:133", after := #[{ on := 0, ground := Go.Ground.data }, { on := 1, ground := Go.Ground.data }, { on := 2, ground := Go.Ground.data }], guard := none }) rfl (fun K hK => ?_) AllReadyH.nil
  go_simp
  with_reducible refine (c1.out _).mono ?_
  rintro e w2 ⟨rfl, hbm⟩
  go_wp2_with fail
  refine hK.out _ _ ?_ (fun hH1 => ?_)
  · (try dsimp only)
    (go_split_ands; (repeat' apply And.intro) <;> (first | with_reducible assumption | (with_reducible refine Blks.drew ?_; with_reducible assumption) | (with_reducible refine Below.drew ?_; with_reducible assumption) | (simp only [World.cell?_drew, World.size_drew]; with_reducible assumption) | (with_reducible refine Blks.below ?_ hbm; with_reducible assumption) | (with_reducible refine below_trans ?_ hbm; with_reducible assumption) | (rw [hbm.cell (by first | assumption | (simp only [World.size_drew]; assumption))]; first | with_reducible assumption | (simp only [World.cell?_drew]; with_reducible assumption)) | (refine Nat.lt_of_lt_of_le ?_ hbm.size; first | with_reducible assumption | (simp only [World.size_drew]; with_reducible assumption))))
  clear hK K hH0 hbm
  (try simp only [Act.put, List.setIfInBounds_toArray, List.set_cons_zero, List.set_cons_succ])
  refine wpAnyH_ready (rs := [7]) (by kernel_rfl) (by simp) ?_
  refine AllReadyH.cons (o := { dst := some 86, op := Go.Op.call { callee := Go.Callee.value (Go.Operand.func 32), args := #[Go.Operand.tmp 83, Go.Operand.tmp 84, Go.Operand.tmp 85], argTypes := #[46, 46, 46] }, type := 3, pos := "ref.go:133", after := #[{ on := 4, ground := Go.Ground.data }, { on := 5, ground := Go.Ground.data }, { on := 6, ground := Go.Ground.data }, { on := 3, ground := Go.Ground.chain }], guard := none }) rfl (fun K hK => ?_) AllReadyH.nil
  go_simp
  with_reducible refine (c2.out _).mono ?_
  rintro e w3 ⟨rfl, hbm⟩
  go_wp2_with fail
  refine hK.out _ _ ?_ (fun hH2 => ?_)
  · (try dsimp only)
    (go_split_ands; (repeat' apply And.intro) <;> (first | with_reducible assumption | (with_reducible refine Blks.drew ?_; with_reducible assumption) | (with_reducible refine Below.drew ?_; with_reducible assumption) | (simp only [World.cell?_drew, World.size_drew]; with_reducible assumption) | (with_reducible refine Blks.below ?_ hbm; with_reducible assumption) | (with_reducible refine below_trans ?_ hbm; with_reducible assumption) | (rw [hbm.cell (by first | assumption | (simp only [World.size_drew]; assumption))]; first | with_reducible assumption | (simp only [World.cell?_drew]; with_reducible assumption)) | (refine Nat.lt_of_lt_of_le ?_ hbm.size; first | with_reducible assumption | (simp only [World.size_drew]; with_reducible assumption))))
  clear hK K hH1 hbm
  (try simp only [Act.put, List.setIfInBounds_toArray, List.set_cons_zero, List.set_cons_succ])
  refine wpAnyH_take (i := 8) (oi := { dst := some 87, op := Go.Op.binOp Go.BinOp.mul 3 (Go.Operand.tmp 82) (Go.Operand.tmp 86) 3, type := 3, pos := "ref.go:133", after := #[{ on := 3, ground := Go.Ground.data }, { on := 7, ground := Go.Ground.data }], guard := none }) (v := ?_) rfl (by kernel_rfl) (by kernel_rfl) (by kernel_rfl) (fun _ _ _ h => h) (Or.inl ⟨by rfl, ?_⟩) (by assumption) ?_
  rotate_left
  focus
    intro wz hSw
    (try dsimp only at hSw)
    go_simp
    (try with_reducible rfl)
  (try simp only [Act.put, List.setIfInBounds_toArray, List.set_cons_zero, List.set_cons_succ])
  refine wpAnyH_take (i := 9) (oi := { dst := some 88, op := Go.Op.binOp Go.BinOp.leq 3 (Go.Operand.tmp 87) (Go.Operand.const (Go.Value.int Go.IntKind.i64 0)) 3, type := 4, pos := "ref.go:133", after := #[{ on := 8, ground := Go.Ground.data }], guard := none }) (v := ?_) rfl (by kernel_rfl) (by kernel_rfl) (by kernel_rfl) (fun _ _ _ h => h) (Or.inl ⟨by rfl, ?_⟩) (by assumption) ?_
  rotate_left
  focus
    intro wz hSw
    (try dsimp only at hSw)
    go_simp
    (try with_reducible rfl)
  (try simp only [Act.put, List.setIfInBounds_toArray, List.set_cons_zero, List.set_cons_succ])
  refine wpAnyH_take (i := 10) (oi := { dst := some 89, op := Go.Op.move (Go.Operand.tmp 88), type := 4, pos := "ref.go:133", after := #[{ on := 9, ground := Go.Ground.data }, { on := 7, ground := Go.Ground.chain }], guard := none }) (v := ?_) rfl (by kernel_rfl) (by kernel_rfl) (by kernel_rfl) (fun _ _ _ h => h) (Or.inl ⟨by rfl, ?_⟩) (by assumption) ?_
  rotate_left
  focus
    intro wz hSw
    (try dsimp only at hSw)
    go_simp
    (try with_reducible rfl)
  (try simp only [Act.put, List.setIfInBounds_toArray, List.set_cons_zero, List.set_cons_succ])
  refine wpAnyH_take (i := 11) (oi := { dst := some 90, op := Go.Op.load 46 (Go.Operand.tmp 6), type := 46, pos := "ref.go:133", after := #[{ on := 10, ground := Go.Ground.guard }], guard := some (10, true) }) (v := undef) rfl (by kernel_rfl) (by kernel_rfl) (by kernel_rfl) (fun _ _ _ h => h) (Or.inr ⟨by rfl, rfl⟩) (by assumption) ?_
  (try simp only [Act.put, List.setIfInBounds_toArray, List.set_cons_zero, List.set_cons_succ])
  refine wpAnyH_take (i := 12) (oi := { dst := some 91, op := Go.Op.load 46 (Go.Operand.tmp 7), type := 46, pos := "ref.go:133", after := #[{ on := 10, ground := Go.Ground.guard }], guard := some (10, true) }) (v := undef) rfl (by kernel_rfl) (by kernel_rfl) (by kernel_rfl) (fun _ _ _ h => h) (Or.inr ⟨by rfl, rfl⟩) (by assumption) ?_
  (try simp only [Act.put, List.setIfInBounds_toArray, List.set_cons_zero, List.set_cons_succ])
  refine wpAnyH_take (i := 13) (oi := { dst := some 92, op := Go.Op.load 46 (Go.Operand.tmp 4), type := 46, pos := "ref.go:133", after := #[{ on := 10, ground := Go.Ground.guard }], guard := some (10, true) }) (v := undef) rfl (by kernel_rfl) (by kernel_rfl) (by kernel_rfl) (fun _ _ _ h => h) (Or.inr ⟨by rfl, rfl⟩) (by assumption) ?_
  (try simp only [Act.put, List.setIfInBounds_toArray, List.set_cons_zero, List.set_cons_succ])
  refine wpAnyH_take (i := 15) (oi := { dst := some 94, op := Go.Op.load 46 (Go.Operand.tmp 6), type := 46, pos := "ref.go:133", after := #[{ on := 10, ground := Go.Ground.guard }], guard := some (10, true) }) (v := undef) rfl (by kernel_rfl) (by kernel_rfl) (by kernel_rfl) (fun _ _ _ h => h) (Or.inr ⟨by rfl, rfl⟩) (by assumption) ?_
  (try simp only [Act.put, List.setIfInBounds_toArray, List.set_cons_zero, List.set_cons_succ])
  refine wpAnyH_take (i := 16) (oi := { dst := some 95, op := Go.Op.load 46 (Go.Operand.tmp 7), type := 46, pos := "ref.go:133", after := #[{ on := 10, ground := Go.Ground.guard }], guard := some (10, true) }) (v := undef) rfl (by kernel_rfl) (by kernel_rfl) (by kernel_rfl) (fun _ _ _ h => h) (Or.inr ⟨by rfl, rfl⟩) (by assumption) ?_
  (try simp only [Act.put, List.setIfInBounds_toArray, List.set_cons_zero, List.set_cons_succ])
  refine wpAnyH_take (i := 17) (oi := { dst := some 96, op := Go.Op.load 46 (Go.Operand.tmp 5), type := 46, pos := "ref.go:133", after := #[{ on := 10, ground := Go.Ground.guard }], guard := some (10, true) }) (v := undef) rfl (by kernel_rfl) (by kernel_rfl) (by kernel_rfl) (fun _ _ _ h => h) (Or.inr ⟨by rfl, rfl⟩) (by assumption) ?_
  (try simp only [Act.put, List.setIfInBounds_toArray, List.set_cons_zero, List.set_cons_succ])
  refine wpAnyH_take (i := 14) (oi := { dst := some 93, op := Go.Op.call { callee := Go.Callee.value (Go.Operand.func 32), args := #[Go.Operand.tmp 90, Go.Operand.tmp 91, Go.Operand.tmp 92], argTypes := #[46, 46, 46] }, type := 3, pos := "ref.go:133", after := #[{ on := 11, ground := Go.Ground.data }, { on := 12, ground := Go.Ground.data }, { on := 13, ground := Go.Ground.data }, { on := 10, ground := Go.Ground.chain }, { on := 10, ground := Go.Ground.guard }], guard := some (10, true) }) (v := undef) rfl (by kernel_rfl) (by kernel_rfl) (by kernel_rfl) (fun _ _ _ h => h) (Or.inr ⟨by rfl, rfl⟩) (by assumption) ?_
  (try simp only [Act.put, List.setIfInBounds_toArray, List.set_cons_zero, List.set_cons_succ])
  refine wpAnyH_take (i := 18) (oi := { dst := some 97, op := Go.Op.call { callee := Go.Callee.value (Go.Operand.func 32), args := #[Go.Operand.tmp 94, Go.Operand.tmp 95, Go.Operand.tmp 96], argTypes := #[46, 46, 46] }, type := 3, pos := "ref.go:133", after := #[{ on := 15, ground := Go.Ground.data }, { on := 16, ground := Go.Ground.data }, { on := 17, ground := Go.Ground.data }, { on := 14, ground := Go.Ground.chain }, { on := 10, ground := Go.Ground.guard }], guard := some (10, true) }) (v := undef) rfl (by kernel_rfl) (by kernel_rfl) (by kernel_rfl) (fun _ _ _ h => h) (Or.inr ⟨by rfl, rfl⟩) (by assumption) ?_
  (try simp only [Act.put, List.setIfInBounds_toArray, List.set_cons_zero, List.set_cons_succ])
  refine wpAnyH_take (i := 19) (oi := { dst := some 98, op := Go.Op.binOp Go.BinOp.mul 3 (Go.Operand.tmp 93) (Go.Operand.tmp 97) 3, type := 3, pos := "ref.go:133", after := #[{ on := 14, ground := Go.Ground.data }, { on := 18, ground := Go.Ground.data }, { on := 10, ground := Go.Ground.guard }], guard := some (10, true) }) (v := undef) rfl (by kernel_rfl) (by kernel_rfl) (by kernel_rfl) (fun _ _ _ h => h) (Or.inr ⟨by rfl, rfl⟩) (by assumption) ?_
  (try simp only [Act.put, List.setIfInBounds_toArray, List.set_cons_zero, List.set_cons_succ])
  refine wpAnyH_take (i := 20) (oi := { dst := some 99, op := Go.Op.binOp Go.BinOp.leq 3 (Go.Operand.tmp 98) (Go.Operand.const (Go.Value.int Go.IntKind.i64 0)) 3, type := 4, pos := "ref.go:133", after := #[{ on := 19, ground := Go.Ground.data }, { on := 10, ground := Go.Ground.guard }], guard := some (10, true) }) (v := undef) rfl (by kernel_rfl) (by kernel_rfl) (by kernel_rfl) (fun _ _ _ h => h) (Or.inr ⟨by rfl, rfl⟩) (by assumption) ?_
  (try simp only [Act.put, List.setIfInBounds_toArray, List.set_cons_zero, List.set_cons_succ])
  refine wpAnyH_take (i := 21) (oi := { dst := some 100, op := Go.Op.pick (Go.Operand.tmp 89) (Go.Operand.tmp 99) (Go.Operand.const (Go.Value.bool false)), type := 4, pos := "ref.go:133", after := #[{ on := 10, ground := Go.Ground.data }, { on := 20, ground := Go.Ground.data }], guard := none }) (v := ?_) rfl (by kernel_rfl) (by kernel_rfl) (by kernel_rfl) (fun _ _ _ h => h) (Or.inl ⟨by rfl, ?_⟩) (by assumption) ?_
  rotate_left
  focus
    intro wz hSw
    (try dsimp only at hSw)
    go_simp
    (try with_reducible rfl)
  (try simp only [Act.put, List.setIfInBounds_toArray, List.set_cons_zero, List.set_cons_succ])
  refine wpAnyH_done (by kernel_rfl) ?_ _
  go_split_ands
  have HHn : Blks w3 [(w.heap.size + 1 + 1 + 1, 46, [.int .i64 dx, .int .i64 dy]), (w.heap.size + 1 + 1, 46, [.int .i64 cx, .int .i64 cy]), (w.heap.size + 1, 46, [.int .i64 bx, .int .i64 bY]), (w.heap.size, 46, [.int .i64 ax, .int .i64 ay])] := by assumption
  have HBn : Below w.heap.size w w3 := by assumption
  clear HH1 HB1
  have HH3 := Lib.hid HHn
  have HB3 := Lib.hid HBn
  clear HHn HBn
  have B3_0 : Blk w3 (w.heap.size) 46 #[.int .i64 ax, .int .i64 ay] := HH3.out (w.heap.size, 46, [.int .i64 ax, .int .i64 ay]) (by simp)
  have k3_0_0 : w3.cell? ⟨w.heap.size, 0, none⟩ = some (.int .i64 ax) := B3_0.cell 0
  have k3_0_1 : w3.cell? ⟨w.heap.size, 1, none⟩ = some (.int .i64 ay) := B3_0.cell 1
  have z3_0 : w.heap.size < w3.heap.size := B3_0.lt
  clear B3_0
  have B3_1 : Blk w3 (w.heap.size + 1) 46 #[.int .i64 bx, .int .i64 bY] := HH3.out (w.heap.size + 1, 46, [.int .i64 bx, .int .i64 bY]) (by simp)
  have k3_1_0 : w3.cell? ⟨w.heap.size + 1, 0, none⟩ = some (.int .i64 bx) := B3_1.cell 0
  have k3_1_1 : w3.cell? ⟨w.heap.size + 1, 1, none⟩ = some (.int .i64 bY) := B3_1.cell 1
  have z3_1 : w.heap.size + 1 < w3.heap.size := B3_1.lt
  clear B3_1
  have B3_2 : Blk w3 (w.heap.size + 1 + 1) 46 #[.int .i64 cx, .int .i64 cy] := HH3.out (w.heap.size + 1 + 1, 46, [.int .i64 cx, .int .i64 cy]) (by simp)
  have k3_2_0 : w3.cell? ⟨w.heap.size + 1 + 1, 0, none⟩ = some (.int .i64 cx) := B3_2.cell 0
  have k3_2_1 : w3.cell? ⟨w.heap.size + 1 + 1, 1, none⟩ = some (.int .i64 cy) := B3_2.cell 1
  have z3_2 : w.heap.size + 1 + 1 < w3.heap.size := B3_2.lt
  clear B3_2
  have B3_3 : Blk w3 (w.heap.size + 1 + 1 + 1) 46 #[.int .i64 dx, .int .i64 dy] := HH3.out (w.heap.size + 1 + 1 + 1, 46, [.int .i64 dx, .int .i64 dy]) (by simp)
  have k3_3_0 : w3.cell? ⟨w.heap.size + 1 + 1 + 1, 0, none⟩ = some (.int .i64 dx) := B3_3.cell 0
  have k3_3_1 : w3.cell? ⟨w.heap.size + 1 + 1 + 1, 1, none⟩ = some (.int .i64 dy) := B3_3.cell 1
  have z3_3 : w.heap.size + 1 + 1 + 1 < w3.heap.size := B3_3.lt
  clear B3_3
  go_wp2
  go_returns
  exact ⟨rfl, by repeat (first | with_reducible exact HB3.out | with_reducible refine Below.drew ?_ | with_reducible refine below_drewN ?_ _ | with_reducible refine below_set ?_ (by have := HB3.out.size; simp <;> omega) _ | with_reducible refine below_alloc ?_ _)⟩
set_option maxRecDepth 100000 in
set_option maxHeartbeats 3200000 in
theorem rmeet_3b11 (ax ay bx bY cx cy dx dy : Int) (h1 : in2 ax ay = true) (h2 : in2 bx bY = true) (h3 : in2 cx cy = true) (h4 : in2 dx dy = true) (hab : ¬ (ax = bx ∧ ay = bY)) (hcd : ¬ (cx = dx ∧ cy = dy)) (ht : ¬ turnI ax ay bx bY cx cy = 0) (hp : turnI ax ay bx bY cx cy * turnI ax ay bx bY dx dy ≤ 0) (hq : 0 < turnI cx cy dx dy ax ay * turnI cx cy dx dy bx bY) (w : World) : Calls Try.prog 35 #[.agg #[.int .i64 ax, .int .i64 ay], .agg #[.int .i64 bx, .int .i64 bY], .agg #[.int .i64 cx, .int .i64 cy], .agg #[.int .i64 dx, .int .i64 dy]] w fun e w' => e = .returned (.int .i64 0) ∧ Below w.heap.size w w' := by
  have gd := fun x y xs ys W => pt_guard .eql x y xs ys W
  have e1 := fun W => pt_diff_eql hab W
  have e2 := fun W => pt_diff_eql hcd W
  have c1 := Lib.hid fun W => rturn_any ax ay bx bY cx cy h1 h2 h3 W
  have c2 := Lib.hid fun W => rturn_any ax ay bx bY dx dy h1 h2 h4 W
  have c3 := Lib.hid fun W => rturn_any cx cy dx dy ax ay h3 h4 h1 W
  have c4 := Lib.hid fun W => rturn_any cx cy dx dy bx bY h3 h4 h2 W
  obtain ⟨b1, b2⟩ := mul1 (cmpI_bd ((bx - ax) * (cy - ay)) ((bY - ay) * (cx - ax))) (cmpI_bd ((bx - ax) * (dy - ay)) ((bY - ay) * (dx - ax)))
  obtain ⟨b3, b4⟩ := mul1 (cmpI_bd ((dx - cx) * (ay - cy)) ((dy - cy) * (ax - cx))) (cmpI_bd ((dx - cx) * (bY - cy)) ((dy - cy) * (bx - cx)))
  change -1 ≤ turnI ax ay bx bY cx cy * turnI ax ay bx bY dx dy at b1
  change turnI ax ay bx bY cx cy * turnI ax ay bx bY dx dy ≤ 1 at b2
  change -1 ≤ turnI cx cy dx dy ax ay * turnI cx cy dx dy bx bY at b3
  change turnI cx cy dx dy ax ay * turnI cx cy dx dy bx bY ≤ 1 at b4
  clear h1 h2 h3 h4 hab hcd
  generalize turnI ax ay bx bY cx cy = t1 at *
  generalize turnI ax ay bx bY dx dy = t2 at *
  generalize turnI cx cy dx dy ax ay = t3 at *
  generalize turnI cx cy dx dy bx bY = t4 at *
  have m1 : IntKind.i64.wrap (t1 * t2) = t1 * t2 := IntWalk.i64_in _ (by omega)
  have m2 : IntKind.i64.wrap (t3 * t4) = t3 * t4 := IntWalk.i64_in _ (by omega)
  have f1 : (t1 == 0) = false := by simp [ht]
  clear ht
  have d1 : decide (t1 * t2 ≤ 0) = true := by simp; omega
  have d2 : decide (t3 * t4 ≤ 0) = false := by simp; omega
  go_enter Try.func35, Try.ntmps35
  go_wp2_with fail
  refine (c1.out _).mono ?_
  rintro e w1 ⟨rfl, hb1⟩
  have HH1 := Lib.hid (((((((Blks.nil (w := w))).new (w.heap.size) 46 [.int .i64 ax, .int .i64 ay] rfl).new (w.heap.size + 1) 46 [.int .i64 bx, .int .i64 bY] (by simp)).new (w.heap.size + 1 + 1) 46 [.int .i64 cx, .int .i64 cy] (by simp)).new (w.heap.size + 1 + 1 + 1) 46 [.int .i64 dx, .int .i64 dy] (by simp)).below hb1)
  have HB1 := Lib.hid (below_trans (below_alloc (below_alloc (below_alloc (below_alloc (Below.refl _ _) _) _) _) _) hb1)
  clear hb1
  have B1_0 : Blk w1 (w.heap.size) 46 #[.int .i64 ax, .int .i64 ay] := HH1.out (w.heap.size, 46, [.int .i64 ax, .int .i64 ay]) (by simp)
  have k1_0_0 : w1.cell? ⟨w.heap.size, 0, none⟩ = some (.int .i64 ax) := B1_0.cell 0
  have k1_0_1 : w1.cell? ⟨w.heap.size, 1, none⟩ = some (.int .i64 ay) := B1_0.cell 1
  have z1_0 : w.heap.size < w1.heap.size := B1_0.lt
  clear B1_0
  have B1_1 : Blk w1 (w.heap.size + 1) 46 #[.int .i64 bx, .int .i64 bY] := HH1.out (w.heap.size + 1, 46, [.int .i64 bx, .int .i64 bY]) (by simp)
  have k1_1_0 : w1.cell? ⟨w.heap.size + 1, 0, none⟩ = some (.int .i64 bx) := B1_1.cell 0
  have k1_1_1 : w1.cell? ⟨w.heap.size + 1, 1, none⟩ = some (.int .i64 bY) := B1_1.cell 1
  have z1_1 : w.heap.size + 1 < w1.heap.size := B1_1.lt
  clear B1_1
  have B1_2 : Blk w1 (w.heap.size + 1 + 1) 46 #[.int .i64 cx, .int .i64 cy] := HH1.out (w.heap.size + 1 + 1, 46, [.int .i64 cx, .int .i64 cy]) (by simp)
  have k1_2_0 : w1.cell? ⟨w.heap.size + 1 + 1, 0, none⟩ = some (.int .i64 cx) := B1_2.cell 0
  have k1_2_1 : w1.cell? ⟨w.heap.size + 1 + 1, 1, none⟩ = some (.int .i64 cy) := B1_2.cell 1
  have z1_2 : w.heap.size + 1 + 1 < w1.heap.size := B1_2.lt
  clear B1_2
  have B1_3 : Blk w1 (w.heap.size + 1 + 1 + 1) 46 #[.int .i64 dx, .int .i64 dy] := HH1.out (w.heap.size + 1 + 1 + 1, 46, [.int .i64 dx, .int .i64 dy]) (by simp)
  have k1_3_0 : w1.cell? ⟨w.heap.size + 1 + 1 + 1, 0, none⟩ = some (.int .i64 dx) := B1_3.cell 0
  have k1_3_1 : w1.cell? ⟨w.heap.size + 1 + 1 + 1, 1, none⟩ = some (.int .i64 dy) := B1_3.cell 1
  have z1_3 : w.heap.size + 1 + 1 + 1 < w1.heap.size := B1_3.lt
  clear B1_3
  go_upto_region 18 with fail
  have HHp := HH1.out
  have HBp := HB1.out
  refine wp_region_held_drew (S := fun w' => w'.cell? ⟨w.heap.size, 0, none⟩ = some (.int .i64 ax) ∧ w'.cell? ⟨w.heap.size, 1, none⟩ = some (.int .i64 ay) ∧ w'.cell? ⟨w.heap.size + 1, 0, none⟩ = some (.int .i64 bx) ∧ w'.cell? ⟨w.heap.size + 1, 1, none⟩ = some (.int .i64 bY) ∧ w'.cell? ⟨w.heap.size + 1 + 1, 0, none⟩ = some (.int .i64 cx) ∧ w'.cell? ⟨w.heap.size + 1 + 1, 1, none⟩ = some (.int .i64 cy) ∧ w'.cell? ⟨w.heap.size + 1 + 1 + 1, 0, none⟩ = some (.int .i64 dx) ∧ w'.cell? ⟨w.heap.size + 1 + 1 + 1, 1, none⟩ = some (.int .i64 dy) ∧ w.heap.size < w'.heap.size ∧ w.heap.size + 1 < w'.heap.size ∧ w.heap.size + 1 + 1 < w'.heap.size ∧ w.heap.size + 1 + 1 + 1 < w'.heap.size ∧ Blks w' [(w.heap.size + 1 + 1 + 1, 46, [.int .i64 dx, .int .i64 dy]), (w.heap.size + 1 + 1, 46, [.int .i64 cx, .int .i64 cy]), (w.heap.size + 1, 46, [.int .i64 bx, .int .i64 bY]), (w.heap.size, 46, [.int .i64 ax, .int .i64 ay])] ∧ Below w.heap.size w w') (by kernel_rfl) ?_ (fun hH0 => ?_)
  · (try dsimp only)
    (go_split_ands; (repeat' apply And.intro) <;> (first | with_reducible assumption | (with_reducible refine Blks.drew ?_; with_reducible assumption) | (with_reducible refine Below.drew ?_; with_reducible assumption) | (simp only [World.cell?_drew, World.size_drew]; with_reducible assumption) | (with_reducible refine Blks.below ?_ hbm; with_reducible assumption) | (with_reducible refine below_trans ?_ hbm; with_reducible assumption) | (rw [hbm.cell (by first | assumption | (simp only [World.size_drew]; assumption))]; first | with_reducible assumption | (simp only [World.cell?_drew]; with_reducible assumption)) | (refine Nat.lt_of_lt_of_le ?_ hbm.size; first | with_reducible assumption | (simp only [World.size_drew]; with_reducible assumption))))
  clear k1_0_0 k1_0_1 z1_0 k1_1_0 k1_1_1 z1_1 k1_2_0 k1_2_1 z1_2 k1_3_0 k1_3_1 z1_3
  clear HHp HBp
  refine wpAnyH_take (i := 0) (oi := { dst := some 79, op := Go.Op.load 46 (Go.Operand.tmp 4), type := 46, pos := "ref.go:133", after := #[], guard := none }) (v := ?_) rfl (by kernel_rfl) (by kernel_rfl) (by kernel_rfl) (fun _ _ _ h => h) (Or.inl ⟨by rfl, ?_⟩) (by assumption) ?_
  rotate_left
  focus
    intro wz hSw
    (try dsimp only at hSw)
    go_simp
    (try with_reducible rfl)
  (try simp only [Act.put, List.setIfInBounds_toArray, List.set_cons_zero, List.set_cons_succ])
  refine wpAnyH_take (i := 1) (oi := { dst := some 80, op := Go.Op.load 46 (Go.Operand.tmp 5), type := 46, pos := "ref.go:133", after := #[], guard := none }) (v := ?_) rfl (by kernel_rfl) (by kernel_rfl) (by kernel_rfl) (fun _ _ _ h => h) (Or.inl ⟨by rfl, ?_⟩) (by assumption) ?_
  rotate_left
  focus
    intro wz hSw
    (try dsimp only at hSw)
    go_simp
    (try with_reducible rfl)
  (try simp only [Act.put, List.setIfInBounds_toArray, List.set_cons_zero, List.set_cons_succ])
  refine wpAnyH_take (i := 2) (oi := { dst := some 81, op := Go.Op.load 46 (Go.Operand.tmp 6), type := 46, pos := "ref.go:133", after := #[], guard := none }) (v := ?_) rfl (by kernel_rfl) (by kernel_rfl) (by kernel_rfl) (fun _ _ _ h => h) (Or.inl ⟨by rfl, ?_⟩) (by assumption) ?_
  rotate_left
  focus
    intro wz hSw
    (try dsimp only at hSw)
    go_simp
    (try with_reducible rfl)
  (try simp only [Act.put, List.setIfInBounds_toArray, List.set_cons_zero, List.set_cons_succ])
  refine wpAnyH_take (i := 4) (oi := { dst := some 83, op := Go.Op.load 46 (Go.Operand.tmp 4), type := 46, pos := "ref.go:133", after := #[], guard := none }) (v := ?_) rfl (by kernel_rfl) (by kernel_rfl) (by kernel_rfl) (fun _ _ _ h => h) (Or.inl ⟨by rfl, ?_⟩) (by assumption) ?_
  rotate_left
  focus
    intro wz hSw
    (try dsimp only at hSw)
    go_simp
    (try with_reducible rfl)
  (try simp only [Act.put, List.setIfInBounds_toArray, List.set_cons_zero, List.set_cons_succ])
  refine wpAnyH_take (i := 5) (oi := { dst := some 84, op := Go.Op.load 46 (Go.Operand.tmp 5), type := 46, pos := "ref.go:133", after := #[], guard := none }) (v := ?_) rfl (by kernel_rfl) (by kernel_rfl) (by kernel_rfl) (fun _ _ _ h => h) (Or.inl ⟨by rfl, ?_⟩) (by assumption) ?_
  rotate_left
  focus
    intro wz hSw
    (try dsimp only at hSw)
    go_simp
    (try with_reducible rfl)
  (try simp only [Act.put, List.setIfInBounds_toArray, List.set_cons_zero, List.set_cons_succ])
  refine wpAnyH_take (i := 6) (oi := { dst := some 85, op := Go.Op.load 46 (Go.Operand.tmp 7), type := 46, pos := "ref.go:133", after := #[], guard := none }) (v := ?_) rfl (by kernel_rfl) (by kernel_rfl) (by kernel_rfl) (fun _ _ _ h => h) (Or.inl ⟨by rfl, ?_⟩) (by assumption) ?_
  rotate_left
  focus
    intro wz hSw
    (try dsimp only at hSw)
    go_simp
    (try with_reducible rfl)
  (try simp only [Act.put, List.setIfInBounds_toArray, List.set_cons_zero, List.set_cons_succ])
  refine wpAnyH_ready (rs := [3]) (by kernel_rfl) (by simp) ?_
  refine AllReadyH.cons (o := { dst := some 82, op := Go.Op.call { callee := Go.Callee.value (Go.Operand.func 32), args := #[Go.Operand.tmp 79, Go.Operand.tmp 80, Go.Operand.tmp 81], argTypes := #[46, 46, 46] }, type := 3, pos := "ref.go:133", after := #[{ on := 0, ground := Go.Ground.data }, { on := 1, ground := Go.Ground.data }, { on := 2, ground := Go.Ground.data }], guard := none }) rfl (fun K hK => ?_) AllReadyH.nil
  go_simp
  with_reducible refine (c1.out _).mono ?_
  rintro e w2 ⟨rfl, hbm⟩
  go_wp2_with fail
  refine hK.out _ _ ?_ (fun hH1 => ?_)
  · (try dsimp only)
    (go_split_ands; (repeat' apply And.intro) <;> (first | with_reducible assumption | (with_reducible refine Blks.drew ?_; with_reducible assumption) | (with_reducible refine Below.drew ?_; with_reducible assumption) | (simp only [World.cell?_drew, World.size_drew]; with_reducible assumption) | (with_reducible refine Blks.below ?_ hbm; with_reducible assumption) | (with_reducible refine below_trans ?_ hbm; with_reducible assumption) | (rw [hbm.cell (by first | assumption | (simp only [World.size_drew]; assumption))]; first | with_reducible assumption | (simp only [World.cell?_drew]; with_reducible assumption)) | (refine Nat.lt_of_lt_of_le ?_ hbm.size; first | with_reducible assumption | (simp only [World.size_drew]; with_reducible assumption))))
  clear hK K hH0 hbm
  (try simp only [Act.put, List.setIfInBounds_toArray, List.set_cons_zero, List.set_cons_succ])
  refine wpAnyH_ready (rs := [7]) (by kernel_rfl) (by simp) ?_
  refine AllReadyH.cons (o := { dst := some 86, op := Go.Op.call { callee := Go.Callee.value (Go.Operand.func 32), args := #[Go.Operand.tmp 83, Go.Operand.tmp 84, Go.Operand.tmp 85], argTypes := #[46, 46, 46] }, type := 3, pos := "ref.go:133", after := #[{ on := 4, ground := Go.Ground.data }, { on := 5, ground := Go.Ground.data }, { on := 6, ground := Go.Ground.data }, { on := 3, ground := Go.Ground.chain }], guard := none }) rfl (fun K hK => ?_) AllReadyH.nil
  go_simp
  with_reducible refine (c2.out _).mono ?_
  rintro e w3 ⟨rfl, hbm⟩
  go_wp2_with fail
  refine hK.out _ _ ?_ (fun hH2 => ?_)
  · (try dsimp only)
    (go_split_ands; (repeat' apply And.intro) <;> (first | with_reducible assumption | (with_reducible refine Blks.drew ?_; with_reducible assumption) | (with_reducible refine Below.drew ?_; with_reducible assumption) | (simp only [World.cell?_drew, World.size_drew]; with_reducible assumption) | (with_reducible refine Blks.below ?_ hbm; with_reducible assumption) | (with_reducible refine below_trans ?_ hbm; with_reducible assumption) | (rw [hbm.cell (by first | assumption | (simp only [World.size_drew]; assumption))]; first | with_reducible assumption | (simp only [World.cell?_drew]; with_reducible assumption)) | (refine Nat.lt_of_lt_of_le ?_ hbm.size; first | with_reducible assumption | (simp only [World.size_drew]; with_reducible assumption))))
  clear hK K hH1 hbm
  (try simp only [Act.put, List.setIfInBounds_toArray, List.set_cons_zero, List.set_cons_succ])
  refine wpAnyH_take (i := 8) (oi := { dst := some 87, op := Go.Op.binOp Go.BinOp.mul 3 (Go.Operand.tmp 82) (Go.Operand.tmp 86) 3, type := 3, pos := "ref.go:133", after := #[{ on := 3, ground := Go.Ground.data }, { on := 7, ground := Go.Ground.data }], guard := none }) (v := ?_) rfl (by kernel_rfl) (by kernel_rfl) (by kernel_rfl) (fun _ _ _ h => h) (Or.inl ⟨by rfl, ?_⟩) (by assumption) ?_
  rotate_left
  focus
    intro wz hSw
    (try dsimp only at hSw)
    go_simp
    (try with_reducible rfl)
  (try simp only [Act.put, List.setIfInBounds_toArray, List.set_cons_zero, List.set_cons_succ])
  refine wpAnyH_take (i := 9) (oi := { dst := some 88, op := Go.Op.binOp Go.BinOp.leq 3 (Go.Operand.tmp 87) (Go.Operand.const (Go.Value.int Go.IntKind.i64 0)) 3, type := 4, pos := "ref.go:133", after := #[{ on := 8, ground := Go.Ground.data }], guard := none }) (v := ?_) rfl (by kernel_rfl) (by kernel_rfl) (by kernel_rfl) (fun _ _ _ h => h) (Or.inl ⟨by rfl, ?_⟩) (by assumption) ?_
  rotate_left
  focus
    intro wz hSw
    (try dsimp only at hSw)
    go_simp
    (try with_reducible rfl)
  (try simp only [Act.put, List.setIfInBounds_toArray, List.set_cons_zero, List.set_cons_succ])
  refine wpAnyH_take (i := 10) (oi := { dst := some 89, op := Go.Op.move (Go.Operand.tmp 88), type := 4, pos := "ref.go:133", after := #[{ on := 9, ground := Go.Ground.data }, { on := 7, ground := Go.Ground.chain }], guard := none }) (v := ?_) rfl (by kernel_rfl) (by kernel_rfl) (by kernel_rfl) (fun _ _ _ h => h) (Or.inl ⟨by rfl, ?_⟩) (by assumption) ?_
  rotate_left
  focus
    intro wz hSw
    (try dsimp only at hSw)
    go_simp
    (try with_reducible rfl)
  (try simp only [Act.put, List.setIfInBounds_toArray, List.set_cons_zero, List.set_cons_succ])
  refine wpAnyH_take (i := 11) (oi := { dst := some 90, op := Go.Op.load 46 (Go.Operand.tmp 6), type := 46, pos := "ref.go:133", after := #[{ on := 10, ground := Go.Ground.guard }], guard := some (10, true) }) (v := ?_) rfl (by kernel_rfl) (by kernel_rfl) (by kernel_rfl) (fun _ _ _ h => h) (Or.inl ⟨by rfl, ?_⟩) (by assumption) ?_
  rotate_left
  focus
    intro wz hSw
    (try dsimp only at hSw)
    go_simp
    (try with_reducible rfl)
  (try simp only [Act.put, List.setIfInBounds_toArray, List.set_cons_zero, List.set_cons_succ])
  refine wpAnyH_take (i := 12) (oi := { dst := some 91, op := Go.Op.load 46 (Go.Operand.tmp 7), type := 46, pos := "ref.go:133", after := #[{ on := 10, ground := Go.Ground.guard }], guard := some (10, true) }) (v := ?_) rfl (by kernel_rfl) (by kernel_rfl) (by kernel_rfl) (fun _ _ _ h => h) (Or.inl ⟨by rfl, ?_⟩) (by assumption) ?_
  rotate_left
  focus
    intro wz hSw
    (try dsimp only at hSw)
    go_simp
    (try with_reducible rfl)
  (try simp only [Act.put, List.setIfInBounds_toArray, List.set_cons_zero, List.set_cons_succ])
  refine wpAnyH_take (i := 13) (oi := { dst := some 92, op := Go.Op.load 46 (Go.Operand.tmp 4), type := 46, pos := "ref.go:133", after := #[{ on := 10, ground := Go.Ground.guard }], guard := some (10, true) }) (v := ?_) rfl (by kernel_rfl) (by kernel_rfl) (by kernel_rfl) (fun _ _ _ h => h) (Or.inl ⟨by rfl, ?_⟩) (by assumption) ?_
  rotate_left
  focus
    intro wz hSw
    (try dsimp only at hSw)
    go_simp
    (try with_reducible rfl)
  (try simp only [Act.put, List.setIfInBounds_toArray, List.set_cons_zero, List.set_cons_succ])
  refine wpAnyH_take (i := 15) (oi := { dst := some 94, op := Go.Op.load 46 (Go.Operand.tmp 6), type := 46, pos := "ref.go:133", after := #[{ on := 10, ground := Go.Ground.guard }], guard := some (10, true) }) (v := ?_) rfl (by kernel_rfl) (by kernel_rfl) (by kernel_rfl) (fun _ _ _ h => h) (Or.inl ⟨by rfl, ?_⟩) (by assumption) ?_
  rotate_left
  focus
    intro wz hSw
    (try dsimp only at hSw)
    go_simp
    (try with_reducible rfl)
  (try simp only [Act.put, List.setIfInBounds_toArray, List.set_cons_zero, List.set_cons_succ])
  refine wpAnyH_take (i := 16) (oi := { dst := some 95, op := Go.Op.load 46 (Go.Operand.tmp 7), type := 46, pos := "ref.go:133", after := #[{ on := 10, ground := Go.Ground.guard }], guard := some (10, true) }) (v := ?_) rfl (by kernel_rfl) (by kernel_rfl) (by kernel_rfl) (fun _ _ _ h => h) (Or.inl ⟨by rfl, ?_⟩) (by assumption) ?_
  rotate_left
  focus
    intro wz hSw
    (try dsimp only at hSw)
    go_simp
    (try with_reducible rfl)
  (try simp only [Act.put, List.setIfInBounds_toArray, List.set_cons_zero, List.set_cons_succ])
  refine wpAnyH_take (i := 17) (oi := { dst := some 96, op := Go.Op.load 46 (Go.Operand.tmp 5), type := 46, pos := "ref.go:133", after := #[{ on := 10, ground := Go.Ground.guard }], guard := some (10, true) }) (v := ?_) rfl (by kernel_rfl) (by kernel_rfl) (by kernel_rfl) (fun _ _ _ h => h) (Or.inl ⟨by rfl, ?_⟩) (by assumption) ?_
  rotate_left
  focus
    intro wz hSw
    (try dsimp only at hSw)
    go_simp
    (try with_reducible rfl)
  (try simp only [Act.put, List.setIfInBounds_toArray, List.set_cons_zero, List.set_cons_succ])
  refine wpAnyH_ready (rs := [14]) (by kernel_rfl) (by simp) ?_
  refine AllReadyH.cons (o := { dst := some 93, op := Go.Op.call { callee := Go.Callee.value (Go.Operand.func 32), args := #[Go.Operand.tmp 90, Go.Operand.tmp 91, Go.Operand.tmp 92], argTypes := #[46, 46, 46] }, type := 3, pos := "ref.go:133", after := #[{ on := 11, ground := Go.Ground.data }, { on := 12, ground := Go.Ground.data }, { on := 13, ground := Go.Ground.data }, { on := 10, ground := Go.Ground.chain }, { on := 10, ground := Go.Ground.guard }], guard := some (10, true) }) rfl (fun K hK => ?_) AllReadyH.nil
  go_simp
  with_reducible refine (c3.out _).mono ?_
  rintro e w4 ⟨rfl, hbm⟩
  go_wp2_with fail
  refine hK.out _ _ ?_ (fun hH3 => ?_)
  · (try dsimp only)
    (go_split_ands; (repeat' apply And.intro) <;> (first | with_reducible assumption | (with_reducible refine Blks.drew ?_; with_reducible assumption) | (with_reducible refine Below.drew ?_; with_reducible assumption) | (simp only [World.cell?_drew, World.size_drew]; with_reducible assumption) | (with_reducible refine Blks.below ?_ hbm; with_reducible assumption) | (with_reducible refine below_trans ?_ hbm; with_reducible assumption) | (rw [hbm.cell (by first | assumption | (simp only [World.size_drew]; assumption))]; first | with_reducible assumption | (simp only [World.cell?_drew]; with_reducible assumption)) | (refine Nat.lt_of_lt_of_le ?_ hbm.size; first | with_reducible assumption | (simp only [World.size_drew]; with_reducible assumption))))
  clear hK K hH2 hbm
  (try simp only [Act.put, List.setIfInBounds_toArray, List.set_cons_zero, List.set_cons_succ])
  refine wpAnyH_ready (rs := [18]) (by kernel_rfl) (by simp) ?_
  refine AllReadyH.cons (o := { dst := some 97, op := Go.Op.call { callee := Go.Callee.value (Go.Operand.func 32), args := #[Go.Operand.tmp 94, Go.Operand.tmp 95, Go.Operand.tmp 96], argTypes := #[46, 46, 46] }, type := 3, pos := "ref.go:133", after := #[{ on := 15, ground := Go.Ground.data }, { on := 16, ground := Go.Ground.data }, { on := 17, ground := Go.Ground.data }, { on := 14, ground := Go.Ground.chain }, { on := 10, ground := Go.Ground.guard }], guard := some (10, true) }) rfl (fun K hK => ?_) AllReadyH.nil
  go_simp
  with_reducible refine (c4.out _).mono ?_
  rintro e w5 ⟨rfl, hbm⟩
  go_wp2_with fail
  refine hK.out _ _ ?_ (fun hH4 => ?_)
  · (try dsimp only)
    (go_split_ands; (repeat' apply And.intro) <;> (first | with_reducible assumption | (with_reducible refine Blks.drew ?_; with_reducible assumption) | (with_reducible refine Below.drew ?_; with_reducible assumption) | (simp only [World.cell?_drew, World.size_drew]; with_reducible assumption) | (with_reducible refine Blks.below ?_ hbm; with_reducible assumption) | (with_reducible refine below_trans ?_ hbm; with_reducible assumption) | (rw [hbm.cell (by first | assumption | (simp only [World.size_drew]; assumption))]; first | with_reducible assumption | (simp only [World.cell?_drew]; with_reducible assumption)) | (refine Nat.lt_of_lt_of_le ?_ hbm.size; first | with_reducible assumption | (simp only [World.size_drew]; with_reducible assumption))))
  clear hK K hH3 hbm
  (try simp only [Act.put, List.setIfInBounds_toArray, List.set_cons_zero, List.set_cons_succ])
  refine wpAnyH_take (i := 19) (oi := { dst := some 98, op := Go.Op.binOp Go.BinOp.mul 3 (Go.Operand.tmp 93) (Go.Operand.tmp 97) 3, type := 3, pos := "ref.go:133", after := #[{ on := 14, ground := Go.Ground.data }, { on := 18, ground := Go.Ground.data }, { on := 10, ground := Go.Ground.guard }], guard := some (10, true) }) (v := ?_) rfl (by kernel_rfl) (by kernel_rfl) (by kernel_rfl) (fun _ _ _ h => h) (Or.inl ⟨by rfl, ?_⟩) (by assumption) ?_
  rotate_left
  focus
    intro wz hSw
    (try dsimp only at hSw)
    go_simp
    (try with_reducible rfl)
  (try simp only [Act.put, List.setIfInBounds_toArray, List.set_cons_zero, List.set_cons_succ])
  refine wpAnyH_take (i := 20) (oi := { dst := some 99, op := Go.Op.binOp Go.BinOp.leq 3 (Go.Operand.tmp 98) (Go.Operand.const (Go.Value.int Go.IntKind.i64 0)) 3, type := 4, pos := "ref.go:133", after := #[{ on := 19, ground := Go.Ground.data }, { on := 10, ground := Go.Ground.guard }], guard := some (10, true) }) (v := ?_) rfl (by kernel_rfl) (by kernel_rfl) (by kernel_rfl) (fun _ _ _ h => h) (Or.inl ⟨by rfl, ?_⟩) (by assumption) ?_
  rotate_left
  focus
    intro wz hSw
    (try dsimp only at hSw)
    go_simp
    (try with_reducible rfl)
  (try simp only [Act.put, List.setIfInBounds_toArray, List.set_cons_zero, List.set_cons_succ])
  refine wpAnyH_take (i := 21) (oi := { dst := some 100, op := Go.Op.pick (Go.Operand.tmp 89) (Go.Operand.tmp 99) (Go.Operand.const (Go.Value.bool false)), type := 4, pos := "ref.go:133", after := #[{ on := 10, ground := Go.Ground.data }, { on := 20, ground := Go.Ground.data }], guard := none }) (v := ?_) rfl (by kernel_rfl) (by kernel_rfl) (by kernel_rfl) (fun _ _ _ h => h) (Or.inl ⟨by rfl, ?_⟩) (by assumption) ?_
  rotate_left
  focus
    intro wz hSw
    (try dsimp only at hSw)
    go_simp
    (try with_reducible rfl)
  (try simp only [Act.put, List.setIfInBounds_toArray, List.set_cons_zero, List.set_cons_succ])
  refine wpAnyH_done (by kernel_rfl) ?_ _
  go_split_ands
  have HHn : Blks w5 [(w.heap.size + 1 + 1 + 1, 46, [.int .i64 dx, .int .i64 dy]), (w.heap.size + 1 + 1, 46, [.int .i64 cx, .int .i64 cy]), (w.heap.size + 1, 46, [.int .i64 bx, .int .i64 bY]), (w.heap.size, 46, [.int .i64 ax, .int .i64 ay])] := by assumption
  have HBn : Below w.heap.size w w5 := by assumption
  clear HH1 HB1
  have HH5 := Lib.hid HHn
  have HB5 := Lib.hid HBn
  clear HHn HBn
  have B5_0 : Blk w5 (w.heap.size) 46 #[.int .i64 ax, .int .i64 ay] := HH5.out (w.heap.size, 46, [.int .i64 ax, .int .i64 ay]) (by simp)
  have k5_0_0 : w5.cell? ⟨w.heap.size, 0, none⟩ = some (.int .i64 ax) := B5_0.cell 0
  have k5_0_1 : w5.cell? ⟨w.heap.size, 1, none⟩ = some (.int .i64 ay) := B5_0.cell 1
  have z5_0 : w.heap.size < w5.heap.size := B5_0.lt
  clear B5_0
  have B5_1 : Blk w5 (w.heap.size + 1) 46 #[.int .i64 bx, .int .i64 bY] := HH5.out (w.heap.size + 1, 46, [.int .i64 bx, .int .i64 bY]) (by simp)
  have k5_1_0 : w5.cell? ⟨w.heap.size + 1, 0, none⟩ = some (.int .i64 bx) := B5_1.cell 0
  have k5_1_1 : w5.cell? ⟨w.heap.size + 1, 1, none⟩ = some (.int .i64 bY) := B5_1.cell 1
  have z5_1 : w.heap.size + 1 < w5.heap.size := B5_1.lt
  clear B5_1
  have B5_2 : Blk w5 (w.heap.size + 1 + 1) 46 #[.int .i64 cx, .int .i64 cy] := HH5.out (w.heap.size + 1 + 1, 46, [.int .i64 cx, .int .i64 cy]) (by simp)
  have k5_2_0 : w5.cell? ⟨w.heap.size + 1 + 1, 0, none⟩ = some (.int .i64 cx) := B5_2.cell 0
  have k5_2_1 : w5.cell? ⟨w.heap.size + 1 + 1, 1, none⟩ = some (.int .i64 cy) := B5_2.cell 1
  have z5_2 : w.heap.size + 1 + 1 < w5.heap.size := B5_2.lt
  clear B5_2
  have B5_3 : Blk w5 (w.heap.size + 1 + 1 + 1) 46 #[.int .i64 dx, .int .i64 dy] := HH5.out (w.heap.size + 1 + 1 + 1, 46, [.int .i64 dx, .int .i64 dy]) (by simp)
  have k5_3_0 : w5.cell? ⟨w.heap.size + 1 + 1 + 1, 0, none⟩ = some (.int .i64 dx) := B5_3.cell 0
  have k5_3_1 : w5.cell? ⟨w.heap.size + 1 + 1 + 1, 1, none⟩ = some (.int .i64 dy) := B5_3.cell 1
  have z5_3 : w.heap.size + 1 + 1 + 1 < w5.heap.size := B5_3.lt
  clear B5_3
  go_wp2
  go_returns
  exact ⟨rfl, by repeat (first | with_reducible exact HB5.out | with_reducible refine Below.drew ?_ | with_reducible refine below_drewN ?_ _ | with_reducible refine below_set ?_ (by have := HB5.out.size; simp <;> omega) _ | with_reducible refine below_alloc ?_ _)⟩
set_option maxRecDepth 100000 in
set_option maxHeartbeats 3200000 in
theorem rmeet_3b12 (ax ay bx bY cx cy dx dy : Int) (h1 : in2 ax ay = true) (h2 : in2 bx bY = true) (h3 : in2 cx cy = true) (h4 : in2 dx dy = true) (hab : ¬ (ax = bx ∧ ay = bY)) (hcd : ¬ (cx = dx ∧ cy = dy)) (ht : ¬ turnI ax ay bx bY cx cy = 0) (hp : turnI ax ay bx bY cx cy * turnI ax ay bx bY dx dy ≤ 0) (hq : turnI cx cy dx dy ax ay * turnI cx cy dx dy bx bY ≤ 0) (w : World) : Calls Try.prog 35 #[.agg #[.int .i64 ax, .int .i64 ay], .agg #[.int .i64 bx, .int .i64 bY], .agg #[.int .i64 cx, .int .i64 cy], .agg #[.int .i64 dx, .int .i64 dy]] w fun e w' => e = .returned (.int .i64 1) ∧ Below w.heap.size w w' := by
  have gd := fun x y xs ys W => pt_guard .eql x y xs ys W
  have e1 := fun W => pt_diff_eql hab W
  have e2 := fun W => pt_diff_eql hcd W
  have c1 := Lib.hid fun W => rturn_any ax ay bx bY cx cy h1 h2 h3 W
  have c2 := Lib.hid fun W => rturn_any ax ay bx bY dx dy h1 h2 h4 W
  have c3 := Lib.hid fun W => rturn_any cx cy dx dy ax ay h3 h4 h1 W
  have c4 := Lib.hid fun W => rturn_any cx cy dx dy bx bY h3 h4 h2 W
  obtain ⟨b1, b2⟩ := mul1 (cmpI_bd ((bx - ax) * (cy - ay)) ((bY - ay) * (cx - ax))) (cmpI_bd ((bx - ax) * (dy - ay)) ((bY - ay) * (dx - ax)))
  obtain ⟨b3, b4⟩ := mul1 (cmpI_bd ((dx - cx) * (ay - cy)) ((dy - cy) * (ax - cx))) (cmpI_bd ((dx - cx) * (bY - cy)) ((dy - cy) * (bx - cx)))
  change -1 ≤ turnI ax ay bx bY cx cy * turnI ax ay bx bY dx dy at b1
  change turnI ax ay bx bY cx cy * turnI ax ay bx bY dx dy ≤ 1 at b2
  change -1 ≤ turnI cx cy dx dy ax ay * turnI cx cy dx dy bx bY at b3
  change turnI cx cy dx dy ax ay * turnI cx cy dx dy bx bY ≤ 1 at b4
  clear h1 h2 h3 h4 hab hcd
  generalize turnI ax ay bx bY cx cy = t1 at *
  generalize turnI ax ay bx bY dx dy = t2 at *
  generalize turnI cx cy dx dy ax ay = t3 at *
  generalize turnI cx cy dx dy bx bY = t4 at *
  have m1 : IntKind.i64.wrap (t1 * t2) = t1 * t2 := IntWalk.i64_in _ (by omega)
  have m2 : IntKind.i64.wrap (t3 * t4) = t3 * t4 := IntWalk.i64_in _ (by omega)
  have f1 : (t1 == 0) = false := by simp [ht]
  clear ht
  have d1 : decide (t1 * t2 ≤ 0) = true := by simp; omega
  have d2 : decide (t3 * t4 ≤ 0) = true := by simp; omega
  go_enter Try.func35, Try.ntmps35
  go_wp2_with fail
  refine (c1.out _).mono ?_
  rintro e w1 ⟨rfl, hb1⟩
  have HH1 := Lib.hid (((((((Blks.nil (w := w))).new (w.heap.size) 46 [.int .i64 ax, .int .i64 ay] rfl).new (w.heap.size + 1) 46 [.int .i64 bx, .int .i64 bY] (by simp)).new (w.heap.size + 1 + 1) 46 [.int .i64 cx, .int .i64 cy] (by simp)).new (w.heap.size + 1 + 1 + 1) 46 [.int .i64 dx, .int .i64 dy] (by simp)).below hb1)
  have HB1 := Lib.hid (below_trans (below_alloc (below_alloc (below_alloc (below_alloc (Below.refl _ _) _) _) _) _) hb1)
  clear hb1
  have B1_0 : Blk w1 (w.heap.size) 46 #[.int .i64 ax, .int .i64 ay] := HH1.out (w.heap.size, 46, [.int .i64 ax, .int .i64 ay]) (by simp)
  have k1_0_0 : w1.cell? ⟨w.heap.size, 0, none⟩ = some (.int .i64 ax) := B1_0.cell 0
  have k1_0_1 : w1.cell? ⟨w.heap.size, 1, none⟩ = some (.int .i64 ay) := B1_0.cell 1
  have z1_0 : w.heap.size < w1.heap.size := B1_0.lt
  clear B1_0
  have B1_1 : Blk w1 (w.heap.size + 1) 46 #[.int .i64 bx, .int .i64 bY] := HH1.out (w.heap.size + 1, 46, [.int .i64 bx, .int .i64 bY]) (by simp)
  have k1_1_0 : w1.cell? ⟨w.heap.size + 1, 0, none⟩ = some (.int .i64 bx) := B1_1.cell 0
  have k1_1_1 : w1.cell? ⟨w.heap.size + 1, 1, none⟩ = some (.int .i64 bY) := B1_1.cell 1
  have z1_1 : w.heap.size + 1 < w1.heap.size := B1_1.lt
  clear B1_1
  have B1_2 : Blk w1 (w.heap.size + 1 + 1) 46 #[.int .i64 cx, .int .i64 cy] := HH1.out (w.heap.size + 1 + 1, 46, [.int .i64 cx, .int .i64 cy]) (by simp)
  have k1_2_0 : w1.cell? ⟨w.heap.size + 1 + 1, 0, none⟩ = some (.int .i64 cx) := B1_2.cell 0
  have k1_2_1 : w1.cell? ⟨w.heap.size + 1 + 1, 1, none⟩ = some (.int .i64 cy) := B1_2.cell 1
  have z1_2 : w.heap.size + 1 + 1 < w1.heap.size := B1_2.lt
  clear B1_2
  have B1_3 : Blk w1 (w.heap.size + 1 + 1 + 1) 46 #[.int .i64 dx, .int .i64 dy] := HH1.out (w.heap.size + 1 + 1 + 1, 46, [.int .i64 dx, .int .i64 dy]) (by simp)
  have k1_3_0 : w1.cell? ⟨w.heap.size + 1 + 1 + 1, 0, none⟩ = some (.int .i64 dx) := B1_3.cell 0
  have k1_3_1 : w1.cell? ⟨w.heap.size + 1 + 1 + 1, 1, none⟩ = some (.int .i64 dy) := B1_3.cell 1
  have z1_3 : w.heap.size + 1 + 1 + 1 < w1.heap.size := B1_3.lt
  clear B1_3
  go_upto_region 18 with fail
  have HHp := HH1.out
  have HBp := HB1.out
  refine wp_region_held_drew (S := fun w' => w'.cell? ⟨w.heap.size, 0, none⟩ = some (.int .i64 ax) ∧ w'.cell? ⟨w.heap.size, 1, none⟩ = some (.int .i64 ay) ∧ w'.cell? ⟨w.heap.size + 1, 0, none⟩ = some (.int .i64 bx) ∧ w'.cell? ⟨w.heap.size + 1, 1, none⟩ = some (.int .i64 bY) ∧ w'.cell? ⟨w.heap.size + 1 + 1, 0, none⟩ = some (.int .i64 cx) ∧ w'.cell? ⟨w.heap.size + 1 + 1, 1, none⟩ = some (.int .i64 cy) ∧ w'.cell? ⟨w.heap.size + 1 + 1 + 1, 0, none⟩ = some (.int .i64 dx) ∧ w'.cell? ⟨w.heap.size + 1 + 1 + 1, 1, none⟩ = some (.int .i64 dy) ∧ w.heap.size < w'.heap.size ∧ w.heap.size + 1 < w'.heap.size ∧ w.heap.size + 1 + 1 < w'.heap.size ∧ w.heap.size + 1 + 1 + 1 < w'.heap.size ∧ Blks w' [(w.heap.size + 1 + 1 + 1, 46, [.int .i64 dx, .int .i64 dy]), (w.heap.size + 1 + 1, 46, [.int .i64 cx, .int .i64 cy]), (w.heap.size + 1, 46, [.int .i64 bx, .int .i64 bY]), (w.heap.size, 46, [.int .i64 ax, .int .i64 ay])] ∧ Below w.heap.size w w') (by kernel_rfl) ?_ (fun hH0 => ?_)
  · (try dsimp only)
    (go_split_ands; (repeat' apply And.intro) <;> (first | with_reducible assumption | (with_reducible refine Blks.drew ?_; with_reducible assumption) | (with_reducible refine Below.drew ?_; with_reducible assumption) | (simp only [World.cell?_drew, World.size_drew]; with_reducible assumption) | (with_reducible refine Blks.below ?_ hbm; with_reducible assumption) | (with_reducible refine below_trans ?_ hbm; with_reducible assumption) | (rw [hbm.cell (by first | assumption | (simp only [World.size_drew]; assumption))]; first | with_reducible assumption | (simp only [World.cell?_drew]; with_reducible assumption)) | (refine Nat.lt_of_lt_of_le ?_ hbm.size; first | with_reducible assumption | (simp only [World.size_drew]; with_reducible assumption))))
  clear k1_0_0 k1_0_1 z1_0 k1_1_0 k1_1_1 z1_1 k1_2_0 k1_2_1 z1_2 k1_3_0 k1_3_1 z1_3
  clear HHp HBp
  refine wpAnyH_take (i := 0) (oi := { dst := some 79, op := Go.Op.load 46 (Go.Operand.tmp 4), type := 46, pos := "ref.go:133", after := #[], guard := none }) (v := ?_) rfl (by kernel_rfl) (by kernel_rfl) (by kernel_rfl) (fun _ _ _ h => h) (Or.inl ⟨by rfl, ?_⟩) (by assumption) ?_
  rotate_left
  focus
    intro wz hSw
    (try dsimp only at hSw)
    go_simp
    (try with_reducible rfl)
  (try simp only [Act.put, List.setIfInBounds_toArray, List.set_cons_zero, List.set_cons_succ])
  refine wpAnyH_take (i := 1) (oi := { dst := some 80, op := Go.Op.load 46 (Go.Operand.tmp 5), type := 46, pos := "ref.go:133", after := #[], guard := none }) (v := ?_) rfl (by kernel_rfl) (by kernel_rfl) (by kernel_rfl) (fun _ _ _ h => h) (Or.inl ⟨by rfl, ?_⟩) (by assumption) ?_
  rotate_left
  focus
    intro wz hSw
    (try dsimp only at hSw)
    go_simp
    (try with_reducible rfl)
  (try simp only [Act.put, List.setIfInBounds_toArray, List.set_cons_zero, List.set_cons_succ])
  refine wpAnyH_take (i := 2) (oi := { dst := some 81, op := Go.Op.load 46 (Go.Operand.tmp 6), type := 46, pos := "ref.go:133", after := #[], guard := none }) (v := ?_) rfl (by kernel_rfl) (by kernel_rfl) (by kernel_rfl) (fun _ _ _ h => h) (Or.inl ⟨by rfl, ?_⟩) (by assumption) ?_
  rotate_left
  focus
    intro wz hSw
    (try dsimp only at hSw)
    go_simp
    (try with_reducible rfl)
  (try simp only [Act.put, List.setIfInBounds_toArray, List.set_cons_zero, List.set_cons_succ])
  refine wpAnyH_take (i := 4) (oi := { dst := some 83, op := Go.Op.load 46 (Go.Operand.tmp 4), type := 46, pos := "ref.go:133", after := #[], guard := none }) (v := ?_) rfl (by kernel_rfl) (by kernel_rfl) (by kernel_rfl) (fun _ _ _ h => h) (Or.inl ⟨by rfl, ?_⟩) (by assumption) ?_
  rotate_left
  focus
    intro wz hSw
    (try dsimp only at hSw)
    go_simp
    (try with_reducible rfl)
  (try simp only [Act.put, List.setIfInBounds_toArray, List.set_cons_zero, List.set_cons_succ])
  refine wpAnyH_take (i := 5) (oi := { dst := some 84, op := Go.Op.load 46 (Go.Operand.tmp 5), type := 46, pos := "ref.go:133", after := #[], guard := none }) (v := ?_) rfl (by kernel_rfl) (by kernel_rfl) (by kernel_rfl) (fun _ _ _ h => h) (Or.inl ⟨by rfl, ?_⟩) (by assumption) ?_
  rotate_left
  focus
    intro wz hSw
    (try dsimp only at hSw)
    go_simp
    (try with_reducible rfl)
  (try simp only [Act.put, List.setIfInBounds_toArray, List.set_cons_zero, List.set_cons_succ])
  refine wpAnyH_take (i := 6) (oi := { dst := some 85, op := Go.Op.load 46 (Go.Operand.tmp 7), type := 46, pos := "ref.go:133", after := #[], guard := none }) (v := ?_) rfl (by kernel_rfl) (by kernel_rfl) (by kernel_rfl) (fun _ _ _ h => h) (Or.inl ⟨by rfl, ?_⟩) (by assumption) ?_
  rotate_left
  focus
    intro wz hSw
    (try dsimp only at hSw)
    go_simp
    (try with_reducible rfl)
  (try simp only [Act.put, List.setIfInBounds_toArray, List.set_cons_zero, List.set_cons_succ])
  refine wpAnyH_ready (rs := [3]) (by kernel_rfl) (by simp) ?_
  refine AllReadyH.cons (o := { dst := some 82, op := Go.Op.call { callee := Go.Callee.value (Go.Operand.func 32), args := #[Go.Operand.tmp 79, Go.Operand.tmp 80, Go.Operand.tmp 81], argTypes := #[46, 46, 46] }, type := 3, pos := "ref.go:133", after := #[{ on := 0, ground := Go.Ground.data }, { on := 1, ground := Go.Ground.data }, { on := 2, ground := Go.Ground.data }], guard := none }) rfl (fun K hK => ?_) AllReadyH.nil
  go_simp
  with_reducible refine (c1.out _).mono ?_
  rintro e w2 ⟨rfl, hbm⟩
  go_wp2_with fail
  refine hK.out _ _ ?_ (fun hH1 => ?_)
  · (try dsimp only)
    (go_split_ands; (repeat' apply And.intro) <;> (first | with_reducible assumption | (with_reducible refine Blks.drew ?_; with_reducible assumption) | (with_reducible refine Below.drew ?_; with_reducible assumption) | (simp only [World.cell?_drew, World.size_drew]; with_reducible assumption) | (with_reducible refine Blks.below ?_ hbm; with_reducible assumption) | (with_reducible refine below_trans ?_ hbm; with_reducible assumption) | (rw [hbm.cell (by first | assumption | (simp only [World.size_drew]; assumption))]; first | with_reducible assumption | (simp only [World.cell?_drew]; with_reducible assumption)) | (refine Nat.lt_of_lt_of_le ?_ hbm.size; first | with_reducible assumption | (simp only [World.size_drew]; with_reducible assumption))))
  clear hK K hH0 hbm
  (try simp only [Act.put, List.setIfInBounds_toArray, List.set_cons_zero, List.set_cons_succ])
  refine wpAnyH_ready (rs := [7]) (by kernel_rfl) (by simp) ?_
  refine AllReadyH.cons (o := { dst := some 86, op := Go.Op.call { callee := Go.Callee.value (Go.Operand.func 32), args := #[Go.Operand.tmp 83, Go.Operand.tmp 84, Go.Operand.tmp 85], argTypes := #[46, 46, 46] }, type := 3, pos := "ref.go:133", after := #[{ on := 4, ground := Go.Ground.data }, { on := 5, ground := Go.Ground.data }, { on := 6, ground := Go.Ground.data }, { on := 3, ground := Go.Ground.chain }], guard := none }) rfl (fun K hK => ?_) AllReadyH.nil
  go_simp
  with_reducible refine (c2.out _).mono ?_
  rintro e w3 ⟨rfl, hbm⟩
  go_wp2_with fail
  refine hK.out _ _ ?_ (fun hH2 => ?_)
  · (try dsimp only)
    (go_split_ands; (repeat' apply And.intro) <;> (first | with_reducible assumption | (with_reducible refine Blks.drew ?_; with_reducible assumption) | (with_reducible refine Below.drew ?_; with_reducible assumption) | (simp only [World.cell?_drew, World.size_drew]; with_reducible assumption) | (with_reducible refine Blks.below ?_ hbm; with_reducible assumption) | (with_reducible refine below_trans ?_ hbm; with_reducible assumption) | (rw [hbm.cell (by first | assumption | (simp only [World.size_drew]; assumption))]; first | with_reducible assumption | (simp only [World.cell?_drew]; with_reducible assumption)) | (refine Nat.lt_of_lt_of_le ?_ hbm.size; first | with_reducible assumption | (simp only [World.size_drew]; with_reducible assumption))))
  clear hK K hH1 hbm
  (try simp only [Act.put, List.setIfInBounds_toArray, List.set_cons_zero, List.set_cons_succ])
  refine wpAnyH_take (i := 8) (oi := { dst := some 87, op := Go.Op.binOp Go.BinOp.mul 3 (Go.Operand.tmp 82) (Go.Operand.tmp 86) 3, type := 3, pos := "ref.go:133", after := #[{ on := 3, ground := Go.Ground.data }, { on := 7, ground := Go.Ground.data }], guard := none }) (v := ?_) rfl (by kernel_rfl) (by kernel_rfl) (by kernel_rfl) (fun _ _ _ h => h) (Or.inl ⟨by rfl, ?_⟩) (by assumption) ?_
  rotate_left
  focus
    intro wz hSw
    (try dsimp only at hSw)
    go_simp
    (try with_reducible rfl)
  (try simp only [Act.put, List.setIfInBounds_toArray, List.set_cons_zero, List.set_cons_succ])
  refine wpAnyH_take (i := 9) (oi := { dst := some 88, op := Go.Op.binOp Go.BinOp.leq 3 (Go.Operand.tmp 87) (Go.Operand.const (Go.Value.int Go.IntKind.i64 0)) 3, type := 4, pos := "ref.go:133", after := #[{ on := 8, ground := Go.Ground.data }], guard := none }) (v := ?_) rfl (by kernel_rfl) (by kernel_rfl) (by kernel_rfl) (fun _ _ _ h => h) (Or.inl ⟨by rfl, ?_⟩) (by assumption) ?_
  rotate_left
  focus
    intro wz hSw
    (try dsimp only at hSw)
    go_simp
    (try with_reducible rfl)
  (try simp only [Act.put, List.setIfInBounds_toArray, List.set_cons_zero, List.set_cons_succ])
  refine wpAnyH_take (i := 10) (oi := { dst := some 89, op := Go.Op.move (Go.Operand.tmp 88), type := 4, pos := "ref.go:133", after := #[{ on := 9, ground := Go.Ground.data }, { on := 7, ground := Go.Ground.chain }], guard := none }) (v := ?_) rfl (by kernel_rfl) (by kernel_rfl) (by kernel_rfl) (fun _ _ _ h => h) (Or.inl ⟨by rfl, ?_⟩) (by assumption) ?_
  rotate_left
  focus
    intro wz hSw
    (try dsimp only at hSw)
    go_simp
    (try with_reducible rfl)
  (try simp only [Act.put, List.setIfInBounds_toArray, List.set_cons_zero, List.set_cons_succ])
  refine wpAnyH_take (i := 11) (oi := { dst := some 90, op := Go.Op.load 46 (Go.Operand.tmp 6), type := 46, pos := "ref.go:133", after := #[{ on := 10, ground := Go.Ground.guard }], guard := some (10, true) }) (v := ?_) rfl (by kernel_rfl) (by kernel_rfl) (by kernel_rfl) (fun _ _ _ h => h) (Or.inl ⟨by rfl, ?_⟩) (by assumption) ?_
  rotate_left
  focus
    intro wz hSw
    (try dsimp only at hSw)
    go_simp
    (try with_reducible rfl)
  (try simp only [Act.put, List.setIfInBounds_toArray, List.set_cons_zero, List.set_cons_succ])
  refine wpAnyH_take (i := 12) (oi := { dst := some 91, op := Go.Op.load 46 (Go.Operand.tmp 7), type := 46, pos := "ref.go:133", after := #[{ on := 10, ground := Go.Ground.guard }], guard := some (10, true) }) (v := ?_) rfl (by kernel_rfl) (by kernel_rfl) (by kernel_rfl) (fun _ _ _ h => h) (Or.inl ⟨by rfl, ?_⟩) (by assumption) ?_
  rotate_left
  focus
    intro wz hSw
    (try dsimp only at hSw)
    go_simp
    (try with_reducible rfl)
  (try simp only [Act.put, List.setIfInBounds_toArray, List.set_cons_zero, List.set_cons_succ])
  refine wpAnyH_take (i := 13) (oi := { dst := some 92, op := Go.Op.load 46 (Go.Operand.tmp 4), type := 46, pos := "ref.go:133", after := #[{ on := 10, ground := Go.Ground.guard }], guard := some (10, true) }) (v := ?_) rfl (by kernel_rfl) (by kernel_rfl) (by kernel_rfl) (fun _ _ _ h => h) (Or.inl ⟨by rfl, ?_⟩) (by assumption) ?_
  rotate_left
  focus
    intro wz hSw
    (try dsimp only at hSw)
    go_simp
    (try with_reducible rfl)
  (try simp only [Act.put, List.setIfInBounds_toArray, List.set_cons_zero, List.set_cons_succ])
  refine wpAnyH_take (i := 15) (oi := { dst := some 94, op := Go.Op.load 46 (Go.Operand.tmp 6), type := 46, pos := "ref.go:133", after := #[{ on := 10, ground := Go.Ground.guard }], guard := some (10, true) }) (v := ?_) rfl (by kernel_rfl) (by kernel_rfl) (by kernel_rfl) (fun _ _ _ h => h) (Or.inl ⟨by rfl, ?_⟩) (by assumption) ?_
  rotate_left
  focus
    intro wz hSw
    (try dsimp only at hSw)
    go_simp
    (try with_reducible rfl)
  (try simp only [Act.put, List.setIfInBounds_toArray, List.set_cons_zero, List.set_cons_succ])
  refine wpAnyH_take (i := 16) (oi := { dst := some 95, op := Go.Op.load 46 (Go.Operand.tmp 7), type := 46, pos := "ref.go:133", after := #[{ on := 10, ground := Go.Ground.guard }], guard := some (10, true) }) (v := ?_) rfl (by kernel_rfl) (by kernel_rfl) (by kernel_rfl) (fun _ _ _ h => h) (Or.inl ⟨by rfl, ?_⟩) (by assumption) ?_
  rotate_left
  focus
    intro wz hSw
    (try dsimp only at hSw)
    go_simp
    (try with_reducible rfl)
  (try simp only [Act.put, List.setIfInBounds_toArray, List.set_cons_zero, List.set_cons_succ])
  refine wpAnyH_take (i := 17) (oi := { dst := some 96, op := Go.Op.load 46 (Go.Operand.tmp 5), type := 46, pos := "ref.go:133", after := #[{ on := 10, ground := Go.Ground.guard }], guard := some (10, true) }) (v := ?_) rfl (by kernel_rfl) (by kernel_rfl) (by kernel_rfl) (fun _ _ _ h => h) (Or.inl ⟨by rfl, ?_⟩) (by assumption) ?_
  rotate_left
  focus
    intro wz hSw
    (try dsimp only at hSw)
    go_simp
    (try with_reducible rfl)
  (try simp only [Act.put, List.setIfInBounds_toArray, List.set_cons_zero, List.set_cons_succ])
  refine wpAnyH_ready (rs := [14]) (by kernel_rfl) (by simp) ?_
  refine AllReadyH.cons (o := { dst := some 93, op := Go.Op.call { callee := Go.Callee.value (Go.Operand.func 32), args := #[Go.Operand.tmp 90, Go.Operand.tmp 91, Go.Operand.tmp 92], argTypes := #[46, 46, 46] }, type := 3, pos := "ref.go:133", after := #[{ on := 11, ground := Go.Ground.data }, { on := 12, ground := Go.Ground.data }, { on := 13, ground := Go.Ground.data }, { on := 10, ground := Go.Ground.chain }, { on := 10, ground := Go.Ground.guard }], guard := some (10, true) }) rfl (fun K hK => ?_) AllReadyH.nil
  go_simp
  with_reducible refine (c3.out _).mono ?_
  rintro e w4 ⟨rfl, hbm⟩
  go_wp2_with fail
  refine hK.out _ _ ?_ (fun hH3 => ?_)
  · (try dsimp only)
    (go_split_ands; (repeat' apply And.intro) <;> (first | with_reducible assumption | (with_reducible refine Blks.drew ?_; with_reducible assumption) | (with_reducible refine Below.drew ?_; with_reducible assumption) | (simp only [World.cell?_drew, World.size_drew]; with_reducible assumption) | (with_reducible refine Blks.below ?_ hbm; with_reducible assumption) | (with_reducible refine below_trans ?_ hbm; with_reducible assumption) | (rw [hbm.cell (by first | assumption | (simp only [World.size_drew]; assumption))]; first | with_reducible assumption | (simp only [World.cell?_drew]; with_reducible assumption)) | (refine Nat.lt_of_lt_of_le ?_ hbm.size; first | with_reducible assumption | (simp only [World.size_drew]; with_reducible assumption))))
  clear hK K hH2 hbm
  (try simp only [Act.put, List.setIfInBounds_toArray, List.set_cons_zero, List.set_cons_succ])
  refine wpAnyH_ready (rs := [18]) (by kernel_rfl) (by simp) ?_
  refine AllReadyH.cons (o := { dst := some 97, op := Go.Op.call { callee := Go.Callee.value (Go.Operand.func 32), args := #[Go.Operand.tmp 94, Go.Operand.tmp 95, Go.Operand.tmp 96], argTypes := #[46, 46, 46] }, type := 3, pos := "ref.go:133", after := #[{ on := 15, ground := Go.Ground.data }, { on := 16, ground := Go.Ground.data }, { on := 17, ground := Go.Ground.data }, { on := 14, ground := Go.Ground.chain }, { on := 10, ground := Go.Ground.guard }], guard := some (10, true) }) rfl (fun K hK => ?_) AllReadyH.nil
  go_simp
  with_reducible refine (c4.out _).mono ?_
  rintro e w5 ⟨rfl, hbm⟩
  go_wp2_with fail
  refine hK.out _ _ ?_ (fun hH4 => ?_)
  · (try dsimp only)
    (go_split_ands; (repeat' apply And.intro) <;> (first | with_reducible assumption | (with_reducible refine Blks.drew ?_; with_reducible assumption) | (with_reducible refine Below.drew ?_; with_reducible assumption) | (simp only [World.cell?_drew, World.size_drew]; with_reducible assumption) | (with_reducible refine Blks.below ?_ hbm; with_reducible assumption) | (with_reducible refine below_trans ?_ hbm; with_reducible assumption) | (rw [hbm.cell (by first | assumption | (simp only [World.size_drew]; assumption))]; first | with_reducible assumption | (simp only [World.cell?_drew]; with_reducible assumption)) | (refine Nat.lt_of_lt_of_le ?_ hbm.size; first | with_reducible assumption | (simp only [World.size_drew]; with_reducible assumption))))
  clear hK K hH3 hbm
  (try simp only [Act.put, List.setIfInBounds_toArray, List.set_cons_zero, List.set_cons_succ])
  refine wpAnyH_take (i := 19) (oi := { dst := some 98, op := Go.Op.binOp Go.BinOp.mul 3 (Go.Operand.tmp 93) (Go.Operand.tmp 97) 3, type := 3, pos := "ref.go:133", after := #[{ on := 14, ground := Go.Ground.data }, { on := 18, ground := Go.Ground.data }, { on := 10, ground := Go.Ground.guard }], guard := some (10, true) }) (v := ?_) rfl (by kernel_rfl) (by kernel_rfl) (by kernel_rfl) (fun _ _ _ h => h) (Or.inl ⟨by rfl, ?_⟩) (by assumption) ?_
  rotate_left
  focus
    intro wz hSw
    (try dsimp only at hSw)
    go_simp
    (try with_reducible rfl)
  (try simp only [Act.put, List.setIfInBounds_toArray, List.set_cons_zero, List.set_cons_succ])
  refine wpAnyH_take (i := 20) (oi := { dst := some 99, op := Go.Op.binOp Go.BinOp.leq 3 (Go.Operand.tmp 98) (Go.Operand.const (Go.Value.int Go.IntKind.i64 0)) 3, type := 4, pos := "ref.go:133", after := #[{ on := 19, ground := Go.Ground.data }, { on := 10, ground := Go.Ground.guard }], guard := some (10, true) }) (v := ?_) rfl (by kernel_rfl) (by kernel_rfl) (by kernel_rfl) (fun _ _ _ h => h) (Or.inl ⟨by rfl, ?_⟩) (by assumption) ?_
  rotate_left
  focus
    intro wz hSw
    (try dsimp only at hSw)
    go_simp
    (try with_reducible rfl)
  (try simp only [Act.put, List.setIfInBounds_toArray, List.set_cons_zero, List.set_cons_succ])
  refine wpAnyH_take (i := 21) (oi := { dst := some 100, op := Go.Op.pick (Go.Operand.tmp 89) (Go.Operand.tmp 99) (Go.Operand.const (Go.Value.bool false)), type := 4, pos := "ref.go:133", after := #[{ on := 10, ground := Go.Ground.data }, { on := 20, ground := Go.Ground.data }], guard := none }) (v := ?_) rfl (by kernel_rfl) (by kernel_rfl) (by kernel_rfl) (fun _ _ _ h => h) (Or.inl ⟨by rfl, ?_⟩) (by assumption) ?_
  rotate_left
  focus
    intro wz hSw
    (try dsimp only at hSw)
    go_simp
    (try with_reducible rfl)
  (try simp only [Act.put, List.setIfInBounds_toArray, List.set_cons_zero, List.set_cons_succ])
  refine wpAnyH_done (by kernel_rfl) ?_ _
  go_split_ands
  have HHn : Blks w5 [(w.heap.size + 1 + 1 + 1, 46, [.int .i64 dx, .int .i64 dy]), (w.heap.size + 1 + 1, 46, [.int .i64 cx, .int .i64 cy]), (w.heap.size + 1, 46, [.int .i64 bx, .int .i64 bY]), (w.heap.size, 46, [.int .i64 ax, .int .i64 ay])] := by assumption
  have HBn : Below w.heap.size w w5 := by assumption
  clear HH1 HB1
  have HH5 := Lib.hid HHn
  have HB5 := Lib.hid HBn
  clear HHn HBn
  have B5_0 : Blk w5 (w.heap.size) 46 #[.int .i64 ax, .int .i64 ay] := HH5.out (w.heap.size, 46, [.int .i64 ax, .int .i64 ay]) (by simp)
  have k5_0_0 : w5.cell? ⟨w.heap.size, 0, none⟩ = some (.int .i64 ax) := B5_0.cell 0
  have k5_0_1 : w5.cell? ⟨w.heap.size, 1, none⟩ = some (.int .i64 ay) := B5_0.cell 1
  have z5_0 : w.heap.size < w5.heap.size := B5_0.lt
  clear B5_0
  have B5_1 : Blk w5 (w.heap.size + 1) 46 #[.int .i64 bx, .int .i64 bY] := HH5.out (w.heap.size + 1, 46, [.int .i64 bx, .int .i64 bY]) (by simp)
  have k5_1_0 : w5.cell? ⟨w.heap.size + 1, 0, none⟩ = some (.int .i64 bx) := B5_1.cell 0
  have k5_1_1 : w5.cell? ⟨w.heap.size + 1, 1, none⟩ = some (.int .i64 bY) := B5_1.cell 1
  have z5_1 : w.heap.size + 1 < w5.heap.size := B5_1.lt
  clear B5_1
  have B5_2 : Blk w5 (w.heap.size + 1 + 1) 46 #[.int .i64 cx, .int .i64 cy] := HH5.out (w.heap.size + 1 + 1, 46, [.int .i64 cx, .int .i64 cy]) (by simp)
  have k5_2_0 : w5.cell? ⟨w.heap.size + 1 + 1, 0, none⟩ = some (.int .i64 cx) := B5_2.cell 0
  have k5_2_1 : w5.cell? ⟨w.heap.size + 1 + 1, 1, none⟩ = some (.int .i64 cy) := B5_2.cell 1
  have z5_2 : w.heap.size + 1 + 1 < w5.heap.size := B5_2.lt
  clear B5_2
  have B5_3 : Blk w5 (w.heap.size + 1 + 1 + 1) 46 #[.int .i64 dx, .int .i64 dy] := HH5.out (w.heap.size + 1 + 1 + 1, 46, [.int .i64 dx, .int .i64 dy]) (by simp)
  have k5_3_0 : w5.cell? ⟨w.heap.size + 1 + 1 + 1, 0, none⟩ = some (.int .i64 dx) := B5_3.cell 0
  have k5_3_1 : w5.cell? ⟨w.heap.size + 1 + 1 + 1, 1, none⟩ = some (.int .i64 dy) := B5_3.cell 1
  have z5_3 : w.heap.size + 1 + 1 + 1 < w5.heap.size := B5_3.lt
  clear B5_3
  go_wp2
  go_returns
  exact ⟨rfl, by repeat (first | with_reducible exact HB5.out | with_reducible refine Below.drew ?_ | with_reducible refine below_drewN ?_ _ | with_reducible refine below_set ?_ (by have := HB5.out.size; simp <;> omega) _ | with_reducible refine below_alloc ?_ _)⟩
set_option maxRecDepth 100000 in
set_option maxHeartbeats 3200000 in
theorem rmeet_3b21 (ax ay bx bY cx cy dx dy : Int) (h1 : in2 ax ay = true) (h2 : in2 bx bY = true) (h3 : in2 cx cy = true) (h4 : in2 dx dy = true) (hab : ¬ (ax = bx ∧ ay = bY)) (hcd : ¬ (cx = dx ∧ cy = dy)) (ht : turnI ax ay bx bY cx cy = 0) (ht2 : ¬ turnI ax ay bx bY dx dy = 0) (hp : turnI ax ay bx bY cx cy * turnI ax ay bx bY dx dy ≤ 0) (hq : 0 < turnI cx cy dx dy ax ay * turnI cx cy dx dy bx bY) (w : World) : Calls Try.prog 35 #[.agg #[.int .i64 ax, .int .i64 ay], .agg #[.int .i64 bx, .int .i64 bY], .agg #[.int .i64 cx, .int .i64 cy], .agg #[.int .i64 dx, .int .i64 dy]] w fun e w' => e = .returned (.int .i64 0) ∧ Below w.heap.size w w' := by
  have gd := fun x y xs ys W => pt_guard .eql x y xs ys W
  have e1 := fun W => pt_diff_eql hab W
  have e2 := fun W => pt_diff_eql hcd W
  have c1 := Lib.hid fun W => rturn_any ax ay bx bY cx cy h1 h2 h3 W
  have c2 := Lib.hid fun W => rturn_any ax ay bx bY dx dy h1 h2 h4 W
  have c3 := Lib.hid fun W => rturn_any cx cy dx dy ax ay h3 h4 h1 W
  have c4 := Lib.hid fun W => rturn_any cx cy dx dy bx bY h3 h4 h2 W
  obtain ⟨b1, b2⟩ := mul1 (cmpI_bd ((bx - ax) * (cy - ay)) ((bY - ay) * (cx - ax))) (cmpI_bd ((bx - ax) * (dy - ay)) ((bY - ay) * (dx - ax)))
  obtain ⟨b3, b4⟩ := mul1 (cmpI_bd ((dx - cx) * (ay - cy)) ((dy - cy) * (ax - cx))) (cmpI_bd ((dx - cx) * (bY - cy)) ((dy - cy) * (bx - cx)))
  change -1 ≤ turnI ax ay bx bY cx cy * turnI ax ay bx bY dx dy at b1
  change turnI ax ay bx bY cx cy * turnI ax ay bx bY dx dy ≤ 1 at b2
  change -1 ≤ turnI cx cy dx dy ax ay * turnI cx cy dx dy bx bY at b3
  change turnI cx cy dx dy ax ay * turnI cx cy dx dy bx bY ≤ 1 at b4
  clear h1 h2 h3 h4 hab hcd
  generalize turnI ax ay bx bY cx cy = t1 at *
  generalize turnI ax ay bx bY dx dy = t2 at *
  generalize turnI cx cy dx dy ax ay = t3 at *
  generalize turnI cx cy dx dy bx bY = t4 at *
  have m1 : IntKind.i64.wrap (t1 * t2) = t1 * t2 := IntWalk.i64_in _ (by omega)
  have m2 : IntKind.i64.wrap (t3 * t4) = t3 * t4 := IntWalk.i64_in _ (by omega)
  have f1 : (t1 == 0) = true := by simp [ht]
  have f2 : (t2 == 0) = false := by simp [ht2]
  clear ht2
  have d1 : decide (t1 * t2 ≤ 0) = true := by simp; omega
  have d2 : decide (t3 * t4 ≤ 0) = false := by simp; omega
  clear ht
  go_enter Try.func35, Try.ntmps35
  go_wp2_with fail
  refine (c1.out _).mono ?_
  rintro e w1 ⟨rfl, hb1⟩
  have HH1 := Lib.hid (((((((Blks.nil (w := w))).new (w.heap.size) 46 [.int .i64 ax, .int .i64 ay] rfl).new (w.heap.size + 1) 46 [.int .i64 bx, .int .i64 bY] (by simp)).new (w.heap.size + 1 + 1) 46 [.int .i64 cx, .int .i64 cy] (by simp)).new (w.heap.size + 1 + 1 + 1) 46 [.int .i64 dx, .int .i64 dy] (by simp)).below hb1)
  have HB1 := Lib.hid (below_trans (below_alloc (below_alloc (below_alloc (below_alloc (Below.refl _ _) _) _) _) _) hb1)
  clear hb1
  have B1_0 : Blk w1 (w.heap.size) 46 #[.int .i64 ax, .int .i64 ay] := HH1.out (w.heap.size, 46, [.int .i64 ax, .int .i64 ay]) (by simp)
  have k1_0_0 : w1.cell? ⟨w.heap.size, 0, none⟩ = some (.int .i64 ax) := B1_0.cell 0
  have k1_0_1 : w1.cell? ⟨w.heap.size, 1, none⟩ = some (.int .i64 ay) := B1_0.cell 1
  have z1_0 : w.heap.size < w1.heap.size := B1_0.lt
  clear B1_0
  have B1_1 : Blk w1 (w.heap.size + 1) 46 #[.int .i64 bx, .int .i64 bY] := HH1.out (w.heap.size + 1, 46, [.int .i64 bx, .int .i64 bY]) (by simp)
  have k1_1_0 : w1.cell? ⟨w.heap.size + 1, 0, none⟩ = some (.int .i64 bx) := B1_1.cell 0
  have k1_1_1 : w1.cell? ⟨w.heap.size + 1, 1, none⟩ = some (.int .i64 bY) := B1_1.cell 1
  have z1_1 : w.heap.size + 1 < w1.heap.size := B1_1.lt
  clear B1_1
  have B1_2 : Blk w1 (w.heap.size + 1 + 1) 46 #[.int .i64 cx, .int .i64 cy] := HH1.out (w.heap.size + 1 + 1, 46, [.int .i64 cx, .int .i64 cy]) (by simp)
  have k1_2_0 : w1.cell? ⟨w.heap.size + 1 + 1, 0, none⟩ = some (.int .i64 cx) := B1_2.cell 0
  have k1_2_1 : w1.cell? ⟨w.heap.size + 1 + 1, 1, none⟩ = some (.int .i64 cy) := B1_2.cell 1
  have z1_2 : w.heap.size + 1 + 1 < w1.heap.size := B1_2.lt
  clear B1_2
  have B1_3 : Blk w1 (w.heap.size + 1 + 1 + 1) 46 #[.int .i64 dx, .int .i64 dy] := HH1.out (w.heap.size + 1 + 1 + 1, 46, [.int .i64 dx, .int .i64 dy]) (by simp)
  have k1_3_0 : w1.cell? ⟨w.heap.size + 1 + 1 + 1, 0, none⟩ = some (.int .i64 dx) := B1_3.cell 0
  have k1_3_1 : w1.cell? ⟨w.heap.size + 1 + 1 + 1, 1, none⟩ = some (.int .i64 dy) := B1_3.cell 1
  have z1_3 : w.heap.size + 1 + 1 + 1 < w1.heap.size := B1_3.lt
  clear B1_3
  go_wp2_with fail
  refine (c2.out _).mono ?_
  rintro e w2 ⟨rfl, hb2⟩
  have HH2 := Lib.hid ((HH1.out).below hb2)
  have HB2 := Lib.hid (below_trans (HB1.out) hb2)
  clear k1_0_0 k1_0_1 z1_0 k1_1_0 k1_1_1 z1_1 k1_2_0 k1_2_1 z1_2 k1_3_0 k1_3_1 z1_3
  clear hb2
  clear HH1 HB1
  have B2_0 : Blk w2 (w.heap.size) 46 #[.int .i64 ax, .int .i64 ay] := HH2.out (w.heap.size, 46, [.int .i64 ax, .int .i64 ay]) (by simp)
  have k2_0_0 : w2.cell? ⟨w.heap.size, 0, none⟩ = some (.int .i64 ax) := B2_0.cell 0
  have k2_0_1 : w2.cell? ⟨w.heap.size, 1, none⟩ = some (.int .i64 ay) := B2_0.cell 1
  have z2_0 : w.heap.size < w2.heap.size := B2_0.lt
  clear B2_0
  have B2_1 : Blk w2 (w.heap.size + 1) 46 #[.int .i64 bx, .int .i64 bY] := HH2.out (w.heap.size + 1, 46, [.int .i64 bx, .int .i64 bY]) (by simp)
  have k2_1_0 : w2.cell? ⟨w.heap.size + 1, 0, none⟩ = some (.int .i64 bx) := B2_1.cell 0
  have k2_1_1 : w2.cell? ⟨w.heap.size + 1, 1, none⟩ = some (.int .i64 bY) := B2_1.cell 1
  have z2_1 : w.heap.size + 1 < w2.heap.size := B2_1.lt
  clear B2_1
  have B2_2 : Blk w2 (w.heap.size + 1 + 1) 46 #[.int .i64 cx, .int .i64 cy] := HH2.out (w.heap.size + 1 + 1, 46, [.int .i64 cx, .int .i64 cy]) (by simp)
  have k2_2_0 : w2.cell? ⟨w.heap.size + 1 + 1, 0, none⟩ = some (.int .i64 cx) := B2_2.cell 0
  have k2_2_1 : w2.cell? ⟨w.heap.size + 1 + 1, 1, none⟩ = some (.int .i64 cy) := B2_2.cell 1
  have z2_2 : w.heap.size + 1 + 1 < w2.heap.size := B2_2.lt
  clear B2_2
  have B2_3 : Blk w2 (w.heap.size + 1 + 1 + 1) 46 #[.int .i64 dx, .int .i64 dy] := HH2.out (w.heap.size + 1 + 1 + 1, 46, [.int .i64 dx, .int .i64 dy]) (by simp)
  have k2_3_0 : w2.cell? ⟨w.heap.size + 1 + 1 + 1, 0, none⟩ = some (.int .i64 dx) := B2_3.cell 0
  have k2_3_1 : w2.cell? ⟨w.heap.size + 1 + 1 + 1, 1, none⟩ = some (.int .i64 dy) := B2_3.cell 1
  have z2_3 : w.heap.size + 1 + 1 + 1 < w2.heap.size := B2_3.lt
  clear B2_3
  go_upto_region 18 with fail
  have HHp := HH2.out
  have HBp := HB2.out
  refine wp_region_held_drew (S := fun w' => w'.cell? ⟨w.heap.size, 0, none⟩ = some (.int .i64 ax) ∧ w'.cell? ⟨w.heap.size, 1, none⟩ = some (.int .i64 ay) ∧ w'.cell? ⟨w.heap.size + 1, 0, none⟩ = some (.int .i64 bx) ∧ w'.cell? ⟨w.heap.size + 1, 1, none⟩ = some (.int .i64 bY) ∧ w'.cell? ⟨w.heap.size + 1 + 1, 0, none⟩ = some (.int .i64 cx) ∧ w'.cell? ⟨w.heap.size + 1 + 1, 1, none⟩ = some (.int .i64 cy) ∧ w'.cell? ⟨w.heap.size + 1 + 1 + 1, 0, none⟩ = some (.int .i64 dx) ∧ w'.cell? ⟨w.heap.size + 1 + 1 + 1, 1, none⟩ = some (.int .i64 dy) ∧ w.heap.size < w'.heap.size ∧ w.heap.size + 1 < w'.heap.size ∧ w.heap.size + 1 + 1 < w'.heap.size ∧ w.heap.size + 1 + 1 + 1 < w'.heap.size ∧ Blks w' [(w.heap.size + 1 + 1 + 1, 46, [.int .i64 dx, .int .i64 dy]), (w.heap.size + 1 + 1, 46, [.int .i64 cx, .int .i64 cy]), (w.heap.size + 1, 46, [.int .i64 bx, .int .i64 bY]), (w.heap.size, 46, [.int .i64 ax, .int .i64 ay])] ∧ Below w.heap.size w w') (by kernel_rfl) ?_ (fun hH0 => ?_)
  · (try dsimp only)
    (go_split_ands; (repeat' apply And.intro) <;> (first | with_reducible assumption | (with_reducible refine Blks.drew ?_; with_reducible assumption) | (with_reducible refine Below.drew ?_; with_reducible assumption) | (simp only [World.cell?_drew, World.size_drew]; with_reducible assumption) | (with_reducible refine Blks.below ?_ hbm; with_reducible assumption) | (with_reducible refine below_trans ?_ hbm; with_reducible assumption) | (rw [hbm.cell (by first | assumption | (simp only [World.size_drew]; assumption))]; first | with_reducible assumption | (simp only [World.cell?_drew]; with_reducible assumption)) | (refine Nat.lt_of_lt_of_le ?_ hbm.size; first | with_reducible assumption | (simp only [World.size_drew]; with_reducible assumption))))
  clear k2_0_0 k2_0_1 z2_0 k2_1_0 k2_1_1 z2_1 k2_2_0 k2_2_1 z2_2 k2_3_0 k2_3_1 z2_3
  clear HHp HBp
  refine wpAnyH_take (i := 0) (oi := { dst := some 79, op := Go.Op.load 46 (Go.Operand.tmp 4), type := 46, pos := "ref.go:133", after := #[], guard := none }) (v := ?_) rfl (by kernel_rfl) (by kernel_rfl) (by kernel_rfl) (fun _ _ _ h => h) (Or.inl ⟨by rfl, ?_⟩) (by assumption) ?_
  rotate_left
  focus
    intro wz hSw
    (try dsimp only at hSw)
    go_simp
    (try with_reducible rfl)
  (try simp only [Act.put, List.setIfInBounds_toArray, List.set_cons_zero, List.set_cons_succ])
  refine wpAnyH_take (i := 1) (oi := { dst := some 80, op := Go.Op.load 46 (Go.Operand.tmp 5), type := 46, pos := "ref.go:133", after := #[], guard := none }) (v := ?_) rfl (by kernel_rfl) (by kernel_rfl) (by kernel_rfl) (fun _ _ _ h => h) (Or.inl ⟨by rfl, ?_⟩) (by assumption) ?_
  rotate_left
  focus
    intro wz hSw
    (try dsimp only at hSw)
    go_simp
    (try with_reducible rfl)
  (try simp only [Act.put, List.setIfInBounds_toArray, List.set_cons_zero, List.set_cons_succ])
  refine wpAnyH_take (i := 2) (oi := { dst := some 81, op := Go.Op.load 46 (Go.Operand.tmp 6), type := 46, pos := "ref.go:133", after := #[], guard := none }) (v := ?_) rfl (by kernel_rfl) (by kernel_rfl) (by kernel_rfl) (fun _ _ _ h => h) (Or.inl ⟨by rfl, ?_⟩) (by assumption) ?_
  rotate_left
  focus
    intro wz hSw
    (try dsimp only at hSw)
    go_simp
    (try with_reducible rfl)
  (try simp only [Act.put, List.setIfInBounds_toArray, List.set_cons_zero, List.set_cons_succ])
  refine wpAnyH_take (i := 4) (oi := { dst := some 83, op := Go.Op.load 46 (Go.Operand.tmp 4), type := 46, pos := "ref.go:133", after := #[], guard := none }) (v := ?_) rfl (by kernel_rfl) (by kernel_rfl) (by kernel_rfl) (fun _ _ _ h => h) (Or.inl ⟨by rfl, ?_⟩) (by assumption) ?_
  rotate_left
  focus
    intro wz hSw
    (try dsimp only at hSw)
    go_simp
    (try with_reducible rfl)
  (try simp only [Act.put, List.setIfInBounds_toArray, List.set_cons_zero, List.set_cons_succ])
  refine wpAnyH_take (i := 5) (oi := { dst := some 84, op := Go.Op.load 46 (Go.Operand.tmp 5), type := 46, pos := "ref.go:133", after := #[], guard := none }) (v := ?_) rfl (by kernel_rfl) (by kernel_rfl) (by kernel_rfl) (fun _ _ _ h => h) (Or.inl ⟨by rfl, ?_⟩) (by assumption) ?_
  rotate_left
  focus
    intro wz hSw
    (try dsimp only at hSw)
    go_simp
    (try with_reducible rfl)
  (try simp only [Act.put, List.setIfInBounds_toArray, List.set_cons_zero, List.set_cons_succ])
  refine wpAnyH_take (i := 6) (oi := { dst := some 85, op := Go.Op.load 46 (Go.Operand.tmp 7), type := 46, pos := "ref.go:133", after := #[], guard := none }) (v := ?_) rfl (by kernel_rfl) (by kernel_rfl) (by kernel_rfl) (fun _ _ _ h => h) (Or.inl ⟨by rfl, ?_⟩) (by assumption) ?_
  rotate_left
  focus
    intro wz hSw
    (try dsimp only at hSw)
    go_simp
    (try with_reducible rfl)
  (try simp only [Act.put, List.setIfInBounds_toArray, List.set_cons_zero, List.set_cons_succ])
  refine wpAnyH_ready (rs := [3]) (by kernel_rfl) (by simp) ?_
  refine AllReadyH.cons (o := { dst := some 82, op := Go.Op.call { callee := Go.Callee.value (Go.Operand.func 32), args := #[Go.Operand.tmp 79, Go.Operand.tmp 80, Go.Operand.tmp 81], argTypes := #[46, 46, 46] }, type := 3, pos := "ref.go:133", after := #[{ on := 0, ground := Go.Ground.data }, { on := 1, ground := Go.Ground.data }, { on := 2, ground := Go.Ground.data }], guard := none }) rfl (fun K hK => ?_) AllReadyH.nil
  go_simp
  with_reducible refine (c1.out _).mono ?_
  rintro e w3 ⟨rfl, hbm⟩
  go_wp2_with fail
  refine hK.out _ _ ?_ (fun hH1 => ?_)
  · (try dsimp only)
    (go_split_ands; (repeat' apply And.intro) <;> (first | with_reducible assumption | (with_reducible refine Blks.drew ?_; with_reducible assumption) | (with_reducible refine Below.drew ?_; with_reducible assumption) | (simp only [World.cell?_drew, World.size_drew]; with_reducible assumption) | (with_reducible refine Blks.below ?_ hbm; with_reducible assumption) | (with_reducible refine below_trans ?_ hbm; with_reducible assumption) | (rw [hbm.cell (by first | assumption | (simp only [World.size_drew]; assumption))]; first | with_reducible assumption | (simp only [World.cell?_drew]; with_reducible assumption)) | (refine Nat.lt_of_lt_of_le ?_ hbm.size; first | with_reducible assumption | (simp only [World.size_drew]; with_reducible assumption))))
  clear hK K hH0 hbm
  (try simp only [Act.put, List.setIfInBounds_toArray, List.set_cons_zero, List.set_cons_succ])
  refine wpAnyH_ready (rs := [7]) (by kernel_rfl) (by simp) ?_
  refine AllReadyH.cons (o := { dst := some 86, op := Go.Op.call { callee := Go.Callee.value (Go.Operand.func 32), args := #[Go.Operand.tmp 83, Go.Operand.tmp 84, Go.Operand.tmp 85], argTypes := #[46, 46, 46] }, type := 3, pos := "ref.go:133", after := #[{ on := 4, ground := Go.Ground.data }, { on := 5, ground := Go.Ground.data }, { on := 6, ground := Go.Ground.data }, { on := 3, ground := Go.Ground.chain }], guard := none }) rfl (fun K hK => ?_) AllReadyH.nil
  go_simp
  with_reducible refine (c2.out _).mono ?_
  rintro e w4 ⟨rfl, hbm⟩
  go_wp2_with fail
  refine hK.out _ _ ?_ (fun hH2 => ?_)
  · (try dsimp only)
    (go_split_ands; (repeat' apply And.intro) <;> (first | with_reducible assumption | (with_reducible refine Blks.drew ?_; with_reducible assumption) | (with_reducible refine Below.drew ?_; with_reducible assumption) | (simp only [World.cell?_drew, World.size_drew]; with_reducible assumption) | (with_reducible refine Blks.below ?_ hbm; with_reducible assumption) | (with_reducible refine below_trans ?_ hbm; with_reducible assumption) | (rw [hbm.cell (by first | assumption | (simp only [World.size_drew]; assumption))]; first | with_reducible assumption | (simp only [World.cell?_drew]; with_reducible assumption)) | (refine Nat.lt_of_lt_of_le ?_ hbm.size; first | with_reducible assumption | (simp only [World.size_drew]; with_reducible assumption))))
  clear hK K hH1 hbm
  (try simp only [Act.put, List.setIfInBounds_toArray, List.set_cons_zero, List.set_cons_succ])
  refine wpAnyH_take (i := 8) (oi := { dst := some 87, op := Go.Op.binOp Go.BinOp.mul 3 (Go.Operand.tmp 82) (Go.Operand.tmp 86) 3, type := 3, pos := "ref.go:133", after := #[{ on := 3, ground := Go.Ground.data }, { on := 7, ground := Go.Ground.data }], guard := none }) (v := ?_) rfl (by kernel_rfl) (by kernel_rfl) (by kernel_rfl) (fun _ _ _ h => h) (Or.inl ⟨by rfl, ?_⟩) (by assumption) ?_
  rotate_left
  focus
    intro wz hSw
    (try dsimp only at hSw)
    go_simp
    (try with_reducible rfl)
  (try simp only [Act.put, List.setIfInBounds_toArray, List.set_cons_zero, List.set_cons_succ])
  refine wpAnyH_take (i := 9) (oi := { dst := some 88, op := Go.Op.binOp Go.BinOp.leq 3 (Go.Operand.tmp 87) (Go.Operand.const (Go.Value.int Go.IntKind.i64 0)) 3, type := 4, pos := "ref.go:133", after := #[{ on := 8, ground := Go.Ground.data }], guard := none }) (v := ?_) rfl (by kernel_rfl) (by kernel_rfl) (by kernel_rfl) (fun _ _ _ h => h) (Or.inl ⟨by rfl, ?_⟩) (by assumption) ?_
  rotate_left
  focus
    intro wz hSw
    (try dsimp only at hSw)
    go_simp
    (try with_reducible rfl)
  (try simp only [Act.put, List.setIfInBounds_toArray, List.set_cons_zero, List.set_cons_succ])
  refine wpAnyH_take (i := 10) (oi := { dst := some 89, op := Go.Op.move (Go.Operand.tmp 88), type := 4, pos := "ref.go:133", after := #[{ on := 9, ground := Go.Ground.data }, { on := 7, ground := Go.Ground.chain }], guard := none }) (v := ?_) rfl (by kernel_rfl) (by kernel_rfl) (by kernel_rfl) (fun _ _ _ h => h) (Or.inl ⟨by rfl, ?_⟩) (by assumption) ?_
  rotate_left
  focus
    intro wz hSw
    (try dsimp only at hSw)
    go_simp
    (try with_reducible rfl)
  (try simp only [Act.put, List.setIfInBounds_toArray, List.set_cons_zero, List.set_cons_succ])
  refine wpAnyH_take (i := 11) (oi := { dst := some 90, op := Go.Op.load 46 (Go.Operand.tmp 6), type := 46, pos := "ref.go:133", after := #[{ on := 10, ground := Go.Ground.guard }], guard := some (10, true) }) (v := ?_) rfl (by kernel_rfl) (by kernel_rfl) (by kernel_rfl) (fun _ _ _ h => h) (Or.inl ⟨by rfl, ?_⟩) (by assumption) ?_
  rotate_left
  focus
    intro wz hSw
    (try dsimp only at hSw)
    go_simp
    (try with_reducible rfl)
  (try simp only [Act.put, List.setIfInBounds_toArray, List.set_cons_zero, List.set_cons_succ])
  refine wpAnyH_take (i := 12) (oi := { dst := some 91, op := Go.Op.load 46 (Go.Operand.tmp 7), type := 46, pos := "ref.go:133", after := #[{ on := 10, ground := Go.Ground.guard }], guard := some (10, true) }) (v := ?_) rfl (by kernel_rfl) (by kernel_rfl) (by kernel_rfl) (fun _ _ _ h => h) (Or.inl ⟨by rfl, ?_⟩) (by assumption) ?_
  rotate_left
  focus
    intro wz hSw
    (try dsimp only at hSw)
    go_simp
    (try with_reducible rfl)
  (try simp only [Act.put, List.setIfInBounds_toArray, List.set_cons_zero, List.set_cons_succ])
  refine wpAnyH_take (i := 13) (oi := { dst := some 92, op := Go.Op.load 46 (Go.Operand.tmp 4), type := 46, pos := "ref.go:133", after := #[{ on := 10, ground := Go.Ground.guard }], guard := some (10, true) }) (v := ?_) rfl (by kernel_rfl) (by kernel_rfl) (by kernel_rfl) (fun _ _ _ h => h) (Or.inl ⟨by rfl, ?_⟩) (by assumption) ?_
  rotate_left
  focus
    intro wz hSw
    (try dsimp only at hSw)
    go_simp
    (try with_reducible rfl)
  (try simp only [Act.put, List.setIfInBounds_toArray, List.set_cons_zero, List.set_cons_succ])
  refine wpAnyH_take (i := 15) (oi := { dst := some 94, op := Go.Op.load 46 (Go.Operand.tmp 6), type := 46, pos := "ref.go:133", after := #[{ on := 10, ground := Go.Ground.guard }], guard := some (10, true) }) (v := ?_) rfl (by kernel_rfl) (by kernel_rfl) (by kernel_rfl) (fun _ _ _ h => h) (Or.inl ⟨by rfl, ?_⟩) (by assumption) ?_
  rotate_left
  focus
    intro wz hSw
    (try dsimp only at hSw)
    go_simp
    (try with_reducible rfl)
  (try simp only [Act.put, List.setIfInBounds_toArray, List.set_cons_zero, List.set_cons_succ])
  refine wpAnyH_take (i := 16) (oi := { dst := some 95, op := Go.Op.load 46 (Go.Operand.tmp 7), type := 46, pos := "ref.go:133", after := #[{ on := 10, ground := Go.Ground.guard }], guard := some (10, true) }) (v := ?_) rfl (by kernel_rfl) (by kernel_rfl) (by kernel_rfl) (fun _ _ _ h => h) (Or.inl ⟨by rfl, ?_⟩) (by assumption) ?_
  rotate_left
  focus
    intro wz hSw
    (try dsimp only at hSw)
    go_simp
    (try with_reducible rfl)
  (try simp only [Act.put, List.setIfInBounds_toArray, List.set_cons_zero, List.set_cons_succ])
  refine wpAnyH_take (i := 17) (oi := { dst := some 96, op := Go.Op.load 46 (Go.Operand.tmp 5), type := 46, pos := "ref.go:133", after := #[{ on := 10, ground := Go.Ground.guard }], guard := some (10, true) }) (v := ?_) rfl (by kernel_rfl) (by kernel_rfl) (by kernel_rfl) (fun _ _ _ h => h) (Or.inl ⟨by rfl, ?_⟩) (by assumption) ?_
  rotate_left
  focus
    intro wz hSw
    (try dsimp only at hSw)
    go_simp
    (try with_reducible rfl)
  (try simp only [Act.put, List.setIfInBounds_toArray, List.set_cons_zero, List.set_cons_succ])
  refine wpAnyH_ready (rs := [14]) (by kernel_rfl) (by simp) ?_
  refine AllReadyH.cons (o := { dst := some 93, op := Go.Op.call { callee := Go.Callee.value (Go.Operand.func 32), args := #[Go.Operand.tmp 90, Go.Operand.tmp 91, Go.Operand.tmp 92], argTypes := #[46, 46, 46] }, type := 3, pos := "ref.go:133", after := #[{ on := 11, ground := Go.Ground.data }, { on := 12, ground := Go.Ground.data }, { on := 13, ground := Go.Ground.data }, { on := 10, ground := Go.Ground.chain }, { on := 10, ground := Go.Ground.guard }], guard := some (10, true) }) rfl (fun K hK => ?_) AllReadyH.nil
  go_simp
  with_reducible refine (c3.out _).mono ?_
  rintro e w5 ⟨rfl, hbm⟩
  go_wp2_with fail
  refine hK.out _ _ ?_ (fun hH3 => ?_)
  · (try dsimp only)
    (go_split_ands; (repeat' apply And.intro) <;> (first | with_reducible assumption | (with_reducible refine Blks.drew ?_; with_reducible assumption) | (with_reducible refine Below.drew ?_; with_reducible assumption) | (simp only [World.cell?_drew, World.size_drew]; with_reducible assumption) | (with_reducible refine Blks.below ?_ hbm; with_reducible assumption) | (with_reducible refine below_trans ?_ hbm; with_reducible assumption) | (rw [hbm.cell (by first | assumption | (simp only [World.size_drew]; assumption))]; first | with_reducible assumption | (simp only [World.cell?_drew]; with_reducible assumption)) | (refine Nat.lt_of_lt_of_le ?_ hbm.size; first | with_reducible assumption | (simp only [World.size_drew]; with_reducible assumption))))
  clear hK K hH2 hbm
  (try simp only [Act.put, List.setIfInBounds_toArray, List.set_cons_zero, List.set_cons_succ])
  refine wpAnyH_ready (rs := [18]) (by kernel_rfl) (by simp) ?_
  refine AllReadyH.cons (o := { dst := some 97, op := Go.Op.call { callee := Go.Callee.value (Go.Operand.func 32), args := #[Go.Operand.tmp 94, Go.Operand.tmp 95, Go.Operand.tmp 96], argTypes := #[46, 46, 46] }, type := 3, pos := "ref.go:133", after := #[{ on := 15, ground := Go.Ground.data }, { on := 16, ground := Go.Ground.data }, { on := 17, ground := Go.Ground.data }, { on := 14, ground := Go.Ground.chain }, { on := 10, ground := Go.Ground.guard }], guard := some (10, true) }) rfl (fun K hK => ?_) AllReadyH.nil
  go_simp
  with_reducible refine (c4.out _).mono ?_
  rintro e w6 ⟨rfl, hbm⟩
  go_wp2_with fail
  refine hK.out _ _ ?_ (fun hH4 => ?_)
  · (try dsimp only)
    (go_split_ands; (repeat' apply And.intro) <;> (first | with_reducible assumption | (with_reducible refine Blks.drew ?_; with_reducible assumption) | (with_reducible refine Below.drew ?_; with_reducible assumption) | (simp only [World.cell?_drew, World.size_drew]; with_reducible assumption) | (with_reducible refine Blks.below ?_ hbm; with_reducible assumption) | (with_reducible refine below_trans ?_ hbm; with_reducible assumption) | (rw [hbm.cell (by first | assumption | (simp only [World.size_drew]; assumption))]; first | with_reducible assumption | (simp only [World.cell?_drew]; with_reducible assumption)) | (refine Nat.lt_of_lt_of_le ?_ hbm.size; first | with_reducible assumption | (simp only [World.size_drew]; with_reducible assumption))))
  clear hK K hH3 hbm
  (try simp only [Act.put, List.setIfInBounds_toArray, List.set_cons_zero, List.set_cons_succ])
  refine wpAnyH_take (i := 19) (oi := { dst := some 98, op := Go.Op.binOp Go.BinOp.mul 3 (Go.Operand.tmp 93) (Go.Operand.tmp 97) 3, type := 3, pos := "ref.go:133", after := #[{ on := 14, ground := Go.Ground.data }, { on := 18, ground := Go.Ground.data }, { on := 10, ground := Go.Ground.guard }], guard := some (10, true) }) (v := ?_) rfl (by kernel_rfl) (by kernel_rfl) (by kernel_rfl) (fun _ _ _ h => h) (Or.inl ⟨by rfl, ?_⟩) (by assumption) ?_
  rotate_left
  focus
    intro wz hSw
    (try dsimp only at hSw)
    go_simp
    (try with_reducible rfl)
  (try simp only [Act.put, List.setIfInBounds_toArray, List.set_cons_zero, List.set_cons_succ])
  refine wpAnyH_take (i := 20) (oi := { dst := some 99, op := Go.Op.binOp Go.BinOp.leq 3 (Go.Operand.tmp 98) (Go.Operand.const (Go.Value.int Go.IntKind.i64 0)) 3, type := 4, pos := "ref.go:133", after := #[{ on := 19, ground := Go.Ground.data }, { on := 10, ground := Go.Ground.guard }], guard := some (10, true) }) (v := ?_) rfl (by kernel_rfl) (by kernel_rfl) (by kernel_rfl) (fun _ _ _ h => h) (Or.inl ⟨by rfl, ?_⟩) (by assumption) ?_
  rotate_left
  focus
    intro wz hSw
    (try dsimp only at hSw)
    go_simp
    (try with_reducible rfl)
  (try simp only [Act.put, List.setIfInBounds_toArray, List.set_cons_zero, List.set_cons_succ])
  refine wpAnyH_take (i := 21) (oi := { dst := some 100, op := Go.Op.pick (Go.Operand.tmp 89) (Go.Operand.tmp 99) (Go.Operand.const (Go.Value.bool false)), type := 4, pos := "ref.go:133", after := #[{ on := 10, ground := Go.Ground.data }, { on := 20, ground := Go.Ground.data }], guard := none }) (v := ?_) rfl (by kernel_rfl) (by kernel_rfl) (by kernel_rfl) (fun _ _ _ h => h) (Or.inl ⟨by rfl, ?_⟩) (by assumption) ?_
  rotate_left
  focus
    intro wz hSw
    (try dsimp only at hSw)
    go_simp
    (try with_reducible rfl)
  (try simp only [Act.put, List.setIfInBounds_toArray, List.set_cons_zero, List.set_cons_succ])
  refine wpAnyH_done (by kernel_rfl) ?_ _
  go_split_ands
  have HHn : Blks w6 [(w.heap.size + 1 + 1 + 1, 46, [.int .i64 dx, .int .i64 dy]), (w.heap.size + 1 + 1, 46, [.int .i64 cx, .int .i64 cy]), (w.heap.size + 1, 46, [.int .i64 bx, .int .i64 bY]), (w.heap.size, 46, [.int .i64 ax, .int .i64 ay])] := by assumption
  have HBn : Below w.heap.size w w6 := by assumption
  clear HH2 HB2
  have HH6 := Lib.hid HHn
  have HB6 := Lib.hid HBn
  clear HHn HBn
  have B6_0 : Blk w6 (w.heap.size) 46 #[.int .i64 ax, .int .i64 ay] := HH6.out (w.heap.size, 46, [.int .i64 ax, .int .i64 ay]) (by simp)
  have k6_0_0 : w6.cell? ⟨w.heap.size, 0, none⟩ = some (.int .i64 ax) := B6_0.cell 0
  have k6_0_1 : w6.cell? ⟨w.heap.size, 1, none⟩ = some (.int .i64 ay) := B6_0.cell 1
  have z6_0 : w.heap.size < w6.heap.size := B6_0.lt
  clear B6_0
  have B6_1 : Blk w6 (w.heap.size + 1) 46 #[.int .i64 bx, .int .i64 bY] := HH6.out (w.heap.size + 1, 46, [.int .i64 bx, .int .i64 bY]) (by simp)
  have k6_1_0 : w6.cell? ⟨w.heap.size + 1, 0, none⟩ = some (.int .i64 bx) := B6_1.cell 0
  have k6_1_1 : w6.cell? ⟨w.heap.size + 1, 1, none⟩ = some (.int .i64 bY) := B6_1.cell 1
  have z6_1 : w.heap.size + 1 < w6.heap.size := B6_1.lt
  clear B6_1
  have B6_2 : Blk w6 (w.heap.size + 1 + 1) 46 #[.int .i64 cx, .int .i64 cy] := HH6.out (w.heap.size + 1 + 1, 46, [.int .i64 cx, .int .i64 cy]) (by simp)
  have k6_2_0 : w6.cell? ⟨w.heap.size + 1 + 1, 0, none⟩ = some (.int .i64 cx) := B6_2.cell 0
  have k6_2_1 : w6.cell? ⟨w.heap.size + 1 + 1, 1, none⟩ = some (.int .i64 cy) := B6_2.cell 1
  have z6_2 : w.heap.size + 1 + 1 < w6.heap.size := B6_2.lt
  clear B6_2
  have B6_3 : Blk w6 (w.heap.size + 1 + 1 + 1) 46 #[.int .i64 dx, .int .i64 dy] := HH6.out (w.heap.size + 1 + 1 + 1, 46, [.int .i64 dx, .int .i64 dy]) (by simp)
  have k6_3_0 : w6.cell? ⟨w.heap.size + 1 + 1 + 1, 0, none⟩ = some (.int .i64 dx) := B6_3.cell 0
  have k6_3_1 : w6.cell? ⟨w.heap.size + 1 + 1 + 1, 1, none⟩ = some (.int .i64 dy) := B6_3.cell 1
  have z6_3 : w.heap.size + 1 + 1 + 1 < w6.heap.size := B6_3.lt
  clear B6_3
  go_wp2
  go_returns
  exact ⟨rfl, by repeat (first | with_reducible exact HB6.out | with_reducible refine Below.drew ?_ | with_reducible refine below_drewN ?_ _ | with_reducible refine below_set ?_ (by have := HB6.out.size; simp <;> omega) _ | with_reducible refine below_alloc ?_ _)⟩
set_option maxRecDepth 100000 in
set_option maxHeartbeats 3200000 in
theorem rmeet_3b22 (ax ay bx bY cx cy dx dy : Int) (h1 : in2 ax ay = true) (h2 : in2 bx bY = true) (h3 : in2 cx cy = true) (h4 : in2 dx dy = true) (hab : ¬ (ax = bx ∧ ay = bY)) (hcd : ¬ (cx = dx ∧ cy = dy)) (ht : turnI ax ay bx bY cx cy = 0) (ht2 : ¬ turnI ax ay bx bY dx dy = 0) (hp : turnI ax ay bx bY cx cy * turnI ax ay bx bY dx dy ≤ 0) (hq : turnI cx cy dx dy ax ay * turnI cx cy dx dy bx bY ≤ 0) (w : World) : Calls Try.prog 35 #[.agg #[.int .i64 ax, .int .i64 ay], .agg #[.int .i64 bx, .int .i64 bY], .agg #[.int .i64 cx, .int .i64 cy], .agg #[.int .i64 dx, .int .i64 dy]] w fun e w' => e = .returned (.int .i64 1) ∧ Below w.heap.size w w' := by
  have gd := fun x y xs ys W => pt_guard .eql x y xs ys W
  have e1 := fun W => pt_diff_eql hab W
  have e2 := fun W => pt_diff_eql hcd W
  have c1 := Lib.hid fun W => rturn_any ax ay bx bY cx cy h1 h2 h3 W
  have c2 := Lib.hid fun W => rturn_any ax ay bx bY dx dy h1 h2 h4 W
  have c3 := Lib.hid fun W => rturn_any cx cy dx dy ax ay h3 h4 h1 W
  have c4 := Lib.hid fun W => rturn_any cx cy dx dy bx bY h3 h4 h2 W
  obtain ⟨b1, b2⟩ := mul1 (cmpI_bd ((bx - ax) * (cy - ay)) ((bY - ay) * (cx - ax))) (cmpI_bd ((bx - ax) * (dy - ay)) ((bY - ay) * (dx - ax)))
  obtain ⟨b3, b4⟩ := mul1 (cmpI_bd ((dx - cx) * (ay - cy)) ((dy - cy) * (ax - cx))) (cmpI_bd ((dx - cx) * (bY - cy)) ((dy - cy) * (bx - cx)))
  change -1 ≤ turnI ax ay bx bY cx cy * turnI ax ay bx bY dx dy at b1
  change turnI ax ay bx bY cx cy * turnI ax ay bx bY dx dy ≤ 1 at b2
  change -1 ≤ turnI cx cy dx dy ax ay * turnI cx cy dx dy bx bY at b3
  change turnI cx cy dx dy ax ay * turnI cx cy dx dy bx bY ≤ 1 at b4
  clear h1 h2 h3 h4 hab hcd
  generalize turnI ax ay bx bY cx cy = t1 at *
  generalize turnI ax ay bx bY dx dy = t2 at *
  generalize turnI cx cy dx dy ax ay = t3 at *
  generalize turnI cx cy dx dy bx bY = t4 at *
  have m1 : IntKind.i64.wrap (t1 * t2) = t1 * t2 := IntWalk.i64_in _ (by omega)
  have m2 : IntKind.i64.wrap (t3 * t4) = t3 * t4 := IntWalk.i64_in _ (by omega)
  have f1 : (t1 == 0) = true := by simp [ht]
  have f2 : (t2 == 0) = false := by simp [ht2]
  clear ht2
  have d1 : decide (t1 * t2 ≤ 0) = true := by simp; omega
  have d2 : decide (t3 * t4 ≤ 0) = true := by simp; omega
  clear ht
  go_enter Try.func35, Try.ntmps35
  go_wp2_with fail
  refine (c1.out _).mono ?_
  rintro e w1 ⟨rfl, hb1⟩
  have HH1 := Lib.hid (((((((Blks.nil (w := w))).new (w.heap.size) 46 [.int .i64 ax, .int .i64 ay] rfl).new (w.heap.size + 1) 46 [.int .i64 bx, .int .i64 bY] (by simp)).new (w.heap.size + 1 + 1) 46 [.int .i64 cx, .int .i64 cy] (by simp)).new (w.heap.size + 1 + 1 + 1) 46 [.int .i64 dx, .int .i64 dy] (by simp)).below hb1)
  have HB1 := Lib.hid (below_trans (below_alloc (below_alloc (below_alloc (below_alloc (Below.refl _ _) _) _) _) _) hb1)
  clear hb1
  have B1_0 : Blk w1 (w.heap.size) 46 #[.int .i64 ax, .int .i64 ay] := HH1.out (w.heap.size, 46, [.int .i64 ax, .int .i64 ay]) (by simp)
  have k1_0_0 : w1.cell? ⟨w.heap.size, 0, none⟩ = some (.int .i64 ax) := B1_0.cell 0
  have k1_0_1 : w1.cell? ⟨w.heap.size, 1, none⟩ = some (.int .i64 ay) := B1_0.cell 1
  have z1_0 : w.heap.size < w1.heap.size := B1_0.lt
  clear B1_0
  have B1_1 : Blk w1 (w.heap.size + 1) 46 #[.int .i64 bx, .int .i64 bY] := HH1.out (w.heap.size + 1, 46, [.int .i64 bx, .int .i64 bY]) (by simp)
  have k1_1_0 : w1.cell? ⟨w.heap.size + 1, 0, none⟩ = some (.int .i64 bx) := B1_1.cell 0
  have k1_1_1 : w1.cell? ⟨w.heap.size + 1, 1, none⟩ = some (.int .i64 bY) := B1_1.cell 1
  have z1_1 : w.heap.size + 1 < w1.heap.size := B1_1.lt
  clear B1_1
  have B1_2 : Blk w1 (w.heap.size + 1 + 1) 46 #[.int .i64 cx, .int .i64 cy] := HH1.out (w.heap.size + 1 + 1, 46, [.int .i64 cx, .int .i64 cy]) (by simp)
  have k1_2_0 : w1.cell? ⟨w.heap.size + 1 + 1, 0, none⟩ = some (.int .i64 cx) := B1_2.cell 0
  have k1_2_1 : w1.cell? ⟨w.heap.size + 1 + 1, 1, none⟩ = some (.int .i64 cy) := B1_2.cell 1
  have z1_2 : w.heap.size + 1 + 1 < w1.heap.size := B1_2.lt
  clear B1_2
  have B1_3 : Blk w1 (w.heap.size + 1 + 1 + 1) 46 #[.int .i64 dx, .int .i64 dy] := HH1.out (w.heap.size + 1 + 1 + 1, 46, [.int .i64 dx, .int .i64 dy]) (by simp)
  have k1_3_0 : w1.cell? ⟨w.heap.size + 1 + 1 + 1, 0, none⟩ = some (.int .i64 dx) := B1_3.cell 0
  have k1_3_1 : w1.cell? ⟨w.heap.size + 1 + 1 + 1, 1, none⟩ = some (.int .i64 dy) := B1_3.cell 1
  have z1_3 : w.heap.size + 1 + 1 + 1 < w1.heap.size := B1_3.lt
  clear B1_3
  go_wp2_with fail
  refine (c2.out _).mono ?_
  rintro e w2 ⟨rfl, hb2⟩
  have HH2 := Lib.hid ((HH1.out).below hb2)
  have HB2 := Lib.hid (below_trans (HB1.out) hb2)
  clear k1_0_0 k1_0_1 z1_0 k1_1_0 k1_1_1 z1_1 k1_2_0 k1_2_1 z1_2 k1_3_0 k1_3_1 z1_3
  clear hb2
  clear HH1 HB1
  have B2_0 : Blk w2 (w.heap.size) 46 #[.int .i64 ax, .int .i64 ay] := HH2.out (w.heap.size, 46, [.int .i64 ax, .int .i64 ay]) (by simp)
  have k2_0_0 : w2.cell? ⟨w.heap.size, 0, none⟩ = some (.int .i64 ax) := B2_0.cell 0
  have k2_0_1 : w2.cell? ⟨w.heap.size, 1, none⟩ = some (.int .i64 ay) := B2_0.cell 1
  have z2_0 : w.heap.size < w2.heap.size := B2_0.lt
  clear B2_0
  have B2_1 : Blk w2 (w.heap.size + 1) 46 #[.int .i64 bx, .int .i64 bY] := HH2.out (w.heap.size + 1, 46, [.int .i64 bx, .int .i64 bY]) (by simp)
  have k2_1_0 : w2.cell? ⟨w.heap.size + 1, 0, none⟩ = some (.int .i64 bx) := B2_1.cell 0
  have k2_1_1 : w2.cell? ⟨w.heap.size + 1, 1, none⟩ = some (.int .i64 bY) := B2_1.cell 1
  have z2_1 : w.heap.size + 1 < w2.heap.size := B2_1.lt
  clear B2_1
  have B2_2 : Blk w2 (w.heap.size + 1 + 1) 46 #[.int .i64 cx, .int .i64 cy] := HH2.out (w.heap.size + 1 + 1, 46, [.int .i64 cx, .int .i64 cy]) (by simp)
  have k2_2_0 : w2.cell? ⟨w.heap.size + 1 + 1, 0, none⟩ = some (.int .i64 cx) := B2_2.cell 0
  have k2_2_1 : w2.cell? ⟨w.heap.size + 1 + 1, 1, none⟩ = some (.int .i64 cy) := B2_2.cell 1
  have z2_2 : w.heap.size + 1 + 1 < w2.heap.size := B2_2.lt
  clear B2_2
  have B2_3 : Blk w2 (w.heap.size + 1 + 1 + 1) 46 #[.int .i64 dx, .int .i64 dy] := HH2.out (w.heap.size + 1 + 1 + 1, 46, [.int .i64 dx, .int .i64 dy]) (by simp)
  have k2_3_0 : w2.cell? ⟨w.heap.size + 1 + 1 + 1, 0, none⟩ = some (.int .i64 dx) := B2_3.cell 0
  have k2_3_1 : w2.cell? ⟨w.heap.size + 1 + 1 + 1, 1, none⟩ = some (.int .i64 dy) := B2_3.cell 1
  have z2_3 : w.heap.size + 1 + 1 + 1 < w2.heap.size := B2_3.lt
  clear B2_3
  go_upto_region 18 with fail
  have HHp := HH2.out
  have HBp := HB2.out
  refine wp_region_held_drew (S := fun w' => w'.cell? ⟨w.heap.size, 0, none⟩ = some (.int .i64 ax) ∧ w'.cell? ⟨w.heap.size, 1, none⟩ = some (.int .i64 ay) ∧ w'.cell? ⟨w.heap.size + 1, 0, none⟩ = some (.int .i64 bx) ∧ w'.cell? ⟨w.heap.size + 1, 1, none⟩ = some (.int .i64 bY) ∧ w'.cell? ⟨w.heap.size + 1 + 1, 0, none⟩ = some (.int .i64 cx) ∧ w'.cell? ⟨w.heap.size + 1 + 1, 1, none⟩ = some (.int .i64 cy) ∧ w'.cell? ⟨w.heap.size + 1 + 1 + 1, 0, none⟩ = some (.int .i64 dx) ∧ w'.cell? ⟨w.heap.size + 1 + 1 + 1, 1, none⟩ = some (.int .i64 dy) ∧ w.heap.size < w'.heap.size ∧ w.heap.size + 1 < w'.heap.size ∧ w.heap.size + 1 + 1 < w'.heap.size ∧ w.heap.size + 1 + 1 + 1 < w'.heap.size ∧ Blks w' [(w.heap.size + 1 + 1 + 1, 46, [.int .i64 dx, .int .i64 dy]), (w.heap.size + 1 + 1, 46, [.int .i64 cx, .int .i64 cy]), (w.heap.size + 1, 46, [.int .i64 bx, .int .i64 bY]), (w.heap.size, 46, [.int .i64 ax, .int .i64 ay])] ∧ Below w.heap.size w w') (by kernel_rfl) ?_ (fun hH0 => ?_)
  · (try dsimp only)
    (go_split_ands; (repeat' apply And.intro) <;> (first | with_reducible assumption | (with_reducible refine Blks.drew ?_; with_reducible assumption) | (with_reducible refine Below.drew ?_; with_reducible assumption) | (simp only [World.cell?_drew, World.size_drew]; with_reducible assumption) | (with_reducible refine Blks.below ?_ hbm; with_reducible assumption) | (with_reducible refine below_trans ?_ hbm; with_reducible assumption) | (rw [hbm.cell (by first | assumption | (simp only [World.size_drew]; assumption))]; first | with_reducible assumption | (simp only [World.cell?_drew]; with_reducible assumption)) | (refine Nat.lt_of_lt_of_le ?_ hbm.size; first | with_reducible assumption | (simp only [World.size_drew]; with_reducible assumption))))
  clear k2_0_0 k2_0_1 z2_0 k2_1_0 k2_1_1 z2_1 k2_2_0 k2_2_1 z2_2 k2_3_0 k2_3_1 z2_3
  clear HHp HBp
  refine wpAnyH_take (i := 0) (oi := { dst := some 79, op := Go.Op.load 46 (Go.Operand.tmp 4), type := 46, pos := "ref.go:133", after := #[], guard := none }) (v := ?_) rfl (by kernel_rfl) (by kernel_rfl) (by kernel_rfl) (fun _ _ _ h => h) (Or.inl ⟨by rfl, ?_⟩) (by assumption) ?_
  rotate_left
  focus
    intro wz hSw
    (try dsimp only at hSw)
    go_simp
    (try with_reducible rfl)
  (try simp only [Act.put, List.setIfInBounds_toArray, List.set_cons_zero, List.set_cons_succ])
  refine wpAnyH_take (i := 1) (oi := { dst := some 80, op := Go.Op.load 46 (Go.Operand.tmp 5), type := 46, pos := "ref.go:133", after := #[], guard := none }) (v := ?_) rfl (by kernel_rfl) (by kernel_rfl) (by kernel_rfl) (fun _ _ _ h => h) (Or.inl ⟨by rfl, ?_⟩) (by assumption) ?_
  rotate_left
  focus
    intro wz hSw
    (try dsimp only at hSw)
    go_simp
    (try with_reducible rfl)
  (try simp only [Act.put, List.setIfInBounds_toArray, List.set_cons_zero, List.set_cons_succ])
  refine wpAnyH_take (i := 2) (oi := { dst := some 81, op := Go.Op.load 46 (Go.Operand.tmp 6), type := 46, pos := "ref.go:133", after := #[], guard := none }) (v := ?_) rfl (by kernel_rfl) (by kernel_rfl) (by kernel_rfl) (fun _ _ _ h => h) (Or.inl ⟨by rfl, ?_⟩) (by assumption) ?_
  rotate_left
  focus
    intro wz hSw
    (try dsimp only at hSw)
    go_simp
    (try with_reducible rfl)
  (try simp only [Act.put, List.setIfInBounds_toArray, List.set_cons_zero, List.set_cons_succ])
  refine wpAnyH_take (i := 4) (oi := { dst := some 83, op := Go.Op.load 46 (Go.Operand.tmp 4), type := 46, pos := "ref.go:133", after := #[], guard := none }) (v := ?_) rfl (by kernel_rfl) (by kernel_rfl) (by kernel_rfl) (fun _ _ _ h => h) (Or.inl ⟨by rfl, ?_⟩) (by assumption) ?_
  rotate_left
  focus
    intro wz hSw
    (try dsimp only at hSw)
    go_simp
    (try with_reducible rfl)
  (try simp only [Act.put, List.setIfInBounds_toArray, List.set_cons_zero, List.set_cons_succ])
  refine wpAnyH_take (i := 5) (oi := { dst := some 84, op := Go.Op.load 46 (Go.Operand.tmp 5), type := 46, pos := "ref.go:133", after := #[], guard := none }) (v := ?_) rfl (by kernel_rfl) (by kernel_rfl) (by kernel_rfl) (fun _ _ _ h => h) (Or.inl ⟨by rfl, ?_⟩) (by assumption) ?_
  rotate_left
  focus
    intro wz hSw
    (try dsimp only at hSw)
    go_simp
    (try with_reducible rfl)
  (try simp only [Act.put, List.setIfInBounds_toArray, List.set_cons_zero, List.set_cons_succ])
  refine wpAnyH_take (i := 6) (oi := { dst := some 85, op := Go.Op.load 46 (Go.Operand.tmp 7), type := 46, pos := "ref.go:133", after := #[], guard := none }) (v := ?_) rfl (by kernel_rfl) (by kernel_rfl) (by kernel_rfl) (fun _ _ _ h => h) (Or.inl ⟨by rfl, ?_⟩) (by assumption) ?_
  rotate_left
  focus
    intro wz hSw
    (try dsimp only at hSw)
    go_simp
    (try with_reducible rfl)
  (try simp only [Act.put, List.setIfInBounds_toArray, List.set_cons_zero, List.set_cons_succ])
  refine wpAnyH_ready (rs := [3]) (by kernel_rfl) (by simp) ?_
  refine AllReadyH.cons (o := { dst := some 82, op := Go.Op.call { callee := Go.Callee.value (Go.Operand.func 32), args := #[Go.Operand.tmp 79, Go.Operand.tmp 80, Go.Operand.tmp 81], argTypes := #[46, 46, 46] }, type := 3, pos := "ref.go:133", after := #[{ on := 0, ground := Go.Ground.data }, { on := 1, ground := Go.Ground.data }, { on := 2, ground := Go.Ground.data }], guard := none }) rfl (fun K hK => ?_) AllReadyH.nil
  go_simp
  with_reducible refine (c1.out _).mono ?_
  rintro e w3 ⟨rfl, hbm⟩
  go_wp2_with fail
  refine hK.out _ _ ?_ (fun hH1 => ?_)
  · (try dsimp only)
    (go_split_ands; (repeat' apply And.intro) <;> (first | with_reducible assumption | (with_reducible refine Blks.drew ?_; with_reducible assumption) | (with_reducible refine Below.drew ?_; with_reducible assumption) | (simp only [World.cell?_drew, World.size_drew]; with_reducible assumption) | (with_reducible refine Blks.below ?_ hbm; with_reducible assumption) | (with_reducible refine below_trans ?_ hbm; with_reducible assumption) | (rw [hbm.cell (by first | assumption | (simp only [World.size_drew]; assumption))]; first | with_reducible assumption | (simp only [World.cell?_drew]; with_reducible assumption)) | (refine Nat.lt_of_lt_of_le ?_ hbm.size; first | with_reducible assumption | (simp only [World.size_drew]; with_reducible assumption))))
  clear hK K hH0 hbm
  (try simp only [Act.put, List.setIfInBounds_toArray, List.set_cons_zero, List.set_cons_succ])
  refine wpAnyH_ready (rs := [7]) (by kernel_rfl) (by simp) ?_
  refine AllReadyH.cons (o := { dst := some 86, op := Go.Op.call { callee := Go.Callee.value (Go.Operand.func 32), args := #[Go.Operand.tmp 83, Go.Operand.tmp 84, Go.Operand.tmp 85], argTypes := #[46, 46, 46] }, type := 3, pos := "ref.go:133", after := #[{ on := 4, ground := Go.Ground.data }, { on := 5, ground := Go.Ground.data }, { on := 6, ground := Go.Ground.data }, { on := 3, ground := Go.Ground.chain }], guard := none }) rfl (fun K hK => ?_) AllReadyH.nil
  go_simp
  with_reducible refine (c2.out _).mono ?_
  rintro e w4 ⟨rfl, hbm⟩
  go_wp2_with fail
  refine hK.out _ _ ?_ (fun hH2 => ?_)
  · (try dsimp only)
    (go_split_ands; (repeat' apply And.intro) <;> (first | with_reducible assumption | (with_reducible refine Blks.drew ?_; with_reducible assumption) | (with_reducible refine Below.drew ?_; with_reducible assumption) | (simp only [World.cell?_drew, World.size_drew]; with_reducible assumption) | (with_reducible refine Blks.below ?_ hbm; with_reducible assumption) | (with_reducible refine below_trans ?_ hbm; with_reducible assumption) | (rw [hbm.cell (by first | assumption | (simp only [World.size_drew]; assumption))]; first | with_reducible assumption | (simp only [World.cell?_drew]; with_reducible assumption)) | (refine Nat.lt_of_lt_of_le ?_ hbm.size; first | with_reducible assumption | (simp only [World.size_drew]; with_reducible assumption))))
  clear hK K hH1 hbm
  (try simp only [Act.put, List.setIfInBounds_toArray, List.set_cons_zero, List.set_cons_succ])
  refine wpAnyH_take (i := 8) (oi := { dst := some 87, op := Go.Op.binOp Go.BinOp.mul 3 (Go.Operand.tmp 82) (Go.Operand.tmp 86) 3, type := 3, pos := "ref.go:133", after := #[{ on := 3, ground := Go.Ground.data }, { on := 7, ground := Go.Ground.data }], guard := none }) (v := ?_) rfl (by kernel_rfl) (by kernel_rfl) (by kernel_rfl) (fun _ _ _ h => h) (Or.inl ⟨by rfl, ?_⟩) (by assumption) ?_
  rotate_left
  focus
    intro wz hSw
    (try dsimp only at hSw)
    go_simp
    (try with_reducible rfl)
  (try simp only [Act.put, List.setIfInBounds_toArray, List.set_cons_zero, List.set_cons_succ])
  refine wpAnyH_take (i := 9) (oi := { dst := some 88, op := Go.Op.binOp Go.BinOp.leq 3 (Go.Operand.tmp 87) (Go.Operand.const (Go.Value.int Go.IntKind.i64 0)) 3, type := 4, pos := "ref.go:133", after := #[{ on := 8, ground := Go.Ground.data }], guard := none }) (v := ?_) rfl (by kernel_rfl) (by kernel_rfl) (by kernel_rfl) (fun _ _ _ h => h) (Or.inl ⟨by rfl, ?_⟩) (by assumption) ?_
  rotate_left
  focus
    intro wz hSw
    (try dsimp only at hSw)
    go_simp
    (try with_reducible rfl)
  (try simp only [Act.put, List.setIfInBounds_toArray, List.set_cons_zero, List.set_cons_succ])
  refine wpAnyH_take (i := 10) (oi := { dst := some 89, op := Go.Op.move (Go.Operand.tmp 88), type := 4, pos := "ref.go:133", after := #[{ on := 9, ground := Go.Ground.data }, { on := 7, ground := Go.Ground.chain }], guard := none }) (v := ?_) rfl (by kernel_rfl) (by kernel_rfl) (by kernel_rfl) (fun _ _ _ h => h) (Or.inl ⟨by rfl, ?_⟩) (by assumption) ?_
  rotate_left
  focus
    intro wz hSw
    (try dsimp only at hSw)
    go_simp
    (try with_reducible rfl)
  (try simp only [Act.put, List.setIfInBounds_toArray, List.set_cons_zero, List.set_cons_succ])
  refine wpAnyH_take (i := 11) (oi := { dst := some 90, op := Go.Op.load 46 (Go.Operand.tmp 6), type := 46, pos := "ref.go:133", after := #[{ on := 10, ground := Go.Ground.guard }], guard := some (10, true) }) (v := ?_) rfl (by kernel_rfl) (by kernel_rfl) (by kernel_rfl) (fun _ _ _ h => h) (Or.inl ⟨by rfl, ?_⟩) (by assumption) ?_
  rotate_left
  focus
    intro wz hSw
    (try dsimp only at hSw)
    go_simp
    (try with_reducible rfl)
  (try simp only [Act.put, List.setIfInBounds_toArray, List.set_cons_zero, List.set_cons_succ])
  refine wpAnyH_take (i := 12) (oi := { dst := some 91, op := Go.Op.load 46 (Go.Operand.tmp 7), type := 46, pos := "ref.go:133", after := #[{ on := 10, ground := Go.Ground.guard }], guard := some (10, true) }) (v := ?_) rfl (by kernel_rfl) (by kernel_rfl) (by kernel_rfl) (fun _ _ _ h => h) (Or.inl ⟨by rfl, ?_⟩) (by assumption) ?_
  rotate_left
  focus
    intro wz hSw
    (try dsimp only at hSw)
    go_simp
    (try with_reducible rfl)
  (try simp only [Act.put, List.setIfInBounds_toArray, List.set_cons_zero, List.set_cons_succ])
  refine wpAnyH_take (i := 13) (oi := { dst := some 92, op := Go.Op.load 46 (Go.Operand.tmp 4), type := 46, pos := "ref.go:133", after := #[{ on := 10, ground := Go.Ground.guard }], guard := some (10, true) }) (v := ?_) rfl (by kernel_rfl) (by kernel_rfl) (by kernel_rfl) (fun _ _ _ h => h) (Or.inl ⟨by rfl, ?_⟩) (by assumption) ?_
  rotate_left
  focus
    intro wz hSw
    (try dsimp only at hSw)
    go_simp
    (try with_reducible rfl)
  (try simp only [Act.put, List.setIfInBounds_toArray, List.set_cons_zero, List.set_cons_succ])
  refine wpAnyH_take (i := 15) (oi := { dst := some 94, op := Go.Op.load 46 (Go.Operand.tmp 6), type := 46, pos := "ref.go:133", after := #[{ on := 10, ground := Go.Ground.guard }], guard := some (10, true) }) (v := ?_) rfl (by kernel_rfl) (by kernel_rfl) (by kernel_rfl) (fun _ _ _ h => h) (Or.inl ⟨by rfl, ?_⟩) (by assumption) ?_
  rotate_left
  focus
    intro wz hSw
    (try dsimp only at hSw)
    go_simp
    (try with_reducible rfl)
  (try simp only [Act.put, List.setIfInBounds_toArray, List.set_cons_zero, List.set_cons_succ])
  refine wpAnyH_take (i := 16) (oi := { dst := some 95, op := Go.Op.load 46 (Go.Operand.tmp 7), type := 46, pos := "ref.go:133", after := #[{ on := 10, ground := Go.Ground.guard }], guard := some (10, true) }) (v := ?_) rfl (by kernel_rfl) (by kernel_rfl) (by kernel_rfl) (fun _ _ _ h => h) (Or.inl ⟨by rfl, ?_⟩) (by assumption) ?_
  rotate_left
  focus
    intro wz hSw
    (try dsimp only at hSw)
    go_simp
    (try with_reducible rfl)
  (try simp only [Act.put, List.setIfInBounds_toArray, List.set_cons_zero, List.set_cons_succ])
  refine wpAnyH_take (i := 17) (oi := { dst := some 96, op := Go.Op.load 46 (Go.Operand.tmp 5), type := 46, pos := "ref.go:133", after := #[{ on := 10, ground := Go.Ground.guard }], guard := some (10, true) }) (v := ?_) rfl (by kernel_rfl) (by kernel_rfl) (by kernel_rfl) (fun _ _ _ h => h) (Or.inl ⟨by rfl, ?_⟩) (by assumption) ?_
  rotate_left
  focus
    intro wz hSw
    (try dsimp only at hSw)
    go_simp
    (try with_reducible rfl)
  (try simp only [Act.put, List.setIfInBounds_toArray, List.set_cons_zero, List.set_cons_succ])
  refine wpAnyH_ready (rs := [14]) (by kernel_rfl) (by simp) ?_
  refine AllReadyH.cons (o := { dst := some 93, op := Go.Op.call { callee := Go.Callee.value (Go.Operand.func 32), args := #[Go.Operand.tmp 90, Go.Operand.tmp 91, Go.Operand.tmp 92], argTypes := #[46, 46, 46] }, type := 3, pos := "ref.go:133", after := #[{ on := 11, ground := Go.Ground.data }, { on := 12, ground := Go.Ground.data }, { on := 13, ground := Go.Ground.data }, { on := 10, ground := Go.Ground.chain }, { on := 10, ground := Go.Ground.guard }], guard := some (10, true) }) rfl (fun K hK => ?_) AllReadyH.nil
  go_simp
  with_reducible refine (c3.out _).mono ?_
  rintro e w5 ⟨rfl, hbm⟩
  go_wp2_with fail
  refine hK.out _ _ ?_ (fun hH3 => ?_)
  · (try dsimp only)
    (go_split_ands; (repeat' apply And.intro) <;> (first | with_reducible assumption | (with_reducible refine Blks.drew ?_; with_reducible assumption) | (with_reducible refine Below.drew ?_; with_reducible assumption) | (simp only [World.cell?_drew, World.size_drew]; with_reducible assumption) | (with_reducible refine Blks.below ?_ hbm; with_reducible assumption) | (with_reducible refine below_trans ?_ hbm; with_reducible assumption) | (rw [hbm.cell (by first | assumption | (simp only [World.size_drew]; assumption))]; first | with_reducible assumption | (simp only [World.cell?_drew]; with_reducible assumption)) | (refine Nat.lt_of_lt_of_le ?_ hbm.size; first | with_reducible assumption | (simp only [World.size_drew]; with_reducible assumption))))
  clear hK K hH2 hbm
  (try simp only [Act.put, List.setIfInBounds_toArray, List.set_cons_zero, List.set_cons_succ])
  refine wpAnyH_ready (rs := [18]) (by kernel_rfl) (by simp) ?_
  refine AllReadyH.cons (o := { dst := some 97, op := Go.Op.call { callee := Go.Callee.value (Go.Operand.func 32), args := #[Go.Operand.tmp 94, Go.Operand.tmp 95, Go.Operand.tmp 96], argTypes := #[46, 46, 46] }, type := 3, pos := "ref.go:133", after := #[{ on := 15, ground := Go.Ground.data }, { on := 16, ground := Go.Ground.data }, { on := 17, ground := Go.Ground.data }, { on := 14, ground := Go.Ground.chain }, { on := 10, ground := Go.Ground.guard }], guard := some (10, true) }) rfl (fun K hK => ?_) AllReadyH.nil
  go_simp
  with_reducible refine (c4.out _).mono ?_
  rintro e w6 ⟨rfl, hbm⟩
  go_wp2_with fail
  refine hK.out _ _ ?_ (fun hH4 => ?_)
  · (try dsimp only)
    (go_split_ands; (repeat' apply And.intro) <;> (first | with_reducible assumption | (with_reducible refine Blks.drew ?_; with_reducible assumption) | (with_reducible refine Below.drew ?_; with_reducible assumption) | (simp only [World.cell?_drew, World.size_drew]; with_reducible assumption) | (with_reducible refine Blks.below ?_ hbm; with_reducible assumption) | (with_reducible refine below_trans ?_ hbm; with_reducible assumption) | (rw [hbm.cell (by first | assumption | (simp only [World.size_drew]; assumption))]; first | with_reducible assumption | (simp only [World.cell?_drew]; with_reducible assumption)) | (refine Nat.lt_of_lt_of_le ?_ hbm.size; first | with_reducible assumption | (simp only [World.size_drew]; with_reducible assumption))))
  clear hK K hH3 hbm
  (try simp only [Act.put, List.setIfInBounds_toArray, List.set_cons_zero, List.set_cons_succ])
  refine wpAnyH_take (i := 19) (oi := { dst := some 98, op := Go.Op.binOp Go.BinOp.mul 3 (Go.Operand.tmp 93) (Go.Operand.tmp 97) 3, type := 3, pos := "ref.go:133", after := #[{ on := 14, ground := Go.Ground.data }, { on := 18, ground := Go.Ground.data }, { on := 10, ground := Go.Ground.guard }], guard := some (10, true) }) (v := ?_) rfl (by kernel_rfl) (by kernel_rfl) (by kernel_rfl) (fun _ _ _ h => h) (Or.inl ⟨by rfl, ?_⟩) (by assumption) ?_
  rotate_left
  focus
    intro wz hSw
    (try dsimp only at hSw)
    go_simp
    (try with_reducible rfl)
  (try simp only [Act.put, List.setIfInBounds_toArray, List.set_cons_zero, List.set_cons_succ])
  refine wpAnyH_take (i := 20) (oi := { dst := some 99, op := Go.Op.binOp Go.BinOp.leq 3 (Go.Operand.tmp 98) (Go.Operand.const (Go.Value.int Go.IntKind.i64 0)) 3, type := 4, pos := "ref.go:133", after := #[{ on := 19, ground := Go.Ground.data }, { on := 10, ground := Go.Ground.guard }], guard := some (10, true) }) (v := ?_) rfl (by kernel_rfl) (by kernel_rfl) (by kernel_rfl) (fun _ _ _ h => h) (Or.inl ⟨by rfl, ?_⟩) (by assumption) ?_
  rotate_left
  focus
    intro wz hSw
    (try dsimp only at hSw)
    go_simp
    (try with_reducible rfl)
  (try simp only [Act.put, List.setIfInBounds_toArray, List.set_cons_zero, List.set_cons_succ])
  refine wpAnyH_take (i := 21) (oi := { dst := some 100, op := Go.Op.pick (Go.Operand.tmp 89) (Go.Operand.tmp 99) (Go.Operand.const (Go.Value.bool false)), type := 4, pos := "ref.go:133", after := #[{ on := 10, ground := Go.Ground.data }, { on := 20, ground := Go.Ground.data }], guard := none }) (v := ?_) rfl (by kernel_rfl) (by kernel_rfl) (by kernel_rfl) (fun _ _ _ h => h) (Or.inl ⟨by rfl, ?_⟩) (by assumption) ?_
  rotate_left
  focus
    intro wz hSw
    (try dsimp only at hSw)
    go_simp
    (try with_reducible rfl)
  (try simp only [Act.put, List.setIfInBounds_toArray, List.set_cons_zero, List.set_cons_succ])
  refine wpAnyH_done (by kernel_rfl) ?_ _
  go_split_ands
  have HHn : Blks w6 [(w.heap.size + 1 + 1 + 1, 46, [.int .i64 dx, .int .i64 dy]), (w.heap.size + 1 + 1, 46, [.int .i64 cx, .int .i64 cy]), (w.heap.size + 1, 46, [.int .i64 bx, .int .i64 bY]), (w.heap.size, 46, [.int .i64 ax, .int .i64 ay])] := by assumption
  have HBn : Below w.heap.size w w6 := by assumption
  clear HH2 HB2
  have HH6 := Lib.hid HHn
  have HB6 := Lib.hid HBn
  clear HHn HBn
  have B6_0 : Blk w6 (w.heap.size) 46 #[.int .i64 ax, .int .i64 ay] := HH6.out (w.heap.size, 46, [.int .i64 ax, .int .i64 ay]) (by simp)
  have k6_0_0 : w6.cell? ⟨w.heap.size, 0, none⟩ = some (.int .i64 ax) := B6_0.cell 0
  have k6_0_1 : w6.cell? ⟨w.heap.size, 1, none⟩ = some (.int .i64 ay) := B6_0.cell 1
  have z6_0 : w.heap.size < w6.heap.size := B6_0.lt
  clear B6_0
  have B6_1 : Blk w6 (w.heap.size + 1) 46 #[.int .i64 bx, .int .i64 bY] := HH6.out (w.heap.size + 1, 46, [.int .i64 bx, .int .i64 bY]) (by simp)
  have k6_1_0 : w6.cell? ⟨w.heap.size + 1, 0, none⟩ = some (.int .i64 bx) := B6_1.cell 0
  have k6_1_1 : w6.cell? ⟨w.heap.size + 1, 1, none⟩ = some (.int .i64 bY) := B6_1.cell 1
  have z6_1 : w.heap.size + 1 < w6.heap.size := B6_1.lt
  clear B6_1
  have B6_2 : Blk w6 (w.heap.size + 1 + 1) 46 #[.int .i64 cx, .int .i64 cy] := HH6.out (w.heap.size + 1 + 1, 46, [.int .i64 cx, .int .i64 cy]) (by simp)
  have k6_2_0 : w6.cell? ⟨w.heap.size + 1 + 1, 0, none⟩ = some (.int .i64 cx) := B6_2.cell 0
  have k6_2_1 : w6.cell? ⟨w.heap.size + 1 + 1, 1, none⟩ = some (.int .i64 cy) := B6_2.cell 1
  have z6_2 : w.heap.size + 1 + 1 < w6.heap.size := B6_2.lt
  clear B6_2
  have B6_3 : Blk w6 (w.heap.size + 1 + 1 + 1) 46 #[.int .i64 dx, .int .i64 dy] := HH6.out (w.heap.size + 1 + 1 + 1, 46, [.int .i64 dx, .int .i64 dy]) (by simp)
  have k6_3_0 : w6.cell? ⟨w.heap.size + 1 + 1 + 1, 0, none⟩ = some (.int .i64 dx) := B6_3.cell 0
  have k6_3_1 : w6.cell? ⟨w.heap.size + 1 + 1 + 1, 1, none⟩ = some (.int .i64 dy) := B6_3.cell 1
  have z6_3 : w.heap.size + 1 + 1 + 1 < w6.heap.size := B6_3.lt
  clear B6_3
  go_wp2
  go_returns
  exact ⟨rfl, by repeat (first | with_reducible exact HB6.out | with_reducible refine Below.drew ?_ | with_reducible refine below_drewN ?_ _ | with_reducible refine below_set ?_ (by have := HB6.out.size; simp <;> omega) _ | with_reducible refine below_alloc ?_ _)⟩
end Go.Proofs.Ytkfdbhhchnbjdaa.Ve
