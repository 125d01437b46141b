/- prism: the law of the prism of a box, whole. -/
import Derived.Test.YtgpfbeccfodjmaaPr10
namespace Go.Proofs.Ytgpfbeccfodjmaa.Ev
open Go.RowKit
set_option linter.unusedVariables false
set_option linter.unusedSimpArgs false
set_option maxRecDepth 8000
noncomputable def ofb_bad1E (a1 b1 c1 x1 y1 z1 a2 b2 c2 x2 y2 z2 : Int) (w0 : World) : Env := env [a1, b1, c1, x1, y1, z1, a2, b2, c2, x2, y2, z2, (chkF a1 b1 c1 x1 y1 z1)] [] w0
def ofb_bad1C : Orc := { bin := [(.neq, 27, .int .i64 (sn 12), .int .i64 0, .bool true)], calls := [(50, [.agg #[sy 0, sy 1, sy 2, sy 3, sy 4, sy 5]], sy 12), (10, [], .bool true)] }
theorem ofb_bad1K (a1 b1 c1 x1 y1 z1 a2 b2 c2 x2 y2 z2 : Int) (w0 : World) (ha1 : bd (-9223372036854775808) 9223372036854775807 a1) (hb1 : bd (-9223372036854775808) 9223372036854775807 b1) (hc1 : bd (-9223372036854775808) 9223372036854775807 c1) (hx1 : bd (-9223372036854775808) 9223372036854775807 x1) (hy1 : bd (-9223372036854775808) 9223372036854775807 y1) (hz1 : bd (-9223372036854775808) 9223372036854775807 z1) (ha2 : bd (-9223372036854775808) 9223372036854775807 a2) (hb2 : bd (-9223372036854775808) 9223372036854775807 b2) (hc2 : bd (-9223372036854775808) 9223372036854775807 c2) (hx2 : bd (-9223372036854775808) 9223372036854775807 x2) (hy2 : bd (-9223372036854775808) 9223372036854775807 y2) (hz2 : bd (-9223372036854775808) 9223372036854775807 z2) (nk1 : (chkF a1 b1 c1 x1 y1 z1 == 0) = false)  : Know (ofb_bad1E a1 b1 c1 x1 y1 z1 a2 b2 c2 x2 y2 z2 w0) Try.prog ofb_bad1C := by
  exact ⟨(all_cons (cmpOK (op := .neq) (ty := 27) (k := .i64) (n := (sn 12)) (m := 0) (t := true) (a := (chkF a1 b1 c1 x1 y1 z1)) (b := 0) (by kernel_rfl) (by kernel_rfl) (congrArg some ((ne_of (show ((chkF a1 b1 c1 x1 y1 z1) == 0) = false from nk1)))))
      all_nil), all_nil, all_nil, all_nil, (all_cons (callOK (f := 50) (args := [.agg #[sy 0, sy 1, sy 2, sy 3, sy 4, sy 5]]) (v := sy 12) (args' := #[.agg #[.int .i64 a1, .int .i64 b1, .int .i64 c1, .int .i64 x1, .int .i64 y1, .int .i64 z1]]) (v' := .int .i64 (chkF a1 b1 c1 x1 y1 z1)) (by kernel_rfl) (by kernel_rfl) (by kernel_rfl) (fun w => chk_any a1 b1 c1 x1 y1 z1 w ha1 hb1 hc1 hx1 hy1 hz1))
      (all_cons (callOK (f := 10) (args := []) (v := .bool true) (args' := #[]) (v' := .bool true) (by kernel_rfl) (by kernel_rfl) (by kernel_rfl) (fun w => awake_any w))
      all_nil)), all_nil, all_nil, all_nil, all_nil, all_nil, all_nil, all_nil, all_nil, all_nil, all_nil, all_nil, all_nil⟩
theorem ofb_bad1 (a1 b1 c1 x1 y1 z1 a2 b2 c2 x2 y2 z2 : Int) (w w0 : World) (ha1 : bd (-9223372036854775808) 9223372036854775807 a1) (hb1 : bd (-9223372036854775808) 9223372036854775807 b1) (hc1 : bd (-9223372036854775808) 9223372036854775807 c1) (hx1 : bd (-9223372036854775808) 9223372036854775807 x1) (hy1 : bd (-9223372036854775808) 9223372036854775807 y1) (hz1 : bd (-9223372036854775808) 9223372036854775807 z1) (ha2 : bd (-9223372036854775808) 9223372036854775807 a2) (hb2 : bd (-9223372036854775808) 9223372036854775807 b2) (hc2 : bd (-9223372036854775808) 9223372036854775807 c2) (hx2 : bd (-9223372036854775808) 9223372036854775807 x2) (hy2 : bd (-9223372036854775808) 9223372036854775807 y2) (hz2 : bd (-9223372036854775808) 9223372036854775807 z2) (nk1 : (chkF a1 b1 c1 x1 y1 z1 == 0) = false)  (hw : Below w0.heap.size w0 w) : Calls Try.prog 8 #[.agg #[.int .i64 a1, .int .i64 b1, .int .i64 c1, .int .i64 x1, .int .i64 y1, .int .i64 z1], .agg #[.int .i64 a2, .int .i64 b2, .int .i64 c2, .int .i64 x2, .int .i64 y2, .int .i64 z2]] w fun e w' => e = .returned (.bool true) ∧ Below w.heap.size w w' := by
  have KC := ofb_bad1K a1 b1 c1 x1 y1 z1 a2 b2 c2 x2 y2 z2 w0 ha1 hb1 hc1 hx1 hy1 hz1 ha2 hb2 hc2 hx2 hy2 hz2 nk1 
  exact run_know (P := Try.prog) (ρ := ofb_bad1E a1 b1 c1 x1 y1 z1 a2 b2 c2 x2 y2 z2 w0) (o := ofb_bad1C.app { }) (KC.app ⟨all_nil, all_nil, all_nil, all_nil, all_nil, all_nil, all_nil, all_nil, all_nil, all_nil, all_nil, all_nil, all_nil, all_nil, all_nil, all_nil, all_nil⟩) 1000 50 8 [.agg #[sy 0, sy 1, sy 2, sy 3, sy 4, sy 5], .agg #[sy 6, sy 7, sy 8, sy 9, sy 10, sy 11]] (.bool true) (args' := #[.agg #[.int .i64 a1, .int .i64 b1, .int .i64 c1, .int .i64 x1, .int .i64 y1, .int .i64 z1], .agg #[.int .i64 a2, .int .i64 b2, .int .i64 c2, .int .i64 x2, .int .i64 y2, .int .i64 z2]]) (v' := .bool true) (by kernel_rfl) (by kernel_rfl) (by kernel_rfl) w hw
theorem six_bd {a b c x y z : Int} (h : ∀ n ∈ [a, b, c, x, y, z], IntKind.i64.has n) : ((bd (-9223372036854775808) 9223372036854775807 a ∧ bd (-9223372036854775808) 9223372036854775807 b) ∧ (bd (-9223372036854775808) 9223372036854775807 c ∧ bd (-9223372036854775808) 9223372036854775807 x)) ∧ (bd (-9223372036854775808) 9223372036854775807 y ∧ bd (-9223372036854775808) 9223372036854775807 z) := by
  have h1 := h a (by simp); have h2 := h b (by simp); have h3 := h c (by simp); have h4 := h x (by simp); have h5 := h y (by simp); have h6 := h z (by simp)
  simp only [IntKind.has, IntKind.min, IntKind.max] at h1 h2 h3 h4 h5 h6
  exact ⟨⟨⟨h1, h2⟩, ⟨h3, h4⟩⟩, ⟨h5, h6⟩⟩
theorem ofboxes_row (a1 b1 c1 x1 y1 z1 a2 b2 c2 x2 y2 z2 : Int) (w : World) (w1 : ∀ n ∈ [a1, b1, c1, x1, y1, z1], IntKind.i64.has n) (w2 : ∀ n ∈ [a2, b2, c2, x2, y2, z2], IntKind.i64.has n) : Calls Try.prog 8 #[.agg #[.int .i64 a1, .int .i64 b1, .int .i64 c1, .int .i64 x1, .int .i64 y1, .int .i64 z1], .agg #[.int .i64 a2, .int .i64 b2, .int .i64 c2, .int .i64 x2, .int .i64 y2, .int .i64 z2]] w fun e w' => e = .returned (.bool true) ∧ Below w.heap.size w w' := by
  obtain ⟨⟨⟨ha1, hb1⟩, ⟨hc1, hx1⟩⟩, ⟨hy1, hz1⟩⟩ := six_bd w1
  obtain ⟨⟨⟨ha2, hb2⟩, ⟨hc2, hx2⟩⟩, ⟨hy2, hz2⟩⟩ := six_bd w2
  have bel := Below.refl w.heap.size w
  rcases k1 : (chkF a1 b1 c1 x1 y1 z1 == 0) with _ | _
  · exact ofb_bad1 a1 b1 c1 x1 y1 z1 a2 b2 c2 x2 y2 z2 w w ha1 hb1 hc1 hx1 hy1 hz1 ha2 hb2 hc2 hx2 hy2 hz2 k1 bel
  have e1 : chkF a1 b1 c1 x1 y1 z1 = 0 := by simpa using k1
  obtain ⟨⟨⟨⟨qa1, qb1⟩, ⟨qc1, qx1⟩⟩, ⟨qy1, qz1⟩⟩, ⟨⟨l11, l21⟩, l31⟩⟩ := chkF_ok a1 b1 c1 x1 y1 z1 e1
  rcases k2 : (chkF a2 b2 c2 x2 y2 z2 == 0) with _ | _
  · exact ofb_bad2 a1 b1 c1 x1 y1 z1 a2 b2 c2 x2 y2 z2 w w e1 qa1 qb1 qc1 qx1 qy1 qz1 l11 l21 l31 ha2 hb2 hc2 hx2 hy2 hz2 k2 bel
  have e2 : chkF a2 b2 c2 x2 y2 z2 = 0 := by simpa using k2
  obtain ⟨⟨⟨⟨qa2, qb2⟩, ⟨qc2, qx2⟩⟩, ⟨qy2, qz2⟩⟩, ⟨⟨l12, l22⟩, l32⟩⟩ := chkF_ok a2 b2 c2 x2 y2 z2 e2
  rcases ho : ovB a1 b1 c1 x1 y1 z1 a2 b2 c2 x2 y2 z2 with _ | _ <;> rcases hv : covB a1 b1 c1 x1 y1 z1 a2 b2 c2 x2 y2 z2 with _ | _
  · exact ofb_ff a1 b1 c1 x1 y1 z1 a2 b2 c2 x2 y2 z2 w w e1 qa1 qb1 qc1 qx1 qy1 qz1 l11 l21 l31 e2 qa2 qb2 qc2 qx2 qy2 qz2 l12 l22 l32 ho hv bel
  · exact ofb_ft a1 b1 c1 x1 y1 z1 a2 b2 c2 x2 y2 z2 w w e1 qa1 qb1 qc1 qx1 qy1 qz1 l11 l21 l31 e2 qa2 qb2 qc2 qx2 qy2 qz2 l12 l22 l32 ho hv bel
  · exact ofb_tf a1 b1 c1 x1 y1 z1 a2 b2 c2 x2 y2 z2 w w e1 qa1 qb1 qc1 qx1 qy1 qz1 l11 l21 l31 e2 qa2 qb2 qc2 qx2 qy2 qz2 l12 l22 l32 ho hv bel
  · exact ofb_tt a1 b1 c1 x1 y1 z1 a2 b2 c2 x2 y2 z2 w w e1 qa1 qb1 qc1 qx1 qy1 qz1 l11 l21 l31 e2 qa2 qb2 qc2 qx2 qy2 qz2 l12 l22 l32 ho hv bel
end Go.Proofs.Ytgpfbeccfodjmaa.Ev
