/- The walks of the laws SpanPairs and SpanSums. -/
import Derived.Test.YtofpiedhenephaaSpL
namespace Go.Proofs.Ytofpiedhenephaa.Sp
open Go.RowKit Go.Lib
set_option linter.unusedVariables false

/-- these blocks hold these cells -/
def Blks (w : World) (t : TypeId) (L : List (Nat × List Value)) : Prop := ∀ p ∈ L, Blk w p.1 t p.2.toArray
theorem Blks.nil {w : World} {t : TypeId} : Blks w t [] := by intro p hp; cases hp
theorem Blks.below {w w' : World} {t : TypeId} {L : List (Nat × List Value)} (h : Blks w t L) (hb : Below w.heap.size w w') : Blks w' t L := fun p hp => (h p hp).below hb (h p hp).lt
theorem Blks.alloc {w : World} {t : TypeId} {L : List (Nat × List Value)} (h : Blks w t L) (o : Obj) : Blks (w.alloc o) t L := fun p hp => (h p hp).alloc o
theorem Blks.new {w : World} {t : TypeId} {L : List (Nat × List Value)} (h : Blks w t L) (n : Nat) (cs : List Value) (hn : n = w.heap.size) : Blks (w.alloc (.cells cs.toArray t)) t ((n, cs) :: L) := by
  intro p hp
  rcases List.mem_cons.1 hp with rfl | hp
  · subst hn; exact Blk.new w t _
  · exact (h p hp).alloc _
theorem Blks.get {w : World} {t : TypeId} {L : List (Nat × List Value)} (h : Blks w t L) {g : Nat} {a b : Value} (hm : (g, [a, b]) ∈ L) : w.cell? ⟨g, 0, none⟩ = some a ∧ w.cell? ⟨g, 1, none⟩ = some b := by
  have := h _ hm
  exact ⟨by simpa using this.cell 0, by simpa using this.cell 1⟩

def subA (al ah bl bh : Int) : Int × Int := if allE [(al, ah), (bl, bh)] = 0 then okA (al - bh) (ah - bl) (resE (al - bh) (ah - bl)) else (0, 0)
def subE (al ah bl bh : Int) : Int := if allE [(al, ah), (bl, bh)] = 0 then resE (al - bh) (ah - bl) else allE [(al, ah), (bl, bh)]
def intA (al ah bl bh : Int) : Int × Int := if allE [(al, ah), (bl, bh)] = 0 then meetA al ah bl bh else (0, 0)
def intE (al ah bl bh : Int) : Int := if allE [(al, ah), (bl, bh)] = 0 then meetE al ah bl bh else allE [(al, ah), (bl, bh)]
def hulA (al ah bl bh : Int) : Int × Int := if allE [(al, ah), (bl, bh)] = 0 then (min al bl, max ah bh) else (0, 0)
def hulE (al ah bl bh : Int) : Int := if allE [(al, ah), (bl, bh)] = 0 then 0 else allE [(al, ah), (bl, bh)]

theorem sub_all (al ah bl bh : Int) (w : World) : Calls Try.prog 20 #[.agg #[.int .i64 al, .int .i64 ah], .agg #[.int .i64 bl, .int .i64 bh]] w fun e w' =>
    e = .returned (.tuple #[.agg #[.int .i64 (subA al ah bl bh).1, .int .i64 (subA al ah bl bh).2], .int .i64 (subE al ah bl bh)]) ∧ Below w.heap.size w w' := by
  by_cases h0 : allE [(al, ah), (bl, bh)] = 0
  · rw [subA, subE, if_pos h0, if_pos h0]
    exact sub_ok al ah bl bh w h0
  · rw [subA, subE, if_neg h0, if_neg h0]
    exact sub_err al ah bl bh w h0

theorem rsub_all (al ah bl bh : Int) (w : World) : Calls Try.prog 24 #[.agg #[.int .i64 al, .int .i64 ah], .agg #[.int .i64 bl, .int .i64 bh]] w fun e w' =>
    e = .returned (.tuple #[.agg #[.int .i64 (subA al ah bl bh).1, .int .i64 (subA al ah bl bh).2], .int .i64 (subE al ah bl bh)]) ∧ Below w.heap.size w w' := by
  by_cases h0 : allE [(al, ah), (bl, bh)] = 0
  · rw [subA, subE, if_pos h0, if_pos h0]
    exact rsub_ok al ah bl bh w h0
  · rw [subA, subE, if_neg h0, if_neg h0]
    exact rsub_err al ah bl bh w h0

theorem int_all (al ah bl bh : Int) (w : World) : Calls Try.prog 21 #[.agg #[.int .i64 al, .int .i64 ah], .agg #[.int .i64 bl, .int .i64 bh]] w fun e w' =>
    e = .returned (.tuple #[.agg #[.int .i64 (intA al ah bl bh).1, .int .i64 (intA al ah bl bh).2], .int .i64 (intE al ah bl bh)]) ∧ Below w.heap.size w w' := by
  by_cases h0 : allE [(al, ah), (bl, bh)] = 0
  · rw [intA, intE, if_pos h0, if_pos h0]
    exact intersect2_ok al ah bl bh w h0
  · rw [intA, intE, if_neg h0, if_neg h0]
    exact intersect_err al ah bl bh w h0

theorem rint_all (al ah bl bh : Int) (w : World) : Calls Try.prog 25 #[.agg #[.int .i64 al, .int .i64 ah], .agg #[.int .i64 bl, .int .i64 bh]] w fun e w' =>
    e = .returned (.tuple #[.agg #[.int .i64 (intA al ah bl bh).1, .int .i64 (intA al ah bl bh).2], .int .i64 (intE al ah bl bh)]) ∧ Below w.heap.size w w' := by
  by_cases h0 : allE [(al, ah), (bl, bh)] = 0
  · rw [intA, intE, if_pos h0, if_pos h0]
    exact rintersect2_ok al ah bl bh w h0
  · rw [intA, intE, if_neg h0, if_neg h0]
    exact rintersect_err al ah bl bh w h0

theorem hul_all (al ah bl bh : Int) (w : World) : Calls Try.prog 22 #[.agg #[.int .i64 al, .int .i64 ah], .agg #[.int .i64 bl, .int .i64 bh]] w fun e w' =>
    e = .returned (.tuple #[.agg #[.int .i64 (hulA al ah bl bh).1, .int .i64 (hulA al ah bl bh).2], .int .i64 (hulE al ah bl bh)]) ∧ Below w.heap.size w w' := by
  by_cases h0 : allE [(al, ah), (bl, bh)] = 0
  · rw [hulA, hulE, if_pos h0, if_pos h0]
    exact hull2_ok al ah bl bh w h0
  · rw [hulA, hulE, if_neg h0, if_neg h0]
    exact hull_err al ah bl bh w h0

theorem rhul_all (al ah bl bh : Int) (w : World) : Calls Try.prog 26 #[.agg #[.int .i64 al, .int .i64 ah], .agg #[.int .i64 bl, .int .i64 bh]] w fun e w' =>
    e = .returned (.tuple #[.agg #[.int .i64 (hulA al ah bl bh).1, .int .i64 (hulA al ah bl bh).2], .int .i64 (hulE al ah bl bh)]) ∧ Below w.heap.size w w' := by
  by_cases h0 : allE [(al, ah), (bl, bh)] = 0
  · rw [hulA, hulE, if_pos h0, if_pos h0]
    exact rhull2_ok al ah bl bh w h0
  · rw [hulA, hulE, if_neg h0, if_neg h0]
    exact rhull_err al ah bl bh w h0

set_option maxHeartbeats 3200000 in
theorem pairs_any (al ah bl bh : Int) (w : World) : Calls Try.prog 4 #[.agg #[.int .i64 al, .int .i64 ah], .agg #[.int .i64 bl, .int .i64 bh]] w fun e w' => e = .returned (.bool true) ∧ Below w.heap.size w w' := by
  have c0 := Lib.hid fun W => awake_any W
  have d0 := Lib.hid fun W => add_any al ah bl bh W
  have d1 := Lib.hid fun W => sub_all al ah bl bh W
  have d2 := Lib.hid fun W => int_all al ah bl bh W
  have d3 := Lib.hid fun W => hul_all al ah bl bh W
  have d4 := Lib.hid fun W => radd_any al ah bl bh W
  have d5 := Lib.hid fun W => rsub_all al ah bl bh W
  have d6 := Lib.hid fun W => rint_all al ah bl bh W
  have d7 := Lib.hid fun W => rhul_all al ah bl bh W
  generalize sumA [(al, ah), (bl, bh)] = S1 at *
  generalize sumE [(al, ah), (bl, bh)] = E1 at *
  generalize subA al ah bl bh = S2 at *
  generalize subE al ah bl bh = E2 at *
  generalize intA al ah bl bh = S3 at *
  generalize intE al ah bl bh = E3 at *
  generalize hulA al ah bl bh = S4 at *
  generalize hulE al ah bl bh = E4 at *
  obtain ⟨s1, r1⟩ := S1
  obtain ⟨s2, r2⟩ := S2
  obtain ⟨s3, r3⟩ := S3
  obtain ⟨s4, r4⟩ := S4
  simp only at d0 d1 d2 d3 d4 d5 d6 d7
  have hgd := fun x y xs ys W => iv_guard .eql x y xs ys W
  have hq : ∀ s r W, (binOp .eql 23 (.agg #[.int .i64 s, .int .i64 r]) (.agg #[.int .i64 s, .int .i64 r])).run Try.prog W = .ok (.bool true) W := fun s r W => by rw [iv_eql]; simp
  go_enter Try.func4, Try.ntmps4
  go_wp2_with fail
  refine (c0.out _).mono ?_
  rintro e w1 ⟨rfl, hb1⟩
  have H1 : Blks w1 23 [(w.heap.size + 1, [.int .i64 bl, .int .i64 bh]), (w.heap.size, [.int .i64 al, .int .i64 ah])] := (((Blks.nil (w := w)).new w.heap.size [.int .i64 al, .int .i64 ah] rfl).new (w.heap.size + 1) [.int .i64 bl, .int .i64 bh] (by simp)).below hb1
  have HB := Lib.hid (below_trans (below_alloc (below_alloc (Below.refl _ _) _) _) hb1)
  clear hb1
  have HH := Lib.hid H1
  clear H1
  have ka := HH.out.get (g := w.heap.size) (a := .int .i64 al) (b := .int .i64 ah) (by simp)
  have kb := HH.out.get (g := w.heap.size + 1) (a := .int .i64 bl) (b := .int .i64 bh) (by simp)
  have z1 : w.heap.size + 1 < w1.heap.size := (HH.out (w.heap.size + 1, [.int .i64 bl, .int .i64 bh]) (by simp)).lt
  have z0 : w.heap.size < w1.heap.size := by omega
  go_wp2_with fail
  refine (d0.out _).mono ?_
  clear ka kb z0 z1
  rintro e w2 ⟨rfl, hb2⟩
  have HB := Lib.hid (below_trans HB.out hb2)
  have HH := Lib.hid (HH.out.below hb2)
  clear hb2
  have ka := HH.out.get (g := w.heap.size) (a := .int .i64 al) (b := .int .i64 ah) (by simp)
  have kb := HH.out.get (g := w.heap.size + 1) (a := .int .i64 bl) (b := .int .i64 bh) (by simp)
  have z1 : w.heap.size + 1 < w2.heap.size := (HH.out (w.heap.size + 1, [.int .i64 bl, .int .i64 bh]) (by simp)).lt
  have z0 : w.heap.size < w2.heap.size := by omega
  go_wp2_with fail
  refine (d1.out _).mono ?_
  clear ka kb z0 z1
  rintro e w3 ⟨rfl, hb3⟩
  have HB := Lib.hid (below_trans (below_alloc HB.out _) hb3)
  have HH := Lib.hid ((HH.out.new w2.heap.size [.int .i64 s1, .int .i64 r1] rfl).below hb3)
  clear hb3
  have ka := HH.out.get (g := w.heap.size) (a := .int .i64 al) (b := .int .i64 ah) (by simp)
  have kb := HH.out.get (g := w.heap.size + 1) (a := .int .i64 bl) (b := .int .i64 bh) (by simp)
  have z1 : w.heap.size + 1 < w3.heap.size := (HH.out (w.heap.size + 1, [.int .i64 bl, .int .i64 bh]) (by simp)).lt
  have z0 : w.heap.size < w3.heap.size := by omega
  go_wp2_with fail
  refine (d2.out _).mono ?_
  clear ka kb z0 z1
  rintro e w4 ⟨rfl, hb4⟩
  have HB := Lib.hid (below_trans (below_alloc HB.out _) hb4)
  have HH := Lib.hid ((HH.out.new w3.heap.size [.int .i64 s2, .int .i64 r2] rfl).below hb4)
  clear hb4
  have ka := HH.out.get (g := w.heap.size) (a := .int .i64 al) (b := .int .i64 ah) (by simp)
  have kb := HH.out.get (g := w.heap.size + 1) (a := .int .i64 bl) (b := .int .i64 bh) (by simp)
  have z1 : w.heap.size + 1 < w4.heap.size := (HH.out (w.heap.size + 1, [.int .i64 bl, .int .i64 bh]) (by simp)).lt
  have z0 : w.heap.size < w4.heap.size := by omega
  go_wp2_with fail
  refine (d3.out _).mono ?_
  clear ka kb z0 z1
  rintro e w5 ⟨rfl, hb5⟩
  have HB := Lib.hid (below_trans (below_alloc HB.out _) hb5)
  have HH := Lib.hid ((HH.out.new w4.heap.size [.int .i64 s3, .int .i64 r3] rfl).below hb5)
  clear hb5
  have ka := HH.out.get (g := w.heap.size) (a := .int .i64 al) (b := .int .i64 ah) (by simp)
  have kb := HH.out.get (g := w.heap.size + 1) (a := .int .i64 bl) (b := .int .i64 bh) (by simp)
  have z1 : w.heap.size + 1 < w5.heap.size := (HH.out (w.heap.size + 1, [.int .i64 bl, .int .i64 bh]) (by simp)).lt
  have z0 : w.heap.size < w5.heap.size := by omega
  go_wp2_with fail
  refine (d4.out _).mono ?_
  clear ka kb z0 z1
  rintro e w6 ⟨rfl, hb6⟩
  have HB := Lib.hid (below_trans (below_alloc HB.out _) hb6)
  have HH := Lib.hid ((HH.out.new w5.heap.size [.int .i64 s4, .int .i64 r4] rfl).below hb6)
  clear hb6
  have ka := HH.out.get (g := w.heap.size) (a := .int .i64 al) (b := .int .i64 ah) (by simp)
  have kb := HH.out.get (g := w.heap.size + 1) (a := .int .i64 bl) (b := .int .i64 bh) (by simp)
  have z1 : w.heap.size + 1 < w6.heap.size := (HH.out (w.heap.size + 1, [.int .i64 bl, .int .i64 bh]) (by simp)).lt
  have z0 : w.heap.size < w6.heap.size := by omega
  go_wp2_with fail
  refine (d5.out _).mono ?_
  clear ka kb z0 z1
  rintro e w7 ⟨rfl, hb7⟩
  have HB := Lib.hid (below_trans (below_alloc HB.out _) hb7)
  have HH := Lib.hid ((HH.out.new w6.heap.size [.int .i64 s1, .int .i64 r1] rfl).below hb7)
  clear hb7
  have ka := HH.out.get (g := w.heap.size) (a := .int .i64 al) (b := .int .i64 ah) (by simp)
  have kb := HH.out.get (g := w.heap.size + 1) (a := .int .i64 bl) (b := .int .i64 bh) (by simp)
  have z1 : w.heap.size + 1 < w7.heap.size := (HH.out (w.heap.size + 1, [.int .i64 bl, .int .i64 bh]) (by simp)).lt
  have z0 : w.heap.size < w7.heap.size := by omega
  go_wp2_with fail
  refine (d6.out _).mono ?_
  clear ka kb z0 z1
  rintro e w8 ⟨rfl, hb8⟩
  have HB := Lib.hid (below_trans (below_alloc HB.out _) hb8)
  have HH := Lib.hid ((HH.out.new w7.heap.size [.int .i64 s2, .int .i64 r2] rfl).below hb8)
  clear hb8
  have ka := HH.out.get (g := w.heap.size) (a := .int .i64 al) (b := .int .i64 ah) (by simp)
  have kb := HH.out.get (g := w.heap.size + 1) (a := .int .i64 bl) (b := .int .i64 bh) (by simp)
  have z1 : w.heap.size + 1 < w8.heap.size := (HH.out (w.heap.size + 1, [.int .i64 bl, .int .i64 bh]) (by simp)).lt
  have z0 : w.heap.size < w8.heap.size := by omega
  go_wp2_with fail
  refine (d7.out _).mono ?_
  clear ka kb z0 z1
  rintro e w9 ⟨rfl, hb9⟩
  have HB := Lib.hid (below_trans (below_alloc HB.out _) hb9)
  have HH := Lib.hid ((HH.out.new w8.heap.size [.int .i64 s3, .int .i64 r3] rfl).below hb9)
  clear hb9
  have HF := Lib.hid (HH.out.new w9.heap.size [.int .i64 s4, .int .i64 r4] rfl)
  have k0 := HF.out.get (g := w2.heap.size) (a := .int .i64 s1) (b := .int .i64 r1) (by simp)
  have k1 := HF.out.get (g := w3.heap.size) (a := .int .i64 s2) (b := .int .i64 r2) (by simp)
  have k2 := HF.out.get (g := w4.heap.size) (a := .int .i64 s3) (b := .int .i64 r3) (by simp)
  have k3 := HF.out.get (g := w5.heap.size) (a := .int .i64 s4) (b := .int .i64 r4) (by simp)
  have k4 := HF.out.get (g := w6.heap.size) (a := .int .i64 s1) (b := .int .i64 r1) (by simp)
  have k5 := HF.out.get (g := w7.heap.size) (a := .int .i64 s2) (b := .int .i64 r2) (by simp)
  have k6 := HF.out.get (g := w8.heap.size) (a := .int .i64 s3) (b := .int .i64 r3) (by simp)
  have k7 := HF.out.get (g := w9.heap.size) (a := .int .i64 s4) (b := .int .i64 r4) (by simp)
  clear HH HF
  go_wp2
  go_ret
  exact ⟨rfl, below_alloc HB.out _⟩

set_option maxHeartbeats 1600000 in
theorem sums_any (A : Option Addr) (n c : Nat) (l : List (Int × Int)) (w : World) (hl : l.length = n) (hA : A = none → c = 0) (hL : Lies w A (flat l)) (hn : n ≤ 9223372036854775807) : Calls Try.prog 5 #[.slice A n c] w fun e w' => e = .returned (.bool true) ∧ Below w.heap.size w w' := by
  have c0 := Lib.hid fun W => awake_any W
  subst hl
  by_cases hbig : 30 < l.length
  · have hbig' : (30 : Int) < (l.length : Int) := by omega
    clear hbig hA hL
    go_enter Try.func5, Try.ntmps5
    go_wp2_with fail
    refine (c0.out _).mono ?_
    rintro e w1 ⟨rfl, hb1⟩
    go_wp2
    go_ret
    exact ⟨rfl, hb1⟩
  · have hbig' : (l.length : Int) ≤ 30 := by omega
    have d0 := Lib.hid fun W hL => sum_any A l.length c l W rfl hA hL (by omega)
    have d1 := Lib.hid fun W hL => rsum_any A l.length c l W rfl hA hL (by omega)
    have HL := Lib.hid hL
    clear hA hL hbig
    generalize sumA l = S1 at *
    generalize sumE l = E1 at *
    obtain ⟨s1, r1⟩ := S1
    simp only at d0 d1
    have hgd := fun x y xs ys W => iv_guard .eql x y xs ys W
    have hq : ∀ s r W, (binOp .eql 23 (.agg #[.int .i64 s, .int .i64 r]) (.agg #[.int .i64 s, .int .i64 r])).run Try.prog W = .ok (.bool true) W := fun s r W => by rw [iv_eql]; simp
    go_enter Try.func5, Try.ntmps5
    go_wp2_with fail
    refine (c0.out _).mono ?_
    rintro e w1 ⟨rfl, hb1⟩
    go_wp2_with fail
    refine (d0.out _ (HL.out.below (Nat.le_refl _) hb1)).mono ?_
    rintro e w2 ⟨rfl, hb2⟩
    have hbw := Lib.hid (below_trans hb1 hb2)
    clear hb1 hb2
    go_wp2_with fail
    refine (d1.out _ (HL.out.below (Nat.le_refl _) (below_alloc hbw.out _))).mono ?_
    rintro e w3 ⟨rfl, hb3⟩
    have HF := Lib.hid ((((Blks.nil (w := w2)).new w2.heap.size [.int .i64 s1, .int .i64 r1] rfl).below hb3).new w3.heap.size [.int .i64 s1, .int .i64 r1] rfl)
    have k0 := HF.out.get (g := w2.heap.size) (a := .int .i64 s1) (b := .int .i64 r1) (by simp)
    have k1 := HF.out.get (g := w3.heap.size) (a := .int .i64 s1) (b := .int .i64 r1) (by simp)
    have hbf := Lib.hid (below_trans (below_alloc hbw.out _) hb3)
    clear HF hb3
    go_wp2
    go_ret
    exact ⟨rfl, below_alloc hbf.out _⟩
end Go.Proofs.Ytofpiedhenephaa.Sp
