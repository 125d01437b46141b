/- Add, Sub, Intersect, Hull of two intervals, the program's and the reference's; Sum and the reference's Sum. -/
import Derived.Test.YtofpiedhenephaaSpJ
namespace Go.Proofs.Ytofpiedhenephaa.Sp
open Go.RowKit Go.Lib
set_option linter.unusedVariables false

theorem sub_err (al ah bl bh : Int) (w : World) (h0 : ¬ allE [(al, ah), (bl, bh)] = 0) : Calls Try.prog 20 #[.agg #[.int .i64 al, .int .i64 ah], .agg #[.int .i64 bl, .int .i64 bh]] w fun e w' =>
    e = .returned (.tuple #[.agg #[.int .i64 0, .int .i64 0], .int .i64 (allE [(al, ah), (bl, bh)])]) ∧ Below w.heap.size w w' := by
  have c1 := Lib.hid fun W A (hA : Lies W A (flat [(al, ah), (bl, bh)])) => checkEach_any A 2 2 [(al, ah), (bl, bh)] W rfl hA (by omega)
  have hv : (allE [(al, ah), (bl, bh)] != 0) = true := by simp [h0]
  clear h0
  generalize allE [(al, ah), (bl, bh)] = E at *
  go_enter Try.func20, Try.ntmps20
  go_wp2_with fail
  refine (c1.out _ _ (lies_new [(al, ah), (bl, bh)] (by simp) rfl)).mono ?_
  rintro e w1 ⟨rfl, hb1⟩
  obtain ⟨hc1, hf1⟩ := bcell hb1
  have hz1 := hb1.size
  simp at hz1
  have q12 : w.heap.size + 1 + 1 < w1.heap.size := by omega
  go_wp2
  refine bodyPost_ret (v := .tuple #[.agg #[.int .i64 0, .int .i64 0], .int .i64 E]) ?_ rfl ⟨rfl, ?_⟩
  · simp [results, Try.results20, go_sem, *]
  · repeat (first | exact Below.refl _ _ | assumption | refine below_set ?_ (by simp <;> omega) _ | refine below_alloc ?_ _ | refine below_trans ?_ hb1)

theorem rsub_err (al ah bl bh : Int) (w : World) (h0 : ¬ allE [(al, ah), (bl, bh)] = 0) : Calls Try.prog 24 #[.agg #[.int .i64 al, .int .i64 ah], .agg #[.int .i64 bl, .int .i64 bh]] w fun e w' =>
    e = .returned (.tuple #[.agg #[.int .i64 0, .int .i64 0], .int .i64 (allE [(al, ah), (bl, bh)])]) ∧ Below w.heap.size w w' := by
  have c1 := Lib.hid fun W A (hA : Lies W A (flat [(al, ah), (bl, bh)])) => rall_any A 2 2 [(al, ah), (bl, bh)] W rfl hA (by omega)
  have hv : (allE [(al, ah), (bl, bh)] != 0) = true := by simp [h0]
  clear h0
  generalize allE [(al, ah), (bl, bh)] = E at *
  go_enter Try.func24, Try.ntmps24
  go_wp2_with fail
  refine (c1.out _ _ (lies_new [(al, ah), (bl, bh)] (by simp) rfl)).mono ?_
  rintro e w1 ⟨rfl, hb1⟩
  obtain ⟨hc1, hf1⟩ := bcell hb1
  have hz1 := hb1.size
  simp at hz1
  have q12 : w.heap.size + 1 + 1 < w1.heap.size := by omega
  go_wp2
  refine bodyPost_ret (v := .tuple #[.agg #[.int .i64 0, .int .i64 0], .int .i64 E]) ?_ rfl ⟨rfl, ?_⟩
  · simp [results, Try.results24, go_sem, *]
  · repeat (first | exact Below.refl _ _ | assumption | refine below_set ?_ (by simp <;> omega) _ | refine below_alloc ?_ _ | refine below_trans ?_ hb1)

theorem intersect_err (al ah bl bh : Int) (w : World) (h0 : ¬ allE [(al, ah), (bl, bh)] = 0) : Calls Try.prog 21 #[.agg #[.int .i64 al, .int .i64 ah], .agg #[.int .i64 bl, .int .i64 bh]] w fun e w' =>
    e = .returned (.tuple #[.agg #[.int .i64 0, .int .i64 0], .int .i64 (allE [(al, ah), (bl, bh)])]) ∧ Below w.heap.size w w' := by
  have c1 := Lib.hid fun W A (hA : Lies W A (flat [(al, ah), (bl, bh)])) => checkEach_any A 2 2 [(al, ah), (bl, bh)] W rfl hA (by omega)
  have hv : (allE [(al, ah), (bl, bh)] != 0) = true := by simp [h0]
  clear h0
  generalize allE [(al, ah), (bl, bh)] = E at *
  go_enter Try.func21, Try.ntmps21
  go_wp2_with fail
  refine (c1.out _ _ (lies_new [(al, ah), (bl, bh)] (by simp) rfl)).mono ?_
  rintro e w1 ⟨rfl, hb1⟩
  obtain ⟨hc1, hf1⟩ := bcell hb1
  have hz1 := hb1.size
  simp at hz1
  have q12 : w.heap.size + 1 + 1 < w1.heap.size := by omega
  go_wp2
  refine bodyPost_ret (v := .tuple #[.agg #[.int .i64 0, .int .i64 0], .int .i64 E]) ?_ rfl ⟨rfl, ?_⟩
  · simp [results, Try.results21, go_sem, *]
  · repeat (first | exact Below.refl _ _ | assumption | refine below_set ?_ (by simp <;> omega) _ | refine below_alloc ?_ _ | refine below_trans ?_ hb1)

theorem rintersect_err (al ah bl bh : Int) (w : World) (h0 : ¬ allE [(al, ah), (bl, bh)] = 0) : Calls Try.prog 25 #[.agg #[.int .i64 al, .int .i64 ah], .agg #[.int .i64 bl, .int .i64 bh]] w fun e w' =>
    e = .returned (.tuple #[.agg #[.int .i64 0, .int .i64 0], .int .i64 (allE [(al, ah), (bl, bh)])]) ∧ Below w.heap.size w w' := by
  have c1 := Lib.hid fun W A (hA : Lies W A (flat [(al, ah), (bl, bh)])) => rall_any A 2 2 [(al, ah), (bl, bh)] W rfl hA (by omega)
  have hv : (allE [(al, ah), (bl, bh)] != 0) = true := by simp [h0]
  clear h0
  generalize allE [(al, ah), (bl, bh)] = E at *
  go_enter Try.func25, Try.ntmps25
  go_wp2_with fail
  refine (c1.out _ _ (lies_new [(al, ah), (bl, bh)] (by simp) rfl)).mono ?_
  rintro e w1 ⟨rfl, hb1⟩
  obtain ⟨hc1, hf1⟩ := bcell hb1
  have hz1 := hb1.size
  simp at hz1
  have q12 : w.heap.size + 1 + 1 < w1.heap.size := by omega
  go_wp2
  refine bodyPost_ret (v := .tuple #[.agg #[.int .i64 0, .int .i64 0], .int .i64 E]) ?_ rfl ⟨rfl, ?_⟩
  · simp [results, Try.results25, go_sem, *]
  · repeat (first | exact Below.refl _ _ | assumption | refine below_set ?_ (by simp <;> omega) _ | refine below_alloc ?_ _ | refine below_trans ?_ hb1)

theorem hull_err (al ah bl bh : Int) (w : World) (h0 : ¬ allE [(al, ah), (bl, bh)] = 0) : Calls Try.prog 22 #[.agg #[.int .i64 al, .int .i64 ah], .agg #[.int .i64 bl, .int .i64 bh]] w fun e w' =>
    e = .returned (.tuple #[.agg #[.int .i64 0, .int .i64 0], .int .i64 (allE [(al, ah), (bl, bh)])]) ∧ Below w.heap.size w w' := by
  have c1 := Lib.hid fun W A (hA : Lies W A (flat [(al, ah), (bl, bh)])) => checkEach_any A 2 2 [(al, ah), (bl, bh)] W rfl hA (by omega)
  have hv : (allE [(al, ah), (bl, bh)] != 0) = true := by simp [h0]
  clear h0
  generalize allE [(al, ah), (bl, bh)] = E at *
  go_enter Try.func22, Try.ntmps22
  go_wp2_with fail
  refine (c1.out _ _ (lies_new [(al, ah), (bl, bh)] (by simp) rfl)).mono ?_
  rintro e w1 ⟨rfl, hb1⟩
  obtain ⟨hc1, hf1⟩ := bcell hb1
  have hz1 := hb1.size
  simp at hz1
  have q12 : w.heap.size + 1 + 1 < w1.heap.size := by omega
  go_wp2
  refine bodyPost_ret (v := .tuple #[.agg #[.int .i64 0, .int .i64 0], .int .i64 E]) ?_ rfl ⟨rfl, ?_⟩
  · simp [results, Try.results22, go_sem, *]
  · repeat (first | exact Below.refl _ _ | assumption | refine below_set ?_ (by simp <;> omega) _ | refine below_alloc ?_ _ | refine below_trans ?_ hb1)

theorem rhull_err (al ah bl bh : Int) (w : World) (h0 : ¬ allE [(al, ah), (bl, bh)] = 0) : Calls Try.prog 26 #[.agg #[.int .i64 al, .int .i64 ah], .agg #[.int .i64 bl, .int .i64 bh]] w fun e w' =>
    e = .returned (.tuple #[.agg #[.int .i64 0, .int .i64 0], .int .i64 (allE [(al, ah), (bl, bh)])]) ∧ Below w.heap.size w w' := by
  have c1 := Lib.hid fun W A (hA : Lies W A (flat [(al, ah), (bl, bh)])) => rall_any A 2 2 [(al, ah), (bl, bh)] W rfl hA (by omega)
  have hv : (allE [(al, ah), (bl, bh)] != 0) = true := by simp [h0]
  clear h0
  generalize allE [(al, ah), (bl, bh)] = E at *
  go_enter Try.func26, Try.ntmps26
  go_wp2_with fail
  refine (c1.out _ _ (lies_new [(al, ah), (bl, bh)] (by simp) rfl)).mono ?_
  rintro e w1 ⟨rfl, hb1⟩
  obtain ⟨hc1, hf1⟩ := bcell hb1
  have hz1 := hb1.size
  simp at hz1
  have q12 : w.heap.size + 1 + 1 < w1.heap.size := by omega
  go_wp2
  refine bodyPost_ret (v := .tuple #[.agg #[.int .i64 0, .int .i64 0], .int .i64 E]) ?_ rfl ⟨rfl, ?_⟩
  · simp [results, Try.results26, go_sem, *]
  · repeat (first | exact Below.refl _ _ | assumption | refine below_set ?_ (by simp <;> omega) _ | refine below_alloc ?_ _ | refine below_trans ?_ hb1)

set_option maxHeartbeats 800000 in
theorem sub_ok (al ah bl bh : Int) (w : World) (h0 : allE [(al, ah), (bl, bh)] = 0) : Calls Try.prog 20 #[.agg #[.int .i64 al, .int .i64 ah], .agg #[.int .i64 bl, .int .i64 bh]] w fun e w' =>
    e = .returned (.tuple #[.agg #[.int .i64 (okA (al - bh) (ah - bl) (resE (al - bh) (ah - bl))).1, .int .i64 (okA (al - bh) (ah - bl) (resE (al - bh) (ah - bl))).2], .int .i64 (resE (al - bh) (ah - bl))]) ∧ Below w.heap.size w w' := by
  have hok := allE_ok h0
  have hoa := hok (al, ah) (by simp)
  have hob := hok (bl, bh) (by simp)
  simp only at hoa hob
  have c1 := Lib.hid fun W A (hA : Lies W A (flat [(al, ah), (bl, bh)])) => checkEach_any A 2 2 [(al, ah), (bl, bh)] W rfl hA (by omega)
  rw [h0] at c1
  have hs : sumP [(al, ah), (-bh, -bl)] = (al - bh, ah - bl) := by simp [sumP]; omega
  have c2 := Lib.hid fun W A (hA : Lies W A (flat [(al, ah), (-bh, -bl)])) => total_any A 2 2 [(al, ah), (-bh, -bl)] W rfl hA (by omega) (by intro p hp; simp at hp; rcases hp with rfl | rfl <;> simp only <;> omega)
  have c3 := Lib.hid fun W => inRange_any (al - bh) (ah - bl) W
  rw [allE_res (by omega)] at c3
  rw [hs] at c2
  clear hs
  generalize resE (al - bh) (ah - bl) = E at *
  generalize okA (al - bh) (ah - bl) E = O at *
  obtain ⟨o1, o2⟩ := O
  simp only at c2 c3 ⊢
  clear h0 hok
  go_enter Try.func20, Try.ntmps20
  go_wp2_with fail
  refine (c1.out _ _ (lies_new [(al, ah), (bl, bh)] (by simp) rfl)).mono ?_
  rintro e w1 ⟨rfl, hb1⟩
  obtain ⟨hc1, hf1⟩ := bcell hb1
  have hz1 := hb1.size
  simp at hz1
  have q10 : w.heap.size < w1.heap.size := by omega
  have q11 : w.heap.size + 1 < w1.heap.size := by omega
  have q12 : w.heap.size + 1 + 1 < w1.heap.size := by omega
  go_wp2_with fail
  refine (c2.out _ _ (lies_new [(al, ah), (-bh, -bl)] (by simp) rfl)).mono ?_
  rintro e w2 ⟨rfl, hb2⟩
  obtain ⟨hc2, hf2⟩ := bcell hb2
  have hz2 := hb2.size
  simp at hz2
  have q22 : w.heap.size + 1 + 1 < w2.heap.size := by omega
  go_wp2_with fail
  refine (c3.out _).mono ?_
  rintro e w3 ⟨rfl, hb3⟩
  obtain ⟨hc3, hf3⟩ := bcell hb3
  have hz3 := hb3.size
  have q32 : w.heap.size + 1 + 1 < w3.heap.size := by omega
  go_wp2
  refine bodyPost_ret (v := .tuple #[.agg #[.int .i64 o1, .int .i64 o2], .int .i64 E]) ?_ rfl ⟨rfl, ?_⟩
  · simp [results, Try.results20, go_sem, *]
  · repeat (first | exact Below.refl _ _ | assumption | refine below_set ?_ (by simp <;> omega) _ | refine below_alloc ?_ _ | refine below_trans ?_ hb3 | refine below_trans ?_ hb2 | refine below_trans ?_ hb1)

set_option maxHeartbeats 800000 in
theorem rsub_ok (al ah bl bh : Int) (w : World) (h0 : allE [(al, ah), (bl, bh)] = 0) : Calls Try.prog 24 #[.agg #[.int .i64 al, .int .i64 ah], .agg #[.int .i64 bl, .int .i64 bh]] w fun e w' =>
    e = .returned (.tuple #[.agg #[.int .i64 (okA (al - bh) (ah - bl) (resE (al - bh) (ah - bl))).1, .int .i64 (okA (al - bh) (ah - bl) (resE (al - bh) (ah - bl))).2], .int .i64 (resE (al - bh) (ah - bl))]) ∧ Below w.heap.size w w' := by
  have hok := allE_ok h0
  have hoa := hok (al, ah) (by simp)
  have hob := hok (bl, bh) (by simp)
  simp only at hoa hob
  have c1 := Lib.hid fun W A (hA : Lies W A (flat [(al, ah), (bl, bh)])) => rall_any A 2 2 [(al, ah), (bl, bh)] W rfl hA (by omega)
  rw [h0] at c1
  have c3 := Lib.hid fun W => result_any (al - bh) (ah - bl) W
  generalize resE (al - bh) (ah - bl) = E at *
  generalize okA (al - bh) (ah - bl) E = O at *
  obtain ⟨o1, o2⟩ := O
  simp only at c3 ⊢
  clear h0 hok
  go_enter Try.func24, Try.ntmps24
  go_wp2_with fail
  refine (c1.out _ _ (lies_new [(al, ah), (bl, bh)] (by simp) rfl)).mono ?_
  rintro e w1 ⟨rfl, hb1⟩
  obtain ⟨hc1, hf1⟩ := bcell hb1
  have hz1 := hb1.size
  simp at hz1
  have q10 : w.heap.size < w1.heap.size := by omega
  have q11 : w.heap.size + 1 < w1.heap.size := by omega
  have q12 : w.heap.size + 1 + 1 < w1.heap.size := by omega
  go_wp2_with fail
  refine (c3.out _).mono ?_
  rintro e w3 ⟨rfl, hb3⟩
  obtain ⟨hc3, hf3⟩ := bcell hb3
  have hz3 := hb3.size
  have q32 : w.heap.size + 1 + 1 < w3.heap.size := by omega
  go_wp2
  refine bodyPost_ret (v := .tuple #[.agg #[.int .i64 o1, .int .i64 o2], .int .i64 E]) ?_ rfl ⟨rfl, ?_⟩
  · simp [results, Try.results24, go_sem, *]
  · repeat (first | exact Below.refl _ _ | assumption | refine below_set ?_ (by simp <;> omega) _ | refine below_alloc ?_ _ | refine below_trans ?_ hb3 | refine below_trans ?_ hb1)

set_option maxHeartbeats 800000 in
theorem hull2_ok (al ah bl bh : Int) (w : World) (h0 : allE [(al, ah), (bl, bh)] = 0) : Calls Try.prog 22 #[.agg #[.int .i64 al, .int .i64 ah], .agg #[.int .i64 bl, .int .i64 bh]] w fun e w' =>
    e = .returned (.tuple #[.agg #[.int .i64 (min al bl), .int .i64 (max ah bh)], .int .i64 0]) ∧ Below w.heap.size w w' := by
  have hok := allE_ok h0
  have hoa := hok (al, ah) (by simp)
  have hob := hok (bl, bh) (by simp)
  simp only at hoa hob
  have c1 := Lib.hid fun W A (hA : Lies W A (flat [(al, ah), (bl, bh)])) => checkEach_any A 2 2 [(al, ah), (bl, bh)] W rfl hA (by omega)
  rw [h0] at c1
  have c3 := Lib.hid fun W => hull_any al ah bl bh W
  generalize min al bl = o1 at *
  generalize max ah bh = o2 at *
  clear h0 hok
  go_enter Try.func22, Try.ntmps22
  go_wp2_with fail
  refine (c1.out _ _ (lies_new [(al, ah), (bl, bh)] (by simp) rfl)).mono ?_
  rintro e w1 ⟨rfl, hb1⟩
  obtain ⟨hc1, hf1⟩ := bcell hb1
  have hz1 := hb1.size
  simp at hz1
  have q10 : w.heap.size < w1.heap.size := by omega
  have q11 : w.heap.size + 1 < w1.heap.size := by omega
  have q12 : w.heap.size + 1 + 1 < w1.heap.size := by omega
  go_wp2_with fail
  refine (c3.out _).mono ?_
  rintro e w3 ⟨rfl, hb3⟩
  obtain ⟨hc3, hf3⟩ := bcell hb3
  have hz3 := hb3.size
  have q32 : w.heap.size + 1 + 1 < w3.heap.size := by omega
  go_wp2
  refine bodyPost_ret (v := .tuple #[.agg #[.int .i64 o1, .int .i64 o2], .int .i64 0]) ?_ rfl ⟨rfl, ?_⟩
  · simp [results, Try.results22, go_sem, *]
  · repeat (first | exact Below.refl _ _ | assumption | refine below_set ?_ (by simp <;> omega) _ | refine below_alloc ?_ _ | refine below_trans ?_ hb3 | refine below_trans ?_ hb1)

set_option maxHeartbeats 800000 in
theorem rhull2_ok (al ah bl bh : Int) (w : World) (h0 : allE [(al, ah), (bl, bh)] = 0) : Calls Try.prog 26 #[.agg #[.int .i64 al, .int .i64 ah], .agg #[.int .i64 bl, .int .i64 bh]] w fun e w' =>
    e = .returned (.tuple #[.agg #[.int .i64 (min al bl), .int .i64 (max ah bh)], .int .i64 0]) ∧ Below w.heap.size w w' := by
  have hok := allE_ok h0
  have hoa := hok (al, ah) (by simp)
  have hob := hok (bl, bh) (by simp)
  simp only at hoa hob
  have c1 := Lib.hid fun W A (hA : Lies W A (flat [(al, ah), (bl, bh)])) => rall_any A 2 2 [(al, ah), (bl, bh)] W rfl hA (by omega)
  rw [h0] at c1
  clear h0 hok
  go_enter Try.func26, Try.ntmps26
  go_wp2_with fail
  refine (c1.out _ _ (lies_new [(al, ah), (bl, bh)] (by simp) rfl)).mono ?_
  rintro e w1 ⟨rfl, hb1⟩
  obtain ⟨hc1, hf1⟩ := bcell hb1
  have hz1 := hb1.size
  simp at hz1
  have q10 : w.heap.size < w1.heap.size := by omega
  have q11 : w.heap.size + 1 < w1.heap.size := by omega
  have q12 : w.heap.size + 1 + 1 < w1.heap.size := by omega
  go_wp2
  all_goals
    refine bodyPost_ret (v := .tuple #[.agg #[.int .i64 (min al bl), .int .i64 (max ah bh)], .int .i64 0]) ?_ rfl ⟨rfl, ?_⟩
    · simp [results, Try.results26, go_sem, *] <;> omega
    · repeat (first | exact Below.refl _ _ | assumption | refine below_set ?_ (by simp <;> omega) _ | refine below_alloc ?_ _ | refine below_trans ?_ hb1)

def meetE (al ah bl bh : Int) : Int := if min ah bh < max al bl then 9 else 0
def meetA (al ah bl bh : Int) : Int × Int := if min ah bh < max al bl then (0, 0) else (max al bl, min ah bh)

set_option maxHeartbeats 800000 in
theorem intersect2_ok (al ah bl bh : Int) (w : World) (h0 : allE [(al, ah), (bl, bh)] = 0) : Calls Try.prog 21 #[.agg #[.int .i64 al, .int .i64 ah], .agg #[.int .i64 bl, .int .i64 bh]] w fun e w' =>
    e = .returned (.tuple #[.agg #[.int .i64 (meetA al ah bl bh).1, .int .i64 (meetA al ah bl bh).2], .int .i64 (meetE al ah bl bh)]) ∧ Below w.heap.size w w' := by
  have hok := allE_ok h0
  have hoa := hok (al, ah) (by simp)
  have hob := hok (bl, bh) (by simp)
  simp only at hoa hob
  have c1 := Lib.hid fun W A (hA : Lies W A (flat [(al, ah), (bl, bh)])) => checkEach_any A 2 2 [(al, ah), (bl, bh)] W rfl hA (by omega)
  rw [h0] at c1
  have hcase : (min ah bh < max al bl ∧ meetE al ah bl bh = 9 ∧ meetA al ah bl bh = (0, 0)) ∨ (¬ min ah bh < max al bl ∧ meetE al ah bl bh = 0 ∧ meetA al ah bl bh = (max al bl, min ah bh)) := by
    by_cases h : min ah bh < max al bl
    · exact .inl ⟨h, by rw [meetE, if_pos h], by rw [meetA, if_pos h]⟩
    · exact .inr ⟨h, by rw [meetE, if_neg h], by rw [meetA, if_neg h]⟩
  have c3 := Lib.hid fun W => meet_any al ah bl bh W
  generalize meetE al ah bl bh = E at *
  generalize meetA al ah bl bh = O at *
  generalize max al bl = o1 at *
  generalize min ah bh = o2 at *
  rcases hcase with ⟨hlt, rfl, rfl⟩ | ⟨hlt, rfl, rfl⟩
  all_goals clear h0 hok
  · go_enter Try.func21, Try.ntmps21
    go_wp2_with fail
    refine (c1.out _ _ (lies_new [(al, ah), (bl, bh)] (by simp) rfl)).mono ?_
    rintro e w1 ⟨rfl, hb1⟩
    obtain ⟨hc1, hf1⟩ := bcell hb1
    have hz1 := hb1.size
    simp at hz1
    have q10 : w.heap.size < w1.heap.size := by omega
    have q11 : w.heap.size + 1 < w1.heap.size := by omega
    have q12 : w.heap.size + 1 + 1 < w1.heap.size := by omega
    go_wp2_with fail
    refine (c3.out _).mono ?_
    rintro e w3 ⟨rfl, hb3⟩
    obtain ⟨hc3, hf3⟩ := bcell hb3
    have hz3 := hb3.size
    have q32 : w.heap.size + 1 + 1 < w3.heap.size := by omega
    go_wp2
    refine bodyPost_ret (v := .tuple #[.agg #[.int .i64 0, .int .i64 0], .int .i64 9]) ?_ rfl ⟨rfl, ?_⟩
    · simp [results, Try.results21, go_sem, *]
    · repeat (first | exact Below.refl _ _ | assumption | refine below_set ?_ (by simp <;> omega) _ | refine below_alloc ?_ _ | refine below_trans ?_ hb3 | refine below_trans ?_ hb1)
  · go_enter Try.func21, Try.ntmps21
    go_wp2_with fail
    refine (c1.out _ _ (lies_new [(al, ah), (bl, bh)] (by simp) rfl)).mono ?_
    rintro e w1 ⟨rfl, hb1⟩
    obtain ⟨hc1, hf1⟩ := bcell hb1
    have hz1 := hb1.size
    simp at hz1
    have q10 : w.heap.size < w1.heap.size := by omega
    have q11 : w.heap.size + 1 < w1.heap.size := by omega
    have q12 : w.heap.size + 1 + 1 < w1.heap.size := by omega
    go_wp2_with fail
    refine (c3.out _).mono ?_
    rintro e w3 ⟨rfl, hb3⟩
    obtain ⟨hc3, hf3⟩ := bcell hb3
    have hz3 := hb3.size
    have q32 : w.heap.size + 1 + 1 < w3.heap.size := by omega
    go_wp2
    refine bodyPost_ret (v := .tuple #[.agg #[.int .i64 o1, .int .i64 o2], .int .i64 0]) ?_ rfl ⟨rfl, ?_⟩
    · simp [results, Try.results21, go_sem, *]
    · repeat (first | exact Below.refl _ _ | assumption | refine below_set ?_ (by simp <;> omega) _ | refine below_alloc ?_ _ | refine below_trans ?_ hb3 | refine below_trans ?_ hb1)

set_option maxHeartbeats 800000 in
theorem rintersect2_ok (al ah bl bh : Int) (w : World) (h0 : allE [(al, ah), (bl, bh)] = 0) : Calls Try.prog 25 #[.agg #[.int .i64 al, .int .i64 ah], .agg #[.int .i64 bl, .int .i64 bh]] w fun e w' =>
    e = .returned (.tuple #[.agg #[.int .i64 (meetA al ah bl bh).1, .int .i64 (meetA al ah bl bh).2], .int .i64 (meetE al ah bl bh)]) ∧ Below w.heap.size w w' := by
  have hok := allE_ok h0
  have hoa := hok (al, ah) (by simp)
  have hob := hok (bl, bh) (by simp)
  simp only at hoa hob
  have c1 := Lib.hid fun W A (hA : Lies W A (flat [(al, ah), (bl, bh)])) => rall_any A 2 2 [(al, ah), (bl, bh)] W rfl hA (by omega)
  rw [h0] at c1
  have hcase : (min ah bh < max al bl ∧ meetE al ah bl bh = 9 ∧ meetA al ah bl bh = (0, 0)) ∨ (¬ min ah bh < max al bl ∧ meetE al ah bl bh = 0 ∧ meetA al ah bl bh = (max al bl, min ah bh)) := by
    by_cases h : min ah bh < max al bl
    · exact .inl ⟨h, by rw [meetE, if_pos h], by rw [meetA, if_pos h]⟩
    · exact .inr ⟨h, by rw [meetE, if_neg h], by rw [meetA, if_neg h]⟩
  generalize meetE al ah bl bh = E at *
  generalize meetA al ah bl bh = O at *
  rcases hcase with ⟨hlt, rfl, rfl⟩ | ⟨hlt, rfl, rfl⟩
  all_goals clear h0 hok
  · go_enter Try.func25, Try.ntmps25
    go_wp2_with fail
    refine (c1.out _ _ (lies_new [(al, ah), (bl, bh)] (by simp) rfl)).mono ?_
    rintro e w1 ⟨rfl, hb1⟩
    obtain ⟨hc1, hf1⟩ := bcell hb1
    have hz1 := hb1.size
    simp at hz1
    have q10 : w.heap.size < w1.heap.size := by omega
    have q11 : w.heap.size + 1 < w1.heap.size := by omega
    have q12 : w.heap.size + 1 + 1 < w1.heap.size := by omega
    go_wp2
    all_goals
      first
        | (exfalso; omega)
        | (refine bodyPost_ret (v := .tuple #[.agg #[.int .i64 0, .int .i64 0], .int .i64 9]) ?_ rfl ⟨rfl, ?_⟩
           · simp [results, Try.results25, go_sem, *] <;> omega
           · repeat (first | exact Below.refl _ _ | assumption | refine below_set ?_ (by simp <;> omega) _ | refine below_alloc ?_ _ | refine below_trans ?_ hb1))
  · go_enter Try.func25, Try.ntmps25
    go_wp2_with fail
    refine (c1.out _ _ (lies_new [(al, ah), (bl, bh)] (by simp) rfl)).mono ?_
    rintro e w1 ⟨rfl, hb1⟩
    obtain ⟨hc1, hf1⟩ := bcell hb1
    have hz1 := hb1.size
    simp at hz1
    have q10 : w.heap.size < w1.heap.size := by omega
    have q11 : w.heap.size + 1 < w1.heap.size := by omega
    have q12 : w.heap.size + 1 + 1 < w1.heap.size := by omega
    go_wp2
    all_goals
      first
        | (exfalso; omega)
        | (refine bodyPost_ret (v := .tuple #[.agg #[.int .i64 (max al bl), .int .i64 (min ah bh)], .int .i64 0]) ?_ rfl ⟨rfl, ?_⟩
           · simp [results, Try.results25, go_sem, *] <;> omega
           · repeat (first | exact Below.refl _ _ | assumption | refine below_set ?_ (by simp <;> omega) _ | refine below_alloc ?_ _ | refine below_trans ?_ hb1))
end Go.Proofs.Ytofpiedhenephaa.Sp
