/- Contracts of Same, In, Count and of the law's normal. -/
import Derived.Test.YtofpiedhenephaaSpE
import Derived.Laws.StructEq
namespace Go.Proofs.Ytofpiedhenephaa.Sp
open Go.RowKit Go.Lib
set_option linter.unusedVariables false

theorem iv_same (a b c d : Int) (w : World) : (Op.equalIn 10000 23 (.agg #[.int .i64 a, .int .i64 b]) (.agg #[.int .i64 c, .int .i64 d])).run Try.prog w = .ok ((a == c) && (b == d)) w := by
  rw [run_equalIn_agg w 9999 23 _ _ (by kernel_rfl) (by kernel_rfl)]
  have hf : (Try.prog.fieldsOf 23).toList.map (fun f => (f.name, f.type, f.offset)) = [("Lo", 3, 0), ("Hi", 3, 1)] := by kernel_rfl
  generalize (Try.prog.fieldsOf 23).toList = fs at hf
  rcases fs with _ | ⟨f, _ | ⟨g, _ | ⟨h, r⟩⟩⟩ <;> simp at hf
  obtain ⟨⟨f1, f2, f3⟩, g1, g2, g3⟩ := hf
  have p0 : ∀ x y w, (part 3 #[.int .i64 x, .int .i64 y] 0).run Try.prog w = .ok (.int .i64 x) w := fun _ _ _ => by kernel_rfl
  have p1 : ∀ x y w, (part 3 #[.int .i64 x, .int .i64 y] 1).run Try.prog w = .ok (.int .i64 y) w := fun _ _ _ => by kernel_rfl
  have q : ∀ d x y w, (Op.equalIn (d + 1) 3 (.int .i64 x) (.int .i64 y)).run Try.prog w = .ok (x == y) w := fun d x y w => run_equalIn_int w d 3 .i64 .i64 x y Try.underlying3
  have q' : ∀ x y w, (Op.equalIn 9999 3 (.int .i64 x) (.int .i64 y)).run Try.prog w = .ok (x == y) w := q 9998
  simp only [Op.eqFields, Sem.run_bind]
  rw [f1, f2, f3, g1, g2, g3, if_pos (by decide), Sem.run_bind, p0]
  simp only [Result.andThen_ok, Sem.run_bind]
  rw [p0]
  simp only [Result.andThen_ok, Sem.run_bind]
  rw [q']
  simp only [Result.andThen_ok]
  rcases h1 : a == c
  · simp
  · simp only [Bool.not_true, Bool.false_eq_true, if_false]
    rw [if_pos (by decide), Sem.run_bind, p1]
    simp only [Result.andThen_ok, Sem.run_bind]
    rw [p1]
    simp only [Result.andThen_ok, Sem.run_bind]
    rw [q']
    rcases h2 : b == d <;> simp
theorem iv_eql (a b c d : Int) (w : World) : (binOp .eql 23 (.agg #[.int .i64 a, .int .i64 b]) (.agg #[.int .i64 c, .int .i64 d])).run Try.prog w = .ok (.bool ((a == c) && (b == d))) w := by
  rw [run_eql_struct, iv_same]; rfl
theorem iv_neq (a b c d : Int) (w : World) : (binOp .neq 23 (.agg #[.int .i64 a, .int .i64 b]) (.agg #[.int .i64 c, .int .i64 d])).run Try.prog w = .ok (.bool (!((a == c) && (b == d)))) w := by
  rw [run_neq_struct, iv_same]; rfl
theorem iv_guard (op : BinOp) (x y : Operand) (xs ys : Array Value) (w : World) : (eqGuard op 23 x y (.agg xs) (.agg ys)).run Try.prog w = .ok () w := run_eqGuard_agg w op _ x y xs ys (by kernel_rfl)
theorem ret_bool {a b : Bool} (h : a = b) : Ending.returned (.bool a) = .returned (.bool b) := by rw [h]

set_option maxHeartbeats 400000 in
theorem in_any (A : Option Addr) (n c : Nat) (l : List (Int × Int)) (x : Int) (w : World) (hl : l.length = n) (hL : Lies w A (flat l)) (hn : n ≤ 9223372036854775807) :
    Calls Try.prog 38 #[.slice A n c, .int .i64 x] w fun e w' => e = .returned (.bool (inB l x)) ∧ Below w.heap.size w w' := by
  subst hl
  have HL := Lib.hid hL
  clear hL
  go_enter Try.func38, Try.ntmps38
  go_wp2
  go_loopw [5] (fun i wr => ∃ k : Nat, k ≤ l.length ∧ i = .int .i64 k ∧ Hid (inB (l.take k) x = false) ∧ Below w.heap.size w wr) (fun i _ => l.length - (intOf i).toNat)
  case atStart => exact ⟨0, Nat.zero_le _, rfl, Lib.hid rfl, Below.refl _ _⟩
  case round =>
    obtain ⟨k, hk, rfl, hgood, hb⟩ := hrel
    by_cases hlt : k < l.length
    · obtain ⟨b, o, rfl, hbl, hc⟩ := HL.out.ivs (by omega)
      have h1 := (hb.cell (p := ⟨b, o + k * 2, none⟩) hbl).trans (hc k hlt).1
      have h2 := (hb.cell (p := ⟨b, o + k * 2 + 1, none⟩) hbl).trans (hc k hlt).2
      clear hc
      have HY : Hid ((decide (l[k].1 ≤ x) && decide (x ≤ l[k].2)) = true → inB l x = true) := Lib.hid fun h => any_of_at _ l k hlt h
      have HN : Hid ((decide (l[k].1 ≤ x) && decide (x ≤ l[k].2)) = false → inB (l.take (k + 1)) x = false) := Lib.hid fun h => by
        have hg := hgood.out
        unfold inB at hg ⊢
        rw [any_take_succ _ _ _ hlt, hg, h]; rfl
      generalize l[k].1 = lo at *
      generalize l[k].2 = hi at *
      have hcall := Lib.hid fun W => rcontains_any lo hi x W
      generalize (decide (lo ≤ x) && decide (x ≤ hi)) = B at *
      go_wp2_with (go_at_call 14; refine (hcall.out _).mono ?_; rintro e w1 ⟨rfl, hb1⟩)
      · go_ret
        have hx : B = true := by assumption
        exact ⟨ret_bool (HY.out hx).symm, below_trans hb hb1⟩
      · go_roundw
        case rel =>
          have hx : B = false := by assumption
          exact ⟨k + 1, by omega, by go_num, Lib.hid (HN.out hx), below_trans hb hb1⟩
        case measure => simp [intOf]; omega
    · have e : k = l.length := by omega
      subst e
      have hfull := hgood.out
      rw [List.take_length] at hfull
      have HF := Lib.hid hfull
      clear hfull
      go_wp2
      go_ret
      exact ⟨ret_bool HF.out.symm, hb⟩

set_option maxHeartbeats 400000 in
theorem same_any (A B : Option Addr) (n m c d : Nat) (l r : List (Int × Int)) (w : World) (hl : l.length = n) (hr : r.length = m) (hL : Lies w A (flat l)) (hR : Lies w B (flat r)) (hn : n ≤ 9223372036854775807) (hm : m ≤ 9223372036854775807) :
    Calls Try.prog 36 #[.slice A n c, .slice B m d] w fun e w' => e = .returned (.bool (decide (l = r))) ∧ Below w.heap.size w w' := by
  subst hl
  subst hr
  have HL := Lib.hid hL
  have HR := Lib.hid hR
  clear hL hR
  by_cases hlen : l.length = r.length
  · have hlv : ((l.length : Int) != (r.length : Int)) = false := by simp [hlen]
    have Hlen := Lib.hid hlen
    clear hlen
    go_enter Try.func36, Try.ntmps36
    go_wp2
    go_loopw [5] (fun i wr => ∃ k : Nat, k ≤ l.length ∧ i = .int .i64 k ∧ Hid (l.take k = r.take k) ∧ Below w.heap.size w wr) (fun i _ => l.length - (intOf i).toNat)
    case atStart => exact ⟨0, Nat.zero_le _, rfl, Lib.hid rfl, Below.refl _ _⟩
    case round =>
      obtain ⟨k, hk, rfl, hgood, hb⟩ := hrel
      by_cases hlt : k < l.length
      · have hlt2 : k < r.length := by have := Hlen.out; omega
        obtain ⟨b, o, rfl, hbl, hc⟩ := HL.out.ivs (by omega)
        obtain ⟨b2, o2, rfl, hbl2, hc2⟩ := HR.out.ivs (by omega)
        have h1 := (hb.cell (p := ⟨b, o + k * 2, none⟩) hbl).trans (hc k hlt).1
        have h2 := (hb.cell (p := ⟨b, o + k * 2 + 1, none⟩) hbl).trans (hc k hlt).2
        have h3 := (hb.cell (p := ⟨b2, o2 + k * 2, none⟩) hbl2).trans (hc2 k hlt2).1
        have h4 := (hb.cell (p := ⟨b2, o2 + k * 2 + 1, none⟩) hbl2).trans (hc2 k hlt2).2
        have hi1 : (k : Int) < (l.length : Int) := by omega
        have hi2 : (k : Int) < (r.length : Int) := by omega
        have hi0 : (0 : Int) ≤ (k : Int) := by omega
        clear hc hc2
        have HT : Hid (l.take (k + 1) = l.take k ++ [(l[k].1, l[k].2)] ∧ r.take (k + 1) = r.take k ++ [(r[k].1, r[k].2)]) := Lib.hid ⟨List.take_succ_eq_append_getElem hlt, List.take_succ_eq_append_getElem hlt2⟩
        have HM : Hid ((l[k].1, l[k].2) ≠ (r[k].1, r[k].2) → l ≠ r) := Lib.hid (by rintro hne rfl; exact hne rfl)
        generalize l[k].1 = p1 at *
        generalize l[k].2 = p2 at *
        generalize r[k].1 = q1 at *
        generalize r[k].2 = q2 at *
        have he := fun W => iv_neq p1 p2 q1 q2 W
        have hg := fun x y W => iv_guard .neq x y #[.int .i64 p1, .int .i64 p2] #[.int .i64 q1, .int .i64 q2] W
        rcases hB : ((p1 == q1) && (p2 == q2)) with _ | _
        · rw [hB] at he
          have HB := Lib.hid hB
          clear hB
          go_wp2_with fail
          go_quiet (fail)
          go_wp2
          go_ret
          exact ⟨ret_bool (by symm; rw [decide_eq_false_iff_not]; refine HM.out ?_; intro e; simp at e; have := HB.out; simp [e.1, e.2] at this), below_drewN hb _⟩
        · rw [hB] at he
          have HB := Lib.hid hB
          clear hB
          go_wp2_with fail
          go_quiet (fail)
          go_wp2
          go_roundw
          case rel => exact ⟨k + 1, by omega, by go_num, Lib.hid (by have h := HB.out; simp at h; rw [HT.out.1, HT.out.2, hgood.out, h.1, h.2]), below_drewN hb _⟩
          case measure => simp [intOf]; omega
      · have e1 : k = l.length := by omega
        have hg := hgood.out
        rw [List.take_of_length_le (by omega), List.take_of_length_le (by have := Hlen.out; omega)] at hg
        have HG := Lib.hid hg
        clear hg e1
        go_wp2
        go_ret
        exact ⟨ret_bool (by symm; rw [decide_eq_true_iff]; exact HG.out), hb⟩
  · have hlv : ((l.length : Int) != (r.length : Int)) = true := by simp [hlen]; omega
    have Hlen := Lib.hid hlen
    clear hlen
    go_enter Try.func36, Try.ntmps36
    go_wp2
    go_ret
    exact ⟨ret_bool (by symm; rw [decide_eq_false_iff_not]; rintro rfl; exact Hlen.out rfl), Below.refl _ _⟩
end Go.Proofs.Ytofpiedhenephaa.Sp
