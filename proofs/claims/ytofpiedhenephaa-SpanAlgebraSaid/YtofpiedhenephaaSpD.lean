/- append onto a slice of the call's own; Grow, Concat, Clone. -/
import Derived.Test.YtofpiedhenephaaSpC
import Derived.OwnWalk
import Derived.Lib.AppendZeros
import Derived.Laws.AppendOwnNone
namespace Go.Proofs.Ytofpiedhenephaa.Sp
open Go.RowKit Go.Lib
set_option linter.unusedVariables false

theorem Lies.none_nil {w : World} {xs : List Value} (h : Lies w none xs) : xs = [] := by
  rcases xs with _ | ⟨x, r⟩
  · rfl
  · obtain ⟨b, o, e, _⟩ := h (by simp)
    cases e

theorem wpList_app {P : Program} {w : World} {ops : Array Oper} {rest : List Oper} {o : Oper} {a : Act} {Q : Exit → Act → World → Prop} (hgd : o.guard = none) (s x : Operand) (t : TypeId)
    (ho : o.op = .call { callee := .builtin .append, args := #[s, x], argTypes := #[t, t] })
    (base : Nat) (e : TypeId) (i : TypeInfo) (z : Value) (size bytes : Nat) (ht : P.underlying t = some (.slice e)) (hi : P.info? e = some i) (hz : i.zero = some z)
    (hsize : i.size = size) (hby : i.bytes = bytes) (hzs : z.cells.size = size) (hsz : 0 < size)
    (v : Value) (n : Nat) (xs : List Value) (hs : a.eval s = v) (hown : w.ownsRow base e size v n xs)
    (A : Option Addr) (m c : Nat) (news : List Value) (hx : a.eval x = .slice A m c) (hA : A = none → c = 0) (hl : news.length = m * size) (hL : Lies w A news) (h1 : ∀ u ∈ news, u.oneCell' = true)
    (h63 : n + m ≤ maxLen) (hbytes : (n + m) * bytes ≤ 140737488355328) (hbase : base ≤ w.heap.size)
    (h : ∀ v' w', w'.ownsRow base e size v' (n + m) (xs ++ news) → w.grownBy w' v.ownBlock → (v' = .slice none 0 0 ↔ v = .slice none 0 0 ∧ m = 0) → wpList P ops Q rest (a.put o.dst v') w') : wpList P ops Q (o :: rest) a w := by
  rcases A with _ | ad
  · have hn := hL.none_nil
    subst hn
    have hm : m = 0 := by
      have h0 : m * size = 0 := by simpa using hl.symm
      rcases Nat.mul_eq_zero.1 h0 with h | h
      · exact h
      · omega
    subst hm
    have hc := hA rfl
    subst hc
    refine wpList_append_own_none hgd s x t ho base e i size ht hi v n xs hs hown hx ?_
    exact h v w (by simpa using hown) (World.grownBy.refl w _) (by simp)
  · by_cases hpos : 0 < news.length
    · obtain ⟨b, of, e', hlt, hc⟩ := hL hpos
      injection e' with e'
      subst e'
      refine wpList_append_own w hgd s x t ho base e i z size bytes ht hi hz hsize hby hzs hsz v n xs hs hown ⟨b, of, none⟩ m c news hx hl (fun j u hu => ?_) h1 h63 hbytes hbase h
      have := hc j u hu
      simp only [Addr.add]
      split
      · rename_i h0
        subst h0
        simpa using this
      · simpa using this
    · have hn : news = [] := List.eq_nil_of_length_eq_zero (by omega)
      subst hn
      exact wpList_append_own w hgd s x t ho base e i z size bytes ht hi hz hsize hby hzs hsz v n xs hs hown ad m c [] hx hl (fun j u hu => by simp at hu) h1 h63 hbytes hbase h

/-- what a slice of the call's own holds lies there -/
theorem own_lies {w : World} {base : Nat} {e : TypeId} {size : Nat} {v : Value} {n : Nat} {xs : List Value} (h : w.ownsRow base e size v n xs) :
    ∃ A c, v = .slice A n c ∧ (A = none → c = 0) ∧ Lies w A xs := by
  rcases h.2 with ⟨rfl, rfl⟩ | ⟨g, cap, cur, rfl, hb, hh, h1, h2, h3, h4⟩
  · refine ⟨none, 0, rfl, fun _ => rfl, ?_⟩
    have : xs = [] := List.eq_nil_of_length_eq_zero (by simpa using h.1)
    subst this
    exact Lies.nil_
  · refine ⟨_, cap, rfl, fun e => (by cases e), fun hp => ⟨g, 0, rfl, (Array.getElem?_eq_some_iff.1 hh).1, fun j u hu => ?_⟩⟩
    rw [cell_of_row w g (0 + j) cur e (0, 0) hh, Nat.zero_add, ← Array.getElem?_toList]
    rw [← h4, List.getElem?_take] at hu
    split at hu
    · exact hu
    · cases hu

/-- a slice of intervals that the call made: what it holds -/
def Own (w w' : World) (v : Value) (l : List (Int × Int)) : Prop := w'.ownsRow w.heap.size 23 2 v l.length (flat l) ∧ Below w.heap.size w w'

theorem flat_oneCell (l : List (Int × Int)) : ∀ u ∈ flat l, u.oneCell' = true := by
  induction l with
  | nil => simp [flat]
  | cons p r ih =>
    intro u hu
    simp only [flat, List.mem_cons] at hu
    rcases hu with rfl | rfl | hu
    · rfl
    · rfl
    · exact ih u hu

theorem ivInfo : (Try.prog.info? 23).map (fun i => (i.zero, i.size, i.bytes)) = some (some (.agg #[.int .i64 0, .int .i64 0]), 2, 16) := by kernel_rfl

theorem grow_nil (n : Nat) (w : World) (hn : n ≤ 20000) : Calls Try.prog 59 #[.slice none 0 0, .int .i64 n] w fun e w' =>
    ∃ v, e = .returned v ∧ w'.ownsRow w.heap.size 23 2 v 0 [] ∧ Below w.heap.size w w' := by
  obtain ⟨i0, hi, hz0, hz1, hz2⟩ := info_parts ivInfo
  by_cases h0 : n = 0
  · subst h0
    go_enter Try.func59, Try.ntmps59
    go_wp2
    go_ret
    exact ⟨_, rfl, World.ownsRow_nil _ _ _ _, Below.refl _ _⟩
  · have hr := fun W => run_append_nil_zeros (P := Try.prog) W 33 3 33 23 i0 _ .i64 .i64 Try.underlying33 Try.underlying3 hi hz0 n (by omega) (by rw [hz1]; omega) (by omega) (by rw [hz2]; omega)
    have hcap : ∀ W, ∃ cap cur, grownCap W n 0 23 = cap ∧ n ≤ cap ∧ cap ≤ maxLen ∧ cur.size = cap * 2 ∧
        (Builtin.append_ #[33, 3] 33 #[.slice none 0 0, .int .i64 n]).run Try.prog W = .ok (.slice (some ⟨W.heap.size, 0, none⟩) n cap) (W.drew.alloc (.cells cur 23)) := fun W =>
      ⟨_, _, rfl, grownCap_ge W n 0 _, grownCap_le_maxLen W n 0 _ (by unfold maxLen; omega), by
        have h1 := grownCap_ge W n 0 23
        simp [size_zeroCells, Value.cells]
        omega, hr W⟩
    obtain ⟨cap, cur, _, hc1, hc2, hc3, hc4⟩ := hcap w
    have H4 := Lib.hid hc4
    have H3 := Lib.hid hc3
    clear hr hcap hc4 hc3
    go_enter Try.func59, Try.ntmps59
    go_wp2_with (at_builtin; refine wpList_append_run _ rfl _ _ _ _ rfl _ _ rfl rfl _ _ H4.out ?_)
    go_ret
    exact ⟨_, rfl, World.ownsRow_made w.drew cur cap (Nat.le_refl _) hc2 H3.out, (below_drewN (Below.refl _ _) 1).alloc (Nat.le_refl _) _⟩

theorem clone_any (A : Option Addr) (n c : Nat) (l : List (Int × Int)) (w : World) (hl : l.length = n) (hA : A = none → c = 0) (hL : Lies w A (flat l)) (hn : n ≤ 20000) :
    Calls Try.prog 55 #[.slice A n c] w fun e w' => ∃ v, e = .returned v ∧ Own w w' v l := by
  obtain ⟨i0, hi, hz0, hz1, hz2⟩ := info_parts ivInfo
  have heq := fun a W => Lib.run_eql_slice_nil (P := Try.prog) W 33 23 a n c 0 0 Try.underlying33
  have H1 := Lib.hid (flat_oneCell l)
  have H2 : Hid ((flat l).length = n * 2) := Lib.hid (by rw [flat_length]; omega)
  have H3 : Hid (0 + n = l.length) := Lib.hid (by omega)
  have HL := Lib.hid hL
  clear hL hl
  rcases A with _ | ad
  · have e1 := HL.out.none_nil
    have e2 : l = [] := by
      have := congrArg List.length e1
      rw [flat_length] at this
      exact List.eq_nil_of_length_eq_zero (by simp at this; omega)
    subst e2
    have hn0 : n = 0 := by simpa using H3.out
    have hc0 := hA rfl
    subst hn0 hc0
    have hr : ∀ W, (binOp .eql 33 (.slice none 0 0) (.slice none 0 0)).run Try.prog W = .ok (.bool true) W := fun W => Lib.run_eql_slice_nil (P := Try.prog) W 33 23 none 0 0 0 0 Try.underlying33
    clear heq e1 hA
    go_enter Try.func55, Try.ntmps55
    go_wp2
    go_ret
    exact ⟨_, rfl, World.ownsRow_nil _ _ _ _, Below.refl _ _⟩
  · have hr := heq (some ad)
    clear heq hA
    go_enter Try.func55, Try.ntmps55
    go_wp2_with (at_builtin; refine wpList_app rfl _ _ _ rfl w.heap.size 23 i0 _ 2 16 Try.underlying33 hi hz0 hz1 hz2 rfl (by decide) _ 0 [] rfl ?c1 (some ad) n c (flat l) rfl (fun e => by cases e) H2.out ?c2 H1.out ?c3 ?c4 ?c5 ?_)
    case c1 => exact World.ownsRow_made w #[] 0 (Nat.le_refl _) (by unfold maxLen; omega) rfl
    case c2 => exact HL.out.below (Nat.le_refl _) (below_alloc (Below.refl _ _) _)
    case c3 => unfold maxLen; omega
    case c4 => omega
    case c5 => simp
    · intro v' w' hown hg _
      have hb : Below w.heap.size w w' := (below_alloc (Below.refl w.heap.size w) _).grown hg (by simp) (fun k hk => by simp [Value.ownBlock] at hk; omega)
      go_wp2
      go_ret
      refine ⟨_, rfl, ?_, hb⟩
      rw [← H3.out, Nat.zero_add]
      exact hown
end Go.Proofs.Ytofpiedhenephaa.Sp
