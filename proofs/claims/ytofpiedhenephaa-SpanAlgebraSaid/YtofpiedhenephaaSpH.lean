/- The walk of normal. -/
import Derived.Test.YtofpiedhenephaaSpG
import Derived.Test.YtofpiedhenephaaSpSort
import Derived.Deep.AppendLies
import Derived.Deep.RegionLaw
namespace Go.Proofs.Ytofpiedhenephaa.Sp
open Go.RowKit Go.Lib
set_option linter.unusedVariables false

/-- where the round of normal stands: out holds the numbers of the first k -/
def Mrg (s out : List (Int × Int)) (k : Nat) : Prop := NF out ∧ (∀ n, inB out n = inB (s.take k) n) ∧ (∀ p ∈ out, ∃ q ∈ s.take k, p.1 = q.1) ∧ (∀ p ∈ out, ∃ q ∈ s.take k, p.2 = q.2) ∧ out.length ≤ k

theorem mrg_lo {s out : List (Int × Int)} {k : Nat} (h : Mrg s out k) (hs : s.Pairwise fun p q => p.1 ≤ q.1) (hk : k < s.length) : ∀ p ∈ out, p.1 ≤ s[k].1 := by
  intro p hp
  obtain ⟨q, hq, e⟩ := h.2.2.1 p hp
  obtain ⟨i, hi, rfl⟩ := List.getElem_of_mem hq
  have hi' : i < k := by rw [List.length_take] at hi; omega
  rw [List.getElem_take] at e
  rw [e]
  exact List.pairwise_iff_getElem.1 hs i k (by omega) hk hi'

theorem mem_take_succ {α : Type} {l : List α} {k : Nat} {x : α} (h : x ∈ l.take k) : x ∈ l.take (k + 1) := by
  rw [List.mem_take_iff_getElem] at h ⊢
  obtain ⟨i, hi, e⟩ := h
  exact ⟨i, by omega, e⟩
theorem mem_take_last {α : Type} (l : List α) (k : Nat) (h : k < l.length) : l[k] ∈ l.take (k + 1) := by
  rw [List.take_succ_eq_append_getElem h]; exact List.mem_append_right _ (List.mem_singleton.2 rfl)

theorem mrg_join {s o : List (Int × Int)} {q : Int × Int} {k : Nat} (h : Mrg s (o ++ [q]) k) (hs : s.Pairwise fun p q => p.1 ≤ q.1) (hk : k < s.length) (hp : s[k].1 ≤ s[k].2) (hj : s[k].1 ≤ q.2 + 1) :
    Mrg s (o ++ [(min q.1 s[k].1, max q.2 s[k].2)]) (k + 1) := by
  have hq := mrg_lo h hs hk q (by simp)
  have hm := merge_join h.1 hp hq hj
  refine ⟨hm.1, fun n => ?_, fun p hp => ?_, fun p hp => ?_, ?_⟩
  · rw [hm.2 n, h.2.1 n, inB_take_succ s k hk]
  · rw [List.mem_append] at hp
    rcases hp with hp | hp
    · obtain ⟨r, hr, e⟩ := h.2.2.1 p (by simp [hp])
      exact ⟨r, mem_take_succ hr, e⟩
    · obtain ⟨r, hr, e⟩ := h.2.2.1 q (by simp)
      simp at hp
      subst hp
      exact ⟨r, mem_take_succ hr, by rw [← e]; simp only; omega⟩
  · rw [List.mem_append] at hp
    rcases hp with hp | hp
    · obtain ⟨r, hr, e⟩ := h.2.2.2.1 p (by simp [hp])
      exact ⟨r, mem_take_succ hr, e⟩
    · simp at hp
      subst hp
      by_cases hc : q.2 ≤ s[k].2
      · exact ⟨s[k], mem_take_last s k hk, by simp only; omega⟩
      · obtain ⟨r, hr, e⟩ := h.2.2.2.1 q (by simp)
        exact ⟨r, mem_take_succ hr, by rw [← e]; simp only; omega⟩
  · have := h.2.2.2.2
    simp at this ⊢
    omega

theorem mrg_new {s o : List (Int × Int)} {k : Nat} (h : Mrg s o k) (hk : k < s.length) (hp : s[k].1 ≤ s[k].2) (hl : ∀ q ∈ o, q.2 + 1 < s[k].1) : Mrg s (o ++ [(s[k].1, s[k].2)]) (k + 1) := by
  have hm := merge_new (p := (s[k].1, s[k].2)) h.1 hp hl
  refine ⟨hm.1, fun n => ?_, fun p hp => ?_, fun p hp => ?_, ?_⟩
  · rw [hm.2 n, h.2.1 n, inB_take_succ s k hk]
  · rw [List.mem_append] at hp
    rcases hp with hp | hp
    · obtain ⟨r, hr, e⟩ := h.2.2.1 p hp
      exact ⟨r, mem_take_succ hr, e⟩
    · simp at hp
      subst hp
      exact ⟨s[k], mem_take_last s k hk, rfl⟩
  · rw [List.mem_append] at hp
    rcases hp with hp | hp
    · obtain ⟨r, hr, e⟩ := h.2.2.2.1 p hp
      exact ⟨r, mem_take_succ hr, e⟩
    · simp at hp
      subst hp
      exact ⟨s[k], mem_take_last s k hk, rfl⟩
  · have := h.2.2.2.2
    simp
    omega

theorem flat_set_last (o : List (Int × Int)) (q : Int × Int) (a b : Int) : ((flat (o ++ [q])).set (2 * o.length) (.int .i64 a)).set (2 * o.length + 1) (.int .i64 b) = flat (o ++ [(a, b)]) := by
  rw [flat_append, flat_append]
  have h := flat_length o
  rw [List.set_append_right _ _ (by omega), List.set_append_right _ _ (by omega)]
  have e1 : 2 * o.length - (flat o).length = 0 := by omega
  have e2 : 2 * o.length + 1 - (flat o).length = 1 := by omega
  rw [e1, e2]
  rfl

theorem own_cells {w : World} {base : Nat} {e : TypeId} {v : Value} {o : List (Int × Int)} {q : Int × Int} (h : w.ownsRow base e 2 v (o ++ [q]).length (flat (o ++ [q]))) :
    ∃ g cap, v = .slice (some ⟨g, 0, none⟩) (o.length + 1) cap ∧ base ≤ g ∧ g < w.heap.size ∧ w.cell? ⟨g, o.length * 2, none⟩ = some (.int .i64 q.1) ∧ w.cell? ⟨g, o.length * 2 + 1, none⟩ = some (.int .i64 q.2) ∧ w.frozen? ⟨g, o.length * 2, none⟩ = false ∧ w.frozen? ⟨g, o.length * 2 + 1, none⟩ = false := by
  rcases h.2 with ⟨_, h0⟩ | ⟨g, cap, cur, rfl, hg, hh, _⟩
  · simp at h0
  · have hl : (o ++ [q]).length = o.length + 1 := by simp
    rw [hl] at h
    have hlen : o.length < (o ++ [q]).length := by omega
    refine ⟨g, cap, by rw [hl], hg, (Array.getElem?_eq_some_iff.1 hh).1, ?_, ?_, h.frozenAt _, h.frozenAt _⟩
    · rw [h.cellAt _ (by omega), show o.length * 2 = 2 * o.length from by omega, flat_lo _ _ hlen]; simp
    · rw [h.cellAt _ (by omega), show o.length * 2 = 2 * o.length from by omega, flat_hi _ _ hlen]; simp

theorem own_base {w : World} {b b' : Nat} {e : TypeId} {size : Nat} {v : Value} {n : Nat} {xs : List Value} (h : w.ownsRow b e size v n xs) (hb : b' ≤ b) : w.ownsRow b' e size v n xs :=
  ⟨h.1, h.2.imp id fun ⟨g, cap, cur, h1, h2, h3⟩ => ⟨g, cap, cur, h1, Nat.le_trans hb h2, h3⟩⟩

theorem own_join {w : World} {base : Nat} {e : TypeId} {g cap : Nat} {o : List (Int × Int)} {q : Int × Int} (h : w.ownsRow base e 2 (.slice (some ⟨g, 0, none⟩) (o.length + 1) cap) (o.length + 1) (flat (o ++ [q]))) (a b : Int) :
    ((w.setCell ⟨g, o.length * 2, none⟩ (.int .i64 a)).setCell ⟨g, o.length * 2 + 1, none⟩ (.int .i64 b)).ownsRow base e 2 (.slice (some ⟨g, 0, none⟩) (o.length + 1) cap) (o.length + 1) (flat (o ++ [(a, b)])) := by
  rw [← flat_set_last o q a b, show o.length * 2 = 2 * o.length from by omega]
  exact ((h.stored _ _).1.stored _ _).1

set_option maxHeartbeats 1600000 in
theorem normal_any (A : Option Addr) (n c : Nat) (l : List (Int × Int)) (w : World) (hl : l.length = n) (hA : A = none → c = 0) (hL : Lies w A (flat l)) (hn : n ≤ 20000) (hok : Ok l) :
    Calls Try.prog 48 #[.slice A n c] w fun e w' => ∃ v o, e = .returned v ∧ Own w w' v o ∧ NF o ∧ (∀ x, inB o x = inB l x) ∧ Ok o ∧ o.length ≤ n := by
  obtain ⟨i0, hi, hz0, hz1, hz2⟩ := info_parts ivInfo
  have hclone := Lib.hid (clone_any A n c l w hl hA hL hn)
  clear hA hL
  go_enter Try.func48, Try.ntmps48
  go_wp2_with fail
  refine hclone.out.mono ?_
  rintro e w1 ⟨v1, rfl, hown1⟩
  have hb1 := hown1.2
  have hsort := Lib.hid (sort_any w.heap.size n v1 l w1 hl (by rw [← hl]; exact hown1.1) hn)
  clear hclone hown1
  go_wp2_with fail
  refine hsort.out.mono ?_
  rintro e w2 ⟨rfl, s, hperm, hsorted, hown2, hg2⟩
  have hb2 : Below w.heap.size w w2 := hb1.grown hg2 hb1.size (fun k hk => by
    rcases hown2.2 with ⟨rfl, _⟩ | ⟨g, _, _, rfl, hg, _⟩
    · simp [Value.ownBlock] at hk
    · simp [Value.ownBlock] at hk; omega)
  obtain ⟨A2, c2, rfl, hA2, hL2⟩ := own_lies hown2
  have hsl : s.length = n := by rw [hperm.length_eq, hl]
  have hoks : Ok s := fun p hp => hok p (hperm.mem_iff.1 hp)
  have HL := Lib.hid hL2
  have HS := Lib.hid (And.intro hsorted hoks)
  have HP := Lib.hid hperm
  have Hb2 := Lib.hid hb2
  clear hown2 hg2 hb1 hA2 hL2 hsorted hoks hsort hb2 hperm
  subst hsl
  go_wp2_with fail
  go_loopw [14, 4] (fun i v wr => ∃ (k : Nat) (o : List (Int × Int)), k ≤ s.length ∧ i = .int .i64 k ∧ wr.ownsRow w2.heap.size 23 2 v o.length (flat o) ∧ Below w2.heap.size w2 wr ∧ Hid (Mrg s o k) ∧ o.length ≤ k) (fun i _ _ => s.length - (intOf i).toNat)
  case atStart => exact ⟨0, [], Nat.zero_le _, rfl, World.ownsRow_nil _ _ _ _, Below.refl _ _, Lib.hid ⟨NF.nil, fun n => by simp [inB_nil], by simp, by simp, by simp⟩, by simp⟩
  case round =>
    obtain ⟨k, o, hk, rfl, hown, hb, hm, hol⟩ := hrel
    have HO := Lib.hid hown
    clear hown
    by_cases hlt : k < s.length
    · obtain ⟨b, of, rfl, hbl, hc⟩ := HL.out.ivs (by omega)
      have h1 := (hb.cell (p := ⟨b, of + k * 2, none⟩) hbl).trans (hc k hlt).1
      have h2 := (hb.cell (p := ⟨b, of + k * 2 + 1, none⟩) hbl).trans (hc k hlt).2
      have hbd := HS.out.2 s[k] (List.getElem_mem hlt)
      have hbs := hb.size
      clear hc
      rcases List.eq_nil_or_concat o with rfl | ⟨o', q, rfl⟩
      · obtain ⟨A3, c3, rfl, hA3, _⟩ := own_lies HO.out
        have HN := Lib.hid (mrg_new hm.out hlt hbd.2.1 (by simp))
        clear hA3
        generalize s[k].1 = lo at *
        generalize s[k].2 = hi' at *
        go_wp2_with fail
        go_quiet (fail)
        go_wp2_with (at_builtin; refine wpList_app rfl _ _ _ rfl w2.heap.size 23 i0 _ 2 16 Try.underlying33 hi hz0 hz1 hz2 rfl (by decide) _ _ _ rfl ((HO.out.alloc _).alloc _) _ 1 1 (flat [(lo, hi')]) rfl (fun e => by cases e) rfl (lies_new [(lo, hi')] ?c2 rfl) (flat_oneCell _) ?c3 ?c4 ?c5 ?_)
        case c2 => simp
        case c3 => unfold maxLen; simp
        case c4 => simp
        case c5 => simp; omega
        intro v3 w3 hown3 hgr _
        have hb3 : Below w2.heap.size w2 w3 := by
          have hx : Below w2.heap.size w2 wr := hb
          have hz : Below w2.heap.size w2 (((wr.alloc (.cells #[.int .i64 lo, .int .i64 hi'] 23)).drewN nq).alloc (.cells #[.int .i64 lo, .int .i64 hi'] 23)) := by
            repeat (first | exact hx | refine below_drewN ?_ _ | refine below_alloc ?_ _)
          exact hz.grown hgr hz.size (fun k hk => (HO.out.lt k hk).1)
        rw [← flat_append] at hown3
        have HO3 := Lib.hid hown3
        clear hown3 hgr HO hb
        go_wp2
        go_roundw
        case rel => exact ⟨k + 1, _, by omega, by go_num, HO3.out, hb3, HN, by simp⟩
        case measure => simp [intOf]; omega
      · rw [List.concat_eq_append] at *
        obtain ⟨g, cap, rfl, hg1, hg2, hg3, hg4, hg5, hg6⟩ := own_cells HO.out
        have hol2 : o'.length + 1 ≤ k := by simpa using hol
        have hlen : (o' ++ [q]).length = o'.length + 1 := by simp
        have HOq := HO.out
        rw [hlen] at HOq
        have HO := Lib.hid HOq
        have hbq : -1000000000000 ≤ q.2 ∧ q.2 ≤ 1000000000000 := by
          obtain ⟨r, hr, e⟩ := hm.out.2.2.2.1 q (by simp)
          have := HS.out.2 r (List.mem_of_mem_take hr)
          omega
        clear HOq hlen hol
        by_cases hj : s[k].1 ≤ q.2 + 1
        · have HJ := Lib.hid (mrg_join hm.out HS.out.1 hlt hbd.2.1 hj)
          generalize s[k].1 = lo at *
          generalize s[k].2 = hi' at *
          have hlast0 : (0 : Int) ≤ (o'.length : Int) := by omega
          go_wp2_with fail
          go_quiet (fail)
          go_wp2_with fail
          have hd := Lib.hid (below_drewN (below_alloc hb (.cells #[.int .i64 lo, .int .i64 hi'] 23)) nq)
          have hlast1 : (o'.length : Int) < (o'.length : Int) + 1 := by omega
          go_region_law (first | (go_simp; go_at_call 42; refine (hull_any _ _ _ _ _).mono ?_; rintro e w4 ⟨rfl, hb4⟩; obtain ⟨hc4, hf4⟩ := bcell hb4; have hz4 := hb4.size; simp at hz4; have q4 : g < w4.heap.size := (by omega)))
          all_goals
            have HO4 := Lib.hid (own_below (v := .slice (some ⟨g, 0, none⟩) (o'.length + 1) cap) (n := o'.length + 1) (xs := flat (o' ++ [q])) (base := w2.heap.size) (e := 23) (size := 2) (by exact HO.out.alloc _) hb4)
            have hb5 : Below w2.heap.size w2 w4 := by
              refine below_trans ?_ hb4
              repeat (first | exact hd.out | exact hb | refine below_drewN ?_ _ | refine below_drewN ?_ 1 | refine below_alloc ?_ _)
            have HJ4 := Lib.hid (own_join HO4.out (min q.1 lo) (max q.2 hi'))
            clear hc4 hf4 hb4 HO4 hd hb HO
            go_wp2
            go_roundw
            case rel =>
              refine ⟨k + 1, _, by omega, by go_num, ?_, ?_, HJ, by simp; omega⟩
              · have h := HJ4.out
                have e : (o' ++ [(min q.1 lo, max q.2 hi')]).length = o'.length + 1 := by simp
                rw [e]
                exact h
              · repeat (first | exact hb5 | refine below_drewN ?_ _ | refine below_set ?_ (by simp; omega) _ | refine below_alloc ?_ _)
            case measure => simp [intOf]; omega
        · have HN := Lib.hid (mrg_new hm.out hlt hbd.2.1 (fun r hr => by have := hm.out.1.last_max r hr; omega))
          generalize s[k].1 = lo at *
          generalize s[k].2 = hi' at *
          go_wp2_with fail
          go_quiet (fail)
          go_wp2_with (at_builtin; refine wpList_app rfl _ _ _ rfl w2.heap.size 23 i0 _ 2 16 Try.underlying33 hi hz0 hz1 hz2 rfl (by decide) _ _ _ rfl ((HO.out.alloc _).alloc _) _ 1 1 (flat [(lo, hi')]) rfl (fun e => by cases e) rfl (lies_new [(lo, hi')] ?c2 rfl) (flat_oneCell _) ?c3 ?c4 ?c5 ?_)
          case c2 => simp
          case c3 => unfold maxLen; omega
          case c4 => omega
          case c5 => simp; omega
          intro v3 w3 hown3 hgr _
          have hb3 : Below w2.heap.size w2 w3 := by
            have hx : Below w2.heap.size w2 wr := hb
            have hz : Below w2.heap.size w2 (((wr.alloc (.cells #[.int .i64 lo, .int .i64 hi'] 23)).drewN nq).alloc (.cells #[.int .i64 lo, .int .i64 hi'] 23)) := by
              repeat (first | exact hx | refine below_drewN ?_ _ | refine below_alloc ?_ _)
            exact hz.grown hgr hz.size (fun k hk => (HO.out.lt k hk).1)
          have HO3 : Hid (w3.ownsRow w2.heap.size 23 2 v3 (o' ++ [q] ++ [(lo, hi')]).length (flat (o' ++ [q] ++ [(lo, hi')]))) := Lib.hid (by
            have e : (o' ++ [q] ++ [(lo, hi')]).length = o'.length + 1 + 1 := by simp
            rw [flat_append, e]
            exact hown3)
          clear hown3 hgr HO hb
          go_wp2
          go_roundw
          case rel => exact ⟨k + 1, _, by omega, by go_num, HO3.out, hb3, HN, by simp; omega⟩
          case measure => simp [intOf]; omega
    · have hfin := hm.out
      have hkk : k = s.length := by omega
      rw [hkk, Mrg, List.take_length] at hfin
      have HF : Hid (NF o ∧ (∀ x, inB o x = inB l x) ∧ Ok o) := Lib.hid ⟨hfin.1, fun x => (hfin.2.1 x).trans (inB_perm HP.out x), fun p hp => by
        obtain ⟨r1, hr1, e1⟩ := hfin.2.2.1 p hp
        obtain ⟨r2, hr2, e2⟩ := hfin.2.2.2.1 p hp
        have h1 := HS.out.2 r1 hr1
        have h2 := HS.out.2 r2 hr2
        have h3 := hfin.1.1 p hp
        omega⟩
      have hbw : Below w.heap.size w wr := Hb2.out.trans (hb.mono Hb2.out.size)
      have HOw : Hid (wr.ownsRow w.heap.size 23 2 _ o.length (flat o)) := Lib.hid (own_base HO.out Hb2.out.size)
      clear hfin hb Hb2
      go_wp2
      go_ret
      exact ⟨_, o, rfl, ⟨HOw.out, hbw⟩, HF.out.1, HF.out.2.1, HF.out.2.2, by omega⟩
end Go.Proofs.Ytofpiedhenephaa.Sp
