/- gaps; Union, Minus, Common. -/
import Derived.Test.YtofpiedhenephaaSpP
namespace Go.Proofs.Ytofpiedhenephaa.Sp
open Go.RowKit Go.Lib
set_option linter.unusedVariables false

/-- where the round of gaps stands -/
def Gap (l o : List (Int × Int)) (k : Nat) (next : Int) : Prop :=
  NF o ∧ (∀ n, inB o n = true ↔ (-1000000000000 ≤ n ∧ n < next ∧ inB (l.take k) n = false)) ∧ (∀ p ∈ o, p.2 + 2 ≤ next) ∧ (∀ n, inB (l.take k) n = true → n < next) ∧
    (∀ (h : k < l.length), next ≤ l[k].1) ∧ -1000000000000 ≤ next ∧ next ≤ 1000000000001 ∧ o.length ≤ k

theorem gap_start {l : List (Int × Int)} (hok : Ok l) : Gap l [] 0 (-1000000000000) :=
  ⟨NF.nil, fun n => by simp [inB_nil] <;> omega, by simp, by simp [inB_nil], fun h => (hok l[0] (List.getElem_mem h)).1, by omega, by omega, by simp⟩

theorem inB_single (a b n : Int) : inB [(a, b)] n = true ↔ a ≤ n ∧ n ≤ b := by simp [inB_cons, inB_nil]

theorem gap_next {l o : List (Int × Int)} {k : Nat} {next : Int} (h : Gap l o k next) (hnf : NF l) (hok : Ok l) (hk : k < l.length) :
    Gap l (if next < l[k].1 then o ++ [(next, l[k].1 - 1)] else o) (k + 1) (l[k].2 + 1) := by
  obtain ⟨h1, h2, h3, h4, h5, h6, h7, h8⟩ := h
  have hb := hok l[k] (List.getElem_mem hk)
  have hn := h5 hk
  have ht : ∀ n, inB (l.take (k + 1)) n = false ↔ inB (l.take k) n = false ∧ ¬ (l[k].1 ≤ n ∧ n ≤ l[k].2) := fun n => by
    rw [inB_take_succ l k hk, Bool.or_eq_false_iff]
    simp
  have hout : ∀ n, next ≤ n → inB (l.take k) n = false := fun n hge => by
    rcases hx : inB (l.take k) n with _ | _
    · rfl
    · have := h4 n hx; omega
  have hnx : ∀ (h : k + 1 < l.length), l[k].2 + 1 ≤ l[k + 1].1 := fun h => by have := hnf.next k h; omega
  have h4' : ∀ n, inB (l.take (k + 1)) n = true → n < l[k].2 + 1 := fun n hn' => by
    rw [inB_take_succ l k hk, Bool.or_eq_true] at hn'
    rcases hn' with hn' | hn'
    · have := h4 n hn'; omega
    · simp at hn'; omega
  split
  · rename_i hlt
    refine ⟨h1.snoc (by simp only; omega) (fun q hq => h3 q hq), fun n => ?_, fun p hp => ?_, h4', hnx, by omega, by omega, by simp; omega⟩
    · rw [inB_append, Bool.or_eq_true, h2 n, inB_single, ht n]
      constructor
      · rintro (⟨a, b, c⟩ | ⟨a, b⟩)
        · exact ⟨a, by omega, c, by omega⟩
        · exact ⟨by omega, by omega, hout n a, by omega⟩
      · rintro ⟨a, b, c, d⟩
        by_cases hc : n < next
        · exact .inl ⟨a, hc, c⟩
        · exact .inr ⟨by omega, by omega⟩
    · rw [List.mem_append] at hp
      rcases hp with hp | hp
      · have := h3 p hp; omega
      · simp at hp; subst hp; simp only; omega
  · rename_i hge
    refine ⟨h1, fun n => ?_, fun p hp => by have := h3 p hp; omega, h4', hnx, by omega, by omega, by omega⟩
    rw [h2 n, ht n]
    constructor
    · rintro ⟨a, b, c⟩
      exact ⟨a, by omega, c, by omega⟩
    · rintro ⟨a, b, c, d⟩
      exact ⟨a, by omega, c⟩

theorem gap_end {l o : List (Int × Int)} {next : Int} (h : Gap l o l.length next) (hok : Ok l) :
    NF (if next ≤ 1000000000000 then o ++ [(next, 1000000000000)] else o) ∧ (∀ n, inB (if next ≤ 1000000000000 then o ++ [(next, 1000000000000)] else o) n = true ↔ (-1000000000000 ≤ n ∧ n ≤ 1000000000000 ∧ inB l n = false)) := by
  obtain ⟨h1, h2, h3, h4, h5, h6, h7, h8⟩ := h
  rw [List.take_length] at h2 h4
  have hout : ∀ n, next ≤ n → inB l n = false := fun n hge => by
    rcases hx : inB l n with _ | _
    · rfl
    · have := h4 n hx; omega
  split
  · rename_i hle
    refine ⟨h1.snoc hle (fun q hq => h3 q hq), fun n => ?_⟩
    rw [inB_append, Bool.or_eq_true, h2 n, inB_single]
    constructor
    · rintro (⟨a, b, c⟩ | ⟨a, b⟩)
      · exact ⟨a, by omega, c⟩
      · exact ⟨by omega, by omega, hout n a⟩
    · rintro ⟨a, b, c⟩
      by_cases hc : n < next
      · exact .inl ⟨a, hc, c⟩
      · exact .inr ⟨by omega, by omega⟩
  · rename_i hgt
    refine ⟨h1, fun n => ?_⟩
    rw [h2 n]
    constructor
    · rintro ⟨a, b, c⟩
      exact ⟨a, by omega, c⟩
    · rintro ⟨a, b, c⟩
      exact ⟨a, by omega, c⟩

set_option maxHeartbeats 1600000 in
theorem gaps_any (A : Option Addr) (n c : Nat) (l : List (Int × Int)) (w : World) (hl : l.length = n) (hL : Lies w A (flat l)) (hn : n ≤ 20000) (hnf : NF l) (hok : Ok l) :
    Calls Try.prog 51 #[.slice A n c] w fun e w' => ∃ v o, e = .returned v ∧ Own w w' v o ∧ NF o ∧ (∀ x, inB o x = true ↔ (-1000000000000 ≤ x ∧ x ≤ 1000000000000 ∧ inB l x = false)) ∧ o.length ≤ n + 1 := by
  obtain ⟨i0, hi, hz0, hz1, hz2⟩ := info_parts ivInfo
  subst hl
  have HL := Lib.hid hL
  have HK := Lib.hid (And.intro hnf hok)
  clear hL hnf hok
  go_enter Try.func51, Try.ntmps51
  go_wp2
  go_loopw [9, 3, 4] (fun i v x wr => ∃ (k : Nat) (o : List (Int × Int)) (next : Int), k ≤ l.length ∧ i = .int .i64 k ∧ x = .int .i64 next ∧ wr.ownsRow w.heap.size 23 2 v o.length (flat o) ∧ Below w.heap.size w wr ∧ Hid (Gap l o k next) ∧ o.length ≤ k ∧ -1000000000000 ≤ next ∧ next ≤ 1000000000001) (fun i _ _ _ => l.length - (intOf i).toNat)
  case atStart => exact ⟨0, [], -1000000000000, Nat.zero_le _, rfl, rfl, World.ownsRow_nil _ _ _ _, Below.refl _ _, Lib.hid (gap_start HK.out.2), by simp, by omega, by omega⟩
  case round =>
    obtain ⟨k, o, next, hk, rfl, rfl, hown, hb, hg, hol, hn1, hn2⟩ := hrel
    have HO := Lib.hid hown
    clear hown
    by_cases hlt : k < l.length
    · obtain ⟨b, of, rfl, hbl, hc⟩ := HL.out.ivs (by omega)
      have h1 := (hb.cell (p := ⟨b, of + k * 2, none⟩) hbl).trans (hc k hlt).1
      have h2 := (hb.cell (p := ⟨b, of + k * 2 + 1, none⟩) hbl).trans (hc k hlt).2
      have hbd := HK.out.2 l[k] (List.getElem_mem hlt)
      have HN := Lib.hid (gap_next hg.out HK.out.1 HK.out.2 hlt)
      have hbs := hb.size
      clear hc
      generalize l[k].1 = lo at *
      generalize l[k].2 = hi' at *
      by_cases hgap : next < lo
      · have HN2 : Hid (Gap l (o ++ [(next, lo - 1)]) (k + 1) (hi' + 1)) := Lib.hid (by have := HN.out; rwa [if_pos hgap] at this)
        clear HN
        go_wp2_with (at_builtin; refine wpList_app rfl _ _ _ rfl w.heap.size 23 i0 _ 2 16 Try.underlying33 hi hz0 hz1 hz2 rfl (by decide) _ _ _ rfl ((HO.out.alloc _).alloc _) _ 1 1 (flat [(next, lo - 1)]) rfl (fun e => by cases e) rfl (lies_new [(next, lo - 1)] ?c2 rfl) (flat_oneCell _) ?c3 ?c4 ?c5 ?_)
        case c2 => simp
        case c3 => unfold maxLen; omega
        case c4 => omega
        case c5 => simp; omega
        intro v3 w3 hown3 hgr _
        have hz : Below w.heap.size w ((wr.alloc (.cells #[.int .i64 lo, .int .i64 hi'] 23)).alloc (.cells #[.int .i64 next, .int .i64 (lo - 1)] 23)) := below_alloc (below_alloc hb _) _
        have hb3 : Below w.heap.size w w3 := hz.grown hgr hz.size (fun k hk => (HO.out.lt k hk).1)
        have hB := ((Blk.new wr 23 #[.int .i64 lo, .int .i64 hi']).alloc (.cells #[.int .i64 next, .int .i64 (lo - 1)] 23))
        have hB3 : Blk w3 wr.heap.size 23 #[.int .i64 lo, .int .i64 hi'] := (hgr.block wr.heap.size (by simp <;> omega) (fun e => by have := (HO.out.lt _ e.symm).2; omega)).trans hB
        have k0 := hB3.cell 0
        have k1 := hB3.cell 1
        simp at k0 k1
        have HO3 : Hid (w3.ownsRow w.heap.size 23 2 v3 (o ++ [(next, lo - 1)]).length (flat (o ++ [(next, lo - 1)]))) := Lib.hid (by
          rw [flat_append, List.length_append]
          exact hown3)
        clear hown3 hgr HO hb hz hB hB3
        go_wp2
        go_roundw
        case rel => exact ⟨k + 1, _, _, by omega, by go_num, rfl, HO3.out, hb3, HN2, by simp; omega, by omega, by omega⟩
        case measure => simp [intOf]; omega
      · have HN2 : Hid (Gap l o (k + 1) (hi' + 1)) := Lib.hid (by have := HN.out; rwa [if_neg hgap] at this)
        clear HN
        go_wp2
        go_roundw
        case rel => exact ⟨k + 1, o, _, by omega, by go_num, rfl, HO.out.alloc _, below_alloc hb _, HN2, by omega, by omega, by omega⟩
        case measure => simp [intOf]; omega
    · have hkk : k = l.length := by omega
      have hge := hg.out
      rw [hkk] at hge
      have HE := Lib.hid (gap_end hge HK.out.2)
      clear hge hg
      by_cases hlast : next ≤ 1000000000000
      · have HE2 := HE.out
        rw [if_pos hlast] at HE2
        have HF := Lib.hid HE2
        clear HE HE2
        go_wp2_with (at_builtin; refine wpList_app rfl _ _ _ rfl w.heap.size 23 i0 _ 2 16 Try.underlying33 hi hz0 hz1 hz2 rfl (by decide) _ _ _ rfl (HO.out.alloc _) _ 1 1 (flat [(next, 1000000000000)]) rfl (fun e => by cases e) rfl (lies_new [(next, 1000000000000)] ?c2 rfl) (flat_oneCell _) ?c3 ?c4 ?c5 ?_)
        case c2 => simp
        case c3 => unfold maxLen; omega
        case c4 => omega
        case c5 => have := hb.size; simp; omega
        intro v3 w3 hown3 hgr _
        have hb3 : Below w.heap.size w w3 := (below_alloc hb _).grown hgr (by have := hb.size; simp; omega) (fun k hk => (HO.out.lt k hk).1)
        have HO3 : Hid (w3.ownsRow w.heap.size 23 2 v3 (o ++ [(next, 1000000000000)]).length (flat (o ++ [(next, 1000000000000)]))) := Lib.hid (by
          rw [flat_append, List.length_append]
          exact hown3)
        clear hown3 hgr HO hb
        go_wp2
        go_ret
        exact ⟨_, _, rfl, ⟨HO3.out, hb3⟩, HF.out.1, HF.out.2, by simp; omega⟩
      · have HE2 := HE.out
        rw [if_neg hlast] at HE2
        have HF := Lib.hid HE2
        clear HE HE2
        go_wp2
        go_ret
        first
          | exact ⟨_, o, rfl, ⟨HO.out, hb⟩, HF.out.1, HF.out.2, by omega⟩
          | exact ⟨_, rfl, o, ⟨HO.out, hb⟩, HF.out.1, HF.out.2, by omega⟩
end Go.Proofs.Ytofpiedhenephaa.Sp
