/- Lists of lists: checkLists and Concat. -/
import Derived.Test.YtofpiedhenephaaSpD
namespace Go.Proofs.Ytofpiedhenephaa.Sp
open Go.RowKit Go.Lib
set_option linter.unusedVariables false

/-- a slice of intervals: where it lies, its capacity, what it holds -/
structure Sl where
  A : Option Addr
  c : Nat
  l : List (Int × Int)
def Sl.v (s : Sl) : Value := .slice s.A s.l.length s.c
def Sl.at_ (s : Sl) (w : World) : Prop := (s.A = none → s.c = 0) ∧ Lies w s.A (flat s.l)
def LiesS (w : World) (A : Option Addr) (S : List Sl) : Prop := Lies w A (S.map Sl.v) ∧ ∀ s ∈ S, s.at_ w
theorem Sl.at_.below {s : Sl} {w w' : World} (h : s.at_ w) (hb : Below w.heap.size w w') : s.at_ w' := ⟨h.1, h.2.below (Nat.le_refl _) hb⟩
def cat (S : List Sl) : List (Int × Int) := S.flatMap (·.l)
theorem LiesS.cell {w : World} {A : Option Addr} {S : List Sl} (h : LiesS w A S) (hl : 0 < S.length) :
    ∃ b o, A = some ⟨b, o, none⟩ ∧ b < w.heap.size ∧ ∀ k (hk : k < S.length), w.cell? ⟨b, o + k, none⟩ = some (.slice S[k].A S[k].l.length S[k].c) := by
  obtain ⟨b, o, e, hlt, hc⟩ := h.1 (by simpa using hl)
  exact ⟨b, o, e, hlt, fun k hk => hc k _ (by rw [List.getElem?_map, List.getElem?_eq_getElem hk]; rfl)⟩
theorem cat_take (S : List Sl) (k : Nat) (h : k < S.length) : cat (S.take (k + 1)) = cat (S.take k) ++ S[k].l := by
  rw [cat, List.take_succ_eq_append_getElem h, List.flatMap_append]
  simp [cat]
theorem cat_take_le (S : List Sl) (k : Nat) : (cat (S.take k)).length ≤ (cat S).length := by
  have : cat S = cat (S.take k) ++ cat (S.drop k) := by rw [cat, cat, cat, ← List.flatMap_append, List.take_append_drop]
  rw [this, List.length_append]
  omega
/-- the first error of lists -/
def listsE (S : List Sl) : Int := if S.any (fun s => decide (10000 < s.l.length)) then 7 else allE (cat S)

set_option maxHeartbeats 400000 in
theorem concat_any (A : Option Addr) (n c : Nat) (S : List Sl) (w : World) (hl : S.length = n) (hL : LiesS w A S) (hn : n ≤ 1000) (ht : (cat S).length ≤ 20000) :
    Calls Try.prog 49 #[.slice A n c] w fun e w' => ∃ v, e = .returned v ∧ Own w w' v (cat S) := by
  obtain ⟨i0, hi, hz0, hz1, hz2⟩ := info_parts ivInfo
  subst hl
  have HL := Lib.hid hL
  clear hL
  go_enter Try.func49, Try.ntmps49
  go_wp2
  go_loop [11, 3] (fun i t => ∃ k : Nat, k ≤ S.length ∧ i = .int .i64 k ∧ t = .int .i64 (cat (S.take k)).length) (fun i _ => S.length - (intOf i).toNat)
  case atStart => exact ⟨0, Nat.zero_le _, rfl, rfl⟩
  case round =>
    obtain ⟨k, hk, rfl, rfl⟩ := hrel
    by_cases hlt : k < S.length
    · obtain ⟨b, o, rfl, hbl, hc⟩ := HL.out.cell (by omega)
      have h1 := hc k hlt
      have hle := cat_take_le S (k + 1)
      have HS : Hid (((cat (S.take (k + 1))).length : Int) = (cat (S.take k)).length + S[k].l.length) := Lib.hid (by rw [cat_take S k hlt, List.length_append]; omega)
      have hle2 : (cat (S.take k)).length + S[k].l.length ≤ 20000 := by rw [cat_take S k hlt, List.length_append] at hle; omega
      clear hc hle
      generalize S[k] = s at *
      go_wp2
      go_round
      case rel => exact ⟨k + 1, by omega, by go_num, by rw [HS.out]⟩
      case measure => simp [intOf]; omega
    · have e : k = S.length := by omega
      subst e
      have hg := fun W => grow_nil (cat S).length W ht
      have e1 : cat (S.take S.length) = cat S := by rw [List.take_length]
      rw [e1]
      go_wp2_with (go_at_call 59; refine (hg _).mono ?_; rintro e w1 ⟨v1, rfl, hown1, hb1⟩)
      go_loopw [27, 6] (fun i v wr => ∃ k : Nat, k ≤ S.length ∧ i = .int .i64 k ∧ wr.ownsRow w.heap.size 23 2 v (cat (S.take k)).length (flat (cat (S.take k))) ∧ Below w.heap.size w wr) (fun i _ _ => S.length - (intOf i).toNat)
      case atStart => exact ⟨0, Nat.zero_le _, rfl, hown1, hb1⟩
      case round =>
        clear hown1 hb1 hk hlt
        obtain ⟨k, hk, rfl, hown, hb⟩ := hrel
        by_cases hlt : k < S.length
        · obtain ⟨b, o, rfl, hbl, hc⟩ := HL.out.cell (by omega)
          have h1 := (hb.cell (p := ⟨b, o + k, none⟩) hbl).trans (hc k hlt)
          have hle := cat_take_le S (k + 1)
          have HS : Hid (cat (S.take (k + 1)) = cat (S.take k) ++ S[k].l) := Lib.hid (cat_take S k hlt)
          have hle2 : (cat (S.take k)).length + S[k].l.length ≤ 20000 := by rw [cat_take S k hlt, List.length_append] at hle; omega
          have hat := Lib.hid ((HL.out.2 S[k] (List.getElem_mem hlt)).below hb)
          clear hc hle
          generalize S[k] = s at *
          have H1 := Lib.hid (flat_oneCell s.l)
          have H2 : Hid ((flat s.l).length = s.l.length * 2) := Lib.hid (by rw [flat_length]; omega)
          have HO := Lib.hid hown
          clear hown
          go_wp2_with (at_builtin; refine wpList_app rfl _ _ _ rfl w.heap.size 23 i0 _ 2 16 Try.underlying33 hi hz0 hz1 hz2 rfl (by decide) _ _ _ rfl HO.out s.A s.l.length s.c (flat s.l) rfl hat.out.1 H2.out hat.out.2 H1.out ?c3 ?c4 ?c5 ?_)
          case c3 => unfold maxLen; omega
          case c4 => omega
          case c5 => exact hb.size
          · intro v' w' hown hg _
            have hb' : Below w.heap.size w w' := hb.grown hg hb.size (fun k hk => (HO.out.lt k hk).1)
            have HO' := Lib.hid hown
            clear hown hg hb HO
            go_wp2
            go_roundw
            case rel => exact ⟨k + 1, by omega, by go_num, by rw [HS.out, List.length_append, flat_append]; exact HO'.out, hb'⟩
            case measure => simp [intOf]; omega
        · have e : k = S.length := by omega
          subst e
          rw [List.take_length] at hown
          have HO := Lib.hid hown
          clear hown
          go_wp2
          go_ret
          exact ⟨_, rfl, HO.out, hb⟩

theorem Own.sl {w w' : World} {v : Value} {l : List (Int × Int)} (h : Own w w' v l) : ∃ A c, v = .slice A l.length c ∧ (A = none → c = 0) ∧ Lies w' A (flat l) := own_lies h.1

set_option maxHeartbeats 400000 in
theorem checkLists_any (A : Option Addr) (n c : Nat) (S : List Sl) (w : World) (hl : S.length = n) (hL : LiesS w A S) (hn : n ≤ 2) :
    Calls Try.prog 47 #[.slice A n c] w fun e w' => e = .returned (.int .i64 (listsE S)) ∧ Below w.heap.size w w' := by
  subst hl
  have HL := Lib.hid hL
  clear hL
  go_enter Try.func47, Try.ntmps47
  go_wp2
  go_loop [7] (fun i => ∃ k : Nat, k ≤ S.length ∧ i = .int .i64 k ∧ Hid ((S.take k).any (fun s => decide (10000 < s.l.length)) = false)) (fun i => S.length - (intOf i).toNat)
  case atStart => exact ⟨0, Nat.zero_le _, rfl, rfl⟩
  case round =>
    obtain ⟨k, hk, rfl, hgood⟩ := hrel
    by_cases hlt : k < S.length
    · obtain ⟨b, o, rfl, hbl, hc⟩ := HL.out.cell (by omega)
      have h1 := hc k hlt
      have hm : S[k].l.length ≤ 9223372036854775807 ∨ 10000 < S[k].l.length := by omega
      clear hc hm
      by_cases hbig : 10000 < S[k].l.length
      · have HB := Lib.hid hbig
        have hbig' : (10000 : Int) < (S[k].l.length : Int) := by omega
        clear hbig
        go_wp2
        go_ret
        exact ⟨ret_int (by rw [listsE, if_pos (any_of_at _ S k hlt (by simp [HB.out]))]), Below.refl _ _⟩
      · have HB := Lib.hid hbig
        have hbig' : (S[k].l.length : Int) ≤ 10000 := by omega
        clear hbig
        go_wp2
        go_round
        case rel => exact ⟨k + 1, by omega, by go_num, (by rw [any_take_succ _ _ _ hlt, hgood.out]; simp; have := HB.out; omega : _ = false)⟩
        case measure => simp [intOf]; omega
    · have hfull := Lib.hid (any_full _ S k (by omega) hgood.out)
      have hsmall : ∀ s ∈ S, s.l.length ≤ 10000 := fun s hs => by
        have := hfull.out
        rw [List.any_eq_false] at this
        have := this s hs
        simp at this
        omega
      have htot : (cat S).length ≤ 20000 := by
        have h0 : ∀ T : List Sl, (∀ s ∈ T, s.l.length ≤ 10000) → (cat T).length ≤ 10000 * T.length := fun T => by
          induction T with
          | nil => intro _; simp [cat]
          | cons s r ih =>
            intro hT
            have h1 := hT s (by simp)
            have h2 := ih (fun q hq => hT q (by simp [hq]))
            have : cat (s :: r) = s.l ++ cat r := by simp [cat]
            rw [this, List.length_append, List.length_cons]
            omega
        have := h0 S hsmall
        omega
      have hcon := fun W (h : LiesS W A S) => concat_any A S.length c S W rfl h (by omega) htot
      have hL1 := HL.out
      have HC := Lib.hid hcon
      have HL1 := Lib.hid hL1
      clear hcon hL1 hgood hsmall
      go_wp2_with fail
      refine (HC.out _ HL1.out).mono ?_
      rintro e w1 ⟨v, rfl, hown⟩
      obtain ⟨A1, c1, rfl, hA1, hL1⟩ := hown.sl
      have hck := Lib.hid (checkEach_any A1 (cat S).length c1 (cat S) w1 rfl hL1 (by omega))
      have hb1 := Lib.hid hown.2
      clear hown hL1 hA1
      go_wp2_with fail
      refine hck.out.mono ?_
      rintro e w2 ⟨rfl, hb2⟩
      go_wp2
      go_ret
      exact ⟨ret_int (by rw [listsE, hfull.out]; rfl), below_trans hb1.out hb2⟩
end Go.Proofs.Ytofpiedhenephaa.Sp
