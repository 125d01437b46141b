/- The walk of common. -/
import Derived.Test.YtofpiedhenephaaSpF
import Derived.Test.YtofpiedhenephaaSpN
import Derived.Deep.RegionHeld3
import Derived.Deep.DeepCutAuto
namespace Go.Proofs.Ytofpiedhenephaa.Sp
open Go.RowKit Go.Lib
set_option linter.unusedVariables false

/-- a slice of the call's own with normal form: where the round stands -/
theorem app_one {w : World} {base : Nat} {v : Value} {l : List (Int × Int)} (lo hi : Int) : flat (l ++ [(lo, hi)]) = flat l ++ [.int .i64 lo, .int .i64 hi] := by
  rw [flat_append]; rfl

theorem own_below {w w' : World} {base : Nat} {e : TypeId} {size : Nat} {v : Value} {n : Nat} {xs : List Value} (h : w.ownsRow base e size v n xs) (hb : Below w.heap.size w w') : w'.ownsRow base e size v n xs :=
  h.kept (row := none) ⟨hb.os, hb.tape, hb.output, hb.size, fun k hk _ => hb.block k hk⟩ (by rcases h.2 with ⟨rfl, _⟩ | ⟨g, _, _, rfl, _⟩ <;> simp [Value.ownBlock])

set_option maxHeartbeats 1600000 in
theorem common_any (A B : Option Addr) (n m c d : Nat) (l r : List (Int × Int)) (w : World) (hl : l.length = n) (hr : r.length = m) (hL : Lies w A (flat l)) (hR : Lies w B (flat r)) (hn : n ≤ 20000) (hm : m ≤ 20000) (ha : NF l) (hb : NF r) :
    Calls Try.prog 50 #[.slice A n c, .slice B m d] w fun e w' => ∃ v o, e = .returned v ∧ Own w w' v o ∧ NF o ∧ (∀ x, inB o x = (inB l x && inB r x)) ∧ o.length ≤ n + m := by
  obtain ⟨i0, hi, hz0, hz1, hz2⟩ := info_parts ivInfo
  subst hl
  subst hr
  have HL := Lib.hid hL
  have HR := Lib.hid hR
  have Ha := Lib.hid ha
  have Hb := Lib.hid hb
  clear hL hR ha hb
  go_enter Try.func50, Try.ntmps50
  go_wp2
  go_loopw [6, 7, 5] (fun i j v wr => ∃ (x y : Nat) (o : List (Int × Int)), x ≤ l.length ∧ y ≤ r.length ∧ i = .int .i64 x ∧ j = .int .i64 y ∧ wr.ownsRow w.heap.size 23 2 v o.length (flat o) ∧ Below w.heap.size w wr ∧ Hid (Com l r o x y) ∧ o.length ≤ x + y) (fun i j _ _ => (l.length + r.length) - ((intOf i).toNat + (intOf j).toNat))
  case atStart => exact ⟨0, 0, [], Nat.zero_le _, Nat.zero_le _, rfl, rfl, World.ownsRow_nil _ _ _ _, Below.refl _ _, Lib.hid (com_start l r), by simp⟩
  case round =>
    obtain ⟨x, y, o, hx, hy, rfl, rfl, hown, hbl, hcom, hlen⟩ := hrel
    have HO := Lib.hid hown
    clear hown
    by_cases hlx : x < l.length
    · by_cases hly : y < r.length
      · obtain ⟨b1, o1, rfl, hb1, hc1⟩ := HL.out.ivs (by omega)
        obtain ⟨b2, o2, rfl, hb2, hc2⟩ := HR.out.ivs (by omega)
        have h1 := (hbl.cell (p := ⟨b1, o1 + x * 2, none⟩) hb1).trans (hc1 x hlx).1
        have h2 := (hbl.cell (p := ⟨b1, o1 + x * 2 + 1, none⟩) hb1).trans (hc1 x hlx).2
        have h3 := (hbl.cell (p := ⟨b2, o2 + y * 2, none⟩) hb2).trans (hc2 y hly).1
        have h4 := (hbl.cell (p := ⟨b2, o2 + y * 2 + 1, none⟩) hb2).trans (hc2 y hly).2
        have hx0 : (0 : Int) ≤ (x : Int) := by omega
        have hx1 : (x : Int) < (l.length : Int) := by omega
        have hy0 : (0 : Int) ≤ (y : Int) := by omega
        have hy1 : (y : Int) < (r.length : Int) := by omega
        have hbs := hbl.size
        have n1 : wr.heap.size ≠ b1 := by omega
        have n2 : wr.heap.size ≠ b2 := by omega
        clear hc1 hc2
        have HX : Hid (Com l r (addM o l[x] r[y]) (x + 1) y ∨ ¬ l[x].2 < r[y].2) := Lib.hid (by
          by_cases h : l[x].2 < r[y].2
          · exact .inl (com_left Ha.out Hb.out hcom.out hlx hly h)
          · exact .inr h)
        have HY : Hid (Com l r (addM o l[x] r[y]) x (y + 1) ∨ l[x].2 < r[y].2) := Lib.hid (by
          by_cases h : l[x].2 < r[y].2
          · exact .inr h
          · exact .inl (com_right Ha.out Hb.out hcom.out hlx hly (by omega)))
        have HA : Hid (addM o l[x] r[y] = if max l[x].1 r[y].1 ≤ min l[x].2 r[y].2 then o ++ [(max l[x].1 r[y].1, min l[x].2 r[y].2)] else o) := Lib.hid rfl
        generalize addM o l[x] r[y] = O at *
        generalize l[x].1 = p1 at *
        generalize l[x].2 = p2 at *
        generalize r[y].1 = q1 at *
        generalize r[y].2 = q2 at *
        generalize hM1 : max p1 q1 = M1 at *
        generalize hM2 : min p2 q2 = M2 at *
        have HM : Hid (max p1 q1 = M1 ∧ min p2 q2 = M2) := Lib.hid ⟨hM1, hM2⟩
        have hmeet := Lib.hid fun W => meet_any p1 p2 q1 q2 W
        clear hM1 hM2
        rw [HM.out.1, HM.out.2] at hmeet
        go_upto_region 4 with fail
        go_cut [8] (fun p w2 => ∃ g : Nat, p = .pointer (some ⟨g, 0, none⟩) ∧ wr.heap.size ≤ g ∧ g < w2.heap.size ∧ w2.cell? ⟨g, 0, none⟩ = some (.int .i64 M1) ∧ w2.cell? ⟨g, 1, none⟩ = some (.int .i64 M2) ∧ Below wr.heap.size wr w2)
        case first =>
          go_region_held3 (fun w' => w'.cell? ⟨b1, o1 + x * 2, none⟩ = some (.int .i64 p1) ∧ w'.cell? ⟨b1, o1 + x * 2 + 1, none⟩ = some (.int .i64 p2) ∧ w'.cell? ⟨b2, o2 + y * 2, none⟩ = some (.int .i64 q1) ∧ w'.cell? ⟨b2, o2 + y * 2 + 1, none⟩ = some (.int .i64 q2))
            ((go_split_ands; (repeat' apply And.intro); all_goals ((try simp only [far_set n1, far_set n2]); (try simp only [far_set nb1, far_set nb2]); (try simp only [far_alloc lb1, far_alloc lb2]); first | assumption | (rw [hbm.cell (by simp <;> omega)]; first | assumption | simp [*]) | (go_keep; done))))
            ((first | (go_at_call 45; refine (hmeet.out _).mono ?_; rintro e w1 ⟨rfl, hbm⟩; obtain ⟨hcm, hfm⟩ := bcell hbm; have hzm := hbm.size; simp at hzm; have nb1 : w1.heap.size ≠ b1 := (by omega); have nb2 : w1.heap.size ≠ b2 := (by omega); have lb1 : b1 < w1.heap.size := (by omega); have lb2 : b2 < w1.heap.size := (by omega))))
          all_goals (go_wp2_with fail; go_meet)
          · refine ⟨w1.heap.size, rfl, hzm, by simp, by simp [World.cell?_alloc_new], by simp [World.cell?_alloc_new], ?_⟩
            have hd : Below wr.heap.size wr w1 := (below_drewN (Below.refl wr.heap.size wr) 1).trans hbm
            repeat (first | exact hd | refine below_drewN ?_ _ | refine below_alloc ?_ _)
          · have hB : Blk w1 wr.heap.size 23 #[.int .i64 0, .int .i64 0] := by
              have h := hbm.block wr.heap.size (by simp)
              exact h.trans (by first | exact heap_alloc_new wr _ | exact heap_alloc_new wr.drew _)
            have hB2 := (hB.set_ 0 (.int .i64 M1)).set_ 1 (.int .i64 M2)
            have hd : Below wr.heap.size wr w1 := by
              refine Below.trans ?_ (hbm.mono (by simp))
              repeat (first | exact Below.refl _ _ | refine below_drewN ?_ 1 | refine below_alloc ?_ _)
            refine ⟨wr.heap.size, rfl, Nat.le_refl _, hB2.lt, ?_, ?_, ?_⟩
            · simpa using hB2.cell 0
            · simpa using hB2.cell 1
            · repeat (first | exact hd | refine below_drewN ?_ _ | refine below_set ?_ (by simp) _ | refine below_alloc ?_ _)
        case rest =>
          obtain ⟨g, rfl, hg1, hg2, hg3, hg4, hbl2⟩ := hcut
          rename_i w2 _ _
          have HO2 := Lib.hid (own_below HO.out hbl2)
          have hbl3 := Lib.hid (below_trans hbl hbl2)
          have hs3 := hbl3.out.size
          have k1 := (hbl.cell (p := ⟨b1, o1 + x * 2 + 1, none⟩) hb1).symm.trans h2
          have k2 := (hbl.cell (p := ⟨b2, o2 + y * 2 + 1, none⟩) hb2).symm.trans h4
          have K := Lib.hid (And.intro k1 k2)
          clear h1 h2 h3 h4 HO hbl2 hbl hbs k1 k2
          by_cases hm12 : M1 ≤ M2
          · have HE : Hid (O = o ++ [(M1, M2)]) := Lib.hid (by rw [HA.out, if_pos hm12])
            have hOl : O.length = o.length + 1 := by rw [HE.out]; simp
            have HOl := Lib.hid hOl
            have hOl2 : O.length ≤ x + y + 1 := by omega
            clear hOl
            go_wp2_with (at_builtin; refine wpList_app rfl _ _ _ rfl w.heap.size 23 i0 _ 2 16 Try.underlying33 hi hz0 hz1 hz2 rfl (by decide) _ _ _ rfl (HO2.out.alloc _) _ 1 1 (flat [(M1, M2)]) rfl (fun e => by cases e) rfl (lies_new [(M1, M2)] rfl rfl) (flat_oneCell _) ?c3 ?c4 ?c5 ?_)
            case c3 => unfold maxLen; omega
            case c4 => omega
            case c5 => first | omega | (simp; omega)
            intro v3 w3 hown3 hgr _
            have hb3 : Below w.heap.size w w3 := (below_alloc hbl3.out _).grown hgr (by simp; omega) (fun k hk => (HO2.out.lt k hk).1)
            have HO3 : Hid (w3.ownsRow w.heap.size 23 2 v3 O.length (flat O)) := Lib.hid (by rw [HOl.out, HE.out, flat_append]; exact hown3)
            have k1 := (hb3.cell (p := ⟨b1, o1 + x * 2 + 1, none⟩) hb1).trans K.out.1
            have k2 := (hb3.cell (p := ⟨b2, o2 + y * 2 + 1, none⟩) hb2).trans K.out.2
            clear hown3 hgr HO2
            by_cases hlt2 : p2 < q2
            · have HC : Hid (Com l r O (x + 1) y) := Lib.hid (by rcases HX.out with h | h; exact h; omega)
              clear HX HY
              go_wp2_with fail
              go_quiet (fail)
              go_wp2
              go_roundw
              case rel => exact ⟨x + 1, y, O, by omega, hy, by go_num, rfl, HO3.out, below_drewN hb3 _, HC, by omega⟩
              case measure => simp [intOf]; omega
            · have HC : Hid (Com l r O x (y + 1)) := Lib.hid (by rcases HY.out with h | h; exact h; omega)
              clear HX HY
              go_wp2_with fail
              go_quiet (fail)
              go_wp2
              go_roundw
              case rel => exact ⟨x, y + 1, O, hx, by omega, rfl, by go_num, HO3.out, below_drewN hb3 _, HC, by omega⟩
              case measure => simp [intOf]; omega
          · have HE : Hid (O = o) := Lib.hid (by rw [HA.out, if_neg hm12])
            have hOl2 : O.length ≤ x + y := by rw [HE.out]; omega
            have hb3 := hbl3.out
            have HO3 : Hid (_) := Lib.hid (HE.out ▸ HO2.out)
            have k1 := (hb3.cell (p := ⟨b1, o1 + x * 2 + 1, none⟩) hb1).trans K.out.1
            have k2 := (hb3.cell (p := ⟨b2, o2 + y * 2 + 1, none⟩) hb2).trans K.out.2
            by_cases hlt2 : p2 < q2
            · have HC : Hid (Com l r O (x + 1) y) := Lib.hid (by rcases HX.out with h | h; exact h; omega)
              clear HX HY
              go_wp2_with fail
              go_quiet (fail)
              go_wp2
              go_roundw
              case rel => exact ⟨x + 1, y, O, by omega, hy, by go_num, rfl, HO3.out, below_drewN hb3 _, HC, by omega⟩
              case measure => simp [intOf]; omega
            · have HC : Hid (Com l r O x (y + 1)) := Lib.hid (by rcases HY.out with h | h; exact h; omega)
              clear HX HY
              go_wp2_with fail
              go_quiet (fail)
              go_wp2
              go_roundw
              case rel => exact ⟨x, y + 1, O, hx, by omega, rfl, by go_num, HO3.out, below_drewN hb3 _, HC, by omega⟩
              case measure => simp [intOf]; omega
      · have hend := com_end hcom.out (.inr (by omega))
        have HE := Lib.hid hend
        clear hend
        go_wp2
        go_ret
        exact ⟨_, o, rfl, ⟨HO.out, hbl⟩, HE.out.1, HE.out.2, by omega⟩
    · have hend := com_end hcom.out (.inl (by omega))
      have HE := Lib.hid hend
      clear hend
      go_wp2
      go_ret
      exact ⟨_, o, rfl, ⟨HO.out, hbl⟩, HE.out.1, HE.out.2, by omega⟩
end Go.Proofs.Ytofpiedhenephaa.Sp
