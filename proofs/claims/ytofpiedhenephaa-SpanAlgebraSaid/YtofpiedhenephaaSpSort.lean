/- slices.SortFunc at intervals, sorted by their begin: the row of the call's own holds a sorted permutation. -/
import Derived.Test.YtofpiedhenephaaSpD
import Derived.Test.YtofpiedhenephaaSpN
import Derived.Test.YtofpiedhenephaaSpShelf
import Derived.Sort.OwnSorted
namespace Go.Proofs.Ytofpiedhenephaa.Sp
open Go.RowKit Go.Lib Go.Shelf
set_option linter.unusedVariables false

def encIv (x : Int × Int) : List Value := [.int .i64 x.1, .int .i64 x.2]

theorem flatK_flat (l : List (Int × Int)) : (Sort.flatK encIv 2 l.toArray).toList = flat l := by
  apply List.ext_getElem?
  intro t
  by_cases ht : t < 2 * l.length
  · have hk : t / 2 < l.length := by omega
    have h1 : (Sort.flatK encIv 2 l.toArray).toList[t]? = some ((encIv l[t / 2])[t % 2]!) := by
      rw [Array.getElem?_toList]
      have hs : t < (Sort.flatK encIv 2 l.toArray).size := by rw [Sort.size_flatK]; simp; omega
      have hs2 : t < l.toArray.size * 2 := by simp; omega
      have hg := Sort.get_flatK encIv 2 l.toArray t hs2
      rw [getElem!_pos (Sort.flatK encIv 2 l.toArray) t hs] at hg
      rw [Array.getElem?_eq_getElem hs, hg]
      simp [hk]
    rw [h1]
    rcases Nat.mod_two_eq_zero_or_one t with h | h
    · have e : t = 2 * (t / 2) := by omega
      rw [h]
      conv => rhs; rw [e]
      rw [flat_lo l (t / 2) hk]; rfl
    · have e : t = 2 * (t / 2) + 1 := by omega
      rw [h]
      conv => rhs; rw [e]
      rw [flat_hi l (t / 2) hk]; rfl
  · rw [List.getElem?_eq_none (by simp; omega), List.getElem?_eq_none (by rw [flat_length]; omega)]

theorem holds_own {w : World} {base g n cap : Nat} {e : TypeId} {l : List (Int × Int)} (hl : l.length = n) (h : w.ownsRow base e 2 (.slice (some ⟨g, 0, none⟩) n cap) n (flat l)) : Sort.HoldsK encIv 2 w g 0 l.toArray := by
  intro j hj
  have hj2 : j < n * 2 := by rw [Sort.size_flatK] at hj; simpa [hl] using hj
  refine ⟨?_, by rw [Nat.zero_add]; exact h.frozenAt j⟩
  rw [Nat.zero_add, h.cellAt j hj2, ← flatK_flat l, Array.getElem?_toList, Array.getElem?_eq_getElem hj, id, getElem!_pos _ j hj]

theorem heap_sortedK {w : World} {g n : Nat} {os : Array Obj} {cur : Array Value} {e : TypeId} {fr : Nat × Nat} (d : Array (Int × Int)) (hb : w.heap[g]? = some (.cells cur e fr)) :
    (sortWorldK encIv 2 w g 0 n d os).heap[g]? = some (.cells (Sort.putCells id 0 (Sort.flatK encIv 2 d) cur) e fr) := by
  have hg : g < w.heap.size := (Array.getElem?_eq_some_iff.1 hb).1
  unfold sortWorldK Sort.putRowK
  rw [Sort.heap_grow_old _ _ (by simpa using hg)]
  simp [Sort.putRow, Sort.mapBlock, Sort.ahead, Array.getElem?_modify, hb, Sort.onCells]

theorem grownBy_sortedK {w : World} {g n : Nat} {os : Array Obj} (d : Array (Int × Int)) : w.grownBy (sortWorldK encIv 2 w g 0 n d os) (some g) := by
  unfold sortWorldK Sort.putRowK
  refine ⟨rfl, rfl, rfl, by simp, fun k hk hne => ?_⟩
  rw [Sort.heap_grow_old _ _ (by simpa using hk)]
  have : g ≠ k := fun e => hne (by rw [e])
  simp [Sort.putRow, Sort.mapBlock, Sort.ahead, Array.getElem?_modify, this]

theorem take_putK (cur : Array Value) (F : Array Value) (h : F.size ≤ cur.size) : (Sort.putCells id 0 F cur).toList.take F.size = F.toList := by
  apply List.ext_getElem?
  intro j
  by_cases hj : j < F.size
  · rw [List.getElem?_take_of_lt hj, Array.getElem?_toList, Array.getElem?_toList]
    simp [Sort.putCells, hj, show j < cur.size by omega]
  · rw [List.getElem?_take_eq_none (by omega), List.getElem?_eq_none (by simp; omega)]

theorem own_sortedK {w : World} {base g n cap m : Nat} {e : TypeId} {os : Array Obj} {l : List (Int × Int)} (hl : l.length = n) (h : w.ownsRow base e 2 (.slice (some ⟨g, 0, none⟩) n cap) n (flat l)) (d : Array (Int × Int)) (hd : d.size = n) :
    (sortWorldK encIv 2 w g 0 m d os).ownsRow base e 2 (.slice (some ⟨g, 0, none⟩) n cap) n (flat d.toList) := by
  rcases h.2 with ⟨h0, _⟩ | ⟨g', cap', cur, hv, hg, hh, h1, h2, h3, h4⟩
  · cases h0
  · injection hv with hv1 hv2 hv3
    injection hv1 with hv1
    injection hv1 with hv1
    subst hv1
    subst hv3
    refine ⟨by rw [flat_length]; simp [hd]; omega, .inr ⟨g, cap, _, rfl, hg, heap_sortedK d hh, h1, h2, by simp [Sort.putCells, h3], ?_⟩⟩
    have hs : n * 2 = (Sort.flatK encIv 2 d).size := by rw [Sort.size_flatK, hd]
    rw [hs, take_putK cur _ (by rw [← hs, h3]; exact Nat.mul_le_mul_right 2 h1)]
    have := flatK_flat d.toList
    simpa using this

theorem ltLo (x y : Int × Int) : ltOf (fun x y : Int × Int => Lib.compareInt x.1 y.1) x y = decide (x.1 < y.1) := by
  unfold ltOf Lib.compareInt
  by_cases h1 : x.1 < y.1
  · simp [h1]
  · by_cases h2 : y.1 < x.1 <;> simp [h1, h2]

theorem swoLo : Sort.SWO (ltOf fun x y : Int × Int => Lib.compareInt x.1 y.1) where
  irrefl x := by rw [ltLo]; simp
  trans x y z h1 h2 := by rw [ltLo] at *; simp at *; omega
  ntrans x y z h1 h2 := by rw [ltLo] at *; simp at *; omega

set_option maxHeartbeats 1000000 in
/-- the closure 'cmp.Compare(a.Lo, b.Lo)' -/
theorem closure_any (x y : Int × Int) (W : World) : Calls Try.prog 57 #[.agg #[.int .i64 x.1, .int .i64 x.2], .agg #[.int .i64 y.1, .int .i64 y.2]] W fun e w' => e = .returned (.int .i64 (Lib.compareInt x.1 y.1)) ∧ ∃ q os', w' = Sort.grow (W.drewN q) os' := by
  have hcon := fun W' => Try.cmp_Compare_int x.1 y.1 W'
  generalize Lib.compareInt x.1 y.1 = r at hcon ⊢
  go_enter Try.func57, Try.ntmps57
  go_wp2_with (go_at_call 58; refine (hcon _).mono ?_; rintro e w' ⟨rfl, rfl⟩)
  go_ret
  exact ⟨rfl, 0, _, by rw [Sort.alloc_eq_grow, Sort.alloc_eq_grow, Sort.grow_grow]; rfl⟩

theorem sort_any (base n : Nat) (v : Value) (l : List (Int × Int)) (w : World) (hl : l.length = n) (hown : w.ownsRow base 23 2 v n (flat l)) (hn : n ≤ 20000) :
    Calls Try.prog 56 #[v, .func (.func 57) #[] #[]] w fun e w' =>
      e = .returned (.tuple #[]) ∧ ∃ s : List (Int × Int), s.Perm l ∧ (s.Pairwise fun p q => p.1 ≤ q.1) ∧ w'.ownsRow base 23 2 v n (flat s) ∧ w.grownBy w' v.ownBlock := by
  rcases hown.2 with ⟨rfl, h0⟩ | ⟨g, cap, cur, rfl, hg, hh, h1, h2, h3, h4⟩
  · have e : l = [] := List.eq_nil_of_length_eq_zero (by omega)
    subst e
    have h := AnyF.slices_SortFunc_none Try.sortIv none 0 (.func (.func 57) #[] #[]) w
    change Calls Try.prog 56 _ _ _ at h
    refine h.mono ?_
    rintro e w' ⟨rfl, rfl⟩
    exact ⟨rfl, [], List.Perm.refl _, List.Pairwise.nil, hown, World.grownBy.refl _ _⟩
  · have eg : ∀ args w, (callFunc 57 args).run Try.prog w = .ok (.enter 57 args) w := enters_of Try.func57 (by kernel_rfl) rfl
    have hcmp : CmpLays Try.prog 57 #[] encIv 2 (fun x y => Lib.compareInt x.1 y.1) g 0 l.toArray.size w := fun _ _ _ _ x y => closure_any x y _
    have hsz : l.toArray.size = n := by simpa using hl
    have h := AnyQ.slices_SortFunc Try.sortIv 2 Try.isAgg23 Try.sizeOf23 encIv (fun _ => rfl) (fun x u hu => by simp [encIv] at hu; rcases hu with rfl | rfl <;> rfl) (fun x y => Lib.compareInt x.1 y.1) swoLo 57 #[] g 0 cap l.toArray w eg hcmp (holds_own hl hown) (Array.getElem?_eq_some_iff.1 hh).1 (by omega)
    rw [hsz] at h
    change Calls Try.prog 56 _ _ _ at h
    refine h.mono ?_
    rintro e w' ⟨rfl, d', m, os, hp, hs, rfl⟩
    have hd : d'.size = n := hp.1.trans hsz
    refine ⟨rfl, d'.toList, ?_, ?_, own_sortedK hl hown d' hd, grownBy_sortedK d'⟩
    · have h3 := hp.2.2
      have e1 : d'.extract 0 n = d' := by rw [← hd]; exact Array.extract_size
      have e2 : l.toArray.extract 0 n = l.toArray := by rw [← hsz]; exact Array.extract_size
      rw [e1, e2] at h3
      simpa using h3
    · rw [List.pairwise_iff_getElem]
      intro i j hi hj hij
      have := hs i j (Nat.zero_le _) hij (by simpa [hd] using hj)
      rw [ltLo] at this
      have hi' : i < d'.size := by simpa using hi
      have hj' : j < d'.size := by simpa using hj
      rw [getElem!_pos d' i hi', getElem!_pos d' j hj'] at this
      simpa using this
end Go.Proofs.Ytofpiedhenephaa.Sp
