/- What the laid table of powers gives the library's contracts: FormatInt, ParseInt at known arguments. -/
import Derived.Test.YtmoppmpnbkemdaaDoorLxShelf
import Derived.Test.YtmoppmpnbkemdaaDoorEvS
import Derived.Lib.LaidTab
import Derived.Lib.AppendIntMem
import Derived.Sort.Grow
namespace Go.Proofs.YtmoppmpnbkemdaaDoor.Ev
open Go.RowKit Go.Lib Go.Sort
set_option linter.unusedVariables false
def Tab (w : World) : Prop := Lib.TabIs Tryd.prog w "internal/strconv.uint64pow10" .u64 Lib.pow10Tab
theorem Tab.on {w w' : World} (h : Tab w) (hb : Below w.heap.size w w') : Tab w' := Lib.tabBelow_of_tabIs h w' hb
theorem below_grow (w : World) (k : Nat) (os : Array Obj) : Below w.heap.size w (grow (w.drewN k) os) := by
  refine ⟨rfl, rfl, rfl, by simp [grow, World.drewN], fun j hj => ?_⟩
  show (w.heap ++ os)[j]? = w.heap[j]?
  rw [Array.getElem?_append_left hj]
theorem format_known (n : Int) (h0 : -9223372036854775808 ≤ n) (h1 : n ≤ 9223372036854775807) (w : World) (ht : Tab w) :
    Calls Tryd.prog 34 #[.int .i64 n, .int .i64 10] w fun e w' => e = .returned (.string ⟨(Lib.itoa n).toArray⟩) ∧ Below w.heap.size w w' := by
  refine (shelf_strconv_FormatInt_10 n h0 h1 w ht).mono ?_
  rintro e w' ⟨he, k, os, rfl⟩
  exact ⟨he, below_grow w k os⟩
theorem parse_known (l : List UInt8) (v : Int) (h : Lib.parseIntB 64 l = .ok v) (hl : l.length ≤ 1000) (w : World) :
    Calls Tryd.prog 47 #[.string ⟨l.toArray⟩, .int .i64 10, .int .i64 64] w fun e w' => e = .returned (.tuple #[.int .i64 v, .nilIface]) ∧ Below w.heap.size w w' := by
  have hs : (⟨l.toArray⟩ : ByteArray).size ≤ 9223372036854775806 := by show l.toArray.size ≤ _; rw [List.size_toArray]; omega
  refine (shelf_strconv_ParseInt_10_at64_ok ⟨l.toArray⟩ hs v (by simpa using h) w).mono ?_
  rintro e w' ⟨he, hw⟩
  refine ⟨he, ?_⟩
  rcases hw with rfl | ⟨t, rfl⟩
  · exact Below.refl _ _
  · exact Lib.bytesWorld_below _ _ _
end Go.Proofs.YtmoppmpnbkemdaaDoor.Ev
