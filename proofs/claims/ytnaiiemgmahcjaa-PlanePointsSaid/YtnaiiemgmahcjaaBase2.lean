/- Several blocks that are known whole. -/
import Derived.Test.YtnaiiemgmahcjaaBase
namespace Go.Proofs.Ytnaiiemgmahcjaa.Ba
open Go.RowKit
set_option linter.unusedVariables false

/-- several blocks that are known whole -/
def Blks (w : World) (L : List (Nat × TypeId × List Value)) : Prop := ∀ p ∈ L, Blk w p.1 p.2.1 p.2.2.toArray
theorem Blks.nil {w : World} : Blks w [] := by intro p hp; cases hp
theorem Blks.below {w w' : World} {L : List (Nat × TypeId × List Value)} (h : Blks w L) (hb : Below w.heap.size w w') : Blks w' L := fun p hp => (h p hp).below hb (h p hp).lt
theorem Blks.alloc {w : World} {L : List (Nat × TypeId × List Value)} (h : Blks w L) (o : Obj) : Blks (w.alloc o) L := fun p hp => (h p hp).alloc o
theorem Blks.drew {w : World} {L : List (Nat × TypeId × List Value)} (h : Blks w L) : Blks w.drew L := h
theorem Blks.drewN {w : World} {L : List (Nat × TypeId × List Value)} (h : Blks w L) (n : Nat) : Blks (w.drewN n) L := h
theorem Blks.new {w : World} {L : List (Nat × TypeId × List Value)} (h : Blks w L) (n : Nat) (t : TypeId) (cs : List Value) (hn : n = w.heap.size) : Blks (w.alloc (.cells cs.toArray t)) ((n, t, cs) :: L) := by
  intro p hp
  rcases List.mem_cons.1 hp with rfl | hp
  · exact Blk_at hn
  · exact (h p hp).alloc _
end Go.Proofs.Ytnaiiemgmahcjaa.Ba
