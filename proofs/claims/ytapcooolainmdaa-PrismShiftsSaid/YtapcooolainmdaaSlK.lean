/- A list of points that a run has made itself is a slice that can be read, for the functions that it is handed to. -/
import Derived.Test.YtapcooolainmdaaSlF
import Derived.Test.YtapcooolainmdaaEvM
namespace Go.Proofs.Ytapcooolainmdaa.Ev
open Go.RowKit
set_option linter.unusedVariables false
set_option linter.unusedSimpArgs false
variable {ρ : Env} {P : Program}
theorem sl_of_cells {t e : TypeId} {fs : Array Field} {W : World} {a : Addr} {n m : Nat} {X Y : Nat → Int}
    (ht : P.underlying t = some (.slice e)) (he : P.underlying e = some (.struct fs)) (hinf : (P.info? e).map TypeInfo.size = some 2)
    (h0 : ∀ i, i < n → W.cell? (a.add (i * 2)) = some (.int .i64 (X i))) (h1 : ∀ i, i < n → W.cell? ((a.add (i * 2)).add 1) = some (.int .i64 (Y i))) :
    Sl P W (.slice (some a) n m) n t e (fun k => .agg #[.int .i64 (X k), .int .i64 (Y k)]) (fun i => a.add (i * 2)) ∧ ∀ i, i < n → ∀ w', Below W.heap.size W w' → w'.cell? (a.add (i * 2)) = some (.int .i64 (X i)) ∧ w'.cell? ((a.add (i * 2)).add 1) = some (.int .i64 (Y i)) := by
  obtain ⟨inf, hi, hsz⟩ := Option.map_eq_some_iff.1 hinf
  have hc : ∀ i, i < n → ∀ w', Below W.heap.size W w' → w'.cell? (a.add (i * 2)) = some (.int .i64 (X i)) ∧ w'.cell? ((a.add (i * 2)).add 1) = some (.int .i64 (Y i)) := fun i hi w' hw =>
    ⟨by rw [hw.cell (World.block_lt_of_cell? W _ (h0 i hi))]; exact h0 i hi, by rw [hw.cell (World.block_lt_of_cell? W _ (h1 i hi))]; exact h1 i hi⟩
  refine ⟨⟨fun i hin w' => ?_, fun i hin w' hw => ?_⟩, hc⟩
  · have hb' : (0 : Int) ≤ (i : Int) ∧ (i : Int) < (n : Int) := ⟨by omega, by omega⟩
    simp only [Instr.indexAt, asIntOf, pure_bind, Sem.run_bind, run_underlying ht, Result.andThen_ok, Instr.sureAddr, Sem.run_pure]
    simp only [hb', and_self, if_true, Sem.run_bind, run_sizeOf hi, hsz, Result.andThen_ok, Sem.run_pure, Int.toNat_natCast]
  · obtain ⟨c0, c1⟩ := hc i hin w' hw
    have hcell : ∀ (x : Nat) (u : Value), ([.int .i64 (X i), .int .i64 (Y i)] : List Value)[x]? = some u → w'.cell? ((a.add (i * 2)).add x) = some u := by
      intro x u hu
      match x with
      | 0 =>
        have hu' : Value.int .i64 (X i) = u := by simpa using hu
        have z : (a.add (i * 2)).add 0 = a.add (i * 2) := by unfold Addr.add; split <;> simp_all
        rw [z, c0, hu']
      | 1 =>
        have hu' : Value.int .i64 (Y i) = u := by simpa using hu
        rw [c1, hu']
      | x + 2 => simp at hu
    have hl := run_loadCells_list (P := P) w' (a.add (i * 2)) [.int .i64 (X i), .int .i64 (Y i)] hcell
    have hl2 : [Value.int .i64 (X i), Value.int .i64 (Y i)].length = 2 := rfl
    rw [hl2] at hl
    simp only [Instr.loadAt, Instr.sureAddr, loadVar, pure_bind, Sem.run_bind, run_isAgg he, Result.andThen_ok, if_true, bind_assoc, run_sizeOf hi, hsz, hl, Sem.run_pure]
/-- a block of points of a run's own, as a slice -/
theorem own_sl {w0 : Base} {β : Names} {w : World} {H : Heap} (hS : Sim ρ P w0 β H w) {b n cap e : Nat} {cells : List Value} {X Y : Nat → Int} (hb : H[b]? = some (some ⟨cells, e⟩)) (hno : isObj e = false)
    (haf : cells.all af = true) (hX : ∀ i, i < n → (cells[i * 2]?).map (inst ρ) = some (.int .i64 (X i)) ∧ (cells[i * 2 + 1]?).map (inst ρ) = some (.int .i64 (Y i)))
    {t t2 : TypeId} {fs : Array Field} (ht : P.underlying t = some (.slice e)) (ht2 : P.underlying t2 = some (.slice e)) (he : P.underlying e = some (.struct fs)) (hinf : (P.info? e).map TypeInfo.size = some 2)
    {v' : Value} (hr : Rel ρ β (.slice (some ⟨b, 0, none⟩) n cap) v') :
    ∃ A c', ∃ ptr : Nat → Addr, v' = .slice A n c' ∧ Sl P w (.slice A n c') n t2 e (fun k => .agg #[.int .i64 (X k), .int .i64 (Y k)]) ptr ∧ Sl P w (.slice A n c') n t e (fun k => .agg #[.int .i64 (X k), .int .i64 (Y k)]) ptr ∧ Cl w n X Y ptr := by
  obtain ⟨en, c', hen, rfl, _⟩ := hr.slc_inv
  obtain ⟨e1, cs', q1, q2, q3, q4, q5, q6⟩ := hS.cells b _ hb hno
  obtain rfl : en = e1 := Option.some.inj (hen.symm.trans q1)
  have get : ∀ j u, cells[j]? = some u → w.cell? ⟨en.blk, j, none⟩ = some (inst ρ u) := by
    intro j u hu
    obtain ⟨v', g1, g2⟩ := q6 j u hu
    rw [cell_of_row w en.blk j cs' _ (0, 0) q2]
    rw [g1, g2.af_eq (List.all_eq_true.1 haf u (List.mem_of_getElem? hu))]
  have hadd : ∀ j, (⟨en.blk, 0, none⟩ : Addr).add j = ⟨en.blk, j, none⟩ := fun j => by rw [add_none, Nat.zero_add]
  have hadd2 : ∀ j, (⟨en.blk, j, none⟩ : Addr).add 1 = ⟨en.blk, j + 1, none⟩ := fun j => by rw [add_none]
  have h0 : ∀ i, i < n → w.cell? ((⟨en.blk, 0, none⟩ : Addr).add (i * 2)) = some (.int .i64 (X i)) := by
    intro i hi
    obtain ⟨u, g1, g2⟩ := Option.map_eq_some_iff.1 (hX i hi).1
    rw [hadd, get _ _ g1, g2]
  have h1 : ∀ i, i < n → w.cell? (((⟨en.blk, 0, none⟩ : Addr).add (i * 2)).add 1) = some (.int .i64 (Y i)) := by
    intro i hi
    obtain ⟨u, g1, g2⟩ := Option.map_eq_some_iff.1 (hX i hi).2
    rw [hadd, hadd2, get _ _ g1, g2]
  obtain ⟨r1, r2⟩ := sl_of_cells (m := c') ht he hinf h0 h1
  obtain ⟨r3, _⟩ := sl_of_cells (m := c') ht2 he hinf h0 h1
  refine ⟨_, c', _, rfl, r3, r1, ⟨fun i hi w' hw => ?_, fun i hi w' hw => (r2 i hi w' hw).2⟩⟩
  have z : ((⟨en.blk, 0, none⟩ : Addr).add (i * 2)).add 0 = (⟨en.blk, 0, none⟩ : Addr).add (i * 2) := by rw [hadd, add_none, Nat.add_zero]
  show w'.cell? (((⟨en.blk, 0, none⟩ : Addr).add (i * 2)).add 0) = _
  rw [z]; exact (r2 i hi w' hw).1
end Go.Proofs.Ytapcooolainmdaa.Ev
