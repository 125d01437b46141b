/- An argument that is a slice of structs of two integers: what its reading gives. -/
import Derived.Test.YtapcooolainmdaaSlC
import Derived.Test.YtapcooolainmdaaRows
import Derived.Deep.Slices
import Derived.Deep.Fields
import Derived.Deep.Strs
import Derived.ChangeSame
import Derived.OpenShut
import Derived.ShutString
import Derived.ChangeOld
import Derived.Lib.SmallJoins
namespace Go.Proofs.Ytapcooolainmdaa.Ev
open Go.RowKit Go.Lib Go.ChangeShapes Go.WideShapes Go.Deep
set_option linter.unusedVariables false
section
variable {H : Type} {enc : TypeId × Value → H} {P : Program} {W : World}
theorem pts_core {t t2 e : TypeId} {f0 f1 : Field} {k : TypeId} {fuel : Nat} {cs : List Value} {z : DataW H × List MemPlace}
    (ht : P.underlying t = some (.slice e)) (ht2 : P.underlying t2 = some (.slice e)) (he : P.underlying e = some (.struct #[f0, f1])) (hinf : (P.info? e).map TypeInfo.size = some 2)
    (h0 : f0.type = k ∧ f0.offset = 0) (h1 : f1.type = k ∧ f1.offset = 1) (hk : P.underlying k = some (.int .i64)) (hkC : P.cellsOf k = 1)
    (hf : DataW.trod enc P W 0 (fun _ => true) true fuel t cs = some z) :
    ∃ A n c, ∃ X Y : Nat → Int, ∃ ptr : Nat → Addr, cs = [.slice A n c] ∧ n ≤ maxLen ∧ Ct W A n X Y ∧ Cl W n X Y ptr ∧ Sl P W (.slice A n c) n t2 e (fun k => .agg #[.int .i64 (X k), .int .i64 (Y k)]) ptr ∧ Sl P W (.slice A n c) n t e (fun k => .agg #[.int .i64 (X k), .int .i64 (Y k)]) ptr := by
  obtain ⟨inf, hi, hsz⟩ := Option.map_eq_some_iff.1 hinf
  have hC : P.cellsOf e = 2 := by simp [Program.cellsOf, hi, hsz]
  rcases open_slice ht hf with ⟨hcs, _⟩ | ⟨a, n, cap, m, nf, D, Pl, hcs, hb, hl, hm, hmm, hx, hi'⟩
  · subst hcs
    exact ⟨none, 0, 0, fun _ => 0, fun _ => 0, fun _ => ⟨0, 0, none⟩, rfl, Nat.zero_le _, (fun h => by omega), ⟨fun i h => by omega, fun i h => by omega⟩, ⟨fun i h => by omega, fun i h => by omega⟩, ⟨fun i h => by omega, fun i h => by omega⟩⟩
  · subst hcs
    simp only [if_true] at hmm
    subst hmm
    have hel : ∀ i, i < n → ∃ x y : Int, W.cell? (a.add (i * 2)) = some (.int .i64 x) ∧ W.cell? ((a.add (i * 2)).add 1) = some (.int .i64 y) := by
      intro i hin
      obtain ⟨cs', hc, ht'⟩ := hi' i (by omega)
      rw [hC] at hc
      obtain ⟨xs, n', _, _, hlen, hxl, hff⟩ := DataW.trod_struct he ht'
      obtain ⟨_, hcl, hat⟩ := World.cells?_some hc
      rw [hC] at hlen
      match cs', hlen with
      | [u0, u1], _ =>
        have hx2 : xs.length = 2 := hxl
        match xs, hx2 with
        | [y0, y1], _ =>
          have g0 := hff 0 f0 rfl
          have g1 := hff 1 f1 rfl
          rw [h0.1, h0.2, hkC] at g0
          rw [h1.1, h1.2, hkC] at g1
          simp at g0 g1
          obtain ⟨x, e0, _, _⟩ := DataW.trod_int hk g0
          obtain ⟨y, e1, _, _⟩ := DataW.trod_int hk g1
          simp at e0 e1
          subst e0 e1
          have a0 := hat 0 (by omega)
          have a1 := hat 1 (by omega)
          refine ⟨x, y, ?_, ?_⟩
          · simpa [Go.Deep.add_add] using a0
          · simpa [Go.Deep.add_add] using a1
    have hel' : ∃ f : Nat → Int × Int, ∀ i, i < n → W.cell? (a.add (i * 2)) = some (.int .i64 (f i).1) ∧ W.cell? ((a.add (i * 2)).add 1) = some (.int .i64 (f i).2) :=
      ⟨fun i => if h : i < n then ((hel i h).choose, (hel i h).choose_spec.choose) else (0, 0), fun i h => by
        have := (hel i h).choose_spec.choose_spec
        simpa [h] using this⟩
    obtain ⟨f, hfx⟩ := hel'
    have hix : ∀ ts, P.underlying ts = some (.slice e) → ∀ i, i < n → ∀ w', (Instr.indexAt ts (.slice (some a) n m) (.int .i64 i)).run P w' = .ok (.pointer (some (a.add (i * 2)))) w' := by
      intro ts hts i hin w'
      have hb' : (0 : Int) ≤ (i : Int) ∧ (i : Int) < (n : Int) := ⟨by omega, by omega⟩
      simp only [Instr.indexAt, asIntOf, pure_bind, Sem.run_bind, run_underlying hts, Result.andThen_ok, Instr.sureAddr, Sem.run_pure]
      simp only [hb', and_self, if_true, Sem.run_bind, run_sizeOf hi, hsz, Result.andThen_ok, Sem.run_pure, Int.toNat_natCast]
    have hld : ∀ i, i < n → ∀ w', Below W.heap.size W w' → (Instr.loadAt e (.pointer (some (a.add (i * 2))))).run P w' = .ok (.agg #[.int .i64 (f i).1, .int .i64 (f i).2]) w' := by
      intro i hin w' hw
      obtain ⟨c0, c1⟩ := hfx i hin
      have b0 := World.block_lt_of_cell? W _ c0
      have b1 := World.block_lt_of_cell? W _ c1
      have hcell : ∀ (x : Nat) (u : Value), ([.int .i64 (f i).1, .int .i64 (f i).2] : List Value)[x]? = some u → w'.cell? ((a.add (i * 2)).add x) = some u := by
        intro x u hu
        match x with
        | 0 =>
          have hu' : Value.int .i64 (f i).1 = u := by simpa using hu
          have z : (a.add (i * 2)).add 0 = a.add (i * 2) := by simp [Go.Deep.add_add]
          rw [z, hw.cell b0, c0, hu']
        | 1 =>
          have hu' : Value.int .i64 (f i).2 = u := by simpa using hu
          rw [hw.cell b1, c1, hu']
        | x + 2 => simp at hu
      have hl := run_loadCells_list (P := P) w' (a.add (i * 2)) [.int .i64 (f i).1, .int .i64 (f i).2] hcell
      have hl2 : [Value.int .i64 (f i).1, Value.int .i64 (f i).2].length = 2 := rfl
      rw [hl2] at hl
      simp only [Instr.loadAt, Instr.sureAddr, loadVar, pure_bind, Sem.run_bind, run_isAgg he, Result.andThen_ok, if_true, bind_assoc, run_sizeOf hi, hsz, hl, Sem.run_pure]
    have d0 : ∀ i, i < n → ∀ w', Below W.heap.size W w' → w'.cell? ((a.add (i * 2)).add 0) = some (.int .i64 (f i).1) := by
      intro i hi w' hw
      have z : (a.add (i * 2)).add 0 = a.add (i * 2) := by simp [Go.Deep.add_add]
      rw [z, hw.cell (World.block_lt_of_cell? W _ (hfx i hi).1)]
      exact (hfx i hi).1
    have d1 : ∀ i, i < n → ∀ w', Below W.heap.size W w' → w'.cell? ((a.add (i * 2)).add 1) = some (.int .i64 (f i).2) := by
      intro i hi w' hw
      rw [hw.cell (World.block_lt_of_cell? W _ (hfx i hi).2)]
      exact (hfx i hi).2
    exact ⟨some a, n, m, fun k => (f k).1, fun k => (f k).2, fun k => a.add (k * 2), rfl, by omega, (fun _ => ⟨a, rfl, fun i hi w' hw => ⟨by rw [hw.cell (World.block_lt_of_cell? W _ (hfx i hi).1)]; exact (hfx i hi).1, by have q := d1 i hi w' hw; rw [Go.Deep.add_add] at q; exact q⟩⟩), ⟨d0, d1⟩, ⟨hix t2 ht2, hld⟩, ⟨hix t ht, hld⟩⟩
theorem prism_open {tp t t2 e : TypeId} {g0 g1 g2 : Field} {f0 f1 : Field} {k : TypeId} {base : Nat} {v : Value} {d : DataW H} {p : List MemPlace}
    (hp : P.underlying tp = some (.struct #[g0, g1, g2])) (hpC : P.cellsOf tp = 3) (htC : P.cellsOf t = 1) (k0 : g0.type = t ∧ g0.offset = 0) (k1 : g1.type = k ∧ g1.offset = 1) (k2 : g2.type = k ∧ g2.offset = 2)
    (ht : P.underlying t = some (.slice e)) (ht2 : P.underlying t2 = some (.slice e)) (he : P.underlying e = some (.struct #[f0, f1])) (hinf : (P.info? e).map TypeInfo.size = some 2)
    (h0 : f0.type = k ∧ f0.offset = 0) (h1 : f1.type = k ∧ f1.offset = 1) (hk : P.underlying k = some (.int .i64)) (hkC : P.cellsOf k = 1)
    (hv : Value.okWide P W .any base tp v) (h : DataW.Trod enc P W 0 (fun _ => true) true tp v d p) :
    ∃ A n c, ∃ X Y : Nat → Int, ∃ ptr : Nat → Addr, ∃ lo hi : Int, v = .agg #[.slice A n c, .int .i64 lo, .int .i64 hi] ∧ n ≤ maxLen ∧ Ct W A n X Y ∧ Cl W n X Y ptr ∧ Sl P W (.slice A n c) n t2 e (fun k => .agg #[.int .i64 (X k), .int .i64 (Y k)]) ptr ∧ Sl P W (.slice A n c) n t e (fun k => .agg #[.int .i64 (X k), .int .i64 (Y k)]) ptr := by
  unfold Value.okWide at hv
  rw [hp] at hv
  obtain ⟨cs, rfl, hsz, _⟩ := hv
  rw [hpC] at hsz
  obtain ⟨fuel, hf⟩ := h
  obtain ⟨l⟩ := cs
  have hl : l.length = 3 := by simpa using hsz
  match l, hl, hf with
  | [c0, c1, c2], _, hf =>
    obtain ⟨y0, y1, y2, n', _, _, q0, q1, q2⟩ := trod_struct3 hp hf
    rw [k0.1, k0.2, htC] at q0
    rw [k1.1, k1.2, hkC] at q1
    rw [k2.1, k2.2, hkC] at q2
    simp [Value.cells] at q0 q1 q2
    obtain ⟨A, n, c, X, Y, ptr, e0, hm, hT, hC, hS, hP⟩ := pts_core ht ht2 he hinf h0 h1 hk hkC q0
    obtain ⟨x, e1, _, _⟩ := DataW.trod_int hk q1
    obtain ⟨y, e2, _, _⟩ := DataW.trod_int hk q2
    simp at e0 e1 e2
    subst e0 e1 e2
    exact ⟨A, n, c, X, Y, ptr, x, y, rfl, hm, hT, hC, hS, hP⟩
end
end Go.Proofs.Ytapcooolainmdaa.Ev
