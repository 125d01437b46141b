/- The evaluator's single operations. -/
import Derived.Test.YtapcooolainmdaaEvT
namespace Go.Proofs.Ytapcooolainmdaa.Ev
noncomputable section
open Go.RowKit
set_option linter.unusedVariables false
set_option linter.unusedSimpArgs false
variable {ρ : Env}

/-- what comes of a computation that asks nothing of the world -/
def pureRun (P : Program) {α : Type} : Sem α → Option α
  | .pure a => some a
  | .program k => pureRun P (k P)
  | .mark _ k => pureRun P k
  | _ => none
theorem pureRun_run {P : Program} {α : Type} (s : Sem α) : ∀ (a : α) (w : World), pureRun P s = some a → s.run P w = .ok a w := by
  induction s with
  | pure a => intro b w h; simp only [pureRun, Option.some.injEq] at h; subst h; rfl
  | program k ih => intro b w h; simp only [pureRun] at h; simp only [Sem.run]; exact ih P b w h
  | mark m k ih => intro b w h; simp only [pureRun] at h; simp only [Sem.run]; exact ih b w h
  | _ => intro b w h; simp [pureRun] at h

def asPtr : Value → Option (Nat × Nat)
  | .pointer (some ⟨b, o, none⟩) => some (b, o)
  | _ => none
def asSlc : Value → Option (Nat × Nat × Nat × Nat)
  | .slice (some ⟨b, o, none⟩) n c => some (b, o, n, c)
  | _ => none
def asI : Value → Option (IntKind × Int)
  | .int k n => if isSym n then none else some (k, n)
  | _ => none
def blkAt (H : Heap) (b : Nat) : Option Blk :=
  match getN H b with
  | some (some k) => if Nat.blt k.ty 1180591620717411303424 then some k else none
  | _ => none
theorem asPtr_eq {v : Value} {b o : Nat} (h : asPtr v = some (b, o)) : v = .pointer (some ⟨b, o, none⟩) := by
  unfold asPtr at h; split at h
  · simp only [Option.some.injEq, Prod.mk.injEq] at h; obtain ⟨rfl, rfl⟩ := h; rfl
  · cases h
theorem asSlc_eq {v : Value} {b o n c : Nat} (h : asSlc v = some (b, o, n, c)) : v = .slice (some ⟨b, o, none⟩) n c := by
  unfold asSlc at h; split at h
  · simp only [Option.some.injEq, Prod.mk.injEq] at h; obtain ⟨rfl, rfl, rfl, rfl⟩ := h; rfl
  · cases h
theorem asI_eq {v : Value} {k : IntKind} {n : Int} (h : asI v = some (k, n)) : v = .int k n ∧ isSym n = false := by
  unfold asI at h; split at h
  · split at h
    · cases h
    · rename_i hs
      simp only [Option.some.injEq, Prod.mk.injEq] at h; obtain ⟨rfl, rfl⟩ := h; exact ⟨rfl, by simpa using hs⟩
  · cases h
theorem blkAt_eq {H : Heap} {b : Nat} {k : Blk} (h : blkAt H b = some k) : H[b]? = some (some k) := by
  unfold blkAt at h; split at h
  · rename_i q
    rw [Option.ite_none_right_eq_some] at h
    rw [← getN_eq, q, Option.some.inj h.2]
  · cases h
theorem blkAt_notObj {H : Heap} {b : Nat} {k : Blk} (h : blkAt H b = some k) : isObj k.ty = false := by
  unfold blkAt at h
  split at h
  · split at h
    · rename_i hb; cases h; exact small_notObj hb
    · cases h
  · cases h
theorem blkAt_small {H : Heap} {b : Nat} {k : Blk} (h : blkAt H b = some k) : realTy k.ty = k.ty ∧ markOf k.ty = none := by
  unfold blkAt at h; split at h
  · rename_i q
    rw [Option.ite_none_right_eq_some] at h
    obtain ⟨h1, h2⟩ := h
    cases h2
    exact realTy_small h1
  · cases h
theorem Rel.ptr_inv {β : Names} {b o : Nat} {v' : Value} (h : Rel ρ β (.pointer (some ⟨b, o, none⟩)) v') : ∃ e, β b = some e ∧ v' = .pointer (some ⟨e.blk, o, none⟩) := by
  cases h with
  | flat h => simp [Ev.flat, flat1, flat0] at h
  | ptr h => exact ⟨_, h, rfl⟩
theorem Rel.slc_inv {β : Names} {b o n c : Nat} {v' : Value} (h : Rel ρ β (.slice (some ⟨b, o, none⟩) n c) v') :
    ∃ e c', β b = some e ∧ v' = .slice (some ⟨e.blk, o, none⟩) n c' ∧ (c' = c ∨ (c ≤ c' ∧ c' ≤ maxLen ∧ o + c' * e.sz ≤ e.cnt)) := by
  cases h with
  | flat h => simp [Ev.flat, flat1, flat0] at h
  | slc h hc => exact ⟨_, _, h, rfl, hc⟩
theorem Rel.slice_inv {β : Names} {a : Option Addr} {n c : Nat} {v' : Value} (h : Rel ρ β (.slice a n c) v') : ∃ a' c', v' = .slice a' n c' := by
  cases h with
  | flat h => exact ⟨_, _, rfl⟩
  | slc h hc => exact ⟨_, _, rfl⟩
  | emp => exact ⟨_, _, rfl⟩
  | emp0 => exact ⟨_, _, rfl⟩
theorem Rel.int_inv {β : Names} {k : IntKind} {n : Int} {v' : Value} (h : Rel ρ β (.int k n) v') (hs : isSym n = false) : v' = .int k n := h.eq_of_flat (by simp [Ev.flat, flat1, flat0, hs])

/-- what an operand comes to -/
def ev (t : Tm) : Operand → Option Value
  | .tmp i => t.at i
  | .const v => if flat v then some v else none
  | .global _ => none
  | .func f => some (.func (.func f) #[] #[])
def fl (v : Value) : Option Value := if flat v then some v else none
theorem fl_eq {v u : Value} (h : fl v = some u) : v = u ∧ flat u = true := by
  unfold fl at h; split at h
  · cases h; exact ⟨rfl, by assumption⟩
  · cases h
/-- an operand without an address -/
def evf (t : Tm) (x : Operand) : Option Value := (ev t x).bind fl
def evs (t : Tm) : List Operand → Option (List Value)
  | [] => some []
  | x :: r => (ev t x).bind fun v => (evs t r).bind fun vs => some (v :: vs)
def evfs (t : Tm) : List Operand → Option (List Value)
  | [] => some []
  | x :: r => (evf t x).bind fun v => (evfs t r).bind fun vs => some (v :: vs)
def evps (t : Tm) : List (Nat × Operand) → Option (List (Nat × Value))
  | [] => some []
  | (i, x) :: r => (evf t x).bind fun v => (evps t r).bind fun vs => some ((i, v) :: vs)
/-- an operand that may not be there, without an address -/
def evo (t : Tm) : Option Operand → Option (Option Value)
  | none => some none
  | some x => (evf t x).bind fun v => some (some v)

section
variable {P : Program} {w0 : Base} {w : World} {β : Names} {H : Heap} {t : Tm} {a : Act}

theorem rel_at (h : RelT ρ β t a.tmps) {i : Nat} {v : Value} (hv : t.at i = some v) : Rel ρ β v (a.tmps.getD i undef) := by
  rcases h i with ⟨h1, _⟩ | ⟨u, u', h1, h2, h3⟩
  · rw [h1] at hv; cases hv
  · rw [h1] at hv; cases hv
    rw [Array.getD_eq_getD_getElem?, h2]
    exact h3
theorem rel_ev (h : RelT ρ β t a.tmps) {x : Operand} {v : Value} (hv : ev t x = some v) : Rel ρ β v (a.eval x) := by
  cases x with
  | tmp i => exact rel_at h hv
  | const c =>
    simp only [ev] at hv
    split at hv
    · cases hv; exact .flat (by assumption)
    · cases hv
  | global g => cases hv
  | func f => cases hv; exact .flat rfl
theorem rel_evf (h : RelT ρ β t a.tmps) {x : Operand} {v : Value} (hv : evf t x = some v) : a.eval x = v ∧ flat v = true := by
  simp only [evf, Option.bind_eq_some_iff] at hv
  obtain ⟨u, h1, h2⟩ := hv
  obtain ⟨rfl, h3⟩ := fl_eq h2
  exact ⟨(rel_ev h h1).eq_of_flat h3, h3⟩
theorem rel_evs (h : RelT ρ β t a.tmps) : ∀ (xs : List Operand) (vs : List Value), evs t xs = some vs → RelL ρ β vs (xs.map a.eval) := by
  intro xs
  induction xs with
  | nil => intro vs hv; cases hv; exact ⟨rfl, fun i v v' q => by simp at q⟩
  | cons x r ih =>
    intro vs hv
    simp only [evs, Option.bind_eq_some_iff, Option.some.injEq] at hv
    obtain ⟨v, h1, us, h2, rfl⟩ := hv
    have h3 := ih us h2
    refine ⟨by simpa using h3.1, fun i u u' q q' => ?_⟩
    cases i with
    | zero => simp at q q'; subst q; subst q'; exact rel_ev h h1
    | succ i => simp only [List.map_cons, List.getElem?_cons_succ] at q q'; exact h3.2 i u u' q q'
theorem rel_evfs (h : RelT ρ β t a.tmps) : ∀ (xs : List Operand) (vs : List Value), evfs t xs = some vs → xs.map a.eval = vs := by
  intro xs
  induction xs with
  | nil => intro vs hv; cases hv; rfl
  | cons x r ih =>
    intro vs hv
    simp only [evfs, Option.bind_eq_some_iff, Option.some.injEq] at hv
    obtain ⟨v, h1, us, h2, rfl⟩ := hv
    rw [List.map_cons, ih us h2, (rel_evf h h1).1]
theorem rel_evps (h : RelT ρ β t a.tmps) : ∀ (xs : List (Nat × Operand)) (vs : List (Nat × Value)), evps t xs = some vs → xs.map (fun p => (p.1, a.eval p.2)) = vs := by
  intro xs
  induction xs with
  | nil => intro vs hv; cases hv; rfl
  | cons x r ih =>
    intro vs hv
    simp only [evps, Option.bind_eq_some_iff, Option.some.injEq] at hv
    obtain ⟨v, h1, us, h2, rfl⟩ := hv
    rw [List.map_cons, ih us h2, (rel_evf h h1).1]
theorem rel_evo (h : RelT ρ β t a.tmps) (x : Option Operand) (v : Option Value) (hv : evo t x = some v) : x.map a.eval = v := by
  cases x with
  | none => cases hv; rfl
  | some x =>
    simp only [evo, Option.bind_eq_some_iff, Option.some.injEq] at hv
    obtain ⟨u, h1, rfl⟩ := hv
    rw [Option.map_some, (rel_evf h h1).1]
end

/-! the operations -/
def evLoad (P : Program) (H : Heap) (ty : TypeId) (v : Value) : Option Value :=
  (asPtr v).bind fun p => (blkAt H p.1).bind fun k => (P.underlying ty).bind fun d =>
    match d with
    | .struct _ | .array _ _ => (P.info? ty).bind fun i => if p.2 + i.size ≤ k.cells.length then some (.agg (cut k.cells p.2 i.size).toArray) else none
    | _ => getN k.cells p.2
def evStore (P : Program) (H : Heap) (ty : TypeId) (p v : Value) : Option Heap :=
  (asPtr p).bind fun p => (blkAt H p.1).bind fun k => (P.info? ty).bind fun i =>
    if v.cells.toList.length = i.size ∧ p.2 + v.cells.toList.length ≤ k.cells.length ∧ (v.cells.toList.all fun c => c.oneCell') = true then
      some (H.set p.1 (some ⟨splice k.cells p.2 v.cells.toList, k.ty⟩)) else none
/-- a new block, behind all others or at a place that was kept for it -/
def newAt (slot : Option Nat) (H : Heap) (k : Blk) : Option (Nat × Heap) :=
  if Nat.blt k.ty 1180591620717411303424 then
  match slot with
  | none => some (H.length, H ++ [some k])
  | some i => if i < H.length then some (i, H.set i (some k)) else none
  else none
def evAlloc (P : Program) (slot : Option Nat) (H : Heap) (ty : TypeId) : Option (Value × Heap) :=
  (P.info? ty).bind fun i => i.zero.bind fun z => if (z.cells.toList.all fun c => flat c) = true then (newAt slot H ⟨z.cells.toList, ty⟩).map fun p => (.pointer (some ⟨p.1, 0, none⟩), p.2) else none
def evFieldAddr (P : Program) (s : TypeId) (x : Value) (f : Nat) : Option Value :=
  (asPtr x).bind fun p => (P.underlying s).bind fun d =>
    match d with
    | .struct fields => (fields[f]?).bind fun fd => (P.info? fd.type).bind fun i => if i.size ≠ 0 then some (.pointer (some ⟨p.1, p.2 + fd.offset, none⟩)) else none
    | _ => none
def evIndexAddr (P : Program) (ty : TypeId) (x ix : Value) : Option Value :=
  (asI ix).bind fun i => (P.underlying ty).bind fun d =>
    match d with
    | .array n e => (asPtr x).bind fun p => (P.info? e).bind fun inf => if 0 ≤ i.2 ∧ i.2 < n then some (.pointer (some ⟨p.1, p.2 + i.2.toNat * inf.size, none⟩)) else none
    | .slice e => (asSlc x).bind fun p => (P.info? e).bind fun inf => if 0 ≤ i.2 ∧ i.2 < p.2.2.1 then some (.pointer (some ⟨p.1, p.2.1 + i.2.toNat * inf.size, none⟩)) else none
    | _ => none
/-- a bound of a slice expression -/
def bnd (d : Nat) : Option Value → Option Nat
  | none => some d
  | some v => (asI v).bind fun i => if 0 ≤ i.2 then some i.2.toNat else none
def empV : Value := .slice (some ⟨0, 0, some 0⟩) 0 0
def evSlice (P : Program) (H : Heap) (ty : TypeId) (x : Value) (lo hi : Option Value) : Option Value :=
  (P.underlying ty).bind fun d =>
    match d with
    | .slice e => (asSlc x).bind fun p => (blkAt H p.1).bind fun k => (P.info? e).bind fun inf => (bnd 0 lo).bind fun l => (bnd p.2.2.1 hi).bind fun h =>
      if l ≤ h ∧ h ≤ p.2.2.2 ∧ inf.size ≤ P.cellsOf k.ty then
        some (if p.2.2.2 = l then empV else .slice (some ⟨p.1, p.2.1 + l * inf.size, none⟩) (h - l) (p.2.2.2 - l)) else none
    | .array n e => (asPtr x).bind fun p => (P.info? e).bind fun inf => (bnd 0 lo).bind fun l => (bnd n hi).bind fun h =>
      if l ≤ h ∧ h ≤ n ∧ l < n then some (.slice (some ⟨p.1, p.2 + l * inf.size, none⟩) (h - l) (n - l)) else none
    | _ => none
/-- an empty slice without room behind it -/
def emp0V : Value := .slice (some ⟨0, 1, some 0⟩) 0 0
def evSlice3 (P : Program) (ty : TypeId) (x : Value) (lo : Option Value) (hi mx : Value) : Option Value :=
  (P.underlying ty).bind fun d =>
    match d with
    | .slice e => (asSlc x).bind fun p => (P.info? e).bind fun inf => (bnd 0 lo).bind fun l => (bnd 0 (some hi)).bind fun h => (bnd 0 (some mx)).bind fun m =>
      if l ≤ h ∧ h ≤ m ∧ m ≤ p.2.2.2 then some (if m = l then emp0V else .slice (some ⟨p.1, p.2.1 + l * inf.size, none⟩) (h - l) (m - l)) else none
    | _ => none
def evAppend (P : Program) (H : Heap) (ty : TypeId) (s x : Value) : Option (Value × Heap) :=
  (P.underlying ty).bind fun d =>
    match d with
    | .slice e => (P.info? e).bind fun i => i.zero.bind fun z => (asSlc x).bind fun p => (blkAt H p.1).bind fun kx =>
      if Nat.blt e 1180591620717411303424 = true ∧ z.cells.size = i.size ∧ 0 < i.size ∧ 0 < p.2.2.1 ∧ p.2.1 + p.2.2.1 * i.size ≤ kx.cells.length ∧ ((cut kx.cells p.2.1 (p.2.2.1 * i.size)).all fun c => c.oneCell') = true then
        match s with
        | .slice none 0 0 =>
          if p.2.2.1 ≤ 1000000 ∧ p.2.2.1 * i.bytes ≤ 100000000 then
            some (.slice (some ⟨H.length, 0, none⟩) p.2.2.1 p.2.2.1, H ++ [some ⟨cut kx.cells p.2.1 (p.2.2.1 * i.size), e⟩]) else none
        | .slice (some ⟨0, 1, some 0⟩) 0 0 =>
          if p.2.2.1 ≤ 1000000 ∧ p.2.2.1 * i.bytes ≤ 100000000 then
            some (.slice (some ⟨H.length, 0, none⟩) p.2.2.1 p.2.2.1, H ++ [some ⟨cut kx.cells p.2.1 (p.2.2.1 * i.size), e⟩]) else none
        | .slice (some ⟨b, 0, none⟩) m c => (blkAt H b).bind fun k =>
          if m + p.2.2.1 ≤ c then
            if k.ty = e ∧ m * i.size + p.2.2.1 * i.size ≤ k.cells.length then
              some (.slice (some ⟨b, 0, none⟩) (m + p.2.2.1) c, H.set b (some ⟨splice k.cells (m * i.size) (cut kx.cells p.2.1 (p.2.2.1 * i.size)), k.ty⟩)) else none
          else if k.ty = e ∧ m * i.size ≤ k.cells.length ∧ m + p.2.2.1 ≤ 1000000 ∧ (m + p.2.2.1) * i.bytes ≤ 100000000 then
            some (.slice (some ⟨H.length, 0, none⟩) (m + p.2.2.1) (m + p.2.2.1), H.set b none ++ [some ⟨cut k.cells 0 (m * i.size) ++ cut kx.cells p.2.1 (p.2.2.1 * i.size), e⟩]) else none
        | _ => none
      else none
    | _ => none
def lenV : Value → Option Nat
  | .slice _ n _ => some n
  | _ => none
def evCopy (P : Program) (H : Heap) (ty : TypeId) (dst src : Value) : Option (Value × Heap) :=
  (P.underlying ty).bind fun d =>
    match d with
    | .slice e => (P.info? e).bind fun i => (lenV dst).bind fun n => (lenV src).bind fun m =>
      if min m n = 0 then some (.int .i64 0, H) else
        (asSlc dst).bind fun p => (asSlc src).bind fun q => (blkAt H p.1).bind fun k => (blkAt H q.1).bind fun kx =>
          if q.2.1 + min m n * i.size ≤ kx.cells.length ∧ p.2.1 + min m n * i.size ≤ k.cells.length ∧ ((cut kx.cells q.2.1 (min m n * i.size)).all fun c => c.oneCell') = true then
            some (.int .i64 (min m n : Nat), H.set p.1 (some ⟨splice k.cells p.2.1 (cut kx.cells q.2.1 (min m n * i.size)), k.ty⟩)) else none
    | _ => none

section
variable {P : Program} {w0 : Base} {w : World} {β : Names} {H : Heap}

theorem run_isAgg {ty : TypeId} {d : TypeDesc} (hd : P.underlying ty = some d) (w : World) : (isAgg ty).run P w = .ok (match d with | .struct _ | .array _ _ => true | _ => false) w := by
  unfold isAgg
  rw [Sem.run_bind, run_underlying hd, Result.andThen_ok]
  cases d <;> rfl
theorem run_sizeOf {ty : TypeId} {i : TypeInfo} (hi : P.info? ty = some i) (w : World) : (sizeOf ty).run P w = .ok i.size w := by
  simp [sizeOf, typeInfo, hi]
theorem run_zeroV {ty : TypeId} {i : TypeInfo} {z : Value} (hi : P.info? ty = some i) (hz : i.zero = some z) (w : World) : (zeroValue ty).run P w = .ok z w := by
  simp [zeroValue, typeInfo, hi, hz]

theorem evLoad_ok (hS : Sim ρ P w0 β H w) {ty : TypeId} {p p' v : Value} (h : evLoad P H ty p = some v) (hp : Rel ρ β p p') :
    ∃ v', (Instr.loadAt ty p').run P w = .ok v' w ∧ Rel ρ β v v' := by
  simp only [evLoad, Option.bind_eq_some_iff] at h
  obtain ⟨⟨b, o⟩, h1, k, h2, d, h3, h4⟩ := h
  rw [asPtr_eq h1] at hp
  obtain ⟨e, he, rfl⟩ := hp.ptr_inv
  have hb := blkAt_eq h2
  simp only [Instr.loadAt, Instr.sureAddr, loadVar, pure_bind, Sem.run_bind, run_isAgg h3, Result.andThen_ok]
  have agg : ∀ (q : (P.info? ty).bind (fun i => if o + i.size ≤ k.cells.length then some (Value.agg (cut k.cells o i.size).toArray) else none) = some v),
      ∃ v', ((sizeOf ty >>= fun s => loadCells ⟨e.blk, o, none⟩ s) >>= fun cs => (pure (.agg cs) : Sem Value)).run P w = .ok v' w ∧ Rel ρ β v v' := by
    intro q
    simp only [Option.bind_eq_some_iff, Option.ite_none_right_eq_some, Option.some.injEq] at q
    obtain ⟨i, q1, q2, rfl⟩ := q
    obtain ⟨l', r1, r2, r3, _⟩ := hS.loadCells hb (blkAt_notObj h2) he o i.size q2
    refine ⟨.agg l'.toArray, ?_, .agg r2.1 r2.2⟩
    simp only [Sem.run_bind, run_sizeOf q1, Result.andThen_ok, r1, Sem.run_pure]
  have one : ∀ (q : getN k.cells o = some v), ∃ v', (load ⟨e.blk, o, none⟩).run P w = .ok v' w ∧ Rel ρ β v v' := by
    intro q
    rw [getN_eq] at q
    obtain ⟨v', q1, q2⟩ := hS.cell hb (blkAt_notObj h2) he o q
    exact ⟨v', by simp [q1], q2⟩
  cases d <;> first
    | exact one h4
    | (obtain ⟨v', q1, q2⟩ := agg h4; refine ⟨v', ?_, q2⟩; rw [← q1]; simp only [if_true, bind_assoc])

theorem cells_rel {v v' : Value} (h : Rel ρ β v v') (hc : ∀ c ∈ v.cells.toList, c.oneCell' = true) : RelL ρ β v.cells.toList v'.cells.toList := by
  have single : ∀ (x x' : Value), Rel ρ β x x' → RelL ρ β [x] [x'] := by
    intro x x' hx
    refine ⟨rfl, fun i u u' q q' => ?_⟩
    cases i with
    | zero => simp at q q'; subst q; subst q'; exact hx
    | succ i => simp at q
  cases h with
  | flat h =>
    refine ⟨rfl, fun i u u' q q' => ?_⟩
    obtain rfl : u = u' := Option.some.inj (q.symm.trans q')
    refine .flat ?_
    cases v <;> first
      | (simp only [Value.cells, List.getElem?_singleton] at q; split at q <;> first | (cases q; exact h) | cases q)
      | skip
    simp only [Ev.flat, flat1, List.all_eq_true] at h
    exact flat1_flat (flat0_flat1 (h u (List.mem_of_getElem? q)))
  | sym h => exact single _ _ (.sym h)
  | @opq i j =>
    have e : (ρ.val i).cells = #[ρ.val i] := by have := ρ.hval i; revert this; generalize ρ.val i = u; intro this; cases u <;> first | rfl | simp [one] at this
    rw [e]; exact single _ _ .opq
  | any => exact absurd (hc anyV (by simp [anyV, Value.cells])) (by simp [anyV, Value.oneCell'])
  | ptr h => exact single _ _ (.ptr h)
  | yld h => exact single _ _ (.yld h)
  | nni => exact single _ _ .nni
  | slc q1 q2 => exact single _ _ (.slc q1 q2)
  | lst q1 q2 q3 q4 => exact single _ _ (.lst q1 q2 q3 q4)
  | lpt q1 q2 q3 => exact single _ _ (.lpt q1 q2 q3)
  | emp => exact single _ _ .emp
  | emp0 => exact single _ _ .emp0
  | fn hs h => exact single _ _ (.fn hs h)
  | agg hs h => exact ⟨hs, h⟩
  | tup hs h => exact single _ _ (.tup hs h)

theorem evStore_ok (hS : Sim ρ P w0 β H w) {ty : TypeId} {p p' v v' : Value} {H1 : Heap} (h : evStore P H ty p v = some H1) (hp : Rel ρ β p p') (hv : Rel ρ β v v') :
    ∃ w', (Instr.storeAt ty p' v').run P w = .ok () w' ∧ Sim ρ P w0 β H1 w' := by
  simp only [evStore, Option.bind_eq_some_iff, Option.ite_none_right_eq_some, Option.some.injEq, List.all_eq_true] at h
  obtain ⟨⟨b, o⟩, h1, k, h2, i, h3, ⟨h4, h5, h6⟩, rfl⟩ := h
  rw [asPtr_eq h1] at hp
  obtain ⟨e, he, rfl⟩ := hp.ptr_inv
  have hr := cells_rel hv h6
  obtain ⟨w', q1, q2⟩ := hS.storeCells (blkAt_eq h2) he o _ _ hr h5 h6 (blkAt_small h2).2 (blkAt_notObj h2)
  refine ⟨w', ?_, q2⟩
  have hsz : v'.cells.size = i.size := by
    have := hr.1
    simp only [Array.length_toList] at this h4
    omega
  simp [Instr.storeAt, Instr.sureAddr, storeVar, run_sizeOf h3, hsz, q1]

theorem newRow_run (cs : Array Value) (ty : TypeId) (w : World) : (newRow ty cs).run P w = .ok ⟨w.heap.size, 0, none⟩ (w.alloc (.cells cs ty)) := rfl
def Keep (H : Heap) (slot : Option Nat) (β γ : Names) : Prop := Ext β γ ∧ ∀ x, x < H.length → β x = none → slot ≠ some x → γ x = none
theorem Keep.refl (H : Heap) (slot : Option Nat) (β : Names) : Keep H slot β β := ⟨Ext.refl _, fun x _ h _ => h⟩
theorem Keep.slot {β γ : Names} (h : Keep H none β γ) (slot : Option Nat) : Keep H slot β γ := ⟨h.1, fun x h1 h2 _ => h.2 x h1 h2 (by simp)⟩
theorem Keep.last {β : Names} (h : β H.length = none) (e : Ent) : Keep H none β (upd β H.length e) :=
  ⟨Ext.upd h e, fun x h1 h2 _ => by rw [upd_ne (by omega)]; exact h2⟩
theorem newAt_ok {slot : Option Nat} {k : Blk} {p : Nat × Heap} (hS : Sim ρ P w0 β H w) (hs : ∀ i, slot = some i → β i = none) (h : newAt slot H k = some p) :
    Put H p.1 k p.2 ∧ β p.1 = none ∧ (∀ e, Keep H slot β (upd β p.1 e)) ∧ ((realTy k.ty = k.ty ∧ markOf k.ty = none) ∧ isObj k.ty = false) := by
  unfold newAt at h
  rw [Option.ite_none_right_eq_some] at h
  obtain ⟨hsm, h⟩ := h
  split at h
  · cases h
    have hf := hS.free (Nat.le_refl H.length)
    exact ⟨Put.app _ _, hf, fun e => (Keep.last hf e), realTy_small hsm, small_notObj hsm⟩
  · rename_i i
    rw [Option.ite_none_right_eq_some, Option.some.injEq] at h
    obtain ⟨h1, rfl⟩ := h
    have hf := hs i rfl
    refine ⟨Put.set h1 _, hf, fun e => ⟨Ext.upd hf e, fun x h2 h3 h4 => ?_⟩, realTy_small hsm, small_notObj hsm⟩
    rw [upd_ne (fun q => h4 (by rw [q]))]; exact h3
theorem new_ok (hS : Sim ρ P w0 β H w) {i : Nat} (hi : β i = none) (cs : List Value) (cs' : List Value) (ty : TypeId) {H' : Heap} (hP : Put H i ⟨cs, ty⟩ H') (hr : RelL ρ β cs cs') (ht : (realTy ty = ty ∧ markOf ty = none) ∧ isObj ty = false) :
    Sim ρ P w0 (upd β i ⟨w.heap.size, cs'.toArray.size, P.cellsOf ty⟩) H' (w.alloc (.cells cs'.toArray ty)) :=
  hS.alloc hi cs cs'.toArray ty hP (by simp [hr.1]) (fun j v hj => by
    have hlt : j < cs'.length := hr.1 ▸ (List.getElem?_eq_some_iff.1 hj).1
    exact ⟨cs'[j], by simp [hlt], hr.2 j _ _ hj (List.getElem?_eq_getElem hlt)⟩) ht.1 ht.2
theorem flats_rel (cs : List Value) (h : ∀ c ∈ cs, flat c = true) : RelL ρ β cs cs := by
  refine ⟨rfl, fun i u u' q q' => ?_⟩
  obtain rfl : u = u' := Option.some.inj (q.symm.trans q')
  exact .flat (h u (List.mem_of_getElem? q))
theorem evAlloc_ok (hS : Sim ρ P w0 β H w) {slot : Option Nat} (hs : ∀ i, slot = some i → β i = none) {ty : TypeId} {r : Value × Heap} (h : evAlloc P slot H ty = some r) (old : Value) :
    ∃ v' β' w', (Instr.alloc ty true old).run P w = .ok v' w' ∧ Keep H slot β β' ∧ Rel ρ β' r.1 v' ∧ Sim ρ P w0 β' r.2 w' := by
  simp only [evAlloc, Option.bind_eq_some_iff, Option.ite_none_right_eq_some, Option.map_eq_some_iff, List.all_eq_true] at h
  obtain ⟨i, h1, z, h2, h3, p, h4, rfl⟩ := h
  obtain ⟨q1, q2, q3, q4⟩ := newAt_ok hS hs h4
  have hn := new_ok hS q2 z.cells.toList z.cells.toList ty q1 (flats_rel _ h3) q4
  refine ⟨_, _, _, ?_, q3 _, .ptr (upd_self _ _ _), hn⟩
  simp [Instr.alloc, run_zeroV h1 h2, newVar, newRow_run]

theorem evFieldAddr_ok {s : TypeId} {x x' v : Value} {f : Nat} (h : evFieldAddr P s x f = some v) (hx : Rel ρ β x x') :
    ∃ v', (Instr.fieldAt s x' f).run P w = .ok v' w ∧ Rel ρ β v v' := by
  simp only [evFieldAddr, Option.bind_eq_some_iff] at h
  obtain ⟨⟨b, o⟩, h1, d, h2, h3⟩ := h
  rw [asPtr_eq h1] at hx
  obtain ⟨e, he, rfl⟩ := hx.ptr_inv
  cases d <;> first | cases h3 | skip
  simp only [Option.bind_eq_some_iff, Option.ite_none_right_eq_some, Option.some.injEq] at h3
  obtain ⟨fd, h4, i, h5, h6, rfl⟩ := h3
  refine ⟨_, ?_, .ptr he⟩
  simp [Instr.fieldAt, run_underlying h2, h4, Instr.sureAddr, fieldPlace, run_sizeOf h5, h6, add_none]

theorem evIndexAddr_ok {ty : TypeId} {x x' ix ix' v : Value} (h : evIndexAddr P ty x ix = some v) (hx : Rel ρ β x x') (hi : Rel ρ β ix ix') :
    ∃ v', (Instr.indexAt ty x' ix').run P w = .ok v' w ∧ Rel ρ β v v' := by
  simp only [evIndexAddr, Option.bind_eq_some_iff] at h
  obtain ⟨⟨k, i⟩, h1, d, h2, h3⟩ := h
  rw [(asI_eq h1).1] at hi
  obtain rfl := hi.int_inv (asI_eq h1).2
  cases d <;> first | cases h3 | skip
  · rename_i el
    simp only [Option.bind_eq_some_iff, Option.ite_none_right_eq_some, Option.some.injEq] at h3
    obtain ⟨⟨b, o, n, c⟩, h4, inf, h5, h6, rfl⟩ := h3
    rw [asSlc_eq h4] at hx
    obtain ⟨e, c', he, rfl, _⟩ := hx.slc_inv
    refine ⟨_, ?_, .ptr he⟩
    simp only [Instr.indexAt, asIntOf, pure_bind, Sem.run_bind, run_underlying h2, Result.andThen_ok, Instr.sureAddr, Sem.run_pure]
    simp only [h6, and_self, if_true, Sem.run_bind, run_sizeOf h5, Result.andThen_ok, Sem.run_pure, add_none]
  · rename_i n el
    simp only [Option.bind_eq_some_iff, Option.ite_none_right_eq_some, Option.some.injEq] at h3
    obtain ⟨⟨b, o⟩, h4, inf, h5, h6, rfl⟩ := h3
    rw [asPtr_eq h4] at hx
    obtain ⟨e, he, rfl⟩ := hx.ptr_inv
    refine ⟨_, ?_, .ptr he⟩
    simp only [Instr.indexAt, asIntOf, pure_bind, Sem.run_bind, run_underlying h2, Result.andThen_ok, Instr.sureAddr, Sem.run_pure]
    simp only [h6, and_self, if_true, Sem.run_bind, run_sizeOf h5, Result.andThen_ok, Sem.run_pure, add_none]

theorem bnd_ok {d l y : Nat} {lo : Option Value} (h : bnd d lo = some l) (hy : l ≤ y) (code : BoundsCode) :
    (match lo with | some v => Instr.sliceBound v y code | none => (pure d : Sem Nat)).run P w = .ok l w := by
  cases lo with
  | none => cases h; rfl
  | some v =>
    simp only [bnd, Option.bind_eq_some_iff, Option.ite_none_right_eq_some, Option.some.injEq] at h
    obtain ⟨⟨k, i⟩, h1, h2, rfl⟩ := h
    rw [(asI_eq h1).1]
    simp only [Instr.sliceBound, asIntOf, pure_bind, Sem.run_bind]
    simp only at h2 hy
    rw [if_pos ⟨h2, by omega⟩]
    rfl

theorem bounds_ok {isS : Bool} {n c l h : Nat} {lo hi : Option Value} (h1 : bnd 0 lo = some l) (h2 : bnd n hi = some h) (h3 : l ≤ h) (h4 : h ≤ c) :
    (Instr.sliceBounds isS n c lo hi none).run P w = .ok (l, h, c) w := by
  have e1 := bnd_ok (P := P) (w := w) (y := c) h2 h4 (if isS then .sliceAcap else .sliceAlen)
  have e2 := bnd_ok (P := P) (w := w) (y := h) h1 h3 .sliceB
  cases lo <;> cases hi <;> simp_all [Instr.sliceBounds]

theorem evSlice3_ok {ty : TypeId} {x x' v hi mx : Value} {lo : Option Value} (h : evSlice3 P ty x lo hi mx = some v) (hx : Rel ρ β x x') :
    ∃ v', (Instr.sliceAt ty x' lo (some hi) (some mx)).run P w = .ok v' w ∧ Rel ρ β v v' := by
  simp only [evSlice3, Option.bind_eq_some_iff] at h
  obtain ⟨d, h1, h2⟩ := h
  cases d <;> first | cases h2 | skip
  rename_i el
  simp only [Option.bind_eq_some_iff, Option.ite_none_right_eq_some, Option.some.injEq] at h2
  obtain ⟨⟨b, o, n, c⟩, h3, inf, h4, l, h5, hh, h6, m, h7, ⟨h8, h9, h10⟩, rfl⟩ := h2
  rw [asSlc_eq h3] at hx
  obtain ⟨e, c', he, rfl, hc⟩ := hx.slc_inv
  dsimp only at *
  have hcc : c ≤ c' := by rcases hc with rfl | hc <;> omega
  have e1 := bnd_ok (P := P) (w := w) (y := c') h7 (by omega) .slice3Acap
  have e2 := bnd_ok (P := P) (w := w) (y := m) h6 h9 .slice3B
  have e3 := bnd_ok (P := P) (w := w) (y := hh) h5 h8 .slice3C
  have hb : (Instr.sliceBounds true n c' lo (some hi) (some mx)).run P w = .ok (l, hh, m) w := by
    simp only at e1 e2
    simp only [Instr.sliceBounds, Sem.run_bind, e1, e2, Result.andThen_ok, if_true, Option.isSome_some]
    cases lo with
    | none => simp only at e3; simp only [Sem.run_pure, Result.andThen_ok] at e3 ⊢; cases e3; rfl
    | some u => simp only at e3; simp only [Sem.run_bind, e3, Result.andThen_ok, Sem.run_pure]
  have hrun : (Instr.sliceAt ty (.slice (some ⟨e.blk, o, none⟩) n c') lo (some hi) (some mx)).run P w = .ok (.slice (if m = l then some ⟨e.blk, o, none⟩ else some ⟨e.blk, o + l * inf.size, none⟩) (hh - l) (m - l)) w := by
    simp only [Instr.sliceAt, Sem.run_bind, run_underlying h1, Result.andThen_ok, Instr.slice, hb, run_sizeOf h4, Sem.run_pure, Option.map_some, add_none]
  refine ⟨_, hrun, ?_⟩
  by_cases hml : m = l
  · rw [if_pos hml, if_pos hml]
    have q1 : hh - l = 0 := by omega
    have q2 : m - l = 0 := by omega
    rw [q1, q2]
    exact .emp0
  · rw [if_neg hml, if_neg hml]
    exact .slc he (.inl rfl)
theorem evSlice_ok (hS : Sim ρ P w0 β H w) {ty : TypeId} {x x' v : Value} {lo hi : Option Value} (h : evSlice P H ty x lo hi = some v) (hx : Rel ρ β x x') :
    ∃ v', (Instr.sliceAt ty x' lo hi none).run P w = .ok v' w ∧ Rel ρ β v v' := by
  simp only [evSlice, Option.bind_eq_some_iff] at h
  obtain ⟨d, h1, h2⟩ := h
  cases d <;> first | cases h2 | skip
  · rename_i el
    simp only [Option.bind_eq_some_iff, Option.ite_none_right_eq_some, Option.some.injEq] at h2
    obtain ⟨⟨b, o, n, c⟩, h3, k, hk, inf, h4, l, h5, hh, h6, ⟨h7, h8, h9⟩, rfl⟩ := h2
    rw [asSlc_eq h3] at hx
    obtain ⟨e, c', he, rfl, hc⟩ := hx.slc_inv
    dsimp only at *
    have hcc : c ≤ c' := by rcases hc with rfl | hc <;> omega
    have hrun : (Instr.sliceAt ty (.slice (some ⟨e.blk, o, none⟩) n c') lo hi none).run P w = .ok (.slice (if c' = l then some ⟨e.blk, o, none⟩ else some ⟨e.blk, o + l * inf.size, none⟩) (hh - l) (c' - l)) w := by
      simp only [Instr.sliceAt, Sem.run_bind, run_underlying h1, Result.andThen_ok, Instr.slice, bounds_ok h5 h6 h7 (Nat.le_trans h8 hcc), run_sizeOf h4, Sem.run_pure, Option.map_some, add_none]
    refine ⟨_, hrun, ?_⟩
    by_cases hcl : c = l
    · rw [if_pos hcl]
      have : hh - l = 0 := by omega
      rw [this]
      split <;> exact .emp
    · rw [if_neg hcl, if_neg (by omega)]
      refine .slc he ?_
      rcases hc with rfl | ⟨_, q2, q3⟩
      · exact .inl rfl
      · refine .inr ⟨by omega, by omega, ?_⟩
        obtain ⟨e', cs', r1, r2, r3, r4, r5, r6⟩ := hS.cells b k (blkAt_eq hk) (blkAt_notObj hk)
        obtain rfl : e = e' := Option.some.inj (he.symm.trans r1)
        rw [(blkAt_small hk).1] at r4
        rw [← r4] at h9
        have m1 : l * inf.size ≤ l * e.sz := Nat.mul_le_mul_left _ h9
        have m2 : l * e.sz + (c' - l) * e.sz = c' * e.sz := by rw [← Nat.add_mul]; congr 1; omega
        omega
  · rename_i n el
    simp only [Option.bind_eq_some_iff, Option.ite_none_right_eq_some, Option.some.injEq] at h2
    obtain ⟨⟨b, o⟩, h3, inf, h4, l, h5, hh, h6, ⟨h7, h8, h9⟩, rfl⟩ := h2
    rw [asPtr_eq h3] at hx
    obtain ⟨e, he, rfl⟩ := hx.ptr_inv
    refine ⟨_, ?_, .slc he (.inl rfl)⟩
    simp only [Instr.sliceAt, Sem.run_bind, run_underlying h1, Result.andThen_ok, Instr.sureAddr, Sem.run_pure, bounds_ok h5 h6 h7 h8, run_sizeOf h4]
    rw [if_neg (by omega), add_none]

end
end
end Go.Proofs.Ytapcooolainmdaa.Ev
