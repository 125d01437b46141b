/- The evaluator: regions, code, calls. -/
import Derived.Test.YtapcooolainmdaaEvD
import Derived.RangeFuncLeaves
namespace Go.Proofs.Ytapcooolainmdaa.Ev
noncomputable section
open Go.RowKit
set_option linter.unusedVariables false
set_option linter.unusedSimpArgs false
variable {ρ : Env}

/-! an operation looks at its operands alone -/
def Agree (op : Op) (t t' : Tm) : Prop := ∀ x ∈ op.operands.toList, ev t x = ev t' x
theorem evs_congr {t t' : Tm} : ∀ (xs : List Operand), (∀ x ∈ xs, ev t x = ev t' x) → evs t xs = evs t' xs := by
  intro xs
  induction xs with
  | nil => intro _; rfl
  | cons x r ih => intro h; simp only [evs, h x (by simp), ih fun y hy => h y (by simp [hy])]
theorem evps_congr {t t' : Tm} : ∀ (xs : List (Nat × Operand)), (∀ x ∈ xs.map (·.2), ev t x = ev t' x) → evps t xs = evps t' xs := by
  intro xs
  induction xs with
  | nil => intro _; rfl
  | cons x r ih => intro h; simp only [evps, evf, h x.2 (by simp), ih fun y hy => h y (by simp only [List.map_cons, List.mem_cons]; exact .inr hy)]
theorem evpg_congr {t t' : Tm} : ∀ (xs : List (Nat × Operand)), (∀ x ∈ xs.map (·.2), ev t x = ev t' x) → evpg t xs = evpg t' xs := by
  intro xs
  induction xs with
  | nil => intro _; rfl
  | cons x r ih => intro h; simp only [evpg, h x.2 (by simp), ih fun y hy => h y (by simp only [List.map_cons, List.mem_cons]; exact .inr hy)]
theorem evo_congr {t t' : Tm} (x : Option Operand) (h : ∀ y ∈ x.toArray.toList, ev t y = ev t' y) : evo t x = evo t' x := by
  cases x with
  | none => rfl
  | some y => simp only [evo, evf, h y (by simp)]
theorem evoA_congr {t t' : Tm} (x : Option Operand) (h : ∀ y ∈ x.toArray.toList, ev t y = ev t' y) : evoA t x = evoA t' x := by
  cases x with
  | none => rfl
  | some y => simp only [evoA, h y (by simp)]
section
variable {P : Program} {orc : Orc} {call : FuncId → List Value → Heap → Option (Value × Heap)} {op : Op} {t t' : Tm} {slot : Option Nat} {rt : TypeId} {H : Heap}
theorem pureOp_congr (h : Agree op t t') : pureOp P orc op t = pureOp P orc op t' := by
  unfold Agree at h
  cases op with
  | build ty ps => simp only [pureOp, evpg_congr ps.toList (by simpa [Op.operands] using h)]
  | makeFunc fn fs cs =>
    cases fn <;> first | rfl | skip
    simp only [pureOp, evs_congr cs.toList (fun x hx => h x (by simp only [Op.operands, Array.toList_append, List.mem_append]; exact .inr hx))]
  | _ => first | rfl | (simp [Op.operands] at h; simp [pureOp, evf, h]; done)
theorem evOp_congr (h : Agree op t t') : evOp P orc call slot op rt t H = evOp P orc call slot op rt t' H := by
  have hp := pureOp_congr (P := P) (orc := orc) h
  unfold Agree at h
  cases op with
  | buildSlice ty n ps => simp only [evOp, evpg_congr ps.toList (by simpa [Op.operands] using h)]
  | slice ty x lo hi mx =>
    cases mx with
    | some m =>
      cases hi with
      | none => simp only [evOp, hp]
      | some hi =>
        simp only [evOp, evf]
        rw [h x (by simp [Op.operands]), h hi (by simp [Op.operands]), h m (by simp [Op.operands]), evo_congr lo (fun y hy => h y (by simp only [Op.operands, Array.toList_append, List.mem_append]; exact .inl (.inl (.inr hy))))]
    | none =>
      simp only [evOp]
      rw [h x (by simp [Op.operands]), evo_congr lo (fun y hy => h y (by simp only [Op.operands, Array.toList_append, List.mem_append]; exact .inl (.inl (.inr hy)))),
        evo_congr hi (fun y hy => h y (by simp only [Op.operands, Array.toList_append, List.mem_append]; exact .inl (.inr hy))),
        evoA_congr lo (fun y hy => h y (by simp only [Op.operands, Array.toList_append, List.mem_append]; exact .inl (.inl (.inr hy)))),
        evoA_congr hi (fun y hy => h y (by simp only [Op.operands, Array.toList_append, List.mem_append]; exact .inl (.inr hy)))]
  | convert s d x =>
    have hx : ev t x = ev t' x := h x (by simp [Op.operands])
    simp only [evOp, hp, hx]
  | call c =>
    obtain ⟨callee, args, ats⟩ := c
    have hargs : evs t args.toList = evs t' args.toList := evs_congr _ fun x hx => h x (by simp only [Op.operands, Call.operands, Array.toList_append, List.mem_append]; exact .inr hx)
    cases callee with
    | invoke r m => rfl
    | builtin b => simp only [evOp, hargs]
    | value f =>
      have hf : ev t f = ev t' f := h f (by simp [Op.operands, Call.operands])
      simp only [evOp, hargs, hf]
  | _ => first | rfl | (simp only [evOp, hp]; done) | (simp [Op.operands] at h; simp [evOp, h]; done)
end

/-! calls and rounds -/
structure Cal where
  fn : FuncId → List Value → Heap → Option (Value × Heap)
  rnd : Nat → List Value → Heap → Option (Value × Heap)
/-- a call of a loop's body: the loop's name, what is handed to it -/
def yieldOf (op : Op) (t : Tm) : Option (Nat × List Value) :=
  match op with
  | .call c => match c.callee with
    | .value f => (ev t f).bind fun fv => match fv with
      | .func (.yield b) p q => if p.toList.isEmpty && q.toList.isEmpty then (evs t c.args.toList).map fun vs => (b, vs) else none
      | _ => none
    | _ => none
  | _ => none
def evOpR (P : Program) (orc : Orc) (call : Cal) (slot : Option Nat) (op : Op) (rt : TypeId) (t : Tm) (H : Heap) : Option (Value × Heap) :=
  match yieldOf op t with
  | some p => call.rnd p.1 p.2 H
  | none => evOp P orc call.fn slot op rt t H
/-- a round of a loop over a function -/
def RoundOK (ρ : Env) (P : Program) (rnd : Nat → List Value → Heap → Option (Value × Heap)) : Prop :=
  ∀ (w0 : Base) (b : Nat) (args : List Value) (H : Heap) (v : Value) (H1 : Heap), rnd b args H = some (v, H1) → ∀ (β : Names) (w : World) (args' : List Value) (e : Ent), Sim ρ P w0 β H w → RelL ρ β args args' → β b = some e →
    ∃ (fn : FuncId) (tmps : Array Value) (assign body : Code), (Instr.yield e.blk args'.toArray).run P w = .ok (.round e.blk fn tmps assign body) w ∧
      RoundIn Fence.wide 0 P e.blk fn tmps assign body w fun en w' => ∃ v' β', en = .returned v' ∧ Keep H none β β' ∧ Rel ρ β' v v' ∧ Sim ρ P w0 β' H1 w'
def CalOK (ρ : Env) (P : Program) (call : Cal) : Prop := CallOK ρ P call.fn ∧ RoundOK ρ P call.rnd
section
variable {P : Program} {orc : Orc} {call : Cal} {op : Op} {t t' : Tm} {slot : Option Nat} {rt : TypeId} {H : Heap}
theorem yieldOf_congr (h : Agree op t t') : yieldOf op t = yieldOf op t' := by
  unfold Agree at h
  unfold yieldOf
  split
  · rename_i c
    split
    · rename_i f hcl
      have e1 : ev t f = ev t' f := h f (by simp [Op.operands, Call.operands, hcl])
      have e2 : evs t c.args.toList = evs t' c.args.toList := evs_congr _ fun x hx => h x (by simp only [Op.operands, Call.operands, Array.toList_append, List.mem_append]; exact .inr hx)
      rw [e1, e2]
    · rfl
  · rfl
theorem evOpR_congr (h : Agree op t t') : evOpR P orc call slot op rt t H = evOpR P orc call slot op rt t' H := by
  unfold evOpR
  rw [yieldOf_congr h, evOp_congr h]
theorem yieldOf_some {b : Nat} {vs : List Value} (h : yieldOf op t = some (b, vs)) : ∃ c f, op = .call c ∧ c.callee = .value f ∧ ev t f = some (.func (.yield b) #[] #[]) ∧ evs t c.args.toList = some vs := by
  unfold yieldOf at h
  split at h
  · rename_i c
    split at h
    · rename_i f hcl
      simp only [Option.bind_eq_some_iff] at h
      obtain ⟨fv, h1, h2⟩ := h
      split at h2
      · rename_i b' p q
        rw [Option.ite_none_right_eq_some, Bool.and_eq_true, List.isEmpty_iff, List.isEmpty_iff, Array.toList_eq_nil_iff, Array.toList_eq_nil_iff] at h2
        obtain ⟨⟨rfl, rfl⟩, h2⟩ := h2
        simp only [Option.map_eq_some_iff, Prod.mk.injEq] at h2
        obtain ⟨us, h3, rfl, rfl⟩ := h2
        exact ⟨c, f, rfl, hcl, h1, h3⟩
      · cases h2
    · cases h
  · cases h
theorem callsIn_rd {lr : Option Nat} {n : Nat} {f : FuncId} {args : Array Value} {w : World} {R : Ending → World → Prop} : CallsIn (rd lr) n P f args w R ↔ Calls P f args w R :=
  (show CallsIn (rd lr) n P f args w R ↔ CallsIn Fence.wide n P f args w R from Iff.rfl).trans callsIn_wide
/-- an operation that is carried out in a round as everywhere -/
theorem wpIn_of_wp {lr : Option Nat} {o : Oper} {a : Act} {w : World} {K : Act → World → Prop} {Q : Exit → Act → World → Prop} (hd : ∀ c, o.op ≠ .defer c) (h : o.wp P a w K Q) : o.wpIn (rd lr) 0 P a w K Q := by
  refine ⟨fun _ _ => trivial, ?_⟩
  rw [Oper.semAt_eq _ _ _ hd]
  unfold Oper.wp at h
  generalize (execOp a.eval o).run P w = r at h ⊢
  have hdep : (rd lr).depth.isSome = true → 1 ≤ 0 := fun q => by simp [rd, Fence.wide] at q
  cases r with
  | ok x w' =>
    cases x <;> simp only [Oper.upon, Oper.uponIn] at h ⊢ <;> first
      | exact h
      | exact ⟨hdep, callsIn_rd.2 h⟩
      | exact ⟨hdep, fun c cs _ => by obtain ⟨v, w'', r, st⟩ := h c cs; exact ⟨v, w'', r, (stepsIn_wide.2 st : StepsIn (Machine.fenced P Fence.wide) P _ _)⟩⟩
      | exact h.elim
  | halt x w' => cases x <;> simp only [Oper.upon, Oper.uponIn] at h ⊢ <;> exact h
theorem evOpR_ok {ρ : Env} {lr : Option Nat} {w0 : Base} {w : World} {β : Names} {H1 : Heap} {a : Act} {o : Oper} {v : Value} (hor : OrcOK ρ P orc) (hc : CalOK ρ P call) (hs : ∀ i, slot = some i → β i = none) (hS : Sim ρ P w0 β H w) (hT : RelT ρ β t a.tmps)
    (h : evOpR P orc call slot o.op o.type t H = some (v, H1)) (K : Act → World → Prop) (Q : Exit → Act → World → Prop)
    (hK : ∀ v' β' w', Keep H slot β β' → Rel ρ β' v v' → Sim ρ P w0 β' H1 w' → K (a.put o.dst v') w') : o.wpIn (rd lr) 0 P a w K Q := by
  unfold evOpR at h
  split at h
  · rename_i p hp
    obtain ⟨b, vs⟩ := p
    obtain ⟨c, f, ho, hcl, h1, h2⟩ := yieldOf_some hp
    have hf := rel_ev hT h1
    generalize hq : a.eval f = fv at hf
    cases hf with
    | flat h => simp [Ev.flat, flat1, flat0] at h
    | yld he =>
      rename_i e
      obtain ⟨fn, tmps, assign, body, g1, g2⟩ := hc.2 w0 b vs H v H1 h β w _ e hS (rel_evs hT _ _ h2) he
      refine ⟨fun _ _ => trivial, ?_⟩
      rw [Oper.semAt_eq _ _ _ (by rw [ho]; intro c q; cases q)]
      have hx : execOp a.eval o = Instr.yield e.blk (c.args.toList.map a.eval).toArray := by
        obtain ⟨callee, ⟨args⟩, ats⟩ := c
        simp only at hcl
        subst hcl
        simp only [execOp, ho, resolve, hq, Deferred.ofValue, invoke, pure_bind, List.map_toArray]
        simp
      rw [hx, g1]
      refine ⟨fun q => by simp [rd, Fence.wide] at q, ?_⟩
      refine RoundIn.mono (F := rd lr) (n := 0) (show RoundIn (rd lr) 0 P e.blk fn tmps assign body w _ from g2) ?_
      rintro en w' ⟨v', β', rfl, q1, q2, q3⟩
      exact hK v' β' w' (q1.slot _) q2 q3
  · refine wpIn_of_wp ?_ (evOp_ok hor hc.1 hs hS hT h K Q hK)
    intro c q
    rw [q] at h
    simp [evOp, pureOp] at h
end
/-! regions -/
def yieldedT (ops : Array Oper) (t : Tm) (j : Nat) : Option Bool :=
  match (ops[j]?).bind (·.dst) with
  | some d => (match t.at d with | some (.bool b) => some b | _ => none)
  | none => none
def keepsB : Heap → Heap → Bool
  | [], _ => true
  | none :: x, _ :: y => keepsB x y
  | some a :: x, b :: y => sameB (some a) b && keepsB x y
  | _ :: _, [] => false
theorem keepsB_get : ∀ (H H' : Heap), keepsB H H' = true → ∀ (b : Nat) (k : Blk), H[b]? = some (some k) → H'[b]? = some (some k) := by
  intro H
  induction H with
  | nil => intro H' _ b k h; simp at h
  | cons a H ih =>
    intro H' h b k hb
    cases H' with
    | nil => cases a <;> simp [keepsB] at h
    | cons c H' =>
      cases a with
      | none =>
        simp only [keepsB] at h
        cases b with
        | zero => simp at hb
        | succ b => simp only [List.getElem?_cons_succ] at hb ⊢; exact ih H' h b k hb
      | some a =>
        simp only [keepsB, Bool.and_eq_true] at h
        cases b with
        | zero => simp only [List.getElem?_cons_zero, Option.some.injEq] at hb ⊢; rw [← sameB_eq h.1]; exact congrArg some hb
        | succ b => simp only [List.getElem?_cons_succ] at hb ⊢; exact ih H' h.2 b k hb
def isStore (cs : Bool) : Op → Bool
  | .store .. => true
  | .call _ => cs
  | _ => false
def isLoad : Op → Bool
  | .load .. => true
  | _ => false
/-- a guard that nothing is known of -/
def isAny : Value → Bool
  | .tuple vs => vs.toList.any fun u => !notAny u
  | _ => false
def blind (ops : Array Oper) (o : Oper) (t : Tm) : Bool :=
  match o.guard with
  | none => false
  | some (j, _) => match (ops[j]?).bind (·.dst) with
    | some d => (match t.at d with | some v => isAny v | none => false)
    | none => false
section
variable (P : Program) (orc : Orc) (call : Cal) (ops : Array Oper) (cs : Bool)
def evOne (slot : Option Nat) (o : Oper) (t : Tm) (H : Heap) : Option (Tm × Heap) :=
  if blind ops o t then none else
  if Region.wanted o (yieldedT ops t) then (evOpR P orc call slot o.op o.type t H).map fun p => (tput t o.dst p.1, p.2) else some (tput t o.dst undef, H)
def evList : List Oper → Tm → Heap → Option (Tm × Heap)
  | [], t, H => some (t, H)
  | o :: r, t, H => (evOne P orc call ops none o t H).bind fun p => evList r p.1 p.2
/-- the value of an operation that does nothing else, whenever it comes up -/
def evYield (o : Oper) (t : Tm) (H : Heap) : Option Value :=
  if blind ops o t then none else
  if Region.wanted o (yieldedT ops t) then
    match o.op with
    | .load ty x => (ev t x).bind fun p => ldV P orc H ty p
    | .call c =>
      match c.callee with
      | .value f => (ev t f).bind fun fv => (evs t c.args.toList).bind fun vs => (asFn P fv).bind fun p => flatCall orc call.fn p.1 (vs ++ p.2)
      | _ => none
    | op => pureOp P orc op t
  else some undef
structure En where
  m : Nat
  t : Tm
  h : Heap
def sameE (x y : En) : Bool := x.m == y.m && (sameT sameL x.t y.t && sameH x.h y.h)
def isAlloc : Op → Bool
  | .alloc _ => true
  | .box _ _ => true
  | _ => false
def cntL : List Oper → Nat → Nat
  | [], _ => 0
  | _ :: _, 0 => 0
  | o :: r, i + 1 => (if isAlloc o.op then 1 else 0) + cntL r i
/-- how many new blocks stand before number i -/
def cnt (i : Nat) : Nat := cntL ops.toList i
def slotOf (base : Nat) (i : Nat) (o : Oper) : Option Nat := if isAlloc o.op then some (base + cnt ops i) else none
/-- one operation of a region in an open order: in the strict way, nothing but a store turns old memory -/
def evR (base : Nat) (strict : Bool) (i : Nat) (t : Tm) (H : Heap) : Option (Tm × Heap) :=
  (ops[i]?).bind fun o => (evOne P orc call ops (slotOf ops base i o) o t H).bind fun p =>
    if base + cnt ops ops.size ≤ p.2.length ∧ (strict = true → isStore cs o.op = false → ((evYield P orc call ops o t H).isSome || keepsB H p.2) = true) then some p else none
def evNext (base : Nat) (strict : Bool) (e : En) (i : Nat) : Option En := (evR P orc call ops cs base strict i e.t e.h).map fun p => ⟨e.m ||| 2 ^ i, p.1, p.2⟩
def addE (x : En) : List En → Option (List En)
  | [] => some [x]
  | y :: r => if x.m == y.m then (if sameE x y then some (y :: r) else none) else (addE x r).map fun r => y :: r
def addAll (base : Nat) (strict : Bool) (e : En) : List Nat → List En → Option (List En)
  | [], acc => some acc
  | i :: r, acc => (evNext P orc call ops cs base strict e i).bind fun x => (addE x acc).bind fun acc => addAll base strict e r acc
/-- the operations that one waits for, as bits -/
def need : List Edge → Nat
  | [] => 0
  | e :: r => if Region.binds .any e then 2 ^ e.on ||| need r else need r
def cand (m : Nat) (o : Oper) (i : Nat) : Bool := !m.testBit i && (m &&& need o.after.toList) == need o.after.toList
def readyM (m : Nat) : List Oper → Nat → List Nat
  | [], _ => []
  | o :: r, i => if cand m o i then i :: readyM m r (i + 1) else readyM m r (i + 1)
def okGo (o : Oper) (i : Nat) : List Oper → Nat → Bool
  | [], _ => true
  | p :: r, j => (j == i || ((need p.after.toList).testBit i || ((need o.after.toList).testBit j || (o.apart ops p && (!isLoad o.op || !isStore cs p.op))))) && okGo o i r (j + 1)
/-- nobody who could come up before number i touches what it touches -/
def okS (o : Oper) (i : Nat) : Bool := okGo ops cs o i ops.toList 0
def findTake (m : Nat) (t : Tm) (H : Heap) : List Oper → Nat → Option (Nat × Value × Option Tmp)
  | [], _ => none
  | o :: r, i => if cand m o i && okS ops cs o i then (match evYield P orc call ops o t H with | some v => some (i, v, o.dst) | none => findTake m t H r (i + 1)) else findTake m t H r (i + 1)
def layer (base : Nat) (strict : Bool) : List En → List En → Option (List En)
  | [], acc => some acc
  | e :: r, acc =>
    match (if strict then findTake P orc call ops cs e.m e.t e.h ops.toList 0 else none) with
    | some (i, v, d) => (addE ⟨e.m ||| 2 ^ i, tput e.t d v, e.h⟩ acc).bind fun acc => layer base strict r acc
    | none => if (readyM e.m ops.toList 0).isEmpty then none else (addAll P orc call ops cs base strict e (readyM e.m ops.toList 0) acc).bind fun acc => layer base strict r acc
def evAny (base : Nat) (strict : Bool) : Nat → List En → Option (Tm × Heap)
  | 0, [e] => if (readyM e.m ops.toList 0).isEmpty then some (e.t, e.h) else none
  | 0, _ => none
  | n + 1, es => (layer P orc call ops cs base strict es []).bind fun es => evAny base strict n es

/-- once through the row: what can be taken is taken as it comes up -/
def pass : List Oper → Nat → En → Nat → En × Nat
  | [], _, e, n => (e, n)
  | o :: r, i, e, n =>
    match n with
    | 0 => (e, 0)
    | n' + 1 => if cand e.m o i && okS ops cs o i then (match evYield P orc call ops o e.t e.h with
      | some v => pass r (i + 1) ⟨e.m ||| 2 ^ i, tput e.t o.dst v, e.h⟩ n'
      | none => pass r (i + 1) e (n' + 1)) else pass r (i + 1) e (n' + 1)
def evRun (base : Nat) : Nat → Nat → List En → Option (Tm × Heap)
  | 0, _, _ => none
  | f + 1, n, es =>
    match es with
    | [e] =>
      match pass P orc call ops cs ops.toList 0 e n with
      | (e', 0) => if (readyM e'.m ops.toList 0).isEmpty then some (e'.t, e'.h) else none
      | (e', n' + 1) => if (readyM e'.m ops.toList 0).isEmpty then none else (addAll P orc call ops cs base true e' (readyM e'.m ops.toList 0) []).bind fun es => evRun base f n' es
    | es =>
      match n with
      | 0 => none
      | n' + 1 => (layer P orc call ops cs base true es []).bind fun es => evRun base f n' es

/-- whatever order is picked, what comes of it is F -/
def Good (base : Nat) (strict : Bool) (F : Tm × Heap) : Nat → Array Bool → Tm → Heap → Prop
  | 0, l, t, H => Region.ready .any ops l = [] ∧ (t, H) = F
  | n + 1, l, t, H => Region.ready .any ops l ≠ [] ∧ ∀ i ∈ Region.ready .any ops l, ∃ p, evR P orc call ops cs base strict i t H = some p ∧ Good base strict F n (l.setIfInBounds i true) p.1 p.2
end

section
variable {P : Program} {orc : Orc} {w0 : Base} {call : Cal} {ops : Array Oper} {cs : Bool}

theorem sameE_eq {x y : En} (h : sameE x y = true) : x = y := by
  simp only [sameE, Bool.and_eq_true, beq_iff_eq] at h
  obtain ⟨h1, h2, h3⟩ := h
  have h4 := sameT_eq (fun a b q => sameL_eq q) _ _ h2
  have h5 := sameH_eq _ _ h3
  cases x; cases y
  simp only at h1 h4 h5
  rw [h1, h4, h5]

theorem yielded_eq {β : Names} {t : Tm} {t' : Array Value} {o : Oper} (hb : blind ops o t = false) (h : RelT ρ β t t') : Region.wanted o (yieldedT ops t) = Region.wanted o (yielded ops t') := by
  unfold Region.wanted
  unfold blind at hb
  cases hg : o.guard with
  | none => rfl
  | some g =>
    obtain ⟨j, want⟩ := g
    rw [hg] at hb
    simp only at hb ⊢
    have : yieldedT ops t j = yielded ops t' j := by
      unfold yielded yieldedT
      cases hd : (ops[j]?).bind (·.dst) with
      | none => rfl
      | some d =>
        rw [hd] at hb
        simp only [Option.bind_some] at hb ⊢
        rcases h d with ⟨h1, h2⟩ | ⟨v, v', h1, h2, h3⟩
        · rw [h1, h2]
        · rw [h1, h2]
          rw [h1] at hb
          simp only at hb
          cases h3 <;> first
            | rfl
            | (simp [anyV, isAny, notAny] at hb; done)
            | skip
          rename_i i j
          have := ρ.hval i
          revert this
          generalize ρ.val i = u
          intro this
          cases u <;> first | rfl | simp [one] at this
    rw [this]
theorem blind_tput {o : Oper} {t : Tm} {d : Option Tmp} {v : Value} (h : ∀ x, d = some x → x ∉ o.looksAt ops) : blind ops o (tput t d v) = blind ops o t := by
  unfold blind
  cases hg : o.guard with
  | none => rfl
  | some g =>
    obtain ⟨j, want⟩ := g
    simp only
    cases hd : (ops[j]?).bind (·.dst) with
    | none => rfl
    | some x =>
      simp only
      have hat : ∀ {t : Tm} {d : Option Tmp} {v : Value} {j : Nat}, d ≠ some j → (tput t d v).at j = t.at j := by
        intro t d v j h
        cases d with
        | none => rfl
        | some i => simp only [tput, Tm.at_put]; rw [if_neg (fun e => h (by rw [e]))]
      rw [hat fun e => h x e (by simp only [Oper.looksAt, List.mem_append]; right; rw [hg]; simp [hd])]

theorem evOne_ok {lr : Option Nat} (hor : OrcOK ρ P orc) (hc : CalOK ρ P call) {slot : Option Nat} {o : Oper} {t t1 : Tm} {H H1 : Heap} (h : evOne P orc call ops slot o t H = some (t1, H1)) {β : Names} {w : World} {a : Act}
    (hs : ∀ i, slot = some i → β i = none) (hS : Sim ρ P w0 β H w) (hT : RelT ρ β t a.tmps) (Q : Exit → Act → World → Prop) (K : Act → World → Prop)
    (hK : ∀ β' w' a', Keep H slot β β' → RelT ρ β' t1 a'.tmps → a'.defers = a.defers → Sim ρ P w0 β' H1 w' → K a' w') :
    if Region.wanted o (yielded ops a.tmps) then o.wpIn (rd lr) 0 P a w K Q else (∀ f, o.about P w a.eval = some f → (rd lr).fn f) ∧ K (a.put o.dst undef) w := by
  unfold evOne at h
  rw [Option.ite_none_left_eq_some] at h
  obtain ⟨hbl, h⟩ := h
  rw [yielded_eq (by simpa using hbl) hT] at h
  split at h
  · rename_i hw
    rw [if_pos hw]
    simp only [Option.map_eq_some_iff, Prod.mk.injEq] at h
    obtain ⟨⟨v, H2⟩, h1, rfl, rfl⟩ := h
    refine evOpR_ok hor hc hs hS hT h1 K Q fun v' β' w' q1 q2 q3 => ?_
    have := rel_put (hT.mono q1.1) q2 o.dst
    exact hK β' w' _ q1 this.1 this.2 q3
  · rename_i hw
    rw [if_neg hw]
    simp only [Option.some.injEq, Prod.mk.injEq] at h
    obtain ⟨rfl, rfl⟩ := h
    have := rel_put hT (Rel.flat (β := β) (v := undef) rfl) o.dst
    exact ⟨fun _ _ => trivial, hK β w _ (Keep.refl _ _ _) this.1 this.2 hS⟩

def CallLen (call : FuncId → List Value → Heap → Option (Value × Heap)) : Prop := ∀ (f : FuncId) (args : List Value) (H : Heap) (v : Value) (H1 : Heap), call f args H = some (v, H1) → H.length ≤ H1.length
/-- the heap of the call's own does not shrink, and free names stay free -/
theorem Kp.refl (H : Heap) (slot : Option Nat) (β : Names) : Kp H slot H β β := ⟨Keep.refl _ _ _, Nat.le_refl _⟩
theorem Kp.trans {H H1 H2 : Heap} {a b c : Names} (h : Kp H none H1 a b) (k : Kp H1 none H2 b c) : Kp H none H2 a c :=
  ⟨⟨h.1.1.trans k.1.1, fun x h1 h2 h3 => k.1.2 x (Nat.lt_of_lt_of_le h1 h.2) (h.1.2 x h1 h2 h3) h3⟩, Nat.le_trans h.2 k.2⟩

theorem newAt_len {slot : Option Nat} {H : Heap} {k : Blk} {p : Nat × Heap} (h : newAt slot H k = some p) : H.length ≤ p.2.length := by
  unfold newAt at h
  rw [Option.ite_none_right_eq_some] at h
  obtain ⟨_, h⟩ := h
  split at h
  · cases h; simp
  · rw [Option.ite_none_right_eq_some, Option.some.injEq] at h
    obtain ⟨_, rfl⟩ := h; simp
theorem evAppend_len {H : Heap} {ty : TypeId} {s x : Value} {r : Value × Heap} (h : evAppend P H ty s x = some r) : H.length ≤ r.2.length := by
  simp only [evAppend, Option.bind_eq_some_iff] at h
  obtain ⟨d, h1, h2⟩ := h
  cases d <;> first | cases h2 | skip
  simp only [Option.bind_eq_some_iff, Option.ite_none_right_eq_some] at h2
  obtain ⟨i, h3, z, h4, q, h5, kx, h6, _, h12⟩ := h2
  split at h12
  · simp only [Option.ite_none_right_eq_some, Option.some.injEq] at h12
    obtain ⟨_, rfl⟩ := h12; simp
  · simp only [Option.ite_none_right_eq_some, Option.some.injEq] at h12
    obtain ⟨_, rfl⟩ := h12; simp
  · simp only [Option.bind_eq_some_iff] at h12
    obtain ⟨k, h13, h14⟩ := h12
    split at h14
    · rw [Option.ite_none_right_eq_some, Option.some.injEq] at h14
      obtain ⟨_, rfl⟩ := h14; simp
    · rw [Option.ite_none_right_eq_some, Option.some.injEq] at h14
      obtain ⟨_, rfl⟩ := h14; simp
  · cases h12
theorem evCopyO_len {own : List OwnE} {H : Heap} {ty : TypeId} {d x : Value} {r : Value × Heap} (h : evCopyO P own H ty d x = some r) : H.length ≤ r.2.length := by
  unfold evCopyO at h
  simp only [Option.bind_eq_some_iff] at h
  obtain ⟨td, _, h2⟩ := h
  cases td <;> first | cases h2 | skip
  simp only [Option.bind_eq_some_iff, Option.ite_none_right_eq_some, Option.some.injEq] at h2
  obtain ⟨_, _, _, _, _, _, _, rfl⟩ := h2
  simp
theorem evAppendL_len {laps : List (Nat × List Value × Nat)} {H : Heap} {ty : TypeId} {b t : Nat} {x : Value} {r : Value × Heap} (h : evAppendL P laps H ty b t x = some r) : H.length ≤ r.2.length := by
  unfold evAppendL at h
  rw [Option.ite_none_left_eq_some] at h
  obtain ⟨_, h⟩ := h
  simp only [Option.bind_eq_some_iff] at h
  obtain ⟨d, _, h2⟩ := h
  cases d <;> first | cases h2 | skip
  simp only [Option.bind_eq_some_iff] at h2
  obtain ⟨i, _, z, _, q, _, kx, _, h7⟩ := h2
  split at h7
  · simp only [Option.ite_none_right_eq_some, Option.bind_eq_some_iff, Option.some.injEq] at h7
    obtain ⟨_, s2, _, _, rfl⟩ := h7
    simp
  · cases h7
theorem evCopy_len {H : Heap} {ty : TypeId} {s x : Value} {r : Value × Heap} (h : evCopy P H ty s x = some r) : H.length ≤ r.2.length := by
  simp only [evCopy, Option.bind_eq_some_iff] at h
  obtain ⟨d, h1, h2⟩ := h
  cases d <;> first | cases h2 | skip
  simp only [Option.bind_eq_some_iff] at h2
  obtain ⟨i, h3, n, h4, m, h5, h6⟩ := h2
  split at h6
  · cases h6; exact Nat.le_refl _
  · simp only [Option.bind_eq_some_iff, Option.ite_none_right_eq_some, Option.some.injEq] at h6
    obtain ⟨_, _, _, _, _, _, _, _, _, rfl⟩ := h6
    simp
def CalLen (call : Cal) : Prop := CallLen call.fn ∧ ∀ (b : Nat) (args : List Value) (H : Heap) (v : Value) (H1 : Heap), call.rnd b args H = some (v, H1) → H.length ≤ H1.length
theorem evOp_len {call : FuncId → List Value → Heap → Option (Value × Heap)} (hl : CallLen call) {slot : Option Nat} {op : Op} {rt : TypeId} {t : Tm} {H H1 : Heap} {v : Value} (h : evOp P orc call slot op rt t H = some (v, H1)) : H.length ≤ H1.length := by
  unfold evOp at h
  split at h
  · simp only [evAlloc, Option.bind_eq_some_iff, Option.ite_none_right_eq_some, Option.map_eq_some_iff, Prod.mk.injEq] at h
    obtain ⟨i, _, z, _, _, p, h4, _, rfl⟩ := h
    exact newAt_len h4
  · simp only [Option.bind_eq_some_iff, Option.ite_none_right_eq_some, Option.map_eq_some_iff, Prod.mk.injEq] at h
    obtain ⟨u, _, _, p, h4, _, rfl⟩ := h
    exact newAt_len h4
  · simp only [evBuildSlice, Option.bind_eq_some_iff] at h
    obtain ⟨vs, _, d, _, h2⟩ := h
    cases d <;> first | cases h2 | skip
    simp only [Option.bind_eq_some_iff, Option.ite_none_right_eq_some, Option.some.injEq, Prod.mk.injEq] at h2
    obtain ⟨_, _, _, _, _, _, _, _, rfl⟩ := h2
    simp
  · simp only [Option.bind_eq_some_iff, Option.map_eq_some_iff, Prod.mk.injEq] at h
    obtain ⟨_, _, _, _, _, rfl⟩ := h; exact Nat.le_refl _
  · simp only [evStore, Option.bind_eq_some_iff, Option.map_eq_some_iff, Prod.mk.injEq, Option.ite_none_right_eq_some, Option.some.injEq] at h
    obtain ⟨_, _, _, _, H2, ⟨_, _, _, _, _, _, _, rfl⟩, _, rfl⟩ := h; simp
  · simp only [Option.bind_eq_some_iff] at h
    obtain ⟨_, _, h⟩ := h
    split at h <;> simp only [Option.bind_eq_some_iff] at h <;> obtain ⟨_, _, _, _, h⟩ := h
    · simp only [Option.map_eq_some_iff, Prod.mk.injEq] at h
      obtain ⟨_, _, _, rfl⟩ := h; exact Nat.le_refl _
    split at h <;>
    · simp only [Option.map_eq_some_iff, Prod.mk.injEq] at h
      obtain ⟨_, _, _, rfl⟩ := h; exact Nat.le_refl _
  · simp only [Option.bind_eq_some_iff, Option.map_eq_some_iff, Prod.mk.injEq] at h
    obtain ⟨_, _, _, _, _, _, _, _, _, _, _, rfl⟩ := h; exact Nat.le_refl _
  · split at h
    · simp only [Option.bind_eq_some_iff] at h
      obtain ⟨vs, _, h⟩ := h
      unfold evBuiltin at h
      split at h
      · split at h
        · split at h
          · exact evAppendL_len h
          · split at h
            · exact evCopyO_len h
            · exact evAppend_len h
        · cases h
      · simp only [Option.bind_eq_some_iff, Option.ite_none_right_eq_some, Option.some.injEq] at h
        obtain ⟨r0, h, _, rfl⟩ := h
        exact evCopy_len h
      · simp only [Option.bind_eq_some_iff] at h
        obtain ⟨d, _, h2⟩ := h
        cases d <;> first | cases h2 | skip
        simp only [Option.map_eq_some_iff, Prod.mk.injEq] at h2
        obtain ⟨_, _, _, rfl⟩ := h2; exact Nat.le_refl _
      · rw [Option.ite_none_left_eq_some] at h
        obtain ⟨_, h⟩ := h
        simp only [Option.bind_eq_some_iff] at h
        obtain ⟨d, _, h2⟩ := h
        cases d <;> first
          | cases h2
          | (simp only [Option.map_eq_some_iff, Prod.mk.injEq] at h2
             obtain ⟨_, _, _, rfl⟩ := h2; exact Nat.le_refl _)
      · simp only [Option.bind_eq_some_iff] at h
        obtain ⟨d, _, h2⟩ := h
        cases d <;> first
          | cases h2
          | (simp only [Option.map_eq_some_iff, Prod.mk.injEq] at h2
             obtain ⟨_, _, _, rfl⟩ := h2; exact Nat.le_refl _)
      · split at h
        · simp only [Option.bind_eq_some_iff] at h
          obtain ⟨nx, _, h2⟩ := h
          cases nx <;> first | cases h2 | skip
          simp only [Option.map_eq_some_iff, Prod.mk.injEq] at h2
          obtain ⟨_, _, _, rfl⟩ := h2; exact Nat.le_refl _
        · simp only [Option.map_eq_some_iff, Prod.mk.injEq] at h
          obtain ⟨_, _, _, rfl⟩ := h; exact Nat.le_refl _
    · simp only [Option.bind_eq_some_iff] at h
      obtain ⟨fv, _, vs, _, h3⟩ := h
      unfold evFn at h3
      split at h3
      · simp only [Option.some.injEq, Prod.mk.injEq] at h3
        obtain ⟨_, rfl⟩ := h3; exact Nat.le_refl _
      split at h3
      rotate_left
      · simp only [Option.map_eq_some_iff, Prod.mk.injEq] at h3
        obtain ⟨_, _, _, rfl⟩ := h3; exact Nat.le_refl _
      have h5 := h3
      unfold evGo at h5
      split at h5
      · simp only [Option.some.injEq, Prod.mk.injEq] at h5
        obtain ⟨_, rfl⟩ := h5; exact Nat.le_refl _
      split at h5
      · simp only [Option.bind_eq_some_iff] at h5
        obtain ⟨p, _, h6⟩ := h5
        split at h6
        · simp only [Option.some.injEq, Prod.mk.injEq] at h6
          obtain ⟨_, rfl⟩ := h6; exact Nat.le_refl _
        · simp only [shift, Option.bind_eq_some_iff, Option.some.injEq, Prod.mk.injEq] at h6
          obtain ⟨_, _, _, _, _, rfl⟩ := h6; simp
      · exact herm_len h5
    · cases h
  · split at h
    · simp only [Option.some.injEq, Prod.mk.injEq] at h
      obtain ⟨_, rfl⟩ := h; exact Nat.le_refl _
    · simp only [Option.bind_eq_some_iff, Option.map_eq_some_iff, Prod.mk.injEq] at h
      obtain ⟨_, _, _, _, _, rfl⟩ := h; exact Nat.le_refl _
  · simp only [Option.map_eq_some_iff, Prod.mk.injEq] at h
    obtain ⟨_, _, _, rfl⟩ := h; exact Nat.le_refl _
theorem evOpR_len (hl : CalLen call) {slot : Option Nat} {op : Op} {rt : TypeId} {t : Tm} {H H1 : Heap} {v : Value} (h : evOpR P orc call slot op rt t H = some (v, H1)) : H.length ≤ H1.length := by
  unfold evOpR at h
  split at h
  · exact hl.2 _ _ _ _ _ h
  · exact evOp_len hl.1 h
theorem evOne_len (hl : CalLen call) {slot : Option Nat} {o : Oper} {t t1 : Tm} {H H1 : Heap} (h : evOne P orc call ops slot o t H = some (t1, H1)) : H.length ≤ H1.length := by
  unfold evOne at h
  rw [Option.ite_none_left_eq_some] at h
  obtain ⟨_, h⟩ := h
  split at h
  · simp only [Option.map_eq_some_iff, Prod.mk.injEq] at h
    obtain ⟨⟨v, H2⟩, h1, _, rfl⟩ := h
    exact evOpR_len hl h1
  · simp only [Option.some.injEq, Prod.mk.injEq] at h
    obtain ⟨_, rfl⟩ := h; exact Nat.le_refl _

theorem evList_ok {lr : Option Nat} (hl : CalLen call) (hor : OrcOK ρ P orc) (hc : CalOK ρ P call) (Q : Exit → Act → World → Prop) : ∀ (l : List Oper) (t : Tm) (H : Heap) (t1 : Tm) (H1 : Heap), evList P orc call ops l t H = some (t1, H1) →
    ∀ (β : Names) (w : World) (a : Act), Sim ρ P w0 β H w → RelT ρ β t a.tmps →
    (∀ β' w' a', Kp H none H1 β β' → RelT ρ β' t1 a'.tmps → a'.defers = a.defers → Sim ρ P w0 β' H1 w' → Q .normal a' w') → wpListIn (rd lr) 0 P ops Q l a w := by
  intro l
  induction l with
  | nil =>
    intro t H t1 H1 h β w a hS hT hQ
    simp only [evList, Option.some.injEq, Prod.mk.injEq] at h
    obtain ⟨rfl, rfl⟩ := h
    exact hQ β w a (Kp.refl _ _ _) hT rfl hS
  | cons o r ih =>
    intro t H t1 H1 h β w a hS hT hQ
    simp only [evList, Option.bind_eq_some_iff] at h
    obtain ⟨⟨t2, H2⟩, h1, h2⟩ := h
    exact evOne_ok hor hc h1 (fun i q => by cases q) hS hT Q _ fun β' w' a' q1 q2 q3 q4 =>
      ih t2 H2 t1 H1 h2 β' w' a' q4 q2 fun β'' w'' a'' r1 r2 r3 r4 => hQ β'' w'' a'' (Kp.trans ⟨q1, evOne_len hl h1⟩ r1) r2 (r3.trans q3) r4

/-! taking an operation first -/
theorem at_tput {t : Tm} {d : Option Tmp} {v : Value} {j : Nat} (h : d ≠ some j) : (tput t d v).at j = t.at j := by
  cases d with
  | none => rfl
  | some i =>
    simp only [tput, Tm.at_put]
    rw [if_neg (fun e => h (by rw [e]))]
theorem agree_put {o : Oper} {t : Tm} {d : Option Tmp} {v : Value} (h : ∀ x, d = some x → x ∉ o.looksAt ops) : Agree o.op (tput t d v) t := by
  intro x hx
  cases x with
  | tmp j =>
    refine at_tput fun e => ?_
    exact h j e (by simp only [Oper.looksAt, List.mem_append, List.mem_filterMap]; exact .inl ⟨.tmp j, hx, rfl⟩)
  | const c => rfl
  | global g => rfl
  | func f => rfl
theorem wanted_tput {o : Oper} {t : Tm} {d : Option Tmp} {v : Value} (h : ∀ x, d = some x → x ∉ o.looksAt ops) :
    Region.wanted o (yieldedT ops (tput t d v)) = Region.wanted o (yieldedT ops t) := by
  unfold Region.wanted
  cases hg : o.guard with
  | none => rfl
  | some g =>
    obtain ⟨j, want⟩ := g
    simp only
    have : yieldedT ops (tput t d v) j = yieldedT ops t j := by
      unfold yieldedT
      cases hd : (ops[j]?).bind (·.dst) with
      | none => rfl
      | some x =>
        simp only
        rw [at_tput fun e => h x e (by simp only [Oper.looksAt, List.mem_append]; right; rw [hg]; simp [hd])]
    rw [this]
theorem tput_comm {t : Tm} {x y : Option Tmp} {v u : Value} (h : ∀ d, x = some d → y ≠ some d) : tput (tput t x v) y u = tput (tput t y u) x v := by
  cases x with
  | none => rfl
  | some i =>
    cases y with
    | none => rfl
    | some j =>
      have hne : i ≠ j := fun e => h i rfl (by rw [e])
      simp only [tput]
      exact Tm.put_comm t hne v u
theorem evOne_put {slot : Option Nat} {oi oj : Oper} {t : Tm} {v : Value} {H : Heap} {p : Tm × Heap} (hap : oi.apart ops oj = true)
    (h : evOne P orc call ops slot oj (tput t oi.dst v) H = some p) : ∃ q, evOne P orc call ops slot oj t H = some q ∧ p = (tput q.1 oi.dst v, q.2) := by
  obtain ⟨h1, h2, h3⟩ := Oper.apart_spec hap
  unfold evOne at h ⊢
  rw [Option.ite_none_left_eq_some, blind_tput h1] at h
  obtain ⟨hbl, h⟩ := h
  rw [if_neg hbl]
  rw [wanted_tput h1, evOpR_congr (agree_put h1)] at h
  split at h
  · rename_i hw
    rw [if_pos hw]
    simp only [Option.map_eq_some_iff] at h ⊢
    obtain ⟨u, q1, rfl⟩ := h
    exact ⟨_, ⟨u, q1, rfl⟩, by rw [tput_comm h2]⟩
  · rename_i hw
    rw [if_neg hw]
    simp only [Option.some.injEq] at h
    subst h
    exact ⟨_, rfl, by rw [tput_comm h2]⟩
def Keeps (H H' : Heap) : Prop := ∀ (b : Nat) (k : Blk), H[b]? = some (some k) → H'[b]? = some (some k)
theorem evYield_tput {o : Oper} {d : Option Tmp} {t : Tm} {u : Value} {H : Heap} (h3 : ∀ x, d = some x → x ∉ o.looksAt ops) :
    evYield P orc call ops o (tput t d u) H = evYield P orc call ops o t H := by
  have hag := agree_put (ops := ops) (o := o) (t := t) (v := u) h3
  unfold evYield
  rw [wanted_tput h3, blind_tput h3]
  split
  · rfl
  split
  · unfold Agree at hag
    have hp := pureOp_congr (P := P) (orc := orc) (t := tput t d u) (t' := t) (op := o.op) hag
    split
    · rename_i ty x ho
      rw [ho] at hag
      rw [hag x (by simp [Op.operands])]
    · rename_i c ho
      rw [ho] at hag
      split
      · rename_i f hcl
        have e1 : ev (tput t d u) f = ev t f := hag f (by simp [Op.operands, Call.operands, hcl])
        have e2 : evs (tput t d u) c.args.toList = evs t c.args.toList := evs_congr _ fun x hx => hag x (by simp only [Op.operands, Call.operands, Array.toList_append, List.mem_append]; exact .inr hx)
        rw [e1, e2]
      · rfl
    · exact hp
  · rfl
theorem evYield_keeps {o : Oper} {t : Tm} {v : Value} {H H' : Heap} (hk : isLoad o.op = true → Keeps H H') (h : evYield P orc call ops o t H = some v) : evYield P orc call ops o t H' = some v := by
  unfold evYield at h ⊢
  rw [Option.ite_none_left_eq_some] at h
  obtain ⟨hbl, h⟩ := h
  rw [if_neg hbl]
  split at h
  · rename_i hw
    rw [if_pos hw]
    split at h
    · rename_i ty x ho
      rw [ho] at hk
      simp only [Option.bind_eq_some_iff] at h ⊢
      obtain ⟨p, q1, q2⟩ := h
      refine ⟨p, q1, ?_⟩
      unfold ldV at q2 ⊢
      split at q2
      · rename_i hop; rw [if_pos hop]; exact q2
      rename_i hop
      rw [if_neg hop]
      split at q2
      · rename_i hlp
        rw [if_pos hlp]
        unfold evLoadL at q2 ⊢
        split at q2
        · split at q2
          · rename_i k hk1
            rw [getN_eq] at hk1
            have := hk rfl _ _ hk1
            simp only [getN_eq, this]
            exact q2
          · cases q2
        · cases q2
      rename_i hlp
      rw [if_neg hlp]
      simp only [evLoad, Option.bind_eq_some_iff] at q2 ⊢
      obtain ⟨b, r1, k, r2, r3⟩ := q2
      refine ⟨b, r1, k, ?_, r3⟩
      have := hk rfl _ _ (blkAt_eq r2)
      have hs : Nat.blt k.ty 1180591620717411303424 = true := by
        unfold blkAt at r2; split at r2
        · rw [Option.ite_none_right_eq_some] at r2; rw [← Option.some.inj r2.2]; exact r2.1
        · cases r2
      unfold blkAt
      rw [getN_eq, this]
      exact if_pos hs
    · exact h
    · exact h
  · rename_i hw
    rw [if_neg hw]
    exact h
theorem evExt_none {fv : Value} {p : FuncId × List Value} {vs : List Value} (h : asFn P fv = some p) : evExt P fv vs = none := by
  unfold asFn at h
  split at h
  · rename_i g fs cap
    simp only [Option.ite_none_right_eq_some, Option.bind_eq_some_iff, Option.ite_none_left_eq_some] at h
    obtain ⟨h1, fn, h2, h3, _⟩ := h
    unfold evExt
    simp only [h1, if_true, h2, Option.bind_some]
    have : fn.body.isNone = false := by
      rcases q : fn.body.isNone with _ | _
      · rfl
      · rw [q] at h3; simp at h3
    rw [this]
    rfl
  · cases h
theorem evYield_one {oi : Oper} {slot : Option Nat} {t : Tm} {v : Value} {H : Heap} (h : evYield P orc call ops oi t H = some v) :
    evOne P orc call ops slot oi t H = some (tput t oi.dst v, H) := by
  unfold evYield at h
  unfold evOne
  rw [Option.ite_none_left_eq_some] at h
  obtain ⟨hbl, h⟩ := h
  rw [if_neg hbl]
  split at h
  · rename_i hw
    rw [if_pos hw]
    have old : yieldOf oi.op t = none → evOp P orc call.fn slot oi.op oi.type t H = some (v, H) → evOpR P orc call slot oi.op oi.type t H = some (v, H) := fun hy q => by unfold evOpR; rw [hy]; exact q
    suffices hs : evOpR P orc call slot oi.op oi.type t H = some (v, H) by rw [hs]; rfl
    split at h
    · rename_i ty x ho
      refine old (by rw [ho]; rfl) ?_
      rw [ho]
      simp only [Option.bind_eq_some_iff] at h
      obtain ⟨p, q1, q2⟩ := h
      simp [evOp, q1, q2]
    · rename_i c ho
      split at h
      · rename_i f hcl
        simp only [Option.bind_eq_some_iff] at h
        obtain ⟨fv, q1, vs, q2, p, q3, q4⟩ := h
        unfold flatCall at q4
        refine old ?_ ?_
        · rcases q : yieldOf oi.op t with _ | ⟨b, us⟩
          · rfl
          · obtain ⟨c', f', e1, e2, e3, _⟩ := yieldOf_some q
            rw [ho] at e1; cases e1
            rw [hcl] at e2; cases e2
            rw [q1] at e3; cases e3
            simp [asFn] at q3
        rw [ho]
        have hg : evGo orc call.fn p.1 (vs ++ p.2) H = some (v, H) := by
          unfold evGo
          split at q4
          · cases q4
            rfl
          · rw [Option.ite_none_right_eq_some] at q4
            obtain ⟨q5, q4⟩ := q4
            simp only [Option.bind_eq_some_iff, Option.ite_none_right_eq_some, Option.some.injEq] at q4
            obtain ⟨⟨u, H2⟩, q6, q7, rfl⟩ := q4
            rw [if_pos q5, q6]
            simp only [Option.bind_some]
            rw [if_pos q7]
        simp only [evOp, hcl, q1, q2, evFn, evExt_none q3, q3, Option.bind_some, hg]
      · cases h
    · rename_i hl hcl
      refine old ?_ ?_
      · rcases q : yieldOf oi.op t with _ | ⟨b, us⟩
        · rfl
        · obtain ⟨c', f', e1, _⟩ := yieldOf_some q
          exact absurd e1 (hcl _)
      unfold evOp
      split <;> first
        | (rename_i ho; simp [ho, pureOp] at h; done)
        | (rename_i ho; exact absurd ho (hl _ _))
        | (rename_i ho; exact absurd ho (hcl _))
        | (rename_i ho; rw [ho] at h; rw [h]; done)
        | (rw [h]; rfl)
  · rename_i hw
    rw [if_neg hw]
    cases h
    rfl

theorem evR_yield {base : Nat} {i : Nat} {oi : Oper} {t : Tm} {v : Value} {H : Heap} (hi : ops[i]? = some oi) (hlen : base + cnt ops ops.size ≤ H.length)
    (h : evYield P orc call ops oi t H = some v) : evR P orc call ops cs base true i t H = some (tput t oi.dst v, H) := by
  simp only [evR, hi, Option.bind_some, evYield_one h]
  rw [if_pos ⟨hlen, fun _ _ => by rw [h]; rfl⟩]

theorem good_first {base : Nat} {F : Tm × Heap} {i : Nat} {oi : Oper} {v : Value} (hi : ops[i]? = some oi) :
    ∀ (n : Nat) (l : Array Bool) (t : Tm) (H : Heap),
      (∀ j oj, ops[j]? = some oj → j ≠ i → l.getD j true = false → (∀ e ∈ oj.after, Region.binds .any e = true → e.on ≠ i) → oi.apart ops oj = true ∧ (isLoad oi.op = true → isStore cs oj.op = false)) →
      i ∈ Region.ready .any ops l → evYield P orc call ops oi t H = some v → base + cnt ops ops.size ≤ H.length →
      Good P orc call ops cs base true F n (l.setIfInBounds i true) (tput t oi.dst v) H → Good P orc call ops cs base true F (n + 1) l t H := by
  intro n
  induction n with
  | zero =>
    intro l t H hfree hr hy hlen hG
    refine ⟨fun q => (by rw [q] at hr; cases hr), fun j hj => ?_⟩
    by_cases hji : j = i
    · subst hji; exact ⟨_, evR_yield hi hlen hy, hG⟩
    · have := ready_mono hj hji
      rw [hG.1] at this
      cases this
  | succ n ih =>
    intro l t H hfree hr hy hlen hG
    refine ⟨fun q => (by rw [q] at hr; cases hr), fun j hj => ?_⟩
    by_cases hji : j = i
    · subst hji; exact ⟨_, evR_yield hi hlen hy, hG⟩
    · obtain ⟨p, h1, h2⟩ := hG.2 j (ready_mono hj hji)
      obtain ⟨hjun, oj, hoj, hall⟩ := mem_ready.1 hj
      have hnot : ∀ e ∈ oj.after, Region.binds .any e = true → e.on ≠ i := fun e he hb heq => by
        have h1 := hall e he hb
        have h0 := (mem_ready.1 hr).1
        rw [heq] at h1
        rcases Nat.lt_or_ge i l.size with h' | h'
        · simp [h'] at h0 h1; rw [h0] at h1; cases h1
        · simp [Array.getElem?_eq_none h'] at h1
      obtain ⟨hap, hst⟩ := hfree j oj hoj hji hjun hnot
      simp only [evR, hoj, Option.bind_some, Option.bind_eq_some_iff, Option.ite_none_right_eq_some, Option.some.injEq] at h1
      obtain ⟨p', h3, ⟨h4, h5⟩, rfl⟩ := h1
      obtain ⟨q, h6, rfl⟩ := evOne_put hap h3
      refine ⟨q, ?_, ?_⟩
      · simp only [evR, hoj, Option.bind_some, h6]
        rw [evYield_tput (Oper.apart_spec hap).1] at h5
        rw [if_pos ⟨h4, h5⟩]
      · refine ih (l.setIfInBounds j true) q.1 q.2 ?_ (ready_mono hr (Ne.symm hji)) ?_ h4 ?_
        · intro k ok hk hki hun hno
          refine hfree k ok hk hki ?_ hno
          by_cases hjk : j = k
          · subst hjk; exact hjun
          · rw [getD_set_ne true hjk] at hun; exact hun
        · have hq : ∃ u, q.1 = tput t oj.dst u := by
            unfold evOne at h6
            rw [Option.ite_none_left_eq_some] at h6
            obtain ⟨_, h6⟩ := h6
            split at h6
            · simp only [Option.map_eq_some_iff] at h6
              obtain ⟨u, _, rfl⟩ := h6
              exact ⟨_, rfl⟩
            · simp only [Option.some.injEq] at h6
              subst h6
              exact ⟨_, rfl⟩
          obtain ⟨u, hu⟩ := hq
          rw [hu, evYield_tput (Oper.apart_spec hap).2.2]
          refine evYield_keeps (fun hload => ?_) hy
          have h7 := h5 trivial (hst hload)
          rw [Bool.or_eq_true, evYield_tput (Oper.apart_spec hap).1] at h7
          rcases h7 with h7 | h7
          · obtain ⟨x, hx⟩ := Option.isSome_iff_exists.1 h7
            have := (evYield_one (slot := slotOf ops base j oj) hx).symm.trans h6
            simp only [Option.some.injEq] at this
            rw [← this]
            exact fun b k q => q
          · exact keepsB_get _ _ h7
        · rw [Array.setIfInBounds_comm _ _ hji]
          exact h2


theorem addE_ok {x : En} : ∀ (l l' : List En), addE x l = some l' → x ∈ l' ∧ ∀ y ∈ l, y ∈ l' := by
  intro l
  induction l with
  | nil => intro l' h; simp only [addE, Option.some.injEq] at h; subst h; exact ⟨by simp, fun y hy => by simp at hy⟩
  | cons y r ih =>
    intro l' h
    simp only [addE] at h
    split at h
    · rw [Option.ite_none_right_eq_some, Option.some.injEq] at h
      obtain ⟨h1, rfl⟩ := h
      rw [sameE_eq h1]
      exact ⟨by simp, fun z hz => hz⟩
    · simp only [Option.map_eq_some_iff] at h
      obtain ⟨r', h1, rfl⟩ := h
      obtain ⟨h2, h3⟩ := ih r' h1
      refine ⟨by simp [h2], fun z hz => ?_⟩
      rcases List.mem_cons.1 hz with rfl | hz
      · simp
      · simp [h3 z hz]
theorem addAll_ok {base : Nat} {strict : Bool} {e : En} : ∀ (is : List Nat) (acc l : List En), addAll P orc call ops cs base strict e is acc = some l →
    (∀ y ∈ acc, y ∈ l) ∧ ∀ i ∈ is, ∃ x, evNext P orc call ops cs base strict e i = some x ∧ x ∈ l := by
  intro is
  induction is with
  | nil => intro acc l h; simp only [addAll, Option.some.injEq] at h; subst h; exact ⟨fun y hy => hy, fun i hi => by simp at hi⟩
  | cons i r ih =>
    intro acc l h
    simp only [addAll, Option.bind_eq_some_iff] at h
    obtain ⟨x, h1, acc1, h2, h3⟩ := h
    obtain ⟨g1, g2⟩ := addE_ok _ _ h2
    obtain ⟨g3, g4⟩ := ih acc1 l h3
    refine ⟨fun y hy => g3 y (g2 y hy), fun j hj => ?_⟩
    rcases List.mem_cons.1 hj with rfl | hj
    · exact ⟨x, h1, g3 x g1⟩
    · exact g4 j hj
/-- the bits say which operations have come up -/
def MR (ops : Array Oper) (m : Nat) (l : Array Bool) : Prop := l.size = ops.size ∧ ∀ i, l.getD i false = m.testBit i
theorem need_iff {m : Nat} : ∀ (es : List Edge), ((m &&& need es) == need es) = true ↔ ∀ e ∈ es, Region.binds .any e = true → m.testBit e.on = true := by
  intro es
  induction es with
  | nil => simp [need]
  | cons e r ih =>
    simp only [need]
    split
    · rename_i hb
      have key : (m &&& (2 ^ e.on ||| need r)) = (2 ^ e.on ||| need r) ↔ m.testBit e.on = true ∧ (m &&& need r) = need r := by
        constructor
        · intro h
          have hb : ∀ i, (m &&& (2 ^ e.on ||| need r)).testBit i = (2 ^ e.on ||| need r).testBit i := fun i => by rw [h]
          refine ⟨?_, Nat.eq_of_testBit_eq fun i => ?_⟩
          · have := hb e.on
            simp [Nat.testBit_and, Nat.testBit_or, Nat.testBit_two_pow_self] at this
            exact this
          · have := hb i
            simp only [Nat.testBit_and, Nat.testBit_or] at this ⊢
            cases h1 : (need r).testBit i <;> simp_all
        · rintro ⟨h1, h2⟩
          refine Nat.eq_of_testBit_eq fun i => ?_
          have h3 : (m &&& need r).testBit i = (need r).testBit i := by rw [h2]
          simp only [Nat.testBit_and, Nat.testBit_or, Nat.testBit_two_pow] at h3 ⊢
          by_cases hi : e.on = i
          · subst hi; simp [h1]
          · simp [hi, h3]
      rw [beq_iff_eq, key]
      rw [beq_iff_eq] at ih
      rw [ih]
      constructor
      · rintro ⟨h1, h2⟩ d hd hbd
        rcases List.mem_cons.1 hd with rfl | hd
        · exact h1
        · exact h2 d hd hbd
      · intro h
        exact ⟨h e (by simp) hb, fun d hd => h d (by simp [hd])⟩
    · rename_i hb
      rw [ih]
      constructor
      · intro h d hd hbd
        rcases List.mem_cons.1 hd with rfl | hd
        · exact absurd hbd hb
        · exact h d hd hbd
      · intro h d hd
        exact h d (by simp [hd])
theorem need_bit {i : Nat} : ∀ (es : List Edge), (need es).testBit i = true → ∃ e ∈ es, Region.binds .any e = true ∧ e.on = i := by
  intro es
  induction es with
  | nil => intro h; simp [need] at h
  | cons e r ih =>
    intro h
    simp only [need] at h
    split at h
    · rename_i hb
      rw [Nat.testBit_or, Bool.or_eq_true, Nat.testBit_two_pow] at h
      rcases h with h | h
      · exact ⟨e, by simp, hb, by simpa using h⟩
      · obtain ⟨d, h1, h2⟩ := ih h; exact ⟨d, by simp [h1], h2⟩
    · obtain ⟨d, h1, h2⟩ := ih h; exact ⟨d, by simp [h1], h2⟩
theorem cand_iff {m : Nat} {l : Array Bool} (hM : MR ops m l) {i : Nat} {o : Oper} (hi : ops[i]? = some o) : cand m o i = true ↔ i ∈ Region.ready .any ops l := by
  have hlt : i < l.size := hM.1 ▸ (Array.getElem?_eq_some_iff.1 hi).1
  have e1 : l.getD i true = m.testBit i := by rw [← hM.2 i]; simp [hlt]
  rw [mem_ready, cand, Bool.and_eq_true, Bool.not_eq_true', need_iff, e1]
  constructor
  · rintro ⟨h1, h2⟩
    exact ⟨h1, o, hi, fun e he hb => by rw [hM.2]; exact h2 e (by simpa using he) hb⟩
  · rintro ⟨h1, o', ho, h2⟩
    rw [hi] at ho; cases ho
    exact ⟨h1, fun e he hb => by rw [← hM.2]; exact h2 e (by simpa using he) hb⟩
theorem mem_readyM {m : Nat} : ∀ (os : List Oper) (k i : Nat), i ∈ readyM m os k ↔ ∃ j o, os[j]? = some o ∧ i = k + j ∧ cand m o i = true := by
  intro os
  induction os with
  | nil => intro k i; simp [readyM]
  | cons o r ih =>
    intro k i
    have step : (∃ j o', (o :: r)[j]? = some o' ∧ i = k + j ∧ cand m o' i = true) ↔ (i = k ∧ cand m o i = true) ∨ ∃ j o', r[j]? = some o' ∧ i = (k + 1) + j ∧ cand m o' i = true := by
      constructor
      · rintro ⟨j, o', h1, h2, h3⟩
        cases j with
        | zero => simp only [List.getElem?_cons_zero, Option.some.injEq] at h1; subst h1; exact .inl ⟨h2, h3⟩
        | succ j => exact .inr ⟨j, o', by simpa using h1, by omega, h3⟩
      · rintro (⟨h1, h2⟩ | ⟨j, o', h1, h2, h3⟩)
        · exact ⟨0, o, rfl, h1, h2⟩
        · exact ⟨j + 1, o', by simpa using h1, by omega, h3⟩
    rw [step]
    simp only [readyM]
    split
    · rename_i hc
      rw [List.mem_cons, ih]
      constructor
      · rintro (rfl | h)
        · exact .inl ⟨rfl, hc⟩
        · exact .inr h
      · rintro (⟨h, _⟩ | h)
        · exact .inl h
        · exact .inr h
    · rename_i hc
      rw [ih]
      constructor
      · exact .inr
      · rintro (⟨rfl, h⟩ | h)
        · exact absurd h hc
        · exact h
theorem readyM_iff {m : Nat} {l : Array Bool} (hM : MR ops m l) (i : Nat) : i ∈ readyM m ops.toList 0 ↔ i ∈ Region.ready .any ops l := by
  rw [mem_readyM]
  constructor
  · rintro ⟨j, o, h1, rfl, h3⟩
    rw [Nat.zero_add] at h3 ⊢
    exact (cand_iff hM (by simpa using h1)).1 h3
  · intro h
    obtain ⟨_, o, ho, _⟩ := mem_ready.1 h
    exact ⟨i, o, by simpa using ho, by omega, (cand_iff hM ho).2 h⟩
theorem MR.next {m : Nat} {l : Array Bool} (hM : MR ops m l) {i : Nat} (hi : i < ops.size) : MR ops (m ||| 2 ^ i) (l.setIfInBounds i true) := by
  refine ⟨by simpa using hM.1, fun j => ?_⟩
  rw [Nat.testBit_or, Nat.testBit_two_pow, ← hM.2 j]
  by_cases hij : i = j
  · subst hij
    have : i < l.size := by rw [hM.1]; exact hi
    simp [this]
  · rw [getD_set_ne false hij]; simp [hij]
theorem okGo_spec {o : Oper} {i : Nat} : ∀ (os : List Oper) (k : Nat), okGo ops cs o i os k = true → ∀ (j : Nat) (p : Oper), os[j]? = some p →
    k + j = i ∨ (need p.after.toList).testBit i = true ∨ (need o.after.toList).testBit (k + j) = true ∨ (o.apart ops p = true ∧ (isLoad o.op = true → isStore cs p.op = false)) := by
  intro os
  induction os with
  | nil => intro k _ j p h; simp at h
  | cons q r ih =>
    intro k h j p hj
    simp only [okGo, Bool.and_eq_true, Bool.or_eq_true, beq_iff_eq, Bool.not_eq_true'] at h
    obtain ⟨h1, h2⟩ := h
    cases j with
    | zero =>
      simp only [List.getElem?_cons_zero, Option.some.injEq] at hj
      subst hj
      rw [Nat.add_zero]
      rcases h1 with h1 | h1 | h1 | ⟨h1, h3⟩
      · exact .inl h1
      · exact .inr (.inl h1)
      · exact .inr (.inr (.inl h1))
      · refine .inr (.inr (.inr ⟨h1, fun hl => ?_⟩))
        rcases h3 with h3 | h3
        · rw [hl] at h3; cases h3
        · exact h3
    | succ j =>
      have := ih (k + 1) h2 j p (by simpa using hj)
      rw [show k + 1 + j = k + (j + 1) by omega] at this
      exact this
theorem okS_spec {m : Nat} {l : Array Bool} (hM : MR ops m l) {o : Oper} {i : Nat} (hi : ops[i]? = some o) (hr : i ∈ Region.ready .any ops l) (h : okS ops cs o i = true) :
    ∀ j oj, ops[j]? = some oj → j ≠ i → l.getD j true = false → (∀ e ∈ oj.after, Region.binds .any e = true → e.on ≠ i) → o.apart ops oj = true ∧ (isLoad o.op = true → isStore cs oj.op = false) := by
  simp only [okS] at h
  refine fun j oj hj hne hun hno => ?_
  have := okGo_spec _ _ h j oj (by simpa using hj)
  rw [Nat.zero_add] at this
  rcases this with h1 | h1 | h1 | h1
  · exact absurd h1 hne
  · obtain ⟨e, he, hb, hon⟩ := need_bit _ h1
    exact absurd hon (hno e (by simpa using he) hb)
  · obtain ⟨e, he, hb, hon⟩ := need_bit _ h1
    obtain ⟨_, o', ho', hall⟩ := mem_ready.1 hr
    rw [hi] at ho'; cases ho'
    have := hall e (by simpa using he) hb
    rw [hon] at this
    have hlt : j < l.size := hM.1 ▸ (Array.getElem?_eq_some_iff.1 hj).1
    simp [hlt] at this hun
    rw [this] at hun; cases hun
  · exact h1
theorem findTake_spec {m : Nat} {t : Tm} {H : Heap} {i : Nat} {v : Value} {d : Option Tmp} : ∀ (os : List Oper) (k : Nat), findTake P orc call ops cs m t H os k = some (i, v, d) →
    ∃ j o, os[j]? = some o ∧ i = k + j ∧ cand m o i = true ∧ okS ops cs o i = true ∧ evYield P orc call ops o t H = some v ∧ d = o.dst := by
  intro os
  induction os with
  | nil => intro k h; simp [findTake] at h
  | cons o r ih =>
    intro k h
    have tl : findTake P orc call ops cs m t H r (k + 1) = some (i, v, d) → ∃ j o', (o :: r)[j]? = some o' ∧ i = k + j ∧ cand m o' i = true ∧ okS ops cs o' i = true ∧ evYield P orc call ops o' t H = some v ∧ d = o'.dst := by
      intro q
      obtain ⟨j, o', h1, h2, h3⟩ := ih (k + 1) q
      exact ⟨j + 1, o', by simpa using h1, by omega, h3⟩
    simp only [findTake] at h
    split at h
    · rename_i hc
      rw [Bool.and_eq_true] at hc
      split at h
      · rename_i u hu
        simp only [Option.some.injEq, Prod.mk.injEq] at h
        obtain ⟨rfl, rfl, rfl⟩ := h
        exact ⟨0, o, rfl, rfl, hc.1, hc.2, hu, rfl⟩
      · exact tl h
    · exact tl h
theorem layer_ok {base : Nat} {strict : Bool} : ∀ (es acc l : List En), layer P orc call ops cs base strict es acc = some l →
    (∀ y ∈ acc, y ∈ l) ∧ ∀ e ∈ es, (strict = true ∧ ∃ i v d, findTake P orc call ops cs e.m e.t e.h ops.toList 0 = some (i, v, d) ∧ (⟨e.m ||| 2 ^ i, tput e.t d v, e.h⟩ : En) ∈ l) ∨
      (readyM e.m ops.toList 0 ≠ [] ∧ ∀ i ∈ readyM e.m ops.toList 0, ∃ x, evNext P orc call ops cs base strict e i = some x ∧ x ∈ l) := by
  intro es
  induction es with
  | nil => intro acc l h; simp only [layer, Option.some.injEq] at h; subst h; exact ⟨fun y hy => hy, fun i hi => by simp at hi⟩
  | cons e r ih =>
    intro acc l h
    simp only [layer] at h
    split at h
    · rename_i i v d hf
      rw [Option.ite_none_right_eq_some] at hf
      simp only [Option.bind_eq_some_iff] at h
      obtain ⟨acc1, h1, h2⟩ := h
      obtain ⟨g1, g2⟩ := addE_ok _ _ h1
      obtain ⟨g3, g4⟩ := ih acc1 l h2
      refine ⟨fun y hy => g3 y (g2 y hy), fun x hx => ?_⟩
      rcases List.mem_cons.1 hx with rfl | hx
      · exact .inl ⟨hf.1, i, v, d, hf.2, g3 _ g1⟩
      · exact g4 x hx
    · split at h
      · cases h
      · rename_i hne
        simp only [Option.bind_eq_some_iff] at h
        obtain ⟨acc1, h1, h2⟩ := h
        obtain ⟨g1, g2⟩ := addAll_ok _ _ _ h1
        obtain ⟨g3, g4⟩ := ih acc1 l h2
        refine ⟨fun y hy => g3 y (g1 y hy), fun d hd => ?_⟩
        rcases List.mem_cons.1 hd with rfl | hd
        · refine .inr ⟨fun q => hne (by rw [q]; rfl), fun i hi => ?_⟩
          obtain ⟨x, q1, q2⟩ := g2 i hi
          exact ⟨x, q1, g3 x q2⟩
        · exact g4 d hd
theorem good_of_any {base : Nat} {strict : Bool} {F : Tm × Heap} : ∀ (n : Nat) (es : List En), evAny P orc call ops cs base strict n es = some F →
    ∀ e ∈ es, ∀ l, MR ops e.m l → base + cnt ops ops.size ≤ e.h.length → Good P orc call ops cs base strict F n l e.t e.h := by
  intro n
  induction n with
  | zero =>
    intro es h e he l hM hlen
    match es, h with
    | [d], h =>
      simp only [evAny, Option.ite_none_right_eq_some, Option.some.injEq, List.isEmpty_iff] at h
      obtain ⟨h1, rfl⟩ := h
      obtain rfl : e = d := by simpa using he
      refine ⟨List.eq_nil_iff_forall_not_mem.2 fun i hi => ?_, rfl⟩
      have := (readyM_iff hM i).2 hi
      rw [h1] at this
      cases this
  | succ n ih =>
    intro es h e he l hM hlen
    simp only [evAny, Option.bind_eq_some_iff] at h
    obtain ⟨nx, h1, h2⟩ := h
    obtain ⟨_, g⟩ := layer_ok _ _ _ h1
    rcases g e he with ⟨rfl, i, v, d, g1, g2⟩ | ⟨g1, g2⟩
    · obtain ⟨j, o, q1, q2, q3, q4, q5, rfl⟩ := findTake_spec _ _ g1
      have hij : i = j := by omega
      subst hij
      have ho : ops[i]? = some o := by simpa using q1
      have hr := (cand_iff hM ho).1 q3
      have hfree := okS_spec hM ho hr q4
      exact good_first ho n l e.t e.h hfree hr q5 hlen (ih nx h2 _ g2 _ (hM.next (Array.getElem?_eq_some_iff.1 ho).1) hlen)
    · refine ⟨fun q => g1 (List.eq_nil_iff_forall_not_mem.2 fun i hi => ?_), fun i hi => ?_⟩
      · have := (readyM_iff hM i).1 hi
        rw [q] at this
        cases this
      · obtain ⟨x, q1, q2⟩ := g2 i ((readyM_iff hM i).2 hi)
        simp only [evNext, Option.map_eq_some_iff] at q1
        obtain ⟨p, q3, rfl⟩ := q1
        have hp : base + cnt ops ops.size ≤ p.2.length ∧ i < ops.size := by
          simp only [evR, Option.bind_eq_some_iff, Option.ite_none_right_eq_some, Option.some.injEq] at q3
          obtain ⟨o, ho, p', _, ⟨q5, _⟩, rfl⟩ := q3
          exact ⟨q5, (Array.getElem?_eq_some_iff.1 ho).1⟩
        exact ⟨p, q3, ih nx h2 _ q2 _ (hM.next hp.2) hp.1⟩

theorem readyM_nil {m : Nat} {l : Array Bool} (hM : MR ops m l) (h : (readyM m ops.toList 0).isEmpty = true) : Region.ready .any ops l = [] := by
  rw [List.isEmpty_iff] at h
  refine List.eq_nil_iff_forall_not_mem.2 fun i hi => ?_
  have := (readyM_iff hM i).2 hi
  rw [h] at this
  cases this
theorem pass_good {base : Nat} {F : Tm × Heap} : ∀ (os : List Oper) (k : Nat) (e : En) (n : Nat) (e' : En) (n' : Nat), (∀ j, os[j]? = ops[k + j]?) → pass P orc call ops cs os k e n = (e', n') →
    e'.h = e.h ∧ ∀ l, MR ops e.m l → base + cnt ops ops.size ≤ e.h.length → (∀ l', MR ops e'.m l' → Good P orc call ops cs base true F n' l' e'.t e'.h) → Good P orc call ops cs base true F n l e.t e.h := by
  intro os
  induction os with
  | nil =>
    intro k e n e' n' _ h
    simp only [pass, Prod.mk.injEq] at h
    obtain ⟨rfl, rfl⟩ := h
    exact ⟨rfl, fun l hM _ hG => hG l hM⟩
  | cons o r ih =>
    intro k e n e' n' hk h
    have hk' : ∀ j, r[j]? = ops[k + 1 + j]? := fun j => by have := hk (j + 1); rw [List.getElem?_cons_succ] at this; rw [this]; congr 1; omega
    have ho : ops[k]? = some o := by have := hk 0; simpa using this.symm
    cases n with
    | zero =>
      simp only [pass, Prod.mk.injEq] at h
      obtain ⟨rfl, rfl⟩ := h
      exact ⟨rfl, fun l hM _ hG => hG l hM⟩
    | succ n =>
      simp only [pass] at h
      split at h
      · rename_i hc
        rw [Bool.and_eq_true] at hc
        split at h
        · rename_i v hv
          obtain ⟨q1, q2⟩ := ih _ _ _ _ _ hk' h
          refine ⟨q1, fun l hM hlen hG => ?_⟩
          have hr := (cand_iff hM ho).1 hc.1
          have hfree := okS_spec hM ho hr hc.2
          exact good_first ho n l e.t e.h hfree hr hv hlen (q2 _ (hM.next (Array.getElem?_eq_some_iff.1 ho).1) hlen hG)
        · exact ih _ _ _ _ _ hk' h
      · exact ih _ _ _ _ _ hk' h
theorem good_branch {base : Nat} {strict : Bool} {F : Tm × Heap} {n : Nat} {e : En} {es : List En} (g1 : readyM e.m ops.toList 0 ≠ [])
    (g2 : ∀ i ∈ readyM e.m ops.toList 0, ∃ x, evNext P orc call ops cs base strict e i = some x ∧ x ∈ es)
    (ih : ∀ e ∈ es, ∀ l, MR ops e.m l → base + cnt ops ops.size ≤ e.h.length → Good P orc call ops cs base strict F n l e.t e.h) (l : Array Bool) (hM : MR ops e.m l) :
    Good P orc call ops cs base strict F (n + 1) l e.t e.h := by
  refine ⟨fun q => g1 (List.eq_nil_iff_forall_not_mem.2 fun i hi => ?_), fun i hi => ?_⟩
  · have := (readyM_iff hM i).1 hi
    rw [q] at this
    cases this
  · obtain ⟨x, q1, q2⟩ := g2 i ((readyM_iff hM i).2 hi)
    simp only [evNext, Option.map_eq_some_iff] at q1
    obtain ⟨p, q3, rfl⟩ := q1
    have hp : base + cnt ops ops.size ≤ p.2.length ∧ i < ops.size := by
      simp only [evR, Option.bind_eq_some_iff, Option.ite_none_right_eq_some, Option.some.injEq] at q3
      obtain ⟨o, ho, p', _, ⟨q5, _⟩, rfl⟩ := q3
      exact ⟨q5, (Array.getElem?_eq_some_iff.1 ho).1⟩
    exact ⟨p, q3, ih _ q2 _ (hM.next hp.2) hp.1⟩
theorem good_of_run {base : Nat} {F : Tm × Heap} : ∀ (f n : Nat) (es : List En), evRun P orc call ops cs base f n es = some F →
    ∀ e ∈ es, ∀ l, MR ops e.m l → base + cnt ops ops.size ≤ e.h.length → Good P orc call ops cs base true F n l e.t e.h := by
  intro f
  induction f with
  | zero => intro n es h; simp [evRun] at h
  | succ f ih =>
    intro n es h e he l hM hlen
    simp only [evRun] at h
    split at h
    · rename_i d
      obtain rfl : e = d := by simpa using he
      split at h
      · rename_i e' hp
        simp only [Option.ite_none_right_eq_some, Option.some.injEq] at h
        obtain ⟨h1, rfl⟩ := h
        obtain ⟨q1, q2⟩ := pass_good (base := base) (F := (e'.t, e'.h)) _ _ _ _ _ _ (fun j => by simp) hp
        exact q2 l hM hlen fun l' hM' => ⟨readyM_nil hM' h1, rfl⟩
      · rename_i e' n' hp
        split at h
        · cases h
        rename_i hne
        simp only [Option.bind_eq_some_iff] at h
        obtain ⟨es', h1, h2⟩ := h
        obtain ⟨q1, q2⟩ := pass_good (base := base) (F := F) _ _ _ _ _ _ (fun j => by simp) hp
        obtain ⟨g1, g2⟩ := addAll_ok _ _ _ h1
        refine q2 l hM hlen fun l' hM' => good_branch (fun q => hne (by rw [q]; rfl)) g2 (fun x hx l hM hl => ih _ _ h2 x hx l hM hl) l' hM'
    · split at h
      · cases h
      · rename_i n'
        simp only [Option.bind_eq_some_iff] at h
        obtain ⟨nx, h1, h2⟩ := h
        obtain ⟨_, g⟩ := layer_ok _ _ _ h1
        rcases g e he with ⟨_, i, v, d, g1, g2⟩ | ⟨g1, g2⟩
        · obtain ⟨j, o, q1, q2, q3, q4, q5, rfl⟩ := findTake_spec _ _ g1
          have hij : i = j := by omega
          subst hij
          have ho : ops[i]? = some o := by simpa using q1
          have hr := (cand_iff hM ho).1 q3
          have hfree := okS_spec hM ho hr q4
          exact good_first ho n' l e.t e.h hfree hr q5 hlen (ih _ nx h2 _ g2 _ (hM.next (Array.getElem?_eq_some_iff.1 ho).1) hlen)
        · exact good_branch g1 g2 (fun x hx l hM hl => ih _ _ h2 x hx l hM hl) l hM

theorem cntL_lt : ∀ (os : List Oper) (i j : Nat) (o : Oper), i < j → os[i]? = some o → isAlloc o.op = true → cntL os i < cntL os j := by
  intro os
  induction os with
  | nil => intro i j o _ h; simp at h
  | cons p r ih =>
    intro i j o hij hi ha
    cases j with
    | zero => omega
    | succ j =>
      cases i with
      | zero =>
        simp only [List.getElem?_cons_zero, Option.some.injEq] at hi
        subst hi
        simp [cntL, ha]; omega
      | succ i =>
        have := ih i j o (by omega) (by simpa using hi) ha
        simp only [cntL]; omega
theorem wpAny_of_good {lr : Option Nat} (hor : OrcOK ρ P orc) (hc : CalOK ρ P call) (Q : Exit → Act → World → Prop) {base : Nat} {strict : Bool} {F : Tm × Heap} : ∀ (n : Nat) (l : Array Bool) (t : Tm) (H : Heap), Good P orc call ops cs base strict F n l t H →
    l.size = ops.size → base + cnt ops ops.size ≤ H.length → ∀ (β : Names) (w : World) (a : Act), Sim ρ P w0 β H w → RelT ρ β t a.tmps → (∀ i o, ops[i]? = some o → isAlloc o.op = true → l.getD i true = false → β (base + cnt ops i) = none) →
    (∀ β' w' a', Ext β β' → (∀ x, x < base → β x = none → β' x = none) → base + cnt ops ops.size ≤ F.2.length → RelT ρ β' F.1 a'.tmps → a'.defers = a.defers → Sim ρ P w0 β' F.2 w' → Q .normal a' w') → wpAnyIn (rd lr) 0 P .any ops Q n l a w := by
  intro n
  induction n with
  | zero =>
    intro l t H hG hsz hlen β w a hS hT hpad hQ
    obtain ⟨h1, rfl⟩ := hG
    exact ⟨h1, hQ β w a (Ext.refl _) (fun x _ h => h) hlen hT rfl hS⟩
  | succ n ih =>
    intro l t H hG hsz hlen β w a hS hT hpad hQ
    obtain ⟨h1, h2⟩ := hG
    refine ⟨fun q => absurd q h1, fun i hi => ?_⟩
    obtain ⟨p, h3, h4⟩ := h2 i hi
    simp only [evR, Option.bind_eq_some_iff, Option.ite_none_right_eq_some, Option.some.injEq] at h3
    obtain ⟨o, ho, ⟨t2, H2⟩, h5, ⟨h6, _⟩, rfl⟩ := h3
    unfold wpOpIn
    rw [ho]
    have hun := (mem_ready.1 hi).1
    have clt : ∀ (j : Nat) (oj : Oper), ops[j]? = some oj → isAlloc oj.op = true → cnt ops j < cnt ops ops.size := fun j oj hj ha =>
      cntL_lt _ _ _ oj (Array.getElem?_eq_some_iff.1 hj).1 (by simpa using hj) ha
    refine evOne_ok hor hc h5 (fun x q => ?_) hS hT Q _ fun β' w' a' r1 r2 r3 r4 => ?_
    · unfold slotOf at q
      rw [Option.ite_none_right_eq_some, Option.some.injEq] at q
      rw [← q.2]
      exact hpad i o ho q.1 hun
    have low : ∀ x, x < base → β x = none → β' x = none := fun x hx h => r1.2 x (by omega) h (by
      unfold slotOf
      split
      · simp; omega
      · simp)
    refine ih _ t2 H2 h4 (by simpa using hsz) h6 β' w' a' r4 r2 (fun j oj hj ha hjl => ?_) fun β'' w'' a'' s1 s2 s3 s4 s5 s6 => ?_
    · by_cases hij : i = j
      · subst hij
        have hlt : i < l.size := hsz ▸ (Array.getElem?_eq_some_iff.1 ho).1
        simp [hlt] at hjl
      · rw [getD_set_ne true hij] at hjl
        have hcj := clt j oj hj ha
        refine r1.2 (base + cnt ops j) (by omega) (hpad j oj hj ha hjl) ?_
        unfold slotOf
        split
        · rename_i hai
          intro q
          simp only [Option.some.injEq] at q
          rcases Nat.lt_or_gt_of_ne hij with hlt | hlt
          · have := cntL_lt ops.toList i j o hlt (by simpa using ho) hai
            unfold cnt at q; omega
          · have := cntL_lt ops.toList j i oj hlt (by simpa using hj) ha
            unfold cnt at q; omega
        · simp
    · exact hQ β'' w'' a'' (r1.1.trans s1) (fun x hx h => s2 x hx (low x hx h)) s3 s4 (s5.trans r3) s6
end

end
end Go.Proofs.Ytapcooolainmdaa.Ev
