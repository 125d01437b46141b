/- The evaluator: what stands for numbers, and how an oracle is shown to be right. -/
import Derived.Test.YtapcooolainmdaaEvF
namespace Go.Proofs.Ytapcooolainmdaa.Ev
open Go.RowKit
set_option linter.unusedVariables false
set_option linter.unusedSimpArgs false

/-- number i of those that are not known -/
def sn (i : Nat) : Int := .ofNat (1180591620717411303424 + i)
def sy (i : Nat) : Value := .int .i64 (.ofNat (1180591620717411303424 + i))
def syk (k : IntKind) (i : Nat) : Value := .int k (.ofNat (1180591620717411303424 + i))
/-- an opaque value -/
def oq (i : Nat) : Value := .complex .f64 i 0
noncomputable def envI (l : List Int) : Int → Int
  | .ofNat n => (getN l (n - 1180591620717411303424)).getD 0
  | .negSucc _ => 0
noncomputable def envV (l : List Value) (i : Nat) : Value :=
  match getN l i with
  | some v => if one v then v else .nilIface
  | none => .nilIface
theorem envV_one (l : List Value) (i : Nat) : one (envV l i) = true := by
  unfold envV
  split
  · split
    · assumption
    · rfl
  · rfl
noncomputable def env (l : List Int) (vs : List Value) (w : World) (ls : List (List Value) := []) : Env := ⟨envI l, envV vs, envV_one vs, fun i => (getN ls (i / 1024)).getD [], w⟩
variable {ρ : Env} {P : Program}

def BinOK (ρ : Env) (P : Program) (e : BinOp × TypeId × Value × Value × Value) : Prop :=
  af e.2.2.1 = true ∧ af e.2.2.2.1 = true ∧ af e.2.2.2.2 = true ∧ ∀ (x y : Operand) (w : World),
    (do eqGuard e.1 e.2.1 x y (inst ρ e.2.2.1) (inst ρ e.2.2.2.1); binOp e.1 e.2.1 (inst ρ e.2.2.1) (inst ρ e.2.2.2.1)).run P w = .ok (inst ρ e.2.2.2.2) w
def UnOK (ρ : Env) (P : Program) (e : UnOp × Value × Value) : Prop := af e.2.1 = true ∧ af e.2.2 = true ∧ ∀ (w : World), (Op.unary e.1 (inst ρ e.2.1)).run P w = .ok (inst ρ e.2.2) w
def ConvOK (ρ : Env) (P : Program) (e : TypeId × TypeId × Value × Value) : Prop :=
  af e.2.2.1 = true ∧ af e.2.2.2 = true ∧ ∀ (w : World), (convert e.1 e.2.1 (inst ρ e.2.2.1)).run P w = .ok (inst ρ e.2.2.2) w
def BiOK (ρ : Env) (P : Program) (e : Builtin × List Value × Value) : Prop :=
  (e.2.1.all af) = true ∧ af e.2.2 = true ∧ ∀ (ats : Array TypeId) (ty : TypeId) (cs : Array Bool) (w : World), (builtin e.1 ats ty cs (e.2.1.map (inst ρ)).toArray).run P w = .ok (.value (inst ρ e.2.2)) w
def CallE (ρ : Env) (P : Program) (e : FuncId × List Value × Value) : Prop :=
  (e.2.1.all af) = true ∧ af e.2.2 = true ∧ ∀ (w : World), Below ρ.w.heap.size ρ.w w → Calls P e.1 (e.2.1.map (inst ρ)).toArray w fun en w' => en = .returned (inst ρ e.2.2) ∧ Below w.heap.size w w'

def LdOK (ρ : Env) (P : Program) (e : TypeId × Value × Value) : Prop := af e.2.1 = true ∧ af e.2.2 = true ∧ ∀ (w : World), Below ρ.w.heap.size ρ.w w → (Instr.loadAt e.1 (inst ρ e.2.1)).run P w = .ok (inst ρ e.2.2) w
def IxaOK (ρ : Env) (P : Program) (e : TypeId × Value × Value × Value) : Prop := af e.2.1 = true ∧ af e.2.2.1 = true ∧ af e.2.2.2 = true ∧ ∀ (w : World), (Instr.indexAt e.1 (inst ρ e.2.1) (inst ρ e.2.2.1)).run P w = .ok (inst ρ e.2.2.2) w
def IdxOK (ρ : Env) (P : Program) (e : TypeId × Value × Value × Value) : Prop := af e.2.1 = true ∧ af e.2.2.1 = true ∧ af e.2.2.2 = true ∧ ∀ (w : World), (Instr.index e.1 (inst ρ e.2.1) (inst ρ e.2.2.1)).run P w = .ok (inst ρ e.2.2.2) w
def SliOK (ρ : Env) (P : Program) (e : TypeId × Value × Option Value × Option Value × Value) : Prop :=
  af e.2.1 = true ∧ af e.2.2.2.2 = true ∧ ∀ (w : World), (Instr.sliceAt e.1 (inst ρ e.2.1) (e.2.2.1.map (inst ρ)) (e.2.2.2.1.map (inst ρ)) none).run P w = .ok (inst ρ e.2.2.2.2) w
theorem all_nil {α : Type} {Q : α → Prop} : ∀ e ∈ ([] : List α), Q e := fun e h => by cases h
theorem all_cons {α : Type} {Q : α → Prop} {x : α} {l : List α} (h : Q x) (t : ∀ e ∈ l, Q e) : ∀ e ∈ x :: l, Q e := List.forall_mem_cons.2 ⟨h, t⟩

def cmpOf (op : BinOp) (a b : Int) : Option Bool :=
  match op with
  | .eql => some (a == b)
  | .neq => some (a != b)
  | .lss => some (decide (a < b))
  | .leq => some (decide (a ≤ b))
  | .gtr => some (decide (a > b))
  | .geq => some (decide (a ≥ b))
  | _ => none
def arOf (op : BinOp) (a b : Int) : Option Int :=
  match op with
  | .add => some (a + b)
  | .sub => some (a - b)
  | .mul => some (a * b)
  | _ => none
theorem eqGuard_int (op : BinOp) (ty : TypeId) (x y : Operand) (k l : IntKind) (a b : Int) (w : World) : (eqGuard op ty x y (.int k a) (.int l b)).run P w = .ok () w := by
  cases op <;> rfl
theorem cmpOK {op : BinOp} {ty : TypeId} {k : IntKind} {n m a b : Int} {t : Bool} (ha : valOf ρ n = a) (hb : valOf ρ m = b) (h : cmpOf op a b = some t) : BinOK ρ P (op, ty, .int k n, .int k m, .bool t) := by
  refine ⟨rfl, rfl, rfl, fun x y w => ?_⟩
  simp only [inst_int, ha, hb]
  rw [Sem.run_bind, eqGuard_int, Result.andThen_ok]
  cases op <;> simp only [cmpOf, Option.some.injEq] at h <;> first | cases h | skip
  all_goals (simp [binOp, Op.intCmp, Op.shift, inst, inst1, inst0])
theorem arOK {op : BinOp} {ty : TypeId} {k : IntKind} {n m r a b c d : Int} (ha : valOf ρ n = a) (hb : valOf ρ m = b) (hc : valOf ρ r = c) (h : arOf op a b = some d) (hw : k.wrap d = c) : BinOK ρ P (op, ty, .int k n, .int k m, .int k r) := by
  refine ⟨rfl, rfl, rfl, fun x y w => ?_⟩
  simp only [inst_int, ha, hb, hc]
  rw [Sem.run_bind, eqGuard_int, Result.andThen_ok]
  cases op <;> simp only [arOf, Option.some.injEq] at h <;> first | cases h | skip
  all_goals (subst hw; simp [binOp, Op.intArith])
theorem structOK {op : BinOp} {ty : TypeId} {x y x' y' : Value} {t : Bool} (hx : af x = true) (hy : af y = true) (ex : inst ρ x = x') (ey : inst ρ y = y')
    (hg : ∀ (p q : Operand) (w : World), (eqGuard op ty p q x' y').run P w = .ok () w) (h : ∀ (w : World), (binOp op ty x' y').run P w = .ok (.bool t) w) : BinOK ρ P (op, ty, x, y, .bool t) := by
  refine ⟨hx, hy, rfl, fun p q w => ?_⟩
  simp only [ex, ey]
  rw [Sem.run_bind, hg, Result.andThen_ok]
  exact h w
theorem convOK {s d : TypeId} {k l : IntKind} {n r a c : Int} (hd : P.underlying d = some (.int l)) {ds : TypeDesc} (hs : P.underlying s = some ds) (ha : valOf ρ n = a) (hc : valOf ρ r = c) (h : l.wrap a = c) : ConvOK ρ P (s, d, .int k n, .int l r) := by
  refine ⟨rfl, rfl, fun w => ?_⟩
  simp only [inst_int, ha, hc]
  subst h
  simp only [convert, Sem.run_bind, run_underlying hs, run_underlying hd, Result.andThen_ok]
  cases ds <;> rfl
theorem negOK {k : IntKind} {n r a c : Int} (ha : valOf ρ n = a) (hc : valOf ρ r = c) (h : k.wrap (0 - a) = c) : UnOK ρ P (.neg, .int k n, .int k r) := by
  refine ⟨rfl, rfl, fun w => ?_⟩
  simp only [inst_int, ha, hc]
  subst h
  rfl
theorem maxOK {k : IntKind} {n m r a b c : Int} (ha : valOf ρ n = a) (hb : valOf ρ m = b) (hc : valOf ρ r = c) (h : (if b > a then b else a) = c) : BiOK ρ P (.max, [.int k n, .int k m], .int k r) := by
  refine ⟨rfl, rfl, fun ats ty cs w => ?_⟩
  simp only [List.map_cons, List.map_nil, inst_int, ha, hb, hc]
  subst h
  rfl
theorem minOK {k : IntKind} {n m r a b c : Int} (ha : valOf ρ n = a) (hb : valOf ρ m = b) (hc : valOf ρ r = c) (h : (if b < a then b else a) = c) : BiOK ρ P (.min, [.int k n, .int k m], .int k r) := by
  refine ⟨rfl, rfl, fun ats ty cs w => ?_⟩
  simp only [List.map_cons, List.map_nil, inst_int, ha, hb, hc]
  subst h
  rfl
theorem callOK {f : FuncId} {args : List Value} {v v' : Value} {args' : Array Value} (ha : (args.all af && af v) = true) (ea : (args.map (inst ρ)).toArray = args') (ev : inst ρ v = v')
    (h : ∀ (w : World), Calls P f args' w fun e w' => e = .returned v' ∧ Below w.heap.size w w') : CallE ρ P (f, args, v) := by
  rw [Bool.and_eq_true] at ha
  refine ⟨ha.1, ha.2, fun w _ => ?_⟩
  simp only [ea, ev]
  exact h w
/-- a call that reads what the run began with -/
theorem callOKb {f : FuncId} {args : List Value} {v v' : Value} {args' : Array Value} (ha : (args.all af && af v) = true) (ea : (args.map (inst ρ)).toArray = args') (ev : inst ρ v = v')
    (h : ∀ (w : World), Below ρ.w.heap.size ρ.w w → Calls P f args' w fun e w' => e = .returned v' ∧ Below w.heap.size w w') : CallE ρ P (f, args, v) := by
  rw [Bool.and_eq_true] at ha
  refine ⟨ha.1, ha.2, fun w hw => ?_⟩
  simp only [ea, ev]
  exact h w hw
def LenOK (ρ : Env) (e : Bool × Value × Value) : Prop := af e.2.1 = true ∧ af e.2.2 = true ∧ ((e.1 = true → ∃ s, inst ρ e.2.1 = .string s ∧ inst ρ e.2.2 = .int .i64 s.size) ∧ (e.1 = false → ∃ a n c, inst ρ e.2.1 = .slice a n c ∧ inst ρ e.2.2 = .int .i64 n))
theorem lenOK {i : Nat} {r : Int} {a : Option Addr} {n c : Nat} (hv : ρ.val i = .slice a n c) (hr : valOf ρ r = n) : LenOK ρ (false, oq i, .int .i64 r) :=
  ⟨rfl, rfl, fun h => (by cases h), fun _ => ⟨a, n, c, hv, by rw [inst_int, hr]⟩⟩
def LapOK (ρ : Env) (e : Nat × List Value × Nat) : Prop := e.2.1.all af = true ∧ ρ.lst e.2.2 = ρ.lst e.1 ++ e.2.1.map (inst ρ) ∧ (ρ.lst e.2.2).length ≤ 1000000
def MemoE (ρ : Env) (P : Program) (e : FuncId × List Value × Heap × Value × Heap) : Prop := ∀ (w0 : Base) (β : Names) (w : World) (args' : List Value), Sim ρ P w0 β e.2.2.1 w → RelL ρ β e.2.1 args' →
  Calls P e.1 args'.toArray w fun en w' => ∃ v' β', en = .returned v' ∧ Keep e.2.2.1 none β β' ∧ Rel ρ β' e.2.2.2.1 v' ∧ Sim ρ P w0 β' e.2.2.2.2 w'
def FadOK (ρ : Env) (P : Program) (e : TypeId × Value × Nat × Value) : Prop := af e.2.1 = true ∧ af e.2.2.2 = true ∧ ∀ (w : World), (Instr.fieldAt e.1 (inst ρ e.2.1) e.2.2.1).run P w = .ok (inst ρ e.2.2.2) w
def ExtOK (ρ : Env) (P : Program) (e : FuncId × List Value × Value) : Prop := (e.2.1.all af) = true ∧ af e.2.2 = true ∧ ∀ (w : World), (callFunc e.1 (e.2.1.map (inst ρ)).toArray).run P w = .ok (.value (inst ρ e.2.2)) w
/-- everything that is known, in lists -/
structure Know (ρ : Env) (P : Program) (o : Orc) : Prop where
  bin : ∀ e ∈ o.bin, BinOK ρ P e
  un : ∀ e ∈ o.un, UnOK ρ P e
  conv : ∀ e ∈ o.conv, ConvOK ρ P e
  bi : ∀ e ∈ o.bi, BiOK ρ P e
  calls : ∀ e ∈ o.calls, CallE ρ P e
  lds : ∀ e ∈ o.lds, LdOK ρ P e
  ixa : ∀ e ∈ o.ixa, IxaOK ρ P e
  idx : ∀ e ∈ o.idx, IdxOK ρ P e
  sli : ∀ e ∈ o.sli, SliOK ρ P e
  loops : ∀ e ∈ o.loops, LoopE ρ P e
  lens : ∀ e ∈ o.lens, LenOK ρ e
  laps : ∀ e ∈ o.laps, LapOK ρ e
  lat : ∀ e ∈ o.lat, LatE ρ e
  llen : ∀ e ∈ o.llen, LlenE ρ e
  memo : ∀ e ∈ o.memo, MemoE ρ P e
  fad : ∀ e ∈ o.fad, FadOK ρ P e
  ext : ∀ e ∈ o.ext, ExtOK ρ P e
  own : ∀ e ∈ o.own, OwnOK ρ e
theorem Know.ok {o : Orc} (h : Know ρ P o) : OrcOK ρ P o :=
  ⟨h.bin, h.un, h.conv, h.bi, h.lds, h.ixa, h.idx, h.sli, h.loops, h.lens, h.laps, h.lat, h.llen, h.calls, h.memo, h.fad, h.ext, h.own⟩
/-- a run with all that is known -/
theorem run_know {o : Orc} (hk : Know ρ P o) (m n : Nat) (f : FuncId) (args : List Value) (v : Value) {args' : Array Value} {v' : Value} (h : (result (evCall P o m n f args []) v && (args.all af && af v)) = true)
    (ea : (args.map (inst ρ)).toArray = args') (ev : inst ρ v = v') (w : World) (hw : Below ρ.w.heap.size ρ.w w) : Calls P f args' w fun e w' => e = .returned v' ∧ Below w.heap.size w w' := by
  rw [← ea, ← ev]
  exact run_test hk.ok m n f args v h w hw
theorem run_it {lb : List (BinOp × TypeId × Value × Value × Value)} {lu : List (UnOp × Value × Value)} {lc : List (TypeId × TypeId × Value × Value)} {li : List (Builtin × List Value × Value)} {ll : List (FuncId × List Value × Value)}
    (h1 : ∀ e ∈ lb, BinOK ρ P e) (h2 : ∀ e ∈ lu, UnOK ρ P e) (h3 : ∀ e ∈ lc, ConvOK ρ P e) (h4 : ∀ e ∈ li, BiOK ρ P e) (h5 : ∀ e ∈ ll, CallE ρ P e)
    (m n : Nat) (f : FuncId) (args : List Value) (v : Value) {args' : Array Value} {v' : Value} (h : (result (evCall P { bin := lb, un := lu, conv := lc, bi := li, calls := ll } m n f args []) v && (args.all af && af v)) = true)
    (ea : (args.map (inst ρ)).toArray = args') (ev : inst ρ v = v') (w : World) (hw : Below ρ.w.heap.size ρ.w w) : Calls P f args' w fun e w' => e = .returned v' ∧ Below w.heap.size w w' := by
  rw [← ea, ← ev]
  exact run_know ⟨h1, h2, h3, h4, h5, fun e q => (by cases q), fun e q => (by cases q), fun e q => (by cases q), fun e q => (by cases q), fun e q => (by cases q), fun e q => (by cases q), fun e q => (by cases q), fun e q => (by cases q), fun e q => (by cases q), fun e q => (by cases q), fun e q => (by cases q), fun e q => (by cases q), fun e q => (by cases q)⟩ m n f args v h rfl rfl w hw
def result2 (r : Option (Value × Heap)) (v : Value) (H1 : Heap) : Bool :=
  match r with
  | some (u, K) => sameV 4 u v && sameH K H1
  | none => false
/-- a call that only adds to the memory, whatever it is given of what was made here -/
theorem memo_below {f : FuncId} {args : List Value} {H : Heap} {v : Value} (ha : af v = true)
    (h : ∀ (w0 : Base) (β : Names) (w : World) (args' : List Value), Sim ρ P w0 β H w → RelL ρ β args args' → Calls P f args'.toArray w fun e w' => e = .returned (inst ρ v) ∧ Below w.heap.size w w') : MemoE ρ P (f, args, H, v, H) :=
  fun w0 β w args' hS hA => (h w0 β w args' hS hA).mono fun e w' q => ⟨inst ρ v, β, q.1, Keep.refl _ _ _, rel_inst ha, hS.onto q.2⟩
/-- what a list of its own is for a function that is called with it -/
theorem list_reads {w0 : Base} {β : Names} {w : World} {H : Heap} (hS : Sim ρ P w0 β H w) {b s el ty : Nat} (hb : H[b]? = some (some ⟨[], listTy s el⟩)) (hel : el < 1048576) (hsb : s < 1099511627776) {v' : Value} (hr : Rel ρ β (.complex .f32 b (10 + s)) v')
    (hd : P.underlying ty = some (.slice el)) {inf : TypeInfo} (hi : P.info? el = some inf) {fs : Array Field} (hs : P.underlying el = some (.struct fs)) :
    ∃ a n c, v' = .slice (some a) n c ∧ n * inf.size = (ρ.lst s).length ∧ ∀ i, i < n → ∃ ad : Addr, (∀ w', (Instr.indexAt ty v' (.int .i64 i)).run P w' = .ok (.pointer (some ad)) w') ∧
      ∀ w', Below w.heap.size w w' → (Instr.loadAt el (.pointer (some ad))).run P w' = .ok (.agg (cut (ρ.lst s) (i * inf.size) inf.size).toArray) w' := by
  have h10 : Nat.blt (10 + s) 10 = false := by
    cases q : Nat.blt (10 + s) 10 with
    | false => rfl
    | true => simp only [Nat.blt, Nat.ble_eq] at q; omega
  obtain ⟨e, n, c, he, rfl, ⟨hz, _⟩, hn, hc, hm, hcn⟩ := rel_lst hr h10
  rw [Nat.add_sub_cancel_left] at hn
  obtain ⟨r1, r2⟩ := listTy_eq (s := s) hel hsb
  obtain ⟨e1, cs0, q1, q2, q3, q4, _⟩ := hS.cells b _ hb (mark_notObj r2)
  obtain rfl : e = e1 := Option.some.inj (he.symm.trans q1)
  obtain ⟨e2, cs2, p1, p2, p3⟩ := hS.lists b _ s hb r2
  obtain rfl : e = e2 := Option.some.inj (he.symm.trans p1)
  simp only [r1] at q2 q4 p2
  have hsz : e.sz = inf.size := by rw [q4]; simp [Program.cellsOf, hi]
  rw [hsz] at hn
  refine ⟨_, n, c, rfl, hn, fun i hin => ⟨⟨e.blk, i * inf.size, none⟩, fun w' => ?_, fun w' hw => ?_⟩⟩
  · simp only [Instr.indexAt, asIntOf, pure_bind, Sem.run_bind, run_underlying hd, Result.andThen_ok, Instr.sureAddr, Sem.run_pure]
    have hb' : (0 : Int) ≤ (i : Int) ∧ (i : Int) < (n : Int) := ⟨by omega, by omega⟩
    simp only [hb', and_self, if_true, Sem.run_bind, run_sizeOf hi, Result.andThen_ok, Sem.run_pure, add_none, Int.toNat_natCast, Nat.zero_add]
  · have hblk : w'.heap[e.blk]? = some (.cells cs2 el (0, 0)) := (hw.block e.blk (Array.getElem?_eq_some_iff.1 p2).1).trans p2
    have hfit : i * inf.size + inf.size ≤ (ρ.lst s).length := by
      rw [← hn, ← Nat.succ_mul]; exact Nat.mul_le_mul_right _ hin
    have hcell : ∀ (j : Nat) (u : Value), (cut (ρ.lst s) (i * inf.size) inf.size)[j]? = some u → w'.cell? ((⟨e.blk, i * inf.size, none⟩ : Addr).add j) = some u := by
      intro j u hu
      rw [cut_get] at hu
      split at hu
      · have := p3 _ _ hu
        rw [add_none]
        simp [World.cell?, hblk, this]
      · cases hu
    have hl := run_loadCells_list (P := P) w' ⟨e.blk, i * inf.size, none⟩ (cut (ρ.lst s) (i * inf.size) inf.size) hcell
    rw [cut_length _ _ _ hfit] at hl
    simp only [Instr.loadAt, Instr.sureAddr, loadVar, pure_bind, Sem.run_bind, run_isAgg hs, Result.andThen_ok, if_true, bind_assoc, run_sizeOf hi, hl, Sem.run_pure]
/-- a call that the evaluator runs through once -/
theorem memo_of {lm : List (FuncId × List Value × Heap × Value × Heap)} (hm : ∀ e ∈ lm, MemoE ρ P e) (m n : Nat) (f : FuncId) (args : List Value) (H : Heap) (v : Value) (H1 : Heap)
    (h : result2 (evCall P { memo := lm } m n f args H) v H1 = true) : MemoE ρ P (f, args, H, v, H1) := by
  intro w0 β w args' hS hA
  unfold result2 at h
  split at h
  · rename_i u K hu
    rw [Bool.and_eq_true] at h
    rw [sameV_eq _ _ _ h.1, sameH_eq _ _ h.2] at hu
    exact evCall_ok ⟨fun e q => (by cases q), fun e q => (by cases q), fun e q => (by cases q), fun e q => (by cases q), fun e q => (by cases q), fun e q => (by cases q), fun e q => (by cases q), fun e q => (by cases q), fun e q => (by cases q), fun e q => (by cases q), fun e q => (by cases q), fun e q => (by cases q), fun e q => (by cases q), fun e q => (by cases q), fun e he => hm e he, fun e q => (by cases q), fun e q => (by cases q), fun e q => (by cases q)⟩ m n w0 f args H v H1 hu β w args' hS hA
  · cases h
/-- the same with all that is known: what a call does with memory of its caller -/
theorem memo_know {o : Orc} (hk : Know ρ P o) (m n : Nat) (f : FuncId) (args : List Value) (H : Heap) (v : Value) (H1 : Heap)
    (h : result2 (evCall P o m n f args H) v H1 = true) : MemoE ρ P (f, args, H, v, H1) := by
  intro w0 β w args' hS hA
  unfold result2 at h
  split at h
  · rename_i u K hu
    rw [Bool.and_eq_true] at h
    rw [sameV_eq _ _ _ h.1, sameH_eq _ _ h.2] at hu
    exact evCall_ok hk.ok m n w0 f args H v H1 hu β w args' hS hA
  · cases h
theorem run_memo {lm : List (FuncId × List Value × Heap × Value × Heap)} {ll : List (FuncId × List Value × Value)} (hm : ∀ e ∈ lm, MemoE ρ P e) (h5 : ∀ e ∈ ll, CallE ρ P e) (m n : Nat) (f : FuncId) (args : List Value) (v : Value) {args' : Array Value} {v' : Value}
    (h : (result (evCall P { calls := ll, memo := lm } m n f args []) v && (args.all af && af v)) = true)
    (ea : (args.map (inst ρ)).toArray = args') (ev : inst ρ v = v') (w : World) (hw : Below ρ.w.heap.size ρ.w w) : Calls P f args' w fun e w' => e = .returned v' ∧ Below w.heap.size w w' := by
  rw [← ea, ← ev]
  exact run_test ⟨fun e q => (by cases q), fun e q => (by cases q), fun e q => (by cases q), fun e q => (by cases q), fun e q => (by cases q), fun e q => (by cases q), fun e q => (by cases q), fun e q => (by cases q), fun e q => (by cases q), fun e q => (by cases q), fun e q => (by cases q), fun e q => (by cases q), fun e q => (by cases q), h5, fun e he => hm e he, fun e q => (by cases q), fun e q => (by cases q), fun e q => (by cases q)⟩ m n f args v h w hw
/-- a run whose result lies in memory of its own -/
theorem run_list {o : Orc} (hk : Know ρ P o) (m n : Nat) (f : FuncId) (args : List Value) (v : Value) (H1 : Heap) {args' : Array Value} (h : (result2 (evCall P o m n f args []) v H1 && args.all af) = true)
    (ea : (args.map (inst ρ)).toArray = args') (w : World) (hw : Below ρ.w.heap.size ρ.w w) :
    Calls P f args' w fun e w' => ∃ v' β', e = .returned v' ∧ Rel ρ β' v v' ∧ Sim ρ P ⟨w, []⟩ β' H1 w' ∧ Below w.heap.size w w' := by
  rw [Bool.and_eq_true] at h
  obtain ⟨h, ha⟩ := h
  have hA : RelL ρ (fun _ => none) args (args.map (inst ρ)) := ⟨by simp, fun i a b qa qb => by
    rw [List.getElem?_map, qa] at qb
    cases qb
    exact rel_inst (List.all_eq_true.1 ha a (List.mem_of_getElem? qa))⟩
  unfold result2 at h
  split at h
  · rename_i u K hu
    rw [Bool.and_eq_true] at h
    rw [sameV_eq _ _ _ h.1, sameH_eq _ _ h.2] at hu
    rw [← ea]
    refine (evCall_ok hk.ok m n ⟨w, []⟩ f args [] v H1 hu (fun _ => none) w _ (Sim.start ρ P w hw) hA).mono ?_
    rintro e w' ⟨v', β', rfl, _, q2, q3⟩
    exact ⟨v', β', rfl, q2, q3, q3.below.toBelow⟩
  · cases h
end Go.Proofs.Ytapcooolainmdaa.Ev
