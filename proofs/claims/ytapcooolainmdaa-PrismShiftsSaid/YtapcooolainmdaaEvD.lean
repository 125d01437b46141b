/- The evaluator: operations, regions, code, calls. -/
import Derived.Test.YtapcooolainmdaaEvR
import Derived.Laws.BytesString
namespace Go.Proofs.Ytapcooolainmdaa.Ev
noncomputable section
open Go.RowKit
set_option linter.unusedVariables false
set_option linter.unusedSimpArgs false
variable {ρ : Env}

inductive X where
  | normal
  | exit (id : Nat)
  | ret
def X.ex : X → Exit
  | .normal => .normal
  | .exit id => .exit id
  | .ret => .ret
def Kp (H : Heap) (slot : Option Nat) (H1 : Heap) (β γ : Names) : Prop := Keep H slot β γ ∧ H.length ≤ H1.length
/-- the fence of all machines, for frames of functions or of rounds -/
def rd (lr : Option Nat) : Fence := { Fence.wide with round := lr }
/-- only blocks with a name were written, and no old block got a name -/
structure Left (β : Names) (w : World) (β' : Names) (w' : World) : Prop where
  keep : ∀ k, k < w.heap.size → (∀ i e, β i = some e → e.blk ≠ k) → w'.heap[k]? = w.heap[k]?
  names : ∀ i e, β' i = some e → w.heap.size ≤ e.blk ∨ ∃ j d, β j = some d ∧ d.blk = e.blk
  size : w.heap.size ≤ w'.heap.size
theorem Left.refl (β : Names) (w : World) : Left β w β w := ⟨fun _ _ _ => rfl, fun i e h => .inr ⟨i, e, h, rfl⟩, Nat.le_refl _⟩
theorem Left.other {β β' : Names} {w w' : World} (h : Left β w β' w') {k : Nat} (hk : k < w.heap.size) (hn : ∀ i e, β i = some e → e.blk ≠ k) : ∀ i e, β' i = some e → e.blk ≠ k := by
  intro i e he q
  rcases h.names i e he with g | ⟨j, d, g1, g2⟩
  · omega
  · exact hn j d g1 (g2.trans q)
theorem Left.trans {a b c : Names} {w1 w2 w3 : World} (h : Left a w1 b w2) (k : Left b w2 c w3) : Left a w1 c w3 := by
  refine ⟨fun x hx hn => (k.keep x (Nat.lt_of_lt_of_le hx h.size) (h.other hx hn)).trans (h.keep x hx hn), fun i e he => ?_, Nat.le_trans h.size k.size⟩
  rcases k.names i e he with g | ⟨j, d, g1, g2⟩
  · exact .inl (Nat.le_trans h.size g)
  · rw [← g2]; exact h.names j d g1
def mark (r : Nat) : Deferred := { target := .collected r, args := #[] }
/-- the marks of loops over functions, among the deferred calls -/
def Marks (w : World) (β' : Names) (w' : World) (a a' : Act) : Prop :=
  ∃ ms : List Nat, a'.defers = ms.map mark ++ a.defers ∧ ms.Nodup ∧ ∀ r ∈ ms, w.heap.size ≤ r ∧ (∀ i e, β' i = some e → e.blk ≠ r) ∧ w'.heap[r]? = some (.deferred (some []))
theorem Marks.none {w : World} {β' : Names} {w' : World} {a a' : Act} (h : a'.defers = a.defers) : Marks w β' w' a a' := ⟨[], by simpa using h, by simp, fun r h => by simp at h⟩
theorem Marks.trans {b c : Names} {w1 w2 w3 : World} {a a1 a2 : Act} (hs : w1.heap.size ≤ w2.heap.size) (h : Marks w1 b w2 a a1) (l : Left b w2 c w3) (k : Marks w2 c w3 a1 a2) : Marks w1 c w3 a a2 := by
  obtain ⟨m1, h1, h2, h3⟩ := h
  obtain ⟨m2, k1, k2, k3⟩ := k
  have lt : ∀ r ∈ m1, r < w2.heap.size := fun r hr => (Array.getElem?_eq_some_iff.1 (h3 r hr).2.2).1
  refine ⟨m2 ++ m1, by rw [k1, h1, List.map_append, List.append_assoc], List.nodup_append.2 ⟨k2, h2, fun x hx y hy q => ?_⟩, fun r hr => ?_⟩
  · have := (k3 x hx).1; have := lt y hy; omega
  · rcases List.mem_append.1 hr with hr | hr
    · obtain ⟨g1, g2, g3⟩ := k3 r hr
      exact ⟨Nat.le_trans hs g1, g2, g3⟩
    · obtain ⟨g1, g2, g3⟩ := h3 r hr
      exact ⟨g1, l.other (lt r hr) g2, (l.keep r (lt r hr) g2).trans g3⟩
def Goes (ρ : Env) (P : Program) (w0 : Base) (x : X) (t1 : Tm) (H H1 : Heap) (β : Names) (w : World) (a : Act) (Q : Exit → Act → World → Prop) : Prop :=
  ∀ β' w' a', Kp H none H1 β β' → RelT ρ β' t1 a'.tmps → Marks w β' w' a a' → Left β w β' w' → Sim ρ P w0 β' H1 w' → Q x.ex a' w'
/-- a loop of which it is known what comes of it -/
abbrev LoopT := FuncId × List Bool × Tm × Heap × X × Tm × Heap
def LoopE (ρ : Env) (P : Program) (e : LoopT) : Prop :=
  ∀ (c : Code), partOf P e.1 e.2.1 = some c → ∀ (w0 : Base) (β : Names) (w : World) (a : Act) (Q : Exit → Act → World → Prop), Sim ρ P w0 β e.2.2.2.1 w → RelT ρ β e.2.2.1 a.tmps →
    Goes ρ P w0 e.2.2.2.2.1 e.2.2.2.2.2.1 e.2.2.2.1 e.2.2.2.2.2.2 β w a Q → c.wpIn (rd none) 0 P Q a w
/-- what is known of lists that are made out of other ones: a copy of an opaque slice (made out of nil, or out of an opaque slice without elements and room) -/
inductive OwnE where
  | copy (x : Value) (s : Nat)
  | copyTo (d x : Value) (s : Nat)
def CopyOK (ρ : Env) (x : Value) (s : Nat) : Prop := af x = true ∧ ∃ a n c, inst ρ x = .slice (some a) n c ∧ 0 < n ∧ (ρ.lst s).length = n * (s % 1024) ∧ (ρ.lst s).length ≤ 1000000 ∧
  ∀ w, Below ρ.w.heap.size ρ.w w → ∀ (j : Nat) (u : Value), (ρ.lst s)[j]? = some u → w.cell? (a.add j) = some u
def OwnOK (ρ : Env) : OwnE → Prop
  | .copy x s => CopyOK ρ x s
  | .copyTo d x s => CopyOK ρ x s ∧ af d = true ∧ ∃ a, inst ρ d = .slice (some a) 0 0
/-- what is known of numbers that stand for others, and of calls -/
structure Orc where
  bin : List (BinOp × TypeId × Value × Value × Value) := []
  un : List (UnOp × Value × Value) := []
  conv : List (TypeId × TypeId × Value × Value) := []
  bi : List (Builtin × List Value × Value) := []
  calls : List (FuncId × List Value × Value) := []
  memo : List (FuncId × List Value × Heap × Value × Heap) := []
  lds : List (TypeId × Value × Value) := []
  ixa : List (TypeId × Value × Value × Value) := []
  idx : List (TypeId × Value × Value × Value) := []
  sli : List (TypeId × Value × Option Value × Option Value × Value) := []
  loops : List LoopT := []
  lens : List (Bool × Value × Value) := []
  laps : List (Nat × List Value × Nat) := []
  lat : List (Nat × Nat × List Value) := []
  llen : List (Nat × Value) := []
  fad : List (TypeId × Value × Nat × Value) := []
  ext : List (FuncId × List Value × Value) := []
  own : List OwnE := []
/-! sameness of values, as far as it can be seen -/
def sameF : Fn → Fn → Bool
  | .func f, .func g => f == g
  | .yield a, .yield b => a == b
  | _, _ => false
def sameV : Nat → Value → Value → Bool
  | 0, _, _ => false
  | n + 1, a, b =>
    match a, b with
    | .bool x, .bool y => x == y
    | .int k x, .int l y => decide (k = l) && decide (x = y)
    | .string x, .string y => decide (x.data.toList = y.data.toList)
    | .pointer x, .pointer y => decide (x = y)
    | .slice x m c, .slice y m' c' => decide (x = y) && (m == m' && c == c')
    | .nilFunc, .nilFunc => true
    | .complex k x y, .complex l x' y' => decide (k = l) && (x == x' && y == y')
    | .nilIface, .nilIface => true
    | .iface t x, .iface u y => t == u && sameV n x y
    | .func f x y, .func g x' y' => sameF f g && (x.toList.isEmpty && x'.toList.isEmpty) && (y.toList.length == y'.toList.length && (y.toList.zip y'.toList).all fun p => sameV n p.1 p.2)
    | .agg x, .agg y => x.toList.length == y.toList.length && (x.toList.zip y.toList).all fun p => sameV n p.1 p.2
    | .tuple x, .tuple y => x.toList.length == y.toList.length && (x.toList.zip y.toList).all fun p => sameV n p.1 p.2
    | _, _ => false
theorem zip_eq {n : Nat} (ih : ∀ a b, sameV n a b = true → a = b) : ∀ (x y : List Value), x.length = y.length → ((x.zip y).all fun p => sameV n p.1 p.2) = true → x = y := by
  intro x
  induction x with
  | nil => intro y h _; exact (List.eq_nil_of_length_eq_zero h.symm).symm
  | cons a x ihx =>
    intro y h hs
    cases y with
    | nil => simp at h
    | cons b y =>
      simp only [List.zip_cons_cons, List.all_cons, Bool.and_eq_true] at hs
      rw [ih _ _ hs.1, ihx y (by simpa using h) hs.2]
theorem sameV_eq : ∀ (n : Nat) (a b : Value), sameV n a b = true → a = b := by
  intro n
  induction n with
  | zero => intro a b h; simp [sameV] at h
  | succ n ih =>
    intro a b h
    unfold sameV at h
    split at h
    · simpa using h
    · simpa using h
    · simp only [decide_eq_true_eq] at h
      rename_i x y
      cases x; cases y
      simp only [Array.toList_inj] at h
      simp_all
    · simpa using h
    · simpa using h
    · rfl
    · simp only [Bool.and_eq_true, decide_eq_true_eq, beq_iff_eq] at h
      obtain ⟨rfl, rfl, rfl⟩ := h; rfl
    · rfl
    · simp only [Bool.and_eq_true, beq_iff_eq] at h
      rw [h.1, ih _ _ h.2]
    · rename_i f x y g x' y'
      simp only [Bool.and_eq_true, beq_iff_eq, List.isEmpty_iff, Array.toList_eq_nil_iff] at h
      obtain ⟨⟨h1, h2, h3⟩, h4, h5⟩ := h
      have h6 := zip_eq ih _ _ h4 h5
      rw [Array.toList_inj] at h6
      subst h2; subst h3; subst h6
      unfold sameF at h1
      split at h1
      · simp only [beq_iff_eq] at h1; subst h1; rfl
      · simp only [beq_iff_eq] at h1; subst h1; rfl
      · cases h1
    · simp only [Bool.and_eq_true, beq_iff_eq] at h
      have h6 := zip_eq ih _ _ h.1 h.2
      rw [Array.toList_inj] at h6
      rw [h6]
    · simp only [Bool.and_eq_true, beq_iff_eq] at h
      have h6 := zip_eq ih _ _ h.1 h.2
      rw [Array.toList_inj] at h6
      rw [h6]
    · cases h
def sameL (x y : List Value) : Bool := x.length == y.length && (x.zip y).all fun p => sameV 4 p.1 p.2
theorem sameL_eq {x y : List Value} (h : sameL x y = true) : x = y := by
  simp only [sameL, Bool.and_eq_true, beq_iff_eq] at h
  exact zip_eq (sameV_eq 4) x y h.1 h.2

def sameB : Option Blk → Option Blk → Bool
  | none, none => true
  | some a, some b => a.ty == b.ty && sameL a.cells b.cells
  | _, _ => false
theorem sameB_eq {a b : Option Blk} (h : sameB a b = true) : a = b := by
  unfold sameB at h
  split at h
  · rfl
  · rename_i a b
    simp only [Bool.and_eq_true, beq_iff_eq] at h
    cases a; cases b
    simp only at h
    rw [h.1, sameL_eq h.2]
  · cases h
def sameH : Heap → Heap → Bool
  | [], [] => true
  | a :: x, b :: y => sameB a b && sameH x y
  | _, _ => false
theorem sameH_eq : ∀ (x y : Heap), sameH x y = true → x = y := by
  intro x
  induction x with
  | nil => intro y h; cases y with
    | nil => rfl
    | cons b y => simp [sameH] at h
  | cons a x ih => intro y h; cases y with
    | nil => simp [sameH] at h
    | cons b y =>
      simp only [sameH, Bool.and_eq_true] at h
      rw [sameB_eq h.1, ih y h.2]

/-- what is known of an element of a list: the list, the index (a letter), the cells -/
def LatE (ρ : Env) (e : Nat × Nat × List Value) : Prop := ∃ i : Nat, isSym (.ofNat e.2.1) = true ∧ ρ.num (.ofNat e.2.1) = (i : Int) ∧ 0 < e.1 % 1024 ∧ (i + 1) * (e.1 % 1024) ≤ (ρ.lst e.1).length ∧ e.2.2.all af = true ∧
  cut (ρ.lst e.1) (i * (e.1 % 1024)) (e.1 % 1024) = e.2.2.map (inst ρ)
/-- how long a list is -/
def LlenE (ρ : Env) (e : Nat × Value) : Prop := af e.2 = true ∧ ∃ n : Nat, n * (e.1 % 1024) = (ρ.lst e.1).length ∧ inst ρ e.2 = .int .i64 n
def findLat (s j : Nat) : List (Nat × Nat × List Value) → Option (List Value)
  | [] => none
  | e :: r => if e.1 == s && e.2.1 == j then some e.2.2 else findLat s j r
theorem findLat_mem {s j : Nat} {v : List Value} : ∀ {l : List (Nat × Nat × List Value)}, findLat s j l = some v → (s, j, v) ∈ l := by
  intro l
  induction l with
  | nil => intro h; simp [findLat] at h
  | cons e r ih =>
    intro h
    obtain ⟨a, b, c⟩ := e
    simp only [findLat] at h
    split at h
    · rename_i hc
      simp only [Bool.and_eq_true, beq_iff_eq] at hc
      obtain ⟨rfl, rfl⟩ := hc
      cases h
      exact List.mem_cons_self ..
    · exact List.mem_cons_of_mem _ (ih h)
def findLlen (s : Nat) : List (Nat × Value) → Option Value
  | [] => none
  | e :: r => if e.1 == s then some e.2 else findLlen s r
theorem findLlen_mem {s : Nat} {v : Value} : ∀ {l : List (Nat × Value)}, findLlen s l = some v → (s, v) ∈ l := by
  intro l
  induction l with
  | nil => intro h; simp [findLlen] at h
  | cons e r ih =>
    intro h
    obtain ⟨a, b⟩ := e
    simp only [findLlen] at h
    split at h
    · rename_i hc
      rw [beq_iff_eq] at hc
      subst hc
      cases h
      exact List.mem_cons_self ..
    · exact List.mem_cons_of_mem _ (ih h)
structure OrcOK (ρ : Env) (P : Program) (orc : Orc) : Prop where
  bin : ∀ e ∈ orc.bin, af e.2.2.1 = true ∧ af e.2.2.2.1 = true ∧ af e.2.2.2.2 = true ∧ ∀ (x y : Operand) (w : World),
    (do eqGuard e.1 e.2.1 x y (inst ρ e.2.2.1) (inst ρ e.2.2.2.1); binOp e.1 e.2.1 (inst ρ e.2.2.1) (inst ρ e.2.2.2.1)).run P w = .ok (inst ρ e.2.2.2.2) w
  un : ∀ e ∈ orc.un, af e.2.1 = true ∧ af e.2.2 = true ∧ ∀ (w : World), (Op.unary e.1 (inst ρ e.2.1)).run P w = .ok (inst ρ e.2.2) w
  conv : ∀ e ∈ orc.conv, af e.2.2.1 = true ∧ af e.2.2.2 = true ∧ ∀ (w : World), (convert e.1 e.2.1 (inst ρ e.2.2.1)).run P w = .ok (inst ρ e.2.2.2) w
  bi : ∀ e ∈ orc.bi, (e.2.1.all af) = true ∧ af e.2.2 = true ∧ ∀ (ats : Array TypeId) (ty : TypeId) (cs : Array Bool) (w : World), (builtin e.1 ats ty cs (e.2.1.map (inst ρ)).toArray).run P w = .ok (.value (inst ρ e.2.2)) w
  lds : ∀ e ∈ orc.lds, af e.2.1 = true ∧ af e.2.2 = true ∧ ∀ (w : World), Below ρ.w.heap.size ρ.w w → (Instr.loadAt e.1 (inst ρ e.2.1)).run P w = .ok (inst ρ e.2.2) w
  ixa : ∀ e ∈ orc.ixa, af e.2.1 = true ∧ af e.2.2.1 = true ∧ af e.2.2.2 = true ∧ ∀ (w : World), (Instr.indexAt e.1 (inst ρ e.2.1) (inst ρ e.2.2.1)).run P w = .ok (inst ρ e.2.2.2) w
  idx : ∀ e ∈ orc.idx, af e.2.1 = true ∧ af e.2.2.1 = true ∧ af e.2.2.2 = true ∧ ∀ (w : World), (Instr.index e.1 (inst ρ e.2.1) (inst ρ e.2.2.1)).run P w = .ok (inst ρ e.2.2.2) w
  sli : ∀ e ∈ orc.sli, af e.2.1 = true ∧ af e.2.2.2.2 = true ∧ ∀ (w : World), (Instr.sliceAt e.1 (inst ρ e.2.1) (e.2.2.1.map (inst ρ)) (e.2.2.2.1.map (inst ρ)) none).run P w = .ok (inst ρ e.2.2.2.2) w
  loops : ∀ e ∈ orc.loops, LoopE ρ P e
  lens : ∀ e ∈ orc.lens, af e.2.1 = true ∧ af e.2.2 = true ∧ ((e.1 = true → ∃ s, inst ρ e.2.1 = .string s ∧ inst ρ e.2.2 = .int .i64 s.size) ∧ (e.1 = false → ∃ a n c, inst ρ e.2.1 = .slice a n c ∧ inst ρ e.2.2 = .int .i64 n))
  laps : ∀ e ∈ orc.laps, e.2.1.all af = true ∧ ρ.lst e.2.2 = ρ.lst e.1 ++ e.2.1.map (inst ρ) ∧ (ρ.lst e.2.2).length ≤ 1000000
  lat : ∀ e ∈ orc.lat, LatE ρ e
  llen : ∀ e ∈ orc.llen, LlenE ρ e
  calls : ∀ e ∈ orc.calls, (e.2.1.all af) = true ∧ af e.2.2 = true ∧ ∀ (w : World), Below ρ.w.heap.size ρ.w w → Calls P e.1 (e.2.1.map (inst ρ)).toArray w fun en w' => en = .returned (inst ρ e.2.2) ∧ Below w.heap.size w w'
  memo : ∀ e ∈ orc.memo, ∀ (w0 : Base) (β : Names) (w : World) (args' : List Value), Sim ρ P w0 β e.2.2.1 w → RelL ρ β e.2.1 args' →
    Calls P e.1 args'.toArray w fun en w' => ∃ v' β', en = .returned v' ∧ Keep e.2.2.1 none β β' ∧ Rel ρ β' e.2.2.2.1 v' ∧ Sim ρ P w0 β' e.2.2.2.2 w'
  fad : ∀ e ∈ orc.fad, af e.2.1 = true ∧ af e.2.2.2 = true ∧ ∀ (w : World), (Instr.fieldAt e.1 (inst ρ e.2.1) e.2.2.1).run P w = .ok (inst ρ e.2.2.2) w
  ext : ∀ e ∈ orc.ext, (e.2.1.all af) = true ∧ af e.2.2 = true ∧ ∀ (w : World), (callFunc e.1 (e.2.1.map (inst ρ)).toArray).run P w = .ok (.value (inst ρ e.2.2)) w
  own : ∀ e ∈ orc.own, OwnOK ρ e

/-! looking up what is known -/
def isOp : Value → Bool
  | .complex .f64 _ _ => true
  | _ => false
theorem isOp_af {v : Value} (h : isOp v = true) : af v = true := by
  cases v <;> first | (simp [isOp] at h; done) | skip
  rename_i k a b
  cases k <;> first | rfl | (simp [isOp] at h)
def sameO : Option Value → Option Value → Bool
  | none, none => true
  | some a, some b => sameV 4 a b
  | _, _ => false
theorem sameO_eq {a b : Option Value} (h : sameO a b = true) : a = b := by
  unfold sameO at h
  split at h
  · rfl
  · rw [sameV_eq _ _ _ h]
  · cases h
def findLd (ty : TypeId) (x : Value) : List (TypeId × Value × Value) → Option Value
  | [] => none
  | e :: r => if e.1 == ty && sameV 4 e.2.1 x then some e.2.2 else findLd ty x r
def findIx (ty : TypeId) (x i : Value) : List (TypeId × Value × Value × Value) → Option Value
  | [] => none
  | e :: r => if e.1 == ty && (sameV 4 e.2.1 x && sameV 4 e.2.2.1 i) then some e.2.2.2 else findIx ty x i r
def findFad (ty : TypeId) (x : Value) (f : Nat) : List (TypeId × Value × Nat × Value) → Option Value
  | [] => none
  | e :: r => if e.1 == ty && (sameV 4 e.2.1 x && e.2.2.1 == f) then some e.2.2.2 else findFad ty x f r
theorem findFad_mem {ty : TypeId} {x v : Value} {f : Nat} : ∀ {l : List (TypeId × Value × Nat × Value)}, findFad ty x f l = some v → (ty, x, f, v) ∈ l := by
  intro l
  induction l with
  | nil => intro h; simp [findFad] at h
  | cons e r ih =>
    intro h
    obtain ⟨a, b, c, d⟩ := e
    simp only [findFad] at h
    split at h
    · rename_i hc
      simp only [Bool.and_eq_true, beq_iff_eq] at hc
      obtain ⟨rfl, h1, rfl⟩ := hc
      cases h
      rw [sameV_eq _ _ _ h1]; simp
    · exact List.mem_cons_of_mem _ (ih h)
def findLap (s : Nat) (cs : List Value) : List (Nat × List Value × Nat) → Option Nat
  | [] => none
  | e :: r => if e.1 == s && sameL e.2.1 cs then some e.2.2 else findLap s cs r
theorem findLap_mem {s : Nat} {cs : List Value} {u : Nat} : ∀ {l : List (Nat × List Value × Nat)}, findLap s cs l = some u → (s, cs, u) ∈ l := by
  intro l
  induction l with
  | nil => intro h; simp [findLap] at h
  | cons e r ih =>
    intro h
    obtain ⟨a, b, c⟩ := e
    simp only [findLap] at h
    split at h
    · rename_i hc
      simp only [Bool.and_eq_true, beq_iff_eq] at hc
      obtain ⟨rfl, h1⟩ := hc
      cases h
      rw [sameL_eq h1]; simp
    · exact List.mem_cons_of_mem _ (ih h)
/-- what is appended to a list of unknown length -/
def evAppendL (P : Program) (laps : List (Nat × List Value × Nat)) (H : Heap) (ty : TypeId) (b t : Nat) (x : Value) : Option (Value × Heap) :=
  if Nat.blt t 10 then none else
  (P.underlying ty).bind fun d =>
    match d with
    | .slice e => (P.info? e).bind fun i => i.zero.bind fun z => (asSlc x).bind fun p => (blkAt H p.1).bind fun kx =>
      match getN H b with
      | some (some k) =>
        if (Nat.blt e 1048576 && (Nat.blt (t - 10) 1099511627776 && ((t - 10) % 1024 == i.size && (k.ty == listTy (t - 10) e && k.cells.isEmpty)))) = true ∧ z.cells.size = i.size ∧ 0 < i.size ∧ i.bytes ≤ 100 ∧ 0 < p.2.2.1 ∧ p.2.1 + p.2.2.1 * i.size ≤ kx.cells.length ∧ ((cut kx.cells p.2.1 (p.2.2.1 * i.size)).all fun c => c.oneCell') = true then
          (findLap (t - 10) (cut kx.cells p.2.1 (p.2.2.1 * i.size)) laps).bind fun s' => if (Nat.blt s' 1099511627776 && s' % 1024 == i.size) = true then some (.complex .f32 H.length (10 + s'), H.set b none ++ [some ⟨[], listTy s' e⟩]) else none
        else none
      | _ => none
    | _ => none
def isNilS : Value → Bool
  | .slice none 0 0 => true
  | _ => false
theorem isNilS_eq {d : Value} (h : isNilS d = true) : d = .slice none 0 0 := by
  unfold isNilS at h
  split at h
  · rfl
  · cases h
def findCopy (d x : Value) : List OwnE → Option Nat
  | [] => none
  | .copy y s :: r => if isNilS d && sameV 4 y x then some s else findCopy d x r
  | .copyTo e y s :: r => if isOp d && (sameV 4 e d && sameV 4 y x) then some s else findCopy d x r
/-- append of an opaque slice to nothing -/
def evCopyO (P : Program) (own : List OwnE) (H : Heap) (ty : TypeId) (d x : Value) : Option (Value × Heap) :=
  (P.underlying ty).bind fun td =>
    match td with
    | .slice e => (P.info? e).bind fun i => i.zero.bind fun z => (findCopy d x own).bind fun s =>
      if (Nat.blt e 1048576 && (Nat.blt s 1099511627776 && s % 1024 == i.size)) = true ∧ z.cells.size = i.size ∧ 0 < i.size ∧ i.bytes ≤ 100 then
        some (.complex .f32 H.length (10 + s), H ++ [some ⟨[], listTy s e⟩]) else none
    | _ => none
def findLen (b : Bool) (x : Value) : List (Bool × Value × Value) → Option Value
  | [] => none
  | e :: r => if e.1 == b && sameV 4 e.2.1 x then some e.2.2 else findLen b x r
theorem findLen_mem {b : Bool} {x v : Value} : ∀ {l : List (Bool × Value × Value)}, findLen b x l = some v → (b, x, v) ∈ l := by
  intro l
  induction l with
  | nil => intro h; simp [findLen] at h
  | cons e r ih =>
    intro h
    obtain ⟨a, b, c⟩ := e
    simp only [findLen] at h
    split at h
    · rename_i hc
      simp only [Bool.and_eq_true, beq_iff_eq] at hc
      obtain ⟨rfl, h1⟩ := hc
      cases h
      rw [sameV_eq _ _ _ h1]; simp
    · exact List.mem_cons_of_mem _ (ih h)
def findLoop (g : FuncId) (p : List Bool) (t : Tm) (H : Heap) : List LoopT → Option (X × Tm × Heap)
  | [] => none
  | e :: r => if e.1 == g && (e.2.1 == p && (sameT sameL e.2.2.1 t && (sameH e.2.2.2.1 H && H.length.ble e.2.2.2.2.2.2.length))) then some e.2.2.2.2 else findLoop g p t H r
theorem findLoop_mem {g : FuncId} {p : List Bool} {t : Tm} {H : Heap} {r : X × Tm × Heap} : ∀ {l : List LoopT}, findLoop g p t H l = some r → (g, p, t, H, r) ∈ l ∧ H.length ≤ r.2.2.length := by
  intro l
  induction l with
  | nil => intro h; simp [findLoop] at h
  | cons e r ih =>
    intro h
    obtain ⟨a, b, c, d, f⟩ := e
    simp only [findLoop] at h
    split at h
    · rename_i hc
      simp only [Bool.and_eq_true, beq_iff_eq] at hc
      obtain ⟨rfl, rfl, h1, h2, h3⟩ := hc
      cases h
      rw [sameT_eq (fun _ _ => sameL_eq) _ _ h1, sameH_eq _ _ h2]
      exact ⟨by simp, Nat.le_of_ble_eq_true h3⟩
    · exact ⟨List.mem_cons_of_mem _ (ih h).1, (ih h).2⟩
def findSli (ty : TypeId) (x : Value) (l h : Option Value) : List (TypeId × Value × Option Value × Option Value × Value) → Option Value
  | [] => none
  | e :: r => if e.1 == ty && (sameV 4 e.2.1 x && (sameO e.2.2.1 l && sameO e.2.2.2.1 h)) then some e.2.2.2.2 else findSli ty x l h r
theorem findLd_mem {ty : TypeId} {x v : Value} : ∀ {l : List (TypeId × Value × Value)}, findLd ty x l = some v → (ty, x, v) ∈ l := by
  intro l
  induction l with
  | nil => intro h; simp [findLd] at h
  | cons e r ih =>
    intro h
    obtain ⟨a, b, c⟩ := e
    simp only [findLd] at h
    split at h
    · rename_i hc
      simp only [Bool.and_eq_true, beq_iff_eq] at hc
      obtain ⟨rfl, h1⟩ := hc
      cases h
      rw [sameV_eq _ _ _ h1]; simp
    · exact List.mem_cons_of_mem _ (ih h)
theorem findIx_mem {ty : TypeId} {x i v : Value} : ∀ {l : List (TypeId × Value × Value × Value)}, findIx ty x i l = some v → (ty, x, i, v) ∈ l := by
  intro l
  induction l with
  | nil => intro h; simp [findIx] at h
  | cons e r ih =>
    intro h
    obtain ⟨a, b, c, d⟩ := e
    simp only [findIx] at h
    split at h
    · rename_i hc
      simp only [Bool.and_eq_true, beq_iff_eq] at hc
      obtain ⟨rfl, h1, h2⟩ := hc
      cases h
      rw [sameV_eq _ _ _ h1, sameV_eq _ _ _ h2]; simp
    · exact List.mem_cons_of_mem _ (ih h)
theorem findSli_mem {ty : TypeId} {x v : Value} {lo hi : Option Value} : ∀ {l : List (TypeId × Value × Option Value × Option Value × Value)}, findSli ty x lo hi l = some v → (ty, x, lo, hi, v) ∈ l := by
  intro l
  induction l with
  | nil => intro h; simp [findSli] at h
  | cons e r ih =>
    intro h
    obtain ⟨a, b, c, d, f⟩ := e
    simp only [findSli] at h
    split at h
    · rename_i hc
      simp only [Bool.and_eq_true, beq_iff_eq] at hc
      obtain ⟨rfl, h1, h2, h3⟩ := hc
      cases h
      rw [sameV_eq _ _ _ h1, sameO_eq h2, sameO_eq h3]; simp
    · exact List.mem_cons_of_mem _ (ih h)
/-- a bound of a slice expression, letter or not -/
def evoA (t : Tm) : Option Operand → Option (Option Value)
  | none => some none
  | some x => (ev t x).bind fun v => if af v then some (some v) else none
theorem rel_evoA {β : Names} {t : Tm} {a : Act} (h : RelT ρ β t a.tmps) (x : Option Operand) (v : Option Value) (hv : evoA t x = some v) : x.map a.eval = v.map (inst ρ) := by
  cases x with
  | none => simp only [evoA, Option.some.injEq] at hv; subst hv; rfl
  | some y =>
    simp only [evoA, Option.bind_eq_some_iff, Option.ite_none_right_eq_some, Option.some.injEq] at hv
    obtain ⟨u, h1, h2, rfl⟩ := hv
    simp only [Option.map_some]
    rw [(rel_ev h h1).af_eq h2]
def isLstV : Value → Bool
  | .complex .f32 _ _ => true
  | _ => false
def isLp : Value → Bool
  | .pointer (some ⟨_, _, some _⟩) => true
  | _ => false
/-- the address of an element of a list -/
def evIxL (P : Program) (lat : List (Nat × Nat × List Value)) (ty : TypeId) (v i : Value) : Option Value :=
  match v, i with
  | .complex .f32 b t, .int _ (.ofNat j) => if Nat.blt t 10 then none else (P.underlying ty).bind fun d => match d with
    | .slice e => (P.info? e).bind fun inf => if (inf.size == (t - 10) % 1024) = true then (findLat (t - 10) j lat).map fun _ => .pointer (some ⟨b, inf.size, some j⟩) else none
    | _ => none
  | _, _ => none
/-- an element of a list is read -/
def evLoadL (P : Program) (lat : List (Nat × Nat × List Value)) (H : Heap) (ty : TypeId) (p : Value) : Option Value :=
  match p with
  | .pointer (some ⟨b, sz, some j⟩) => match getN H b with
    | some (some k) => (markOf k.ty).bind fun s => (P.underlying ty).bind fun d => (P.info? ty).bind fun i => match d with
      | .struct _ => if (i.size == sz && s % 1024 == sz) = true then (findLat s j lat).map fun vs => .agg vs.toArray else none
      | .array _ _ => none
      | _ => if (sz == 1 && s % 1024 == sz) = true then (findLat s j lat).bind fun vs => match vs with
        | [u] => some u
        | _ => none
        else none
    | _ => none
  | _ => none
def ldV (P : Program) (orc : Orc) (H : Heap) (ty : TypeId) (p : Value) : Option Value := if isOp p then findLd ty p orc.lds else if isLp p then evLoadL P orc.lat H ty p else evLoad P H ty p
/-- not a part of a value that nothing is known of -/
def notAny : Value → Bool
  | .complex .f32 0 1 => true
  | .complex .f32 _ _ => false
  | _ => true
def sameBin (a b : BinOp) : Bool := decide (a = b)
def findBin (op : BinOp) (ty : TypeId) (x y : Value) : List (BinOp × TypeId × Value × Value × Value) → Option Value
  | [] => none
  | e :: r => if decide (e.1 = op) && (e.2.1 == ty && (sameV 4 e.2.2.1 x && sameV 4 e.2.2.2.1 y)) then some e.2.2.2.2 else findBin op ty x y r
def findUn (op : UnOp) (x : Value) : List (UnOp × Value × Value) → Option Value
  | [] => none
  | e :: r => if decide (e.1 = op) && sameV 4 e.2.1 x then some e.2.2 else findUn op x r
def findConv (s d : TypeId) (x : Value) : List (TypeId × TypeId × Value × Value) → Option Value
  | [] => none
  | e :: r => if e.1 == s && (e.2.1 == d && sameV 4 e.2.2.1 x) then some e.2.2.2 else findConv s d x r
def findBi (b : Builtin) (xs : List Value) : List (Builtin × List Value × Value) → Option Value
  | [] => none
  | e :: r => if decide (e.1 = b) && sameL e.2.1 xs then some e.2.2 else findBi b xs r
def findCall (f : FuncId) (xs : List Value) : List (FuncId × List Value × Value) → Option Value
  | [] => none
  | e :: r => if e.1 == f && sameL e.2.1 xs then some e.2.2 else findCall f xs r
def findMemo (f : FuncId) (xs : List Value) (H : Heap) : List (FuncId × List Value × Heap × Value × Heap) → Option (Value × Heap)
  | [] => none
  | e :: r => if e.1 == f && (sameL e.2.1 xs && sameH e.2.2.1 H) then some (e.2.2.2.1, e.2.2.2.2) else findMemo f xs H r
theorem findMemo_mem {f : FuncId} {xs : List Value} {H : Heap} {v : Value × Heap} : ∀ {l : List (FuncId × List Value × Heap × Value × Heap)}, findMemo f xs H l = some v → (f, xs, H, v.1, v.2) ∈ l := by
  intro l
  induction l with
  | nil => intro h; simp [findMemo] at h
  | cons e r ih =>
    intro h
    obtain ⟨a, b, c, d, g⟩ := e
    simp only [findMemo] at h
    split at h
    · rename_i hc
      simp only [Bool.and_eq_true, beq_iff_eq] at hc
      obtain ⟨rfl, h1, h2⟩ := hc
      cases h
      rw [sameL_eq h1, sameH_eq _ _ h2]
      simp
    · exact List.mem_cons_of_mem _ (ih h)
theorem findBin_mem {op : BinOp} {ty : TypeId} {x y v : Value} : ∀ {l : List (BinOp × TypeId × Value × Value × Value)}, findBin op ty x y l = some v → (op, ty, x, y, v) ∈ l := by
  intro l
  induction l with
  | nil => intro h; simp [findBin] at h
  | cons e r ih =>
    intro h
    obtain ⟨a, b, c, d, f⟩ := e
    simp only [findBin] at h
    split at h
    · rename_i hc
      simp only [Bool.and_eq_true, decide_eq_true_eq, beq_iff_eq] at hc
      obtain ⟨rfl, rfl, h1, h2⟩ := hc
      cases h
      rw [sameV_eq _ _ _ h1, sameV_eq _ _ _ h2]
      simp
    · exact List.mem_cons_of_mem _ (ih h)
theorem findUn_mem {op : UnOp} {x v : Value} : ∀ {l : List (UnOp × Value × Value)}, findUn op x l = some v → (op, x, v) ∈ l := by
  intro l
  induction l with
  | nil => intro h; simp [findUn] at h
  | cons e r ih =>
    intro h
    obtain ⟨a, b, c⟩ := e
    simp only [findUn] at h
    split at h
    · rename_i hc
      simp only [Bool.and_eq_true, decide_eq_true_eq] at hc
      obtain ⟨rfl, h1⟩ := hc
      cases h
      rw [sameV_eq _ _ _ h1]
      simp
    · exact List.mem_cons_of_mem _ (ih h)
theorem findConv_mem {s d : TypeId} {x v : Value} : ∀ {l : List (TypeId × TypeId × Value × Value)}, findConv s d x l = some v → (s, d, x, v) ∈ l := by
  intro l
  induction l with
  | nil => intro h; simp [findConv] at h
  | cons e r ih =>
    intro h
    obtain ⟨a, b, c, f⟩ := e
    simp only [findConv] at h
    split at h
    · rename_i hc
      simp only [Bool.and_eq_true, beq_iff_eq] at hc
      obtain ⟨rfl, rfl, h1⟩ := hc
      cases h
      rw [sameV_eq _ _ _ h1]
      simp
    · exact List.mem_cons_of_mem _ (ih h)
theorem findBi_mem {b : Builtin} {xs : List Value} {v : Value} : ∀ {l : List (Builtin × List Value × Value)}, findBi b xs l = some v → (b, xs, v) ∈ l := by
  intro l
  induction l with
  | nil => intro h; simp [findBi] at h
  | cons e r ih =>
    intro h
    obtain ⟨a, c, d⟩ := e
    simp only [findBi] at h
    split at h
    · rename_i hc
      simp only [Bool.and_eq_true, decide_eq_true_eq] at hc
      obtain ⟨rfl, h1⟩ := hc
      cases h
      rw [sameL_eq h1]
      simp
    · exact List.mem_cons_of_mem _ (ih h)
theorem findCall_mem {f : FuncId} {xs : List Value} {v : Value} : ∀ {l : List (FuncId × List Value × Value)}, findCall f xs l = some v → (f, xs, v) ∈ l := by
  intro l
  induction l with
  | nil => intro h; simp [findCall] at h
  | cons e r ih =>
    intro h
    obtain ⟨a, c, d⟩ := e
    simp only [findCall] at h
    split at h
    · rename_i hc
      simp only [Bool.and_eq_true, beq_iff_eq] at hc
      obtain ⟨rfl, h1⟩ := hc
      cases h
      rw [sameL_eq h1]
      simp
    · exact List.mem_cons_of_mem _ (ih h)

/-! structs and arrays of values that are moved -/
def fillV (place : Nat → Option (Nat × Nat)) : List Value → List (Nat × Value) → Option (List Value)
  | cells, [] => some cells
  | cells, (i, v) :: r => (place i).bind fun p => if v.cells.toList.length = p.2 ∧ p.1 + v.cells.toList.length ≤ cells.length then fillV place (splice cells p.1 v.cells.toList) r else none
theorem splice_cons {l : List Value} {o : Nat} {x : Value} {xs : List Value} : splice l o (x :: xs) = splice (l.set o x) (o + 1) xs ∨ l.length ≤ o := by
  rcases Nat.lt_or_ge o l.length with h | h
  · left
    by_cases hl : o + (x :: xs).length ≤ l.length
    · apply List.ext_getElem?
      intro j
      rw [splice_get _ _ _ hl, splice_get _ _ _ (by simp at hl ⊢; omega)]
      simp only [List.length_cons] at hl ⊢
      by_cases h1 : j < o
      · rw [if_pos h1, if_pos (by omega), List.getElem?_set_ne (by omega)]
      · rw [if_neg h1]
        by_cases h2 : j = o
        · subst h2
          rw [if_pos (by omega), if_pos (by omega), List.getElem?_set_self h]; simp
        · rw [if_neg (by omega : ¬ j < o + 1)]
          by_cases h3 : j < o + (xs.length + 1)
          · rw [if_pos h3, if_pos (by omega)]
            have : j - o = (j - (o + 1)) + 1 := by omega
            rw [this, List.getElem?_cons_succ]
          · rw [if_neg h3, if_neg (by omega), List.getElem?_set_ne (by omega)]
    · unfold splice
      simp only [List.length_cons] at hl ⊢
      rw [List.drop_eq_nil_of_le (by omega), List.drop_eq_nil_of_le (by simp; omega), List.append_nil, List.append_nil, List.take_succ_eq_append_getElem (by simpa using h), List.take_set_of_le (Nat.le_refl _)]
      simp
  · exact .inr h
theorem foldl_splice : ∀ (vs : List Value) (k off : Nat) (cells : Array Value), off + k + vs.length ≤ cells.size →
    ((vs.zipIdx k).foldl (fun cs (p : Value × Nat) => cs.setIfInBounds (off + p.2) p.1) cells).toList = splice cells.toList (off + k) vs := by
  intro vs
  induction vs with
  | nil => intro k off cells h; simp [splice]
  | cons x r ih =>
    intro k off cells h
    simp only [List.length_cons] at h
    simp only [List.zipIdx_cons, List.foldl_cons]
    rw [ih (k + 1) off _ (by simp; omega)]
    rcases splice_cons (l := cells.toList) (o := off + k) (x := x) (xs := r) with e | e
    · rw [e, Array.toList_setIfInBounds, Nat.add_assoc]
    · rw [Array.length_toList] at e; omega
theorem fill_rel {β : Names} {place : Nat → Option (Nat × Nat)} : ∀ (ps : List (Nat × Value)) (ps' : List (Nat × Value)) (cells out : List Value) (cells' : Array Value), fillV place cells ps = some out →
    (ps.length = ps'.length ∧ ∀ (i : Nat) (p p' : Nat × Value), ps[i]? = some p → ps'[i]? = some p' → p'.1 = p.1 ∧ Rel ρ β p.2 p'.2) → (∀ p ∈ ps, ∀ c ∈ p.2.cells.toList, c.oneCell' = true) → RelL ρ β cells cells'.toList →
    ∃ out', Instr.fill place cells' ps' = some out' ∧ RelL ρ β out out'.toList := by
  intro ps
  induction ps with
  | nil =>
    intro ps' cells out cells' h hp _ hc
    cases h
    have : ps' = [] := List.eq_nil_of_length_eq_zero hp.1.symm
    subst this
    exact ⟨cells', rfl, hc⟩
  | cons q r ih =>
    intro ps' cells out cells' h hp h1 hc
    obtain ⟨i, v⟩ := q
    match ps', hp with
    | [], hp => exact absurd hp.1 (by simp)
    | (i', v') :: r', hp =>
      obtain ⟨e1, e2⟩ := hp.2 0 _ _ rfl rfl
      simp only at e1 e2
      subst e1
      simp only [fillV, Option.bind_eq_some_iff, Option.ite_none_right_eq_some] at h
      obtain ⟨⟨off, sz⟩, g1, ⟨g2, g3⟩, g4⟩ := h
      have hr := cells_rel e2 (h1 (i', v) (by simp))
      simp only at g2 g3 g4
      have hlen := hc.1
      have hs : v'.cells.size = sz := by have := hr.1; simp only [Array.length_toList] at this g2; omega
      have hb : ¬ (off + v'.cells.size > cells'.size) := by have := hr.1; simp only [Array.length_toList] at this g2 g3 hlen; omega
      have hfold : (v'.cells.zipIdx.foldl (fun cs (p : Value × Nat) => cs.setIfInBounds (off + p.2) p.1) cells').toList = splice cells'.toList off v'.cells.toList := by
        rw [← Array.foldl_toList, Array.toList_zipIdx]
        exact foldl_splice _ 0 off cells' (by simp only [Nat.add_zero, Array.length_toList]; omega)
      have hrel : RelL ρ β (splice cells off v.cells.toList) (v'.cells.zipIdx.foldl (fun cs (p : Value × Nat) => cs.setIfInBounds (off + p.2) p.1) cells').toList := by
        rw [hfold]
        have l1 : off + v'.cells.toList.length ≤ cells'.toList.length := by simp only [Array.length_toList]; omega
        refine ⟨by rw [splice_length _ _ _ g3, splice_length _ _ _ l1]; exact hlen, fun j a b qa qb => ?_⟩
        rw [splice_get _ _ _ g3] at qa
        rw [splice_get _ _ _ l1, ← hr.1] at qb
        by_cases c1 : j < off
        · rw [if_pos c1] at qa qb; exact hc.2 j a b qa qb
        · rw [if_neg c1] at qa qb
          by_cases c2 : j < off + v.cells.toList.length
          · rw [if_pos c2] at qa qb; exact hr.2 _ a b qa qb
          · rw [if_neg c2] at qa qb; exact hc.2 j a b qa qb
      obtain ⟨out', r1, r2⟩ := ih r' _ out _ g4 ⟨by simpa using hp.1, fun k p p' qa qb => hp.2 (k + 1) p p' (by simpa using qa) (by simpa using qb)⟩ (fun p hp' => h1 p (by simp [hp'])) hrel
      refine ⟨out', ?_, r2⟩
      simp only [Instr.fill, g1]
      rw [if_neg (by rw [hs] at hb ⊢; simp; omega)]
      exact r1
def evpg (t : Tm) : List (Nat × Operand) → Option (List (Nat × Value))
  | [] => some []
  | (i, x) :: r => (ev t x).bind fun v => (evpg t r).bind fun vs => some ((i, v) :: vs)
def onesP (ps : List (Nat × Value)) : Bool := ps.all fun p => p.2.cells.toList.all fun c => c.oneCell'
def placesOf (P : Program) (fields : Array Field) (i : Nat) : Option (Nat × Nat) := (fields[i]?).bind fun f => (P.info? f.type).map fun inf => (f.offset, inf.size)
def evBuild (P : Program) (ty : TypeId) (ps : List (Nat × Value)) : Option Value :=
  (P.info? ty).bind fun inf => inf.zero.bind fun z => (P.underlying ty).bind fun d =>
    if onesP ps && z.cells.toList.all flat then
      match d with
      | .struct fields => if fields.toList.all fun f => (P.info? f.type).isSome then (fillV (placesOf P fields) z.cells.toList ps).map fun cs => .agg cs.toArray else none
      | .array _ e => (P.info? e).bind fun ie => (fillV (fun i => some (i * ie.size, ie.size)) z.cells.toList ps).map fun cs => .agg cs.toArray
      | _ => none
    else none
theorem run_places {P : Program} : ∀ (l : List Field) (w : World), (∀ f ∈ l, (P.info? f.type).isSome = true) →
    ∃ pl : List (Nat × Nat), (l.mapM (fun (f : Field) => (do pure (f.offset, ← sizeOf f.type) : Sem (Nat × Nat)))).run P w = .ok pl w ∧ ∀ i : Nat, pl[i]? = (l[i]?).bind fun f => (P.info? f.type).map fun inf => (f.offset, inf.size) := by
  intro l w
  induction l with
  | nil => intro _; exact ⟨[], rfl, fun i => by simp⟩
  | cons f r ih =>
    intro h
    obtain ⟨pl, h1, h2⟩ := ih fun g hg => h g (by simp [hg])
    obtain ⟨inf, hi⟩ := Option.isSome_iff_exists.1 (h f (by simp))
    refine ⟨(f.offset, inf.size) :: pl, ?_, fun i => ?_⟩
    · rw [List.mapM_cons, Sem.run_bind, Sem.run_bind, run_sizeOf hi]
      simp only [Result.andThen_ok, Sem.run_pure, Sem.run_bind]
      rw [h1]; rfl
    · cases i with
      | zero => simp [hi]
      | succ i => simp only [List.getElem?_cons_succ]; exact h2 i
theorem evBuild_ok {P : Program} {β : Names} {ty : TypeId} {ps ps' : List (Nat × Value)} {v : Value} {w : World} (h : evBuild P ty ps = some v)
    (hp : ps.length = ps'.length ∧ ∀ (i : Nat) (p p' : Nat × Value), ps[i]? = some p → ps'[i]? = some p' → p'.1 = p.1 ∧ Rel ρ β p.2 p'.2) :
    ∃ v', (Instr.build ty ps'.toArray).run P w = .ok v' w ∧ Rel ρ β v v' := by
  simp only [evBuild, Option.bind_eq_some_iff, Option.ite_none_right_eq_some, Bool.and_eq_true] at h
  obtain ⟨inf, h1, z, h2, d, h3, ⟨h4, h5⟩, h6⟩ := h
  have hz : RelL ρ β z.cells.toList z.cells.toList := flats_rel _ fun c hc => List.all_eq_true.1 h5 c hc
  have hone : ∀ p ∈ ps, ∀ c ∈ p.2.cells.toList, c.oneCell' = true := by
    simp only [onesP, List.all_eq_true] at h4
    exact h4
  cases d with
  | struct fields =>
    simp only [Option.ite_none_right_eq_some, Option.map_eq_some_iff, List.all_eq_true] at h6
    obtain ⟨g1, cs, g2, rfl⟩ := h6
    obtain ⟨pl, q1, q2⟩ := run_places fields.toList w g1
    have hpl : (fun i => pl.toArray[i]?) = placesOf P fields := by
      funext i
      have := q2 i
      unfold placesOf
      rw [List.getElem?_toArray, this, Array.getElem?_toList]
    obtain ⟨out', r1, r2⟩ := fill_rel ps ps' _ _ z.cells g2 hp hone hz
    refine ⟨.agg out', ?_, .agg r2.1 r2.2⟩
    have hm : (fields.mapM (fun (f : Field) => (do pure (f.offset, ← sizeOf f.type) : Sem (Nat × Nat)))).run P w = .ok pl.toArray w := by
      obtain ⟨fl⟩ := fields
      rw [List.mapM_toArray, ← bind_pure_comp, Sem.run_bind, q1]; rfl
    simp only [Instr.build, Sem.run_bind, run_zeroV h1 h2, Result.andThen_ok, run_underlying h3]
    rw [hm]
    simp only [Result.andThen_ok, hpl, r1, Sem.run_pure]
  | array n e =>
    simp only [Option.bind_eq_some_iff, Option.map_eq_some_iff] at h6
    obtain ⟨ie, g1, cs, g2, rfl⟩ := h6
    obtain ⟨out', r1, r2⟩ := fill_rel ps ps' _ _ z.cells g2 hp hone hz
    refine ⟨.agg out', ?_, .agg r2.1 r2.2⟩
    simp only [Instr.build, Sem.run_bind, run_zeroV h1 h2, Result.andThen_ok, run_underlying h3, run_sizeOf g1, r1, Sem.run_pure]
  | _ => cases h6
def evBuildSlice (P : Program) (H : Heap) (ty : TypeId) (len : Nat) (ps : List (Nat × Value)) : Option (Value × Heap) :=
  (P.underlying ty).bind fun d =>
    match d with
    | .slice e => (P.info? e).bind fun inf => inf.zero.bind fun z =>
      if (Nat.blt e 1180591620717411303424 = true ∧ len * inf.size ≤ 16777216) ∧ (onesP ps && (z.cells.toList.all flat && !z.cells.toList.isEmpty)) = true then
        (fillV (fun i => some (i * inf.size, inf.size)) ((List.range (len * inf.size)).map fun j => (getN z.cells.toList (j % z.cells.size)).getD undef) ps).bind fun cs =>
          some (.slice (some ⟨H.length, 0, none⟩) len len, H ++ [some ⟨cs, e⟩])
      else none
    | _ => none
theorem evBuildSlice_ok {P : Program} {w0 : Base} {w : World} {β : Names} {H : Heap} (hS : Sim ρ P w0 β H w) {ty : TypeId} {len : Nat} {ps ps' : List (Nat × Value)} {r : Value × Heap} (h : evBuildSlice P H ty len ps = some r)
    (hp : ps.length = ps'.length ∧ ∀ (i : Nat) (p p' : Nat × Value), ps[i]? = some p → ps'[i]? = some p' → p'.1 = p.1 ∧ Rel ρ β p.2 p'.2) :
    ∃ v' β' w', (Instr.buildSlice ty len ps'.toArray).run P w = .ok v' w' ∧ Keep H none β β' ∧ Rel ρ β' r.1 v' ∧ Sim ρ P w0 β' r.2 w' := by
  simp only [evBuildSlice, Option.bind_eq_some_iff] at h
  obtain ⟨d, h1, h2⟩ := h
  cases d <;> first | cases h2 | skip
  rename_i el
  simp only [Option.bind_eq_some_iff, Option.ite_none_right_eq_some, Option.some.injEq, Bool.and_eq_true] at h2
  obtain ⟨inf, h3, z, h4, ⟨⟨h5, h6⟩, h8, h9, h10⟩, cs, h7, rfl⟩ := h2
  have hone : ∀ p ∈ ps, ∀ c ∈ p.2.cells.toList, c.oneCell' = true := by
    simp only [onesP, List.all_eq_true] at h8
    exact h8
  have hz := List.all_eq_true.1 h9
  have hzr : RelL ρ β ((List.range (len * inf.size)).map fun j => (getN z.cells.toList (j % z.cells.size)).getD undef) ((List.range (len * inf.size)).map fun j => (getN z.cells.toList (j % z.cells.size)).getD undef).toArray.toList := by
    refine flats_rel _ fun c hc => ?_
    obtain ⟨j, _, rfl⟩ := List.mem_map.1 hc
    rw [getN_eq]
    cases q : z.cells.toList[j % z.cells.size]? with
    | none => rfl
    | some x => exact hz x (List.mem_of_getElem? q)
  obtain ⟨out', r1, r2⟩ := fill_rel ps ps' _ _ _ h7 hp hone hzr
  have hfree := hS.free (Nat.le_refl H.length)
  have hn := new_ok hS hfree cs out'.toList el (Put.app _ _) r2 ⟨realTy_small h5, small_notObj h5⟩
  refine ⟨_, _, _, ?_, Keep.last hfree _, .slc (upd_self _ _ _) (.inl rfl), hn⟩
  have hr : (Array.range (len * inf.size)).map (fun j => z.cells[j % z.cells.size]!) = ((List.range (len * inf.size)).map fun j => (getN z.cells.toList (j % z.cells.size)).getD undef).toArray := by
    rw [← List.toArray_range, List.map_toArray]
    congr 1
    refine List.map_congr_left fun j _ => ?_
    rw [getN_eq, Array.getElem?_toList]
    by_cases hz0 : z.cells.size = 0
    · have : z.cells = #[] := by simpa using hz0
      rw [this] at h10; simp at h10
    · have hlt : j % z.cells.size < z.cells.size := Nat.mod_lt _ (by omega)
      rw [getElem!_pos z.cells (j % z.cells.size) hlt, Array.getElem?_eq_getElem hlt]; rfl
  have k1 : ¬ len * inf.size > 2 ^ 24 := by omega
  by_cases k2 : len * inf.size = 0
  · have hr0 : ((List.range (len * inf.size)).map fun j => (getN z.cells.toList (j % z.cells.size)).getD undef).toArray = #[] := by rw [k2]; rfl
    rw [hr0] at r1
    simp only [Instr.buildSlice, Sem.run_bind, run_underlying h1, Result.andThen_ok, run_sizeOf h3, k1, if_false, pure_bind, bind_pure_comp, map_pure, Sem.run_pure, k2, if_true, show ¬ 0 > 2 ^ 24 by omega, newRow_run, show Array.range 0 = #[] from rfl, List.map_toArray, List.map_nil, r1]
    rfl
  · simp only [Instr.buildSlice, Sem.run_bind, run_underlying h1, Result.andThen_ok, run_sizeOf h3, k1, k2, if_false, pure_bind, bind_pure_comp, map_pure, run_zeroV h3 h4, Sem.run_pure, hr, r1, newRow_run]
    rfl
/-- a part of a struct or an array -/
def evPart (P : Program) (ty : TypeId) (cs : List Value) (off : Nat) : Option Value :=
  (P.underlying ty).bind fun d =>
    match d with
    | .struct _ | .array _ _ => (P.info? ty).bind fun i => if off + i.size ≤ cs.length then some (.agg (cut cs off i.size).toArray) else none
    | _ => getN cs off
def asAggL : Value → Option (List Value)
  | .agg cs => some cs.toList
  | _ => none
def evField (P : Program) (ty : TypeId) (x : Value) (f : Nat) : Option Value :=
  (asAggL x).bind fun cs => (P.underlying ty).bind fun d =>
    match d with
    | .struct fields => (fields[f]?).bind fun fd => evPart P fd.type cs fd.offset
    | _ => none
def evIndex (P : Program) (ty : TypeId) (x i : Value) : Option Value :=
  (asAggL x).bind fun cs => (asI i).bind fun i => (P.underlying ty).bind fun d =>
    match d with
    | .array n e => (P.info? e).bind fun ie => if 0 ≤ i.2 ∧ i.2 < n then evPart P e cs (i.2.toNat * ie.size) else none
    | _ => none
theorem Rel.agg_inv {β : Names} {x x' : Value} {cs : List Value} (h : Rel ρ β x x') (hx : asAggL x = some cs) : ∃ cs', x' = .agg cs' ∧ RelL ρ β cs cs'.toList := by
  unfold asAggL at hx
  split at hx
  · rename_i l
    cases hx
    cases h with
    | flat hf =>
      refine ⟨_, rfl, rfl, fun i u u' q q' => ?_⟩
      obtain rfl : u = u' := Option.some.inj (q.symm.trans q')
      simp only [Ev.flat, flat1, List.all_eq_true] at hf
      exact .flat (flat1_flat (flat0_flat1 (hf u (List.mem_of_getElem? q))))
    | agg hs hh => exact ⟨_, rfl, hs, hh⟩
  · cases hx
theorem evPart_ok {P : Program} {β : Names} {ty : TypeId} {cs : List Value} {cs' : Array Value} {off : Nat} {v : Value} {w : World} (h : evPart P ty cs off = some v) (hr : RelL ρ β cs cs'.toList) :
    ∃ v', (part ty cs' off).run P w = .ok v' w ∧ Rel ρ β v v' := by
  simp only [evPart, Option.bind_eq_some_iff] at h
  obtain ⟨d, h1, h2⟩ := h
  have agg : ∀ (q : (P.info? ty).bind (fun i => if off + i.size ≤ cs.length then some (Value.agg (cut cs off i.size).toArray) else none) = some v),
      ∃ v', (sizeOf ty >>= fun s => (pure (.agg (cs'.extract off (off + s))) : Sem Value)).run P w = .ok v' w ∧ Rel ρ β v v' := by
    intro q
    simp only [Option.bind_eq_some_iff, Option.ite_none_right_eq_some, Option.some.injEq] at q
    obtain ⟨i, q1, q2, rfl⟩ := q
    refine ⟨.agg (cs'.extract off (off + i.size)), by simp only [Sem.run_bind, run_sizeOf q1, Result.andThen_ok, Sem.run_pure], ?_⟩
    have he : cs'.extract off (off + i.size) = (cut cs'.toList off i.size).toArray := by
      apply Array.toList_inj.1
      rw [Array.toList_extract]
      simp [cut, List.extract_eq_take_drop]
    rw [he]
    have l2 : off + i.size ≤ cs'.toList.length := by rw [← hr.1]; exact q2
    refine .agg (by rw [cut_length _ _ _ q2, cut_length _ _ _ l2]) fun j a b qa qb => ?_
    rw [cut_get] at qa qb
    split at qa
    · rename_i hj
      rw [if_pos hj] at qb
      exact hr.2 _ a b qa qb
    · cases qa
  have one : ∀ (q : getN cs off = some v), ∃ v', (match cs'[off]? with | some v => pure v | none => stuck "part: no such cell" : Sem Value).run P w = .ok v' w ∧ Rel ρ β v v' := by
    intro q
    rw [getN_eq] at q
    have hlt : off < cs'.toList.length := by rw [← hr.1]; exact (List.getElem?_eq_some_iff.1 q).1
    have hc : cs'[off]? = some cs'.toList[off] := by rw [← Array.getElem?_toList, List.getElem?_eq_getElem hlt]
    refine ⟨cs'.toList[off], ?_, hr.2 off _ _ q (List.getElem?_eq_getElem hlt)⟩
    rw [hc]; rfl
  unfold part
  simp only [Sem.run_bind, run_isAgg h1, Result.andThen_ok]
  cases d <;> first
    | exact one h2
    | (obtain ⟨v', q1, q2⟩ := agg h2; refine ⟨v', ?_, q2⟩; rw [← q1]; simp only [if_true])
theorem evField_ok {P : Program} {β : Names} {ty : TypeId} {x x' : Value} {f : Nat} {v : Value} {w : World} (h : evField P ty x f = some v) (hx : Rel ρ β x x') :
    ∃ v', (Instr.field ty x' f).run P w = .ok v' w ∧ Rel ρ β v v' := by
  simp only [evField, Option.bind_eq_some_iff] at h
  obtain ⟨cs, h1, d, h2, h3⟩ := h
  obtain ⟨cs', rfl, hr⟩ := hx.agg_inv h1
  cases d with
  | struct fields =>
    simp only [Option.bind_eq_some_iff] at h3
    obtain ⟨fd, h4, h5⟩ := h3
    obtain ⟨v', q1, q2⟩ := evPart_ok (w := w) h5 hr
    refine ⟨v', ?_, q2⟩
    simp only [Instr.field, Sem.run_bind, run_underlying h2, Result.andThen_ok, h4, asAgg, pure_bind, q1]
  | _ => cases h3
theorem evIndex_ok {P : Program} {β : Names} {ty : TypeId} {x x' i i' : Value} {v : Value} {w : World} (h : evIndex P ty x i = some v) (hx : Rel ρ β x x') (hi : Rel ρ β i i') :
    ∃ v', (Instr.index ty x' i').run P w = .ok v' w ∧ Rel ρ β v v' := by
  simp only [evIndex, Option.bind_eq_some_iff] at h
  obtain ⟨cs, h1, ⟨k, n⟩, h0, d, h2, h3⟩ := h
  obtain ⟨cs', rfl, hr⟩ := hx.agg_inv h1
  rw [(asI_eq h0).1] at hi
  obtain rfl := hi.int_inv (asI_eq h0).2
  cases d with
  | array m e =>
    simp only [Option.bind_eq_some_iff, Option.ite_none_right_eq_some] at h3
    obtain ⟨ie, h4, h5, h6⟩ := h3
    obtain ⟨v', q1, q2⟩ := evPart_ok (w := w) h6 hr
    refine ⟨v', ?_, q2⟩
    simp only [Instr.index, asIntOf, pure_bind, Sem.run_bind, run_underlying h2, Result.andThen_ok]
    rw [if_pos h5]
    simp only [Sem.run_bind, run_sizeOf h4, Result.andThen_ok, q1]
  | _ => cases h3

def pureV (P : Program) (s : Sem Value) : Option Value := (pureRun P s).bind fl
def tput (t : Tm) (d : Option Tmp) (v : Value) : Tm :=
  match d with
  | some i => t.put i v
  | none => t
def allFlat (vs : List Value) : Bool := vs.all flat
section
variable {P : Program} {w0 : Base} {w : World} {β : Names} {H : Heap}
theorem evIxL_ok {lat : List (Nat × Nat × List Value)} (hl : ∀ e ∈ lat, LatE ρ e) {ty : TypeId} {x x' ix ix' v : Value} (h : evIxL P lat ty x ix = some v) (hx : Rel ρ β x x') (hi : Rel ρ β ix ix') :
    ∃ v', (Instr.indexAt ty x' ix').run P w = .ok v' w ∧ Rel ρ β v v' := by
  unfold evIxL at h
  split at h
  · rename_i b t kd j
    rw [Option.ite_none_left_eq_some] at h
    obtain ⟨ht, h⟩ := h
    simp only [Bool.not_eq_true] at ht
    simp only [Option.bind_eq_some_iff] at h
    obtain ⟨d, hd, h⟩ := h
    cases d <;> first | cases h | skip
    rename_i el
    simp only [Option.bind_eq_some_iff, Option.ite_none_right_eq_some, Option.map_eq_some_iff, beq_iff_eq] at h
    obtain ⟨inf, hinf, hsz, vs, hvs, rfl⟩ := h
    obtain ⟨e, n, c, he, rfl, ⟨hz, hz2⟩, hn, _⟩ := rel_lst hx ht
    obtain ⟨i, q1, q2, q3, q4, _⟩ := hl _ (findLat_mem hvs)
    simp only at q1 q2 q3 q4
    have hix : ix' = .int kd (i : Int) := by
      rw [hi.af_eq rfl, inst_int]
      unfold valOf
      rw [if_pos q1, q2]
    subst hix
    rw [← hz2, ← hn] at q4
    have hin : i < n := Nat.lt_of_succ_le (Nat.le_of_mul_le_mul_right q4 hz)
    refine ⟨_, ?_, .lpt (i := i) he q1 q2⟩
    have hb' : (0 : Int) ≤ (i : Int) ∧ (i : Int) < (n : Int) := ⟨by omega, by omega⟩
    simp only [Instr.indexAt, asIntOf, pure_bind, Sem.run_bind, run_underlying hd, Result.andThen_ok, Instr.sureAddr, Sem.run_pure]
    simp only [hb', and_self, if_true, Sem.run_bind, run_sizeOf hinf, Result.andThen_ok, Sem.run_pure, add_none, Int.toNat_natCast, Nat.zero_add]
  · cases h
theorem evLoadL_ok (hS : Sim ρ P w0 β H w) {lat : List (Nat × Nat × List Value)} (hl : ∀ e ∈ lat, LatE ρ e) {ty : TypeId} {p p' v : Value} (h : evLoadL P lat H ty p = some v) (hp : Rel ρ β p p') :
    ∃ v', (Instr.loadAt ty p').run P w = .ok v' w ∧ Rel ρ β v v' := by
  unfold evLoadL at h
  split at h
  · rename_i b sz j
    split at h
    · rename_i k hk
      rw [getN_eq] at hk
      simp only [Option.bind_eq_some_iff] at h
      obtain ⟨s, hm, d, hd, i, hi, h⟩ := h
      split at h
      · rename_i fs
        simp only [Option.ite_none_right_eq_some, Option.map_eq_some_iff, Bool.and_eq_true, beq_iff_eq] at h
        obtain ⟨⟨hsz, hs2⟩, vs, hvs, rfl⟩ := h
        obtain ⟨e, m, he, rfl, r1, r2⟩ := rel_lpt hp
        obtain ⟨m', q1, q2, q3, q4, q5, q6⟩ := hl _ (findLat_mem hvs)
        simp only at q1 q2 q3 q4 q5 q6
        obtain rfl : m = m' := by have := r2.symm.trans q2; omega
        rw [hs2] at q3 q4 q6
        obtain ⟨e2, cs2, p1, p2, p3⟩ := hS.lists b k s hk hm
        obtain rfl : e = e2 := Option.some.inj (he.symm.trans p1)
        have hfit : m * sz + sz ≤ (ρ.lst s).length := by rw [← Nat.succ_mul]; exact q4
        have hcell : ∀ (x : Nat) (u : Value), (cut (ρ.lst s) (m * sz) sz)[x]? = some u → w.cell? ((⟨e.blk, m * sz, none⟩ : Addr).add x) = some u := by
          intro x u hu
          rw [cut_get] at hu
          split at hu
          · rw [add_none, cell_of_row w e.blk (m * sz + x) cs2 (realTy k.ty) (0, 0) p2]
            exact p3 _ _ hu
          · cases hu
        have hld := run_loadCells_list (P := P) w ⟨e.blk, m * sz, none⟩ (cut (ρ.lst s) (m * sz) sz) hcell
        rw [cut_length _ _ _ hfit] at hld
        refine ⟨.agg (vs.map (inst ρ)).toArray, ?_, .agg (by simp) fun x a b qa qb => ?_⟩
        · simp only [Instr.loadAt, Instr.sureAddr, loadVar, pure_bind, Sem.run_bind, run_isAgg hd, Result.andThen_ok, if_true, bind_assoc, run_sizeOf hi, hsz, hld, Sem.run_pure]
          rw [q6]
        · rw [List.getElem?_map, qa] at qb
          cases qb
          exact rel_inst (List.all_eq_true.1 q5 a (List.mem_of_getElem? qa))
      · cases h
      · rename_i hns hna
        simp only [Option.ite_none_right_eq_some, Option.bind_eq_some_iff, Bool.and_eq_true, beq_iff_eq] at h
        obtain ⟨⟨rfl, hs2⟩, vs, hvs, h⟩ := h
        split at h
        · rename_i u
          obtain rfl : u = v := Option.some.inj h
          obtain ⟨e, m, he, rfl, r1, r2⟩ := rel_lpt hp
          obtain ⟨m', q1, q2, q3, q4, q5, q6⟩ := hl _ (findLat_mem hvs)
          simp only at q1 q2 q3 q4 q5 q6
          obtain rfl : m = m' := by have := r2.symm.trans q2; omega
          rw [hs2] at q3 q4 q6
          obtain ⟨e2, cs2, p1, p2, p3⟩ := hS.lists b k s hk hm
          obtain rfl : e = e2 := Option.some.inj (he.symm.trans p1)
          have hu : (ρ.lst s)[m * 1]? = some (inst ρ u) := by
            have := congrArg (fun l : List Value => l[0]?) q6
            simp only [cut_get] at this
            simpa using this
          have hc : w.cell? ⟨e.blk, m * 1, none⟩ = some (inst ρ u) := by
            rw [cell_of_row w e.blk (m * 1) cs2 (realTy k.ty) (0, 0) p2]
            exact p3 _ _ hu
          have hc2 : w.cell? ⟨e.blk, m, none⟩ = some (inst ρ u) := by rw [Nat.mul_one] at hc; exact hc
          refine ⟨inst ρ u, ?_, rel_inst (List.all_eq_true.1 q5 u (List.mem_singleton.2 rfl))⟩
          simp only [Instr.loadAt, Instr.sureAddr, loadVar, pure_bind, Sem.run_bind, run_isAgg hd, Result.andThen_ok]
          cases d <;> first
            | exact absurd rfl (hns _)
            | exact absurd rfl (hna _ _)
            | simp [hc2]
        · cases h
    · cases h
  · cases h
theorem evAppendL_ok {laps : List (Nat × List Value × Nat)} (hl : ∀ e ∈ laps, e.2.1.all af = true ∧ ρ.lst e.2.2 = ρ.lst e.1 ++ e.2.1.map (inst ρ) ∧ (ρ.lst e.2.2).length ≤ 1000000) (hS : Sim ρ P w0 β H w) {ty rt : TypeId} {b t : Nat} {s' x x' : Value} {r : Value × Heap}
    (h : evAppendL P laps H ty b t x = some r) (hs : Rel ρ β (.complex .f32 b t) s') (hx : Rel ρ β x x') :
    ∃ v' β' w', (Builtin.append_ #[ty, ty] rt #[s', x']).run P w = .ok v' w' ∧ Keep H none β β' ∧ Rel ρ β' r.1 v' ∧ Sim ρ P w0 β' r.2 w' := by
  unfold evAppendL at h
  rw [Option.ite_none_left_eq_some] at h
  obtain ⟨ht, h⟩ := h
  simp only [Bool.not_eq_true] at ht
  simp only [Option.bind_eq_some_iff] at h
  obtain ⟨d, h1, h2⟩ := h
  cases d <;> first | cases h2 | skip
  rename_i el
  simp only [Option.bind_eq_some_iff] at h2
  obtain ⟨i, h3, z, h4, ⟨bx, ox, n, cx⟩, h5, kx, h6, h7⟩ := h2
  dsimp only at h7
  split at h7
  · rename_i k hk
    simp only [Option.ite_none_right_eq_some, Bool.and_eq_true, beq_iff_eq, List.isEmpty_iff, Option.bind_eq_some_iff, Option.some.injEq] at h7
    obtain ⟨⟨⟨hel, hsb0, hm0, hkt, hkc⟩, hz, hsz, hby, hn, hfit, hone0⟩, s2, hlap, ⟨hsb20, hm2⟩, rfl⟩ := h7
    have hsb : t - 10 < 1099511627776 := by simp only [Nat.blt, Nat.ble_eq] at hsb0; exact hsb0
    have hsb2 : s2 < 1099511627776 := by simp only [Nat.blt, Nat.ble_eq] at hsb20; exact hsb20
    rw [getN_eq] at hk
    have hel' : el < 1048576 := by simp only [Nat.blt, Nat.ble_eq] at hel; exact hel
    rw [asSlc_eq h5] at hx
    obtain ⟨ex, cx', hex, rfl, _⟩ := hx.slc_inv
    obtain ⟨e, m, c, he, rfl, hz0, hm, hmc, hcm, hcnt⟩ := rel_lst hs ht
    obtain ⟨haf, hlst, hbig⟩ := hl _ (findLap_mem hlap)
    simp only at haf hlst hbig
    obtain ⟨hr1, hr2⟩ := listTy_eq (s := t - 10) hel' hsb
    obtain ⟨hr3, hr4⟩ := listTy_eq (s := s2) hel' hsb2
    have hb70 : Nat.blt el 1180591620717411303424 = true := by simp only [Nat.blt, Nat.ble_eq]; exact Nat.le_trans hel' (by decide)
    have hrel : realTy el = el ∧ markOf el = none := realTy_small hb70
    have hnoe : isObj el = false := small_notObj hb70
    rw [List.all_eq_true] at hone0
    obtain ⟨nw, n1, n2, n3, n4⟩ := hS.loadCells (blkAt_eq h6) (blkAt_notObj h6) hex ox (n * i.size) hfit
    have hone := rel_ones n2 hone0
    have hnw : nw = (cut kx.cells ox (n * i.size)).map (inst ρ) := by
      refine list_map_of n2.1 fun j v v' q q' => (n2.2 j v v' q q').af_eq (List.all_eq_true.1 haf v (List.mem_of_getElem? q))
    obtain ⟨k0, kt⟩ := k
    simp only at hkt hkc
    subst hkc; subst hkt
    obtain ⟨e1, cs0, q1, q2, q3, q4, q5, q6⟩ := hS.cells b _ hk (mark_notObj hr2)
    obtain rfl : e = e1 := Option.some.inj (he.symm.trans q1)
    simp only [hr1] at q2 q4
    have hcell : P.cellsOf el = i.size := by simp [Program.cellsOf, h3]
    rw [hcell] at q4
    obtain ⟨e2, cs2, p1, p2, p3⟩ := hS.lists b _ (t - 10) hk hr2
    obtain rfl : e = e2 := Option.some.inj (he.symm.trans p1)
    simp only [hr1] at p2
    have : cs2 = cs0 := by
      have := p2.symm.trans q2
      simp only [Option.some.injEq, Obj.cells.injEq] at this
      exact this.1
    subst this
    have hbl : b < H.length := (List.getElem?_eq_some_iff.1 hk).1
    have hfree := hS.free (Nat.le_refl H.length)
    rw [q4] at hm hcnt
    have hlen2 : (ρ.lst s2).length = (m + n) * i.size := by rw [hlst, List.length_append, ← hm, List.length_map, n2.1, n3, Nat.add_mul]
    have hmn : m + n ≤ 1000000 := by
      have : (m + n) * 1 ≤ (m + n) * i.size := Nat.mul_le_mul_left _ hsz
      rw [Nat.mul_one] at this
      rw [hlen2] at hbig
      exact Nat.le_trans this hbig
    have hlold : (ρ.lst (t - 10)).length ≤ cs2.size := by
      rw [← hm, q3]
      exact Nat.le_trans (Nat.mul_le_mul_right _ hmc) hcnt
    -- the entry as an ordinary block without known cells
    have hS1 := hS.retype (t2 := el) hk (mark_notObj hr2) hnoe (hrel.1.trans hr1.symm) fun s q => by rw [hrel.2] at q; cases q
    have hb1 : (H.set b (some (⟨[], el⟩ : Blk)))[b]? = some (some ⟨[], el⟩) := List.getElem?_set_self hbl
    by_cases hroom : m + n ≤ c
    · have hfit2 : m * i.size + nw.length ≤ cs2.size := by
        rw [n3, ← Nat.add_mul, q3]
        exact Nat.le_trans (Nat.mul_le_mul_right _ hroom) hcnt
      have hr := run_append_room (P := P) w ty rt el i h1 h3 e.blk m c cs2 p2 ⟨ex.blk, ox, none⟩ n cx' nw n3 n4 hone hroom hfit2
      have hsp : (cs2.toList.take (m * i.size) ++ nw ++ cs2.toList.drop (m * i.size + nw.length)) = splice cs2.toList (m * i.size) nw := rfl
      rw [hsp] at hr
      have hlen3 : m * i.size + nw.length ≤ cs2.toList.length := by rw [Array.length_toList]; exact hfit2
      have hss : (splice cs2.toList (m * i.size) nw).toArray.size = e.cnt := by rw [List.size_toArray, splice_length _ _ _ hlen3, Array.length_toList]; exact q3
      have hS2 := hS1.setRow hb1 he [] (splice cs2.toList (m * i.size) nw).toArray hss (by simp) (fun j v hj => by simp at hj) hrel.2 hnoe
      rw [List.set_set] at hS2
      have hS3 := hS2.rename (b := b) (k := ⟨[], el⟩) (List.getElem?_set_self hbl) he
      rw [List.set_set, List.length_set] at hS3
      have hx3 : (H.set b none ++ [some (⟨[], el⟩ : Blk)])[H.length]? = some (some ⟨[], el⟩) := by rw [List.getElem?_append_right (by simp)]; simp
      have hS4 := hS3.retype (t2 := listTy s2 el) hx3 hnoe (mark_notObj hr4) (hr3.trans hrel.1.symm) fun s q => by
        rw [hr4] at q; cases q
        refine ⟨e, _, upd_self _ _ _, by rw [hrel.1]; exact setRow_heap w e.blk cs2 _ el (0, 0) p2, fun j v hj => ?_⟩
        rw [hlst] at hj
        rw [List.getElem?_toArray, splice_get _ _ _ hlen3]
        rcases Nat.lt_or_ge j (ρ.lst (t - 10)).length with hj1 | hj1
        · rw [List.getElem?_append_left hj1] at hj
          rw [if_pos (by omega)]
          have := p3 j v hj
          simpa using this
        · rw [List.getElem?_append_right hj1, ← hnw] at hj
          have hlt := (List.getElem?_eq_some_iff.1 hj).1
          rw [if_neg (by omega), if_pos (by omega), hm]
          exact hj
      rw [List.set_append_right _ _ (by simp), List.length_set, Nat.sub_self] at hS4
      refine ⟨_, _, _, hr, Keep.last hfree _, .lst (e := e) (upd_self _ _ _) ⟨by rw [q4]; exact hsz, by rw [q4]; exact hm2.symm⟩ (by rw [q4]; exact hlen2.symm) ⟨hroom, hcm, by rw [q4]; exact hcnt⟩, hS4⟩
    · have hod : (ρ.lst (t - 10)).length = m * i.size := hm.symm
      have holds : ∀ (j : Nat) (v : Value), (ρ.lst (t - 10))[j]? = some v → w.cell? ((⟨e.blk, 0, none⟩ : Addr).add j) = some v := by
        intro j v hj
        rw [add_none, Nat.zero_add, cell_of_row w e.blk j cs2 el (0, 0) p2]
        exact p3 j v hj
      have hr := run_append_grow (P := P) w ty rt el i z h1 h3 h4 ⟨e.blk, 0, none⟩ m c (ρ.lst (t - 10)) hod holds ⟨ex.blk, ox, none⟩ n cx' nw n3 n4 (by omega) (by omega)
        (growslice_fits (by omega) (by have := Nat.mul_le_mul hmn hby; omega))
      have hge := grownCap_ge w (m + n) c el
      have hcm2 := grownCap_le_maxLen w (m + n) c el (by unfold maxLen; omega)
      have hsz2 : ((ρ.lst (t - 10)).toArray ++ nw.toArray ++ Builtin.zeroCells z.cells (grownCap w (m + n) c el - (m + n))).size = grownCap w (m + n) c el * i.size := by
        simp only [Array.size_append, List.size_toArray, size_zeroCells, hz, n3, hod, ← Nat.add_mul]
        congr 1; omega
      have hK := hS.kill b
      have hKf : β (H.set b none).length = none := by rw [List.length_set]; exact hfree
      have hA := (hK.drawn (w.drawn + 1)).alloc hKf [] ((ρ.lst (t - 10)).toArray ++ nw.toArray ++ Builtin.zeroCells z.cells (grownCap w (m + n) c el - (m + n))) el (Put.app _ _) (by simp) (fun j v hj => by simp at hj) hrel hnoe
      rw [List.length_set] at hA
      have hx3 : (H.set b none ++ [some (⟨[], el⟩ : Blk)])[H.length]? = some (some ⟨[], el⟩) := by rw [List.getElem?_append_right (by simp)]; simp
      have hS4 := hA.retype (t2 := listTy s2 el) hx3 hnoe (mark_notObj hr4) (hr3.trans hrel.1.symm) fun s q => by
        rw [hr4] at q; cases q
        refine ⟨_, _, upd_self _ _ _, by rw [hrel.1]; exact heap_alloc_new _ _, fun j v hj => ?_⟩
        rw [hlst, ← hnw] at hj
        have hap : ((ρ.lst (t - 10)).toArray ++ nw.toArray : Array Value) = (ρ.lst (t - 10) ++ nw).toArray := by simp
        have hlt := (List.getElem?_eq_some_iff.1 hj).1
        rw [hap, Array.getElem?_append_left (by simpa using hlt), List.getElem?_toArray]
        exact hj
      rw [List.set_append_right _ _ (by simp), List.length_set, Nat.sub_self] at hS4
      refine ⟨_, _, _, hr, Keep.last hfree _, .lst (upd_self _ _ _) ⟨by simp only [hcell]; exact hsz, by simp only [hcell]; exact hm2.symm⟩ (by simp only [hcell]; exact hlen2.symm) ⟨hge, hcm2, ?_⟩, hS4⟩
      simp only [hcell, hsz2, Nat.le_refl]
  · cases h7
theorem findCopy_ok {own : List OwnE} (ho : ∀ e ∈ own, OwnOK ρ e) {d x d' : Value} {β : Names} {s : Nat} (h : findCopy d x own = some s) (hd : Rel ρ β d d') : CopyOK ρ x s ∧ (d' = .slice none 0 0 ∨ ∃ a, d' = .slice (some a) 0 0) := by
  induction own with
  | nil => simp [findCopy] at h
  | cons e r ih =>
    have h0 := ho e (List.mem_cons_self ..)
    have hr : ∀ e ∈ r, OwnOK ρ e := fun e he => ho e (List.mem_cons_of_mem _ he)
    cases e with
    | copy y t =>
      simp only [findCopy] at h
      split at h
      · rename_i hc
        simp only [Bool.and_eq_true] at hc
        obtain ⟨hn, hs⟩ := hc
        cases h
        rw [sameV_eq _ _ _ hs] at h0
        refine ⟨h0, .inl ?_⟩
        rw [isNilS_eq hn] at hd
        exact hd.eq_of_flat rfl
      · exact ih hr h
    | copyTo e y t =>
      simp only [findCopy] at h
      split at h
      · rename_i hc
        simp only [Bool.and_eq_true] at hc
        obtain ⟨hn, he, hs⟩ := hc
        cases h
        obtain ⟨g1, g2, a, g3⟩ := h0
        rw [sameV_eq _ _ _ hs] at g1
        rw [sameV_eq _ _ _ he] at g3
        exact ⟨g1, .inr ⟨a, by rw [hd.af_eq (isOp_af hn), g3]⟩⟩
      · exact ih hr h
theorem evCopyO_ok {own : List OwnE} (ho : ∀ e ∈ own, OwnOK ρ e) (hS : Sim ρ P w0 β H w) {ty rt : TypeId} {d d' x x' : Value} {r : Value × Heap}
    (h : evCopyO P own H ty d x = some r) (hd : Rel ρ β d d') (hx : Rel ρ β x x') :
    ∃ v' β' w', (Builtin.append_ #[ty, ty] rt #[d', x']).run P w = .ok v' w' ∧ Keep H none β β' ∧ Rel ρ β' r.1 v' ∧ Sim ρ P w0 β' r.2 w' := by
  unfold evCopyO at h
  simp only [Option.bind_eq_some_iff] at h
  obtain ⟨td, h1, h2⟩ := h
  cases td <;> first | cases h2 | skip
  rename_i el
  simp only [Option.bind_eq_some_iff, Option.ite_none_right_eq_some, Option.some.injEq, Bool.and_eq_true, beq_iff_eq] at h2
  obtain ⟨i, h3, z, h4, s2, hf, ⟨⟨hel, hsb20, hm2⟩, hz, hsz, hby⟩, rfl⟩ := h2
  obtain ⟨⟨haf, a, n, c, hv, hn, hlen, hbig, hcells⟩, hd'⟩ := findCopy_ok ho hf hd
  have hsb2 : s2 < 1099511627776 := by simp only [Nat.blt, Nat.ble_eq] at hsb20; exact hsb20
  have hel' : el < 1048576 := by simp only [Nat.blt, Nat.ble_eq] at hel; exact hel
  have hxv : x' = .slice (some a) n c := by rw [hx.af_eq haf, hv]
  subst hxv
  obtain ⟨hr3, hr4⟩ := listTy_eq (s := s2) hel' hsb2
  have hb70 : Nat.blt el 1180591620717411303424 = true := by simp only [Nat.blt, Nat.ble_eq]; exact Nat.le_trans hel' (by decide)
  have hrel : realTy el = el ∧ markOf el = none := realTy_small hb70
  have hnoe : isObj el = false := small_notObj hb70
  have hcell : P.cellsOf el = i.size := by simp [Program.cellsOf, h3]
  have hfree := hS.free (Nat.le_refl H.length)
  have hnews := hcells w hS.far
  have hlen2 : (ρ.lst s2).length = n * i.size := by rw [hlen, hm2]
  have hmn : n ≤ 1000000 := by
    have : n * 1 ≤ n * i.size := Nat.mul_le_mul_left _ hsz
    rw [hlen2] at hbig; omega
  have fin : ∀ (cap : Nat) (w1 : World) (v : Value), n ≤ cap → cap ≤ maxLen → (Builtin.append_ #[ty, ty] rt #[d', .slice (some a) n c]).run P w = .ok (.slice (some ⟨w.heap.size, 0, none⟩) n cap) (w.drew.alloc (.cells ((ρ.lst s2).toArray ++ Builtin.zeroCells z.cells (cap - n)) el)) →
      ∃ v' β' w', (Builtin.append_ #[ty, ty] rt #[d', .slice (some a) n c]).run P w = .ok v' w' ∧ Keep H none β β' ∧ Rel ρ β' (.complex .f32 H.length (10 + s2)) v' ∧ Sim ρ P w0 β' (H ++ [some ⟨[], listTy s2 el⟩]) w' := by
    intro cap w1 v hge hcm hr
    have hsz2 : ((ρ.lst s2).toArray ++ Builtin.zeroCells z.cells (cap - n)).size = cap * i.size := by
      simp only [Array.size_append, List.size_toArray, size_zeroCells, hz, hlen2, ← Nat.add_mul]
      congr 1; omega
    have hA := (hS.drawn (w.drawn + 1)).alloc hfree [] ((ρ.lst s2).toArray ++ Builtin.zeroCells z.cells (cap - n)) el (Put.app _ _) (by simp) (fun j v hj => by simp at hj) hrel hnoe
    have hx3 : (H ++ [some (⟨[], el⟩ : Blk)])[H.length]? = some (some ⟨[], el⟩) := by rw [List.getElem?_append_right (Nat.le_refl _)]; simp
    have hS4 := hA.retype (t2 := listTy s2 el) hx3 hnoe (mark_notObj hr4) (hr3.trans hrel.1.symm) fun s q => by
      rw [hr4] at q; cases q
      refine ⟨_, _, upd_self _ _ _, by rw [hrel.1]; exact heap_alloc_new _ _, fun j v hj => ?_⟩
      have hlt := (List.getElem?_eq_some_iff.1 hj).1
      rw [Array.getElem?_append_left (by simpa using hlt), List.getElem?_toArray]
      exact hj
    rw [List.set_append_right _ _ (Nat.le_refl _), Nat.sub_self] at hS4
    refine ⟨_, _, _, hr, Keep.last hfree _, .lst (upd_self _ _ _) ⟨by simp only [hcell]; exact hsz, by simp only [hcell]; exact hm2.symm⟩ (by simp only [hcell]; exact hlen2.symm) ⟨hge, hcm, ?_⟩, hS4⟩
    simp only [hcell, hsz2, Nat.le_refl]
  have hge := grownCap_ge w n 0 el
  have hcm := grownCap_le_maxLen w n 0 el (by unfold maxLen; omega)
  rcases hd' with rfl | ⟨ad, rfl⟩
  · exact fin (grownCap w n 0 el) w .nilIface hge hcm (run_append_nil (P := P) w ty rt el i z h1 h3 h4 a n c (ρ.lst s2) hlen2 hnews hn (by omega) (by have := Nat.mul_le_mul hmn hby; omega))
  · have hr := run_append_grow (P := P) w ty rt el i z h1 h3 h4 ad 0 0 [] (by simp) (by simp) a n c (ρ.lst s2) hlen2 hnews (by omega) (by omega) (growslice_fits (by omega) (by rw [Nat.zero_add]; have := Nat.mul_le_mul hmn hby; omega))
    simp only [Nat.zero_add] at hr
    have hap : (([] : List Value).toArray ++ (ρ.lst s2).toArray : Array Value) = (ρ.lst s2).toArray := by simp
    rw [hap] at hr
    exact fin (grownCap w n 0 el) w .nilIface hge hcm hr
end
def evBuiltin (P : Program) (orc : Orc) (b : Builtin) (ats : Array TypeId) (ty : TypeId) (cs : Array Bool) (vs : List Value) (H : Heap) : Option (Value × Heap) :=
  match b, ats.toList, vs with
  | .append, [t1, t2], [s, x] => if t1 = t2 then match s with | .complex .f32 b t => evAppendL P orc.laps H t1 b t x | s => if isOp x then evCopyO P orc.own H t1 s x else evAppend P H t1 s x else none
  | .copy, [t1, t2], [s, x] => (evCopy P H t1 s x).bind fun r => if flat r.1 then some r else none
  | .len, [t1], [.slice (some _) n _] => (P.underlying t1).bind fun d => match d with | .slice _ => (fl (.int .i64 n)).map fun v => (v, H) | _ => none
  | .len, [t1], [.complex .f32 b t] => if Nat.blt t 10 then none else (P.underlying t1).bind fun d => match d with
    | .slice _ => (findLlen (t - 10) orc.llen).map fun v => (v, H)
    | _ => none
  | .len, [t1], [.complex .f64 i j] => (P.underlying t1).bind fun d => match d with
    | .slice _ => (findLen false (.complex .f64 i j) orc.lens).map fun v => (v, H)
    | .string => (findLen true (.complex .f64 i j) orc.lens).map fun v => (v, H)
    | _ => none
  | b, _, vs => if allFlat vs then (pureRun P (builtin b ats ty cs vs.toArray)).bind fun nx => match nx with | .value v => (fl v).map fun v => (v, H) | _ => none
    else (findBi b vs orc.bi).map fun v => (v, H)
/-- a call that was run before, or the call -/
def callM (orc : Orc) (call : FuncId → List Value → Heap → Option (Value × Heap)) (g : FuncId) (args : List Value) (H : Heap) : Option (Value × Heap) :=
  match findMemo g args H orc.memo with
  | some r => some r
  | none => call g args H
/-- a call without addresses does not look at the heap of the call's own -/
def flatCall (orc : Orc) (call : FuncId → List Value → Heap → Option (Value × Heap)) (g : FuncId) (args : List Value) : Option Value :=
  match findCall g args orc.calls with
  | some v => some v
  | none => if args.all af then (callM orc call g args []).bind fun p => if af p.1 then some p.1 else none else none
def evGo (orc : Orc) (call : FuncId → List Value → Heap → Option (Value × Heap)) (g : FuncId) (args : List Value) (H : Heap) : Option (Value × Heap) :=
  match findCall g args orc.calls with
  | some v => some (v, H)
  | none =>
    if args.all af then (callM orc call g args []).bind fun p => if af p.1 then some (p.1, H) else shift H p.1 p.2
    else herm (callM orc call) g args H
def asFn (P : Program) (fv : Value) : Option (FuncId × List Value) :=
  match fv with
  | .func (.func g) fs cap => if fs.toList.isEmpty then (P.funcs[g]?).bind fun fn => if fn.name == "runtime.NumGoroutine" || fn.body.isNone then none else some (g, cap.toList) else none
  | _ => none
/-- a function without a body, that asks nothing of the world -/
def evExt (P : Program) (fv : Value) (vs : List Value) : Option Value :=
  match fv with
  | .func (.func g) fs cap => if fs.toList.isEmpty then (P.funcs[g]?).bind fun fn => if fn.body.isNone && (vs ++ cap.toList).all flat then
      (pureRun P (callFunc g (vs ++ cap.toList).toArray)).bind fun nx => match nx with | .value v => fl v | _ => none else none else none
  | _ => none
/-- a function without a body, of which it is known what it answers -/
def evExtL (orc : Orc) (fv : Value) (vs : List Value) : Option Value :=
  match fv with
  | .func (.func g) fs cap => if fs.toList.isEmpty then findCall g (vs ++ cap.toList) orc.ext else none
  | _ => none
def evFn (P : Program) (orc : Orc) (call : FuncId → List Value → Heap → Option (Value × Heap)) (fv : Value) (vs : List Value) (H : Heap) : Option (Value × Heap) :=
  match evExt P fv vs with
  | some v => some (v, H)
  | none => match asFn P fv with
    | some p => evGo orc call p.1 (vs ++ p.2) H
    | none => (evExtL orc fv vs).map fun v => (v, H)
/-- bytes that are known, as a string -/
def asBytes : List Value → Option (List Int)
  | [] => some []
  | .int .u8 n :: r => if isSym n then none else (asBytes r).map fun l => n :: l
  | _ => none
def evConv (P : Program) (H : Heap) (s d : TypeId) (v : Value) : Option Value :=
  (P.underlying s).bind fun ds => (P.underlying d).bind fun dd =>
    match ds, dd with
    | .slice e, .string => (P.underlying e).bind fun de => match de with
      | .int .u8 => (asSlc v).bind fun p => (blkAt H p.1).bind fun k =>
        if p.2.1 + p.2.2.1 ≤ k.cells.length then (asBytes (cut k.cells p.2.1 p.2.2.1)).map fun ns => .string (ns.foldl (fun r n => r.push (UInt8.ofNat n.toNat)) ByteArray.empty) else none
      | _ => none
    | _, _ => none
/-- a slice or a pointer that is there, held against nil -/
def nilEq (P : Program) (op : BinOp) (ty : TypeId) (x y : Value) : Option Value :=
  (match op with | .eql => some false | .neq => some true | _ => none).bind fun b => (P.underlying ty).bind fun d =>
    match d, x, y with
    | .slice _, .slice (some _) _ _, .slice none _ _ => some (.bool b)
    | .pointer _, .pointer (some ⟨_, _, none⟩), .pointer none => some (.bool b)
    | .interface _, .complex .f32 0 1, .nilIface => some (.bool b)
    | _, _, _ => none
/-- operations that look at nothing but their operands -/
def pureOp (P : Program) (orc : Orc) (op : Op) (t : Tm) : Option Value :=
  match op with
  | .move x => ev t x
  | .assign x => ev t x
  | .pick c x y => (evf t c).bind fun c => match c with
    | .bool true => ev t x
    | .bool false => ev t y
    | _ => none
  | .build ty ps => (evpg t ps.toList).bind fun vs => evBuild P ty vs
  | .nilCheck x => (ev t x).bind fun v => (asPtr v).bind fun _ => some v
  | .binOp op ty x y _ => (ev t x).bind fun vx => (ev t y).bind fun vy =>
    match (if flat vx && flat vy then pureV P (do eqGuard op ty x y vx vy; binOp op ty vx vy) else none) with
    | some v => some v
    | none => match nilEq P op ty vx vy with
      | some v => some v
      | none => findBin op ty vx vy orc.bin
  | .unOp op _ x => (ev t x).bind fun v => match (if flat v then pureV P (Op.unary op v) else none) with
    | some v => some v
    | none => findUn op v orc.un
  | .convert s d x => (ev t x).bind fun v => match (if flat v then pureV P (convert s d v) else none) with
    | some v => some v
    | none => findConv s d v orc.conv
  | .makeInterface ty x => (evf t x).bind fun v => pureV P (Instr.makeInterface ty v)
  | .makeFunc (.func f) fs cs => if fs.toList.isEmpty then (evs t cs.toList).map fun vs => .func (.func f) #[] vs.toArray else none
  | .fieldAddr s x f => (ev t x).bind fun v => if isOp v then findFad s v f orc.fad else evFieldAddr P s v f
  | .indexAddr ty x i => (ev t x).bind fun v => (ev t i).bind fun i => if isOp v then findIx ty v i orc.ixa else if isLstV v then evIxL P orc.lat ty v i else evIndexAddr P ty v i
  | .field ty x f => (ev t x).bind fun v => evField P ty v f
  | .index ty x i => (ev t x).bind fun v => (ev t i).bind fun i => if flat v && flat i then pureV P (Instr.index ty v i) else if isOp v then findIx ty v i orc.idx else evIndex P ty v i
  | .extract x i => (ev t x).bind fun v => match v with | .tuple vs => (vs.toList[i]?).bind fun u => if notAny u then some u else none | _ => none
  | _ => none
def evOp (P : Program) (orc : Orc) (call : FuncId → List Value → Heap → Option (Value × Heap)) (slot : Option Nat) (op : Op) (rt : TypeId) (t : Tm) (H : Heap) : Option (Value × Heap) :=
  match op with
  | .alloc ty => evAlloc P slot H ty
  | .box ty x => (ev t x).bind fun v => if (v.cells.toList.all fun c => c.oneCell') = true then (newAt slot H ⟨v.cells.toList, ty⟩).map fun p => (.pointer (some ⟨p.1, 0, none⟩), p.2) else none
  | .buildSlice ty n ps => (evpg t ps.toList).bind fun vs => evBuildSlice P H ty n vs
  | .load ty x => (ev t x).bind fun p => (ldV P orc H ty p).map fun v => (v, H)
  | .store ty p x => (ev t p).bind fun p => (ev t x).bind fun v => (evStore P H ty p v).map fun H1 => (undef, H1)
  | .slice ty x lo hi none => (ev t x).bind fun v => if isOp v then (evoA t lo).bind fun l => (evoA t hi).bind fun h => (findSli ty v l h orc.sli).map fun v => (v, H) else (evo t lo).bind fun l => (evo t hi).bind fun h =>
      if flat v then (pureV P (Instr.sliceAt ty v l h none)).map fun v => (v, H) else (evSlice P H ty v l h).map fun v => (v, H)
  | .slice ty x lo (some hi) (some mx) => (ev t x).bind fun v => (evo t lo).bind fun l => (evf t hi).bind fun h => (evf t mx).bind fun m => (evSlice3 P ty v l h m).map fun v => (v, H)
  | .call c =>
    match c.callee with
    | .builtin b => (evs t c.args.toList).bind fun vs => evBuiltin P orc b c.argTypes rt (c.args.map fun | .const _ => true | _ => false) vs H
    | .value f => (ev t f).bind fun fv => (evs t c.args.toList).bind fun vs => evFn P orc call fv vs H
    | _ => none
  | .convert s d x => match pureOp P orc (.convert s d x) t with
    | some v => some (v, H)
    | none => (ev t x).bind fun v => (evConv P H s d v).map fun u => (u, H)
  | op => (pureOp P orc op t).map fun v => (v, H)

def CallOK (ρ : Env) (P : Program) (call : FuncId → List Value → Heap → Option (Value × Heap)) : Prop :=
  ∀ (w0 : Base) (f : FuncId) (args : List Value) (H : Heap) (v : Value) (H1 : Heap), call f args H = some (v, H1) → ∀ (β : Names) (w : World) (args' : List Value), Sim ρ P w0 β H w → RelL ρ β args args' →
    Calls P f args'.toArray w fun e w' => ∃ v' β', e = .returned v' ∧ Keep H none β β' ∧ Rel ρ β' v v' ∧ Sim ρ P w0 β' H1 w'

section
variable {P : Program} {w0 : Base} {w : World} {β : Names} {H H1 : Heap} {t : Tm} {a : Act} {o : Oper} {v : Value}
variable {call : FuncId → List Value → Heap → Option (Value × Heap)} {orc : Orc}

theorem rel_put (h : RelT ρ β t a.tmps) {v v' : Value} (hv : Rel ρ β v v') (d : Option Tmp) : RelT ρ β (tput t d v) (a.put d v').tmps ∧ (a.put d v').defers = a.defers := by
  cases d with
  | none => exact ⟨h, rfl⟩
  | some i =>
    refine ⟨fun j => ?_, rfl⟩
    simp only [tput, Act.put, Tm.at_put, Array.getElem?_setIfInBounds]
    by_cases hj : i = j
    · subst hj
      rw [if_pos rfl, if_pos rfl]
      rcases h i with ⟨h1, h2⟩ | ⟨u, u', h1, h2, h3⟩
      · left
        have : ¬ i < a.tmps.size := fun q => by rw [Array.getElem?_eq_getElem q] at h2; cases h2
        rw [h1, if_neg this]; exact ⟨rfl, rfl⟩
      · right
        have : i < a.tmps.size := (Array.getElem?_eq_some_iff.1 h2).1
        rw [h1, if_pos this]
        exact ⟨v, v', rfl, rfl, hv⟩
    · rw [if_neg hj, if_neg hj]
      exact h j

theorem wp_val {K : Act → World → Prop} {Q : Exit → Act → World → Prop} {v' : Value} {w' : World} {s : Sem Value}
    (he : execOp a.eval o = (s >>= fun x => pure (Next.value x))) (hr : s.run P w = .ok v' w') (h : K (a.put o.dst v') w') : o.wp P a w K Q := by
  unfold Oper.wp
  rw [he, Sem.run_bind, hr]
  exact h
theorem pureV_ok {s : Sem Value} {v : Value} (h : pureV P s = some v) (w : World) : s.run P w = .ok v w ∧ flat v = true := by
  simp only [pureV, Option.bind_eq_some_iff] at h
  obtain ⟨u, h1, h2⟩ := h
  obtain ⟨rfl, h3⟩ := fl_eq h2
  exact ⟨pureRun_run s _ w h1, h3⟩
theorem Rel.fn_inv {g : FuncId} {fs cs : Array Value} {v' : Value} (h : Rel ρ β (.func (.func g) fs cs) v') (hf : fs.toList = []) : ∃ cs', v' = .func (.func g) #[] cs' ∧ RelL ρ β cs.toList cs'.toList := by
  cases h with
  | flat h =>
    simp only [Ev.flat, flat1, flat0, Bool.and_eq_true, List.isEmpty_iff] at h
    have h1 : fs = #[] := by simpa using h.1
    have h2 : cs = #[] := by simpa using h.2
    subst h1; subst h2
    exact ⟨_, rfl, rfl, fun i v v' q => by simp at q⟩
  | fn hs h => exact ⟨_, rfl, hs, h⟩

theorem evBuiltin_ok (ho : OrcOK ρ P orc) {b : Builtin} {ats : Array TypeId} {ty : TypeId} {cs : Array Bool} {vs vs' : List Value} {r : Value × Heap} (hS : Sim ρ P w0 β H w)
    (h : evBuiltin P orc b ats ty cs vs H = some r) (hv : RelL ρ β vs vs') :
    ∃ v' β' w', (builtin b ats ty cs vs'.toArray).run P w = .ok (.value v') w' ∧ Keep H none β β' ∧ Rel ρ β' r.1 v' ∧ Sim ρ P w0 β' r.2 w' := by
  have two : ∀ (s x : Value) (l' : List Value), RelL ρ β [s, x] l' → ∃ s' x', l' = [s', x'] ∧ Rel ρ β s s' ∧ Rel ρ β x x' := by
    intro s x l' hl
    obtain ⟨h1, h2⟩ := hl
    match l', h1 with
    | [s', x'], _ => exact ⟨s', x', rfl, h2 0 _ _ rfl rfl, h2 1 _ _ rfl rfl⟩
  unfold evBuiltin at h
  split at h
  · rename_i t1 t2 s x hat
    obtain ⟨s', x', rfl, hs, hx⟩ := two _ _ _ hv
    split at h
    · rename_i ht; subst ht
      have : ats = #[t1, t1] := by apply Array.toList_inj.1; simpa using hat
      subst this
      split at h
      · obtain ⟨v', β', w', q1, q2, q3, q4⟩ := evAppendL_ok (rt := ty) ho.laps hS h hs hx
        refine ⟨v', β', w', ?_, q2, q3, q4⟩
        simp only [builtin, Sem.run_bind]
        rw [q1]; rfl
      · split at h
        · obtain ⟨v', β', w', q1, q2, q3, q4⟩ := evCopyO_ok (rt := ty) ho.own hS h hs hx
          refine ⟨v', β', w', ?_, q2, q3, q4⟩
          simp only [builtin, Sem.run_bind]
          rw [q1]; rfl
        · obtain ⟨v', β', w', q1, q2, q3, q4⟩ := evAppend_ok (rt := ty) hS h hs hx
          refine ⟨v', β', w', ?_, q2, q3, q4⟩
          simp only [builtin, Sem.run_bind]
          rw [q1]; rfl
    · cases h
  · rename_i t1 t2 s x hat
    obtain ⟨s', x', rfl, hs, hx⟩ := two _ _ _ hv
    simp only [Option.bind_eq_some_iff, Option.ite_none_right_eq_some, Option.some.injEq] at h
    obtain ⟨r0, h, hfl, rfl⟩ := h
    obtain ⟨v', β', w', q1, q2, q3, q4⟩ := evCopy_ok (rt := ty) (ty2 := t2) hS h hfl hs hx
    have : ats = #[t1, t2] := by apply Array.toList_inj.1; simpa using hat
    subst this
    refine ⟨v', β', w', ?_, q2, q3, q4⟩
    simp only [builtin, Sem.run_bind]
    rw [q1]; rfl
  · rename_i t1 ad n c hat
    simp only [Option.bind_eq_some_iff] at h
    obtain ⟨d, h1, h2⟩ := h
    cases d <;> first | cases h2 | skip
    simp only [Option.map_eq_some_iff] at h2
    obtain ⟨u0, h2, rfl⟩ := h2
    obtain ⟨rfl, h3⟩ := fl_eq h2
    obtain ⟨q1, q2⟩ := hv
    match vs', q1 with
    | [x'], _ =>
      obtain ⟨a', c', rfl⟩ := (q2 0 _ _ rfl rfl).slice_inv
      have : ats = #[t1] := by apply Array.toList_inj.1; simpa using hat
      subst this
      refine ⟨_, β, w, ?_, Keep.refl _ _ _, .flat h3, hS⟩
      simp [builtin, Builtin.len_, run_underlying h1, goInt]
  · rename_i t1 b t hat
    rw [Option.ite_none_left_eq_some] at h
    obtain ⟨ht, h⟩ := h
    simp only [Bool.not_eq_true] at ht
    simp only [Option.bind_eq_some_iff] at h
    obtain ⟨d, h1, h2⟩ := h
    obtain ⟨q1, q2⟩ := hv
    have : ats = #[t1] := by apply Array.toList_inj.1; simpa using hat
    subst this
    match vs', q1 with
    | [x'], _ =>
      obtain ⟨e, n, c, he, rfl, ⟨hz, hz2⟩, hn, _⟩ := rel_lst (q2 0 _ _ rfl rfl) ht
      cases d <;> first | cases h2 | skip
      simp only [Option.map_eq_some_iff] at h2
      obtain ⟨u0, h2, rfl⟩ := h2
      obtain ⟨r1, n', r2, r3⟩ := ho.llen _ (findLlen_mem h2)
      simp only at r1 r2 r3
      rw [← hz2, ← hn] at r2
      obtain rfl : n' = n := Nat.eq_of_mul_eq_mul_right hz r2
      refine ⟨_, β, w, ?_, Keep.refl _ _ _, rel_inst r1, hS⟩
      rw [r3]
      simp [builtin, Builtin.len_, run_underlying h1, goInt]
  · rename_i t1 i j hat
    simp only [Option.bind_eq_some_iff] at h
    obtain ⟨d, h1, h2⟩ := h
    obtain ⟨q1, q2⟩ := hv
    have : ats = #[t1] := by apply Array.toList_inj.1; simpa using hat
    subst this
    match vs', q1 with
    | [x'], _ =>
      have hx := (q2 0 _ _ rfl rfl).af_eq rfl
      cases d <;> first | cases h2 | skip
      · simp only [Option.map_eq_some_iff] at h2
        obtain ⟨u0, h2, rfl⟩ := h2
        obtain ⟨r1, r2, r3, _⟩ := ho.lens _ (findLen_mem h2)
        obtain ⟨s, e1, e2⟩ := r3 rfl
        refine ⟨_, β, w, ?_, Keep.refl _ _ _, rel_inst r2, hS⟩
        rw [hx, e1, e2]
        simp [builtin, Builtin.len_, run_underlying h1, goInt]
      · simp only [Option.map_eq_some_iff] at h2
        obtain ⟨u0, h2, rfl⟩ := h2
        obtain ⟨r1, r2, _, r3⟩ := ho.lens _ (findLen_mem h2)
        obtain ⟨a, n, c, e1, e2⟩ := r3 rfl
        refine ⟨_, β, w, ?_, Keep.refl _ _ _, rel_inst r2, hS⟩
        rw [hx, e1, e2]
        simp [builtin, Builtin.len_, run_underlying h1, goInt]
  · split at h
    · rename_i hf
      simp only [Option.bind_eq_some_iff] at h
      obtain ⟨nx, h1, h2⟩ := h
      cases nx <;> first | cases h2 | skip
      rename_i u
      simp only [Option.map_eq_some_iff] at h2
      obtain ⟨u2, h3, rfl⟩ := h2
      obtain ⟨rfl, h4⟩ := fl_eq h3
      have := list_eq_of hv.1 fun i v v' q q' => (hv.2 i v v' q q').eq_of_flat (List.all_eq_true.1 hf v (List.mem_of_getElem? q))
      subst this
      exact ⟨u, β, w, pureRun_run _ _ w h1, Keep.refl _ _ _, .flat h4, hS⟩
    · simp only [Option.map_eq_some_iff] at h
      obtain ⟨u, h1, rfl⟩ := h
      obtain ⟨q1, q2, q3⟩ := ho.bi _ (findBi_mem h1)
      simp only [List.all_eq_true] at q1 q2 q3
      have hvs := list_map_of (g := inst ρ) hv.1 fun i v v' a b => (hv.2 i v v' a b).af_eq (q1 v (List.mem_of_getElem? a))
      subst hvs
      exact ⟨_, β, w, q3 ats ty cs w, Keep.refl _ _ _, rel_inst q2, hS⟩

theorem run_callFunc {g : FuncId} {fn : Func} (hf : P.funcs[g]? = some fn) (hn : (fn.name == "runtime.NumGoroutine" || fn.body.isNone) = false) (args : Array Value) :
    (callFunc g args).run P w = .ok (.enter g args) w := by
  rw [Bool.or_eq_false_iff] at hn
  have h1 : ¬ fn.name = "runtime.NumGoroutine" := by simpa using hn.1
  have h2 : ¬ fn.body = none := by intro q; rw [q] at hn; simp at hn
  simp [callFunc, program, Sem.run, Sem.bind, Bind.bind, hf, h1, h2, Pure.pure]

theorem rel_evpg (h : RelT ρ β t a.tmps) : ∀ (xs : List (Nat × Operand)) (vs : List (Nat × Value)), evpg t xs = some vs →
    vs.length = (xs.map fun p => (p.1, a.eval p.2)).length ∧ ∀ (i : Nat) (p p' : Nat × Value), vs[i]? = some p → (xs.map fun p => (p.1, a.eval p.2))[i]? = some p' → p'.1 = p.1 ∧ Rel ρ β p.2 p'.2 := by
  intro xs
  induction xs with
  | nil => intro vs hv; cases hv; exact ⟨rfl, fun i p p' q => by simp at q⟩
  | cons x r ih =>
    intro vs hv
    simp only [evpg, Option.bind_eq_some_iff, Option.some.injEq] at hv
    obtain ⟨v, h1, us, h2, rfl⟩ := hv
    obtain ⟨h3, h4⟩ := ih us h2
    refine ⟨by simpa using h3, fun i p p' q q' => ?_⟩
    cases i with
    | zero => simp at q q'; subst q; subst q'; exact ⟨rfl, rel_ev h h1⟩
    | succ i => simp only [List.map_cons, List.getElem?_cons_succ] at q q'; exact h4 i p p' q q'
theorem nilEq_ok {op : BinOp} {ty : TypeId} {x y x' y' v : Value} (h : nilEq P op ty x y = some v) (hx : Rel ρ β x x') (hy : Rel ρ β y y') (p q : Operand) :
    (do eqGuard op ty p q x' y'; binOp op ty x' y').run P w = .ok v w ∧ flat v = true := by
  simp only [nilEq, Option.bind_eq_some_iff] at h
  obtain ⟨b, h1, d, h2, h3⟩ := h
  have ho : (op = .eql ∧ b = false) ∨ (op = .neq ∧ b = true) := by
    cases op <;> simp at h1 <;> simp [h1]
  split at h3
  · rename_i el ad n c n' c'
    cases h3
    have e1 : ∃ a' c2, x' = .slice (some a') n c2 := by
      cases hx with
      | flat hf => exact ⟨_, _, rfl⟩
      | slc _ _ => exact ⟨_, _, rfl⟩
      | emp => exact ⟨_, _, rfl⟩
      | emp0 => exact ⟨_, _, rfl⟩
    obtain ⟨a', c2, rfl⟩ := e1
    obtain rfl := hy.eq_of_flat rfl
    refine ⟨?_, rfl⟩
    have hq0 : ∀ d, (Op.equalIn (d + 1) ty (.slice (some a') n c2) (.slice none n' c')).run P w = .ok false w := fun d => by simp only [Op.equalIn, Sem.run_bind, run_underlying h2, Result.andThen_ok, Sem.run_pure]
    have hq := hq0 9999
    rcases ho with ⟨rfl, rfl⟩ | ⟨rfl, rfl⟩
    · show ((pure () : Sem Unit) >>= fun _ => (Op.equalIn (9999 + 1) ty (.slice (some a') n c2) (.slice none n' c')) >>= fun r => (pure (.bool r) : Sem Value)).run P w = _
      simp only [Sem.run_bind, Sem.run_pure, Result.andThen_ok, hq]
    · show ((pure () : Sem Unit) >>= fun _ => (Op.equalIn (9999 + 1) ty (.slice (some a') n c2) (.slice none n' c')) >>= fun r => (pure (.bool (!r)) : Sem Value)).run P w = _
      simp only [Sem.run_bind, Sem.run_pure, Result.andThen_ok, hq, Bool.not_false]
  · rename_i el b0 o0
    cases h3
    obtain ⟨e, he, rfl⟩ := hx.ptr_inv
    obtain rfl := hy.eq_of_flat rfl
    refine ⟨?_, rfl⟩
    have hq0 : ∀ d, (Op.equalIn (d + 1) ty (.pointer (some ⟨e.blk, o0, none⟩)) (.pointer none)).run P w = .ok false w := fun d => by simp only [Op.equalIn, Sem.run_bind, run_underlying h2, Result.andThen_ok, Sem.run_pure]
    have hq := hq0 9999
    rcases ho with ⟨rfl, rfl⟩ | ⟨rfl, rfl⟩
    · show ((pure () : Sem Unit) >>= fun _ => (Op.equalIn (9999 + 1) ty (.pointer (some ⟨e.blk, o0, none⟩)) (.pointer none)) >>= fun r => (pure (.bool r) : Sem Value)).run P w = _
      simp only [Sem.run_bind, Sem.run_pure, Result.andThen_ok, hq]
    · show ((pure () : Sem Unit) >>= fun _ => (Op.equalIn (9999 + 1) ty (.pointer (some ⟨e.blk, o0, none⟩)) (.pointer none)) >>= fun r => (pure (.bool (!r)) : Sem Value)).run P w = _
      simp only [Sem.run_bind, Sem.run_pure, Result.andThen_ok, hq, Bool.not_false]
  · rename_i ms
    cases h3
    have e1 : ∃ t u, x' = .iface t u := by
      generalize hq : Value.complex .f32 0 1 = q at hx
      cases hx with
      | nni => exact ⟨_, _, rfl⟩
      | flat hf => subst hq; simp [flat, flat1, flat0] at hf
      | lst _ _ _ _ => simp only [Value.complex.injEq] at hq; omega
      | _ => simp [anyV] at hq
    obtain ⟨t, u, rfl⟩ := e1
    obtain rfl := hy.eq_of_flat rfl
    refine ⟨?_, rfl⟩
    have hq0 : ∀ d, (Op.equalIn (d + 1) ty (.iface t u) .nilIface).run P w = .ok false w := fun d => by simp only [Op.equalIn, Sem.run_bind, run_underlying h2, Result.andThen_ok, Sem.run_pure]
    have hq := hq0 9999
    rcases ho with ⟨rfl, rfl⟩ | ⟨rfl, rfl⟩
    · show ((pure () : Sem Unit) >>= fun _ => (Op.equalIn (9999 + 1) ty (.iface t u) .nilIface) >>= fun r => (pure (.bool r) : Sem Value)).run P w = _
      simp only [Sem.run_bind, Sem.run_pure, Result.andThen_ok, hq]
    · show ((pure () : Sem Unit) >>= fun _ => (Op.equalIn (9999 + 1) ty (.iface t u) .nilIface) >>= fun r => (pure (.bool (!r)) : Sem Value)).run P w = _
      simp only [Sem.run_bind, Sem.run_pure, Result.andThen_ok, hq, Bool.not_false]
  · cases h3
theorem pureOp_ok (hor : OrcOK ρ P orc) (hT : RelT ρ β t a.tmps) (h : pureOp P orc o.op t = some v) (w : World) (K : Act → World → Prop) (Q : Exit → Act → World → Prop)
    (hK : ∀ v', Rel ρ β v v' → K (a.put o.dst v') w) : o.wp P a w K Q := by
  unfold pureOp at h
  have mv : ∀ (x : Operand), ev t x = some v → execOp a.eval o = pure (.value (a.eval x)) → o.wp P a w K Q := by
    intro x q he
    unfold Oper.wp
    rw [he]
    exact hK _ (rel_ev hT q)
  have pv : ∀ (s s' : Sem Value), pureV P s = some v → execOp a.eval o = (s' >>= fun x => pure (Next.value x)) → s' = s → o.wp P a w K Q := by
    intro s s' q he hs
    subst hs
    obtain ⟨q2, q3⟩ := pureV_ok q w
    exact wp_val he q2 (hK _ (.flat q3))
  split at h
  · rename_i x ho; exact mv x h (by simp only [execOp, ho])
  · rename_i x ho; exact mv x h (by simp only [execOp, ho])
  · rename_i c x y ho
    simp only [Option.bind_eq_some_iff] at h
    obtain ⟨cv, h1, h2⟩ := h
    have hc := (rel_evf hT h1).1
    split at h2
    · exact mv x h2 (by simp [execOp, ho, hc, asBool])
    · exact mv y h2 (by simp [execOp, ho, hc, asBool])
    · cases h2
  · rename_i ty ps ho
    simp only [Option.bind_eq_some_iff] at h
    obtain ⟨vs, h1, h2⟩ := h
    obtain ⟨v', q1, q2⟩ := evBuild_ok (w := w) h2 (rel_evpg hT _ _ h1)
    refine wp_val (s := Instr.build ty (ps.map fun p => (p.1, a.eval p.2))) (by simp only [execOp, ho]) ?_ (hK _ q2)
    rw [← q1]
    congr 2
    obtain ⟨l⟩ := ps
    simp
  · rename_i x ho
    simp only [Option.bind_eq_some_iff, Option.some.injEq] at h
    obtain ⟨u, h1, ⟨b, of⟩, h2, rfl⟩ := h
    have hx := rel_ev hT h1
    rw [asPtr_eq h2] at hx hK
    obtain ⟨e, he, hx'⟩ := hx.ptr_inv
    unfold Oper.wp
    simp only [execOp, ho, hx']
    exact hK _ (.ptr he)
  · rename_i op ty x y yt ho
    simp only [Option.bind_eq_some_iff] at h
    obtain ⟨vx, h1, vy, h2, h3⟩ := h
    have r1 := rel_ev hT h1
    have r2 := rel_ev hT h2
    split at h3
    · rename_i u hu
      cases h3
      rw [Option.ite_none_right_eq_some, Bool.and_eq_true] at hu
      obtain ⟨⟨f1, f2⟩, hu⟩ := hu
      refine pv _ (do eqGuard op ty x y (a.eval x) (a.eval y); binOp op ty (a.eval x) (a.eval y)) hu (by simp only [execOp, ho]) ?_
      rw [r1.eq_of_flat f1, r2.eq_of_flat f2]
    split at h3
    · rename_i u hu
      cases h3
      obtain ⟨q1, q2⟩ := nilEq_ok (w := w) hu r1 r2 x y
      exact wp_val (s := (do eqGuard op ty x y (a.eval x) (a.eval y); binOp op ty (a.eval x) (a.eval y))) (by simp only [execOp, ho]) q1 (hK _ (.flat q2))
    · obtain ⟨q1, q2, q3, q4⟩ := hor.bin _ (findBin_mem h3)
      simp only at q1 q2 q3 q4
      refine wp_val (s := (do eqGuard op ty x y (a.eval x) (a.eval y); binOp op ty (a.eval x) (a.eval y))) (by simp only [execOp, ho]) ?_ (hK _ (rel_inst q3))
      rw [r1.af_eq q1, r2.af_eq q2]
      exact q4 x y w
  · rename_i op ty x ho
    simp only [Option.bind_eq_some_iff] at h
    obtain ⟨vx, h1, h3⟩ := h
    have r1 := rel_ev hT h1
    split at h3
    · rename_i u hu
      cases h3
      rw [Option.ite_none_right_eq_some] at hu
      obtain ⟨f1, hu⟩ := hu
      refine pv _ (Op.unary op (a.eval x)) hu (by simp only [execOp, ho]) ?_
      rw [r1.eq_of_flat f1]
    · obtain ⟨q1, q2, q3⟩ := hor.un _ (findUn_mem h3)
      simp only at q1 q2 q3
      refine wp_val (s := Op.unary op (a.eval x)) (by simp only [execOp, ho]) ?_ (hK _ (rel_inst q2))
      rw [r1.af_eq q1]
      exact q3 w
  · rename_i s d x ho
    simp only [Option.bind_eq_some_iff] at h
    obtain ⟨vx, h1, h3⟩ := h
    have r1 := rel_ev hT h1
    split at h3
    · rename_i u hu
      cases h3
      rw [Option.ite_none_right_eq_some] at hu
      obtain ⟨f1, hu⟩ := hu
      refine pv _ (convert s d (a.eval x)) hu (by simp only [execOp, ho]) ?_
      rw [r1.eq_of_flat f1]
    · obtain ⟨q1, q2, q3⟩ := hor.conv _ (findConv_mem h3)
      simp only at q1 q2 q3
      refine wp_val (s := convert s d (a.eval x)) (by simp only [execOp, ho]) ?_ (hK _ (rel_inst q2))
      rw [r1.af_eq q1]
      exact q3 w
  · rename_i ty x ho
    simp only [Option.bind_eq_some_iff] at h
    obtain ⟨vx, h1, h3⟩ := h
    refine pv _ (Instr.makeInterface ty (a.eval x)) h3 (by simp only [execOp, ho]) ?_
    rw [(rel_evf hT h1).1]
  · rename_i f fs cs ho
    rw [Option.ite_none_right_eq_some] at h
    obtain ⟨h0, h⟩ := h
    simp only [Option.map_eq_some_iff] at h
    obtain ⟨vs, h1, rfl⟩ := h
    have hr := rel_evs hT _ _ h1
    have hfs : fs = #[] := by simpa using h0
    subst hfs
    refine wp_val (s := Instr.makeFunc (.func f) #[] (cs.map a.eval)) (v' := .func (.func f) #[] (cs.toList.map a.eval).toArray) (by simp only [execOp, ho, List.map_toArray, List.map_nil]) ?_ (hK _ (.fn hr.1 hr.2))
    obtain ⟨l⟩ := cs
    simp [Instr.makeFunc]
  · rename_i s x f ho
    simp only [Option.bind_eq_some_iff] at h
    obtain ⟨p, h1, h2⟩ := h
    split at h2
    · obtain ⟨q1, q2, q3⟩ := hor.fad _ (findFad_mem h2)
      refine wp_val (s := Instr.fieldAt s (a.eval x) f) (by simp only [execOp, ho]) ?_ (hK _ (rel_inst q2))
      rw [(rel_ev hT h1).af_eq q1]
      exact q3 w
    · obtain ⟨v', q1, q2⟩ := evFieldAddr_ok (w := w) h2 (rel_ev hT h1)
      exact wp_val (by simp only [execOp, ho]) q1 (hK _ q2)
  · rename_i ty x i ho
    simp only [Option.bind_eq_some_iff] at h
    obtain ⟨p, h1, iv, h2, h3⟩ := h
    split at h3
    · obtain ⟨q1, q2, q3, q4⟩ := hor.ixa _ (findIx_mem h3)
      refine wp_val (s := Instr.indexAt ty (a.eval x) (a.eval i)) (by simp only [execOp, ho]) ?_ (hK _ (rel_inst q3))
      rw [(rel_ev hT h1).af_eq q1, (rel_ev hT h2).af_eq q2]
      exact q4 w
    split at h3
    · obtain ⟨v', q1, q2⟩ := evIxL_ok (w := w) hor.lat h3 (rel_ev hT h1) (rel_ev hT h2)
      exact wp_val (by simp only [execOp, ho]) q1 (hK _ q2)
    · obtain ⟨v', q1, q2⟩ := evIndexAddr_ok (w := w) h3 (rel_ev hT h1) (rel_ev hT h2)
      exact wp_val (by simp only [execOp, ho]) q1 (hK _ q2)
  · rename_i ty x f ho
    simp only [Option.bind_eq_some_iff] at h
    obtain ⟨vx, h1, h3⟩ := h
    obtain ⟨v', q1, q2⟩ := evField_ok (w := w) h3 (rel_ev hT h1)
    exact wp_val (by simp only [execOp, ho]) q1 (hK _ q2)
  · rename_i ty x i ho
    simp only [Option.bind_eq_some_iff] at h
    obtain ⟨vx, h1, vi, h2, h3⟩ := h
    split at h3
    · rename_i hf
      rw [Bool.and_eq_true] at hf
      refine pv _ (Instr.index ty (a.eval x) (a.eval i)) h3 (by simp only [execOp, ho]) ?_
      rw [(rel_ev hT h1).eq_of_flat hf.1, (rel_ev hT h2).eq_of_flat hf.2]
    split at h3
    · obtain ⟨q1, q2, q3, q4⟩ := hor.idx _ (findIx_mem h3)
      refine wp_val (s := Instr.index ty (a.eval x) (a.eval i)) (by simp only [execOp, ho]) ?_ (hK _ (rel_inst q3))
      rw [(rel_ev hT h1).af_eq q1, (rel_ev hT h2).af_eq q2]
      exact q4 w
    · obtain ⟨v', q1, q2⟩ := evIndex_ok (w := w) h3 (rel_ev hT h1) (rel_ev hT h2)
      exact wp_val (by simp only [execOp, ho]) q1 (hK _ q2)
  · rename_i x i ho
    simp only [Option.bind_eq_some_iff] at h
    obtain ⟨vx, h1, h2⟩ := h
    have hx := rel_ev hT h1
    cases vx <;> first | cases h2 | skip
    rename_i vs
    simp only [Option.bind_eq_some_iff, Option.ite_none_right_eq_some, Option.some.injEq] at h2
    obtain ⟨u0, h2, hna, rfl⟩ := h2
    have : ∃ vs', a.eval x = .tuple vs' ∧ RelL ρ β vs.toList vs'.toList := by
      generalize a.eval x = y at hx
      cases hx with
      | any =>
        exfalso
        cases i with
        | zero => simp at h2; subst h2; simp [notAny] at hna
        | succ i => simp at h2
      | flat hf =>
        refine ⟨_, rfl, rfl, fun i u u' q q' => ?_⟩
        obtain rfl : u = u' := Option.some.inj (q.symm.trans q')
        simp only [Ev.flat, List.all_eq_true] at hf
        exact .flat (flat1_flat (hf u (List.mem_of_getElem? q)))
      | tup hs hh => exact ⟨_, rfl, hs, hh⟩
    obtain ⟨vs', e1, e2⟩ := this
    have hlt : i < vs'.size := by have := (List.getElem?_eq_some_iff.1 h2).1; have := e2.1; simp at *; omega
    refine wp_val (s := Instr.extract (a.eval x) i) (v' := vs'[i]) (by simp only [execOp, ho]) ?_ (hK _ (e2.2 i _ _ h2 (by simp [hlt])))
    simp [e1, Instr.extract, hlt]
  · cases h

theorem asBytes_ok : ∀ (l : List Value) (ns : List Int), asBytes l = some ns → l = ns.map (Value.int .u8) ∧ ∀ n ∈ ns, isSym n = false := by
  intro l
  induction l with
  | nil => intro ns h; simp only [asBytes, Option.some.injEq] at h; subst h; exact ⟨rfl, fun n q => by cases q⟩
  | cons v r ih =>
    intro ns h
    unfold asBytes at h
    split at h
    · rename_i hq; cases hq
    · rename_i n r' hq
      cases hq
      rw [Option.ite_none_left_eq_some] at h
      simp only [Option.map_eq_some_iff] at h
      obtain ⟨hs, l, h1, rfl⟩ := h
      obtain ⟨e, h2⟩ := ih l h1
      refine ⟨by rw [List.map_cons, ← e], fun m hm => ?_⟩
      rcases List.mem_cons.1 hm with rfl | hm
      · simpa using hs
      · exact h2 m hm
    · cases h
theorem evConv_ok (hS : Sim ρ P w0 β H w) {s d : TypeId} {x x' v : Value} (h : evConv P H s d x = some v) (hx : Rel ρ β x x') : ∃ v', (convert s d x').run P w = .ok v' w ∧ Rel ρ β v v' := by
  simp only [evConv, Option.bind_eq_some_iff] at h
  obtain ⟨ds, h1, dd, h2, h3⟩ := h
  split at h3
  · rename_i e
    simp only [Option.bind_eq_some_iff] at h3
    obtain ⟨de, h4, h5⟩ := h3
    split at h5
    · simp only [Option.bind_eq_some_iff, Option.ite_none_right_eq_some, Option.map_eq_some_iff] at h5
      obtain ⟨⟨b, o, n, c⟩, h6, k, h7, h8, ns, h9, rfl⟩ := h5
      rw [asSlc_eq h6] at hx
      obtain ⟨e', c', he, rfl, _⟩ := hx.slc_inv
      obtain ⟨l', r1, r2, r3, _⟩ := hS.loadCells (blkAt_eq h7) (blkAt_notObj h7) he o n h8
      obtain ⟨q1, q2⟩ := asBytes_ok _ _ h9
      have hl : l' = ns.map (Value.int .u8) := by
        rw [← q1]
        refine list_eq_of r2.1 fun i v v' x y => (r2.2 i v v' x y).eq_of_flat ?_
        dsimp only at q1 x
        rw [q1, List.getElem?_map] at x
        obtain ⟨m, m1, rfl⟩ := Option.map_eq_some_iff.1 x
        simp [Ev.flat, flat1, flat0, q2 m (List.mem_of_getElem? m1)]
      refine ⟨_, ?_, .flat rfl⟩
      rw [run_convert_bytes_string w s d e _ _ _ h1 h4 h2]
      exact run_bytesToString w _ _ _ ns (by rw [← hl]; exact r1)
    · cases h5
  · cases h3
theorem callM_ok (hor : OrcOK ρ P orc) (hc : CallOK ρ P call) : CallOK ρ P (callM orc call) := by
  intro w0 f args H v H1 h
  unfold callM at h
  split at h
  · rename_i r hr
    cases h
    exact hor.memo _ (findMemo_mem hr) w0
  · exact hc w0 f args H v H1 h
theorem rel_names {γ : Names} {l l' : List Value} (h : RelL ρ β l l') (hf : ∀ v ∈ l, af v = true) : RelL ρ γ l l' :=
  ⟨h.1, fun i v v' q q' => (h.2 i v v' q q').names (hf v (List.mem_of_getElem? q))⟩
theorem asFn_ok {fv fv' : Value} {g : FuncId} {cap : List Value} (h : asFn P fv = some (g, cap)) (hv : Rel ρ β fv fv') :
    ∃ (cap' : List Value) (fn : Func), fv' = .func (.func g) #[] cap'.toArray ∧ RelL ρ β cap cap' ∧ P.funcs[g]? = some fn ∧ (fn.name == "runtime.NumGoroutine" || fn.body.isNone) = false := by
  unfold asFn at h
  split at h
  · rw [Option.ite_none_right_eq_some] at h
    obtain ⟨h1, h⟩ := h
    simp only [Option.bind_eq_some_iff] at h
    obtain ⟨fn, h2, h3⟩ := h
    split at h3
    · cases h3
    rename_i hn
    cases h3
    obtain ⟨cap', e1, e2⟩ := hv.fn_inv (List.isEmpty_iff.1 h1)
    refine ⟨cap'.toList, fn, e1, e2, h2, by rw [Bool.not_eq_true] at hn; exact hn⟩
  · cases h
theorem exec_call {c : Call} (ho : o.op = .call c) {f : Operand} (hcl : c.callee = .value f) {g : FuncId} {cap' : List Value} (hf : a.eval f = .func (.func g) #[] cap'.toArray) :
    execOp a.eval o = callFunc g (c.args.toList.map a.eval ++ cap').toArray := by
  obtain ⟨callee, ⟨args⟩, ats⟩ := c
  simp only at hcl
  subst hcl
  simp only [execOp, ho, resolve, hf, Deferred.ofValue, invoke, pure_bind, List.map_toArray, List.append_toArray, List.nil_append]

theorem evOp_ok (hor : OrcOK ρ P orc) (hc : CallOK ρ P call) {slot : Option Nat} (hs : ∀ i, slot = some i → β i = none) (hS : Sim ρ P w0 β H w) (hT : RelT ρ β t a.tmps) (h : evOp P orc call slot o.op o.type t H = some (v, H1)) (K : Act → World → Prop) (Q : Exit → Act → World → Prop)
    (hK : ∀ v' β' w', Keep H slot β β' → Rel ρ β' v v' → Sim ρ P w0 β' H1 w' → K (a.put o.dst v') w') : o.wp P a w K Q := by
  unfold evOp at h
  split at h
  · rename_i ty ho
    obtain ⟨v', β', w', q1, q2, q3, q4⟩ := evAlloc_ok hS hs h (.tuple #[])
    exact wp_val (by simp only [execOp, ho]) q1 (hK _ _ _ q2 q3 q4)
  · rename_i ty x ho
    simp only [Option.bind_eq_some_iff, Option.ite_none_right_eq_some, Option.map_eq_some_iff, List.all_eq_true] at h
    obtain ⟨u, h1, h2, p, h3, h4⟩ := h
    have hr := cells_rel (rel_ev hT h1) h2
    obtain ⟨p1, p2, p3, p4⟩ := newAt_ok hS hs h3
    have hn := new_ok hS p2 _ _ ty p1 hr p4
    simp only [Prod.mk.injEq] at h4
    obtain ⟨rfl, rfl⟩ := h4
    refine wp_val (s := Instr.box ty (a.eval x)) (v' := .pointer (some ⟨w.heap.size, 0, none⟩)) (by simp only [execOp, ho]) ?_ (hK _ _ _ (p3 _) (.ptr (upd_self _ _ _)) hn)
    simp [Instr.box, newVar, newRow_run]
  · rename_i ty n ps ho
    simp only [Option.bind_eq_some_iff] at h
    obtain ⟨vs, h1, h2⟩ := h
    obtain ⟨v', β', w', q1, q2, q3, q4⟩ := evBuildSlice_ok hS h2 (rel_evpg hT _ _ h1)
    refine wp_val (s := Instr.buildSlice ty n (ps.map fun p => (p.1, a.eval p.2))) (by simp only [execOp, ho]) ?_ (hK _ _ _ (q2.slot _) q3 q4)
    rw [← q1]
    congr 2
    obtain ⟨l⟩ := ps
    simp
  · rename_i ty x ho
    simp only [Option.bind_eq_some_iff, Option.map_eq_some_iff, Prod.mk.injEq] at h
    obtain ⟨p, h1, u, h2, rfl, rfl⟩ := h
    unfold ldV at h2
    split at h2
    · obtain ⟨q1, q2, q3⟩ := hor.lds _ (findLd_mem h2)
      refine wp_val (s := Instr.loadAt ty (a.eval x)) (by simp only [execOp, ho]) ?_ (hK _ _ _ (Keep.refl _ _ _) (rel_inst q2) hS)
      rw [(rel_ev hT h1).af_eq q1]
      exact q3 w hS.far
    split at h2
    · obtain ⟨v', q1, q2⟩ := evLoadL_ok hS hor.lat h2 (rel_ev hT h1)
      exact wp_val (by simp only [execOp, ho]) q1 (hK _ _ _ (Keep.refl _ _ _) q2 hS)
    · obtain ⟨v', q1, q2⟩ := evLoad_ok hS h2 (rel_ev hT h1)
      exact wp_val (by simp only [execOp, ho]) q1 (hK _ _ _ (Keep.refl _ _ _) q2 hS)
  · rename_i ty p x ho
    simp only [Option.bind_eq_some_iff, Option.map_eq_some_iff, Prod.mk.injEq] at h
    obtain ⟨u, h1, x', h2, H2, h3, rfl, rfl⟩ := h
    obtain ⟨w', q1, q2⟩ := evStore_ok hS h3 (rel_ev hT h1) (rel_ev hT h2)
    have he : execOp a.eval o = (Instr.storeAt ty (a.eval p) (a.eval x) >>= fun _ => pure Next.skip) := by simp only [execOp, ho]
    unfold Oper.wp
    rw [he, Sem.run_bind, q1]
    exact hK _ β w' (Keep.refl _ _ _) (.flat rfl) q2
  · rename_i ty x lo hi ho
    simp only [Option.bind_eq_some_iff] at h
    obtain ⟨vx, h1, h⟩ := h
    split at h
    · simp only [Option.bind_eq_some_iff, Option.map_eq_some_iff, Prod.mk.injEq] at h
      obtain ⟨l, h2, hh, h3, u, h4, rfl, rfl⟩ := h
      have e2 := rel_evoA hT _ _ h2
      have e3 := rel_evoA hT _ _ h3
      obtain ⟨q1, q2, q3⟩ := hor.sli _ (findSli_mem h4)
      refine wp_val (s := Instr.sliceAt ty (a.eval x) (l.map (inst ρ)) (hh.map (inst ρ)) none) (by simp only [execOp, ho, e2, e3, Option.map_none]) ?_ (hK _ β w (Keep.refl _ _ _) (rel_inst q2) hS)
      rw [(rel_ev hT h1).af_eq q1]
      exact q3 w
    simp only [Option.bind_eq_some_iff] at h
    obtain ⟨l, h2, hh, h3, h4⟩ := h
    have e2 := rel_evo hT _ _ h2
    have e3 := rel_evo hT _ _ h3
    have he : execOp a.eval o = (Instr.sliceAt ty (a.eval x) l hh none >>= fun x => pure (Next.value x)) := by simp only [execOp, ho, e2, e3, Option.map_none]
    split at h4
    · rename_i hf
      simp only [Option.map_eq_some_iff, Prod.mk.injEq] at h4
      obtain ⟨u, q1, rfl, rfl⟩ := h4
      obtain ⟨q2, q3⟩ := pureV_ok q1 w
      rw [← (rel_ev hT h1).eq_of_flat hf] at q2
      exact wp_val he q2 (hK _ β w (Keep.refl _ _ _) (.flat q3) hS)
    · simp only [Option.map_eq_some_iff, Prod.mk.injEq] at h4
      obtain ⟨u, h5, rfl, rfl⟩ := h4
      obtain ⟨v', q1, q2⟩ := evSlice_ok hS h5 (rel_ev hT h1)
      exact wp_val he q1 (hK _ _ _ (Keep.refl _ _ _) q2 hS)
  · rename_i ty x lo hi mx ho
    simp only [Option.bind_eq_some_iff, Option.map_eq_some_iff, Prod.mk.injEq] at h
    obtain ⟨vx, h1, l, h2, hh, h3, m, h4, u, h5, rfl, rfl⟩ := h
    have e2 := rel_evo hT _ _ h2
    have e3 := (rel_evf hT h3).1
    have e4 := (rel_evf hT h4).1
    have he : execOp a.eval o = (Instr.sliceAt ty (a.eval x) l (some hh) (some m) >>= fun x => pure (Next.value x)) := by simp only [execOp, ho, e2, Option.map_some, e3, e4]
    obtain ⟨v', q1, q2⟩ := evSlice3_ok (w := w) h5 (rel_ev hT h1)
    exact wp_val he q1 (hK _ _ _ (Keep.refl _ _ _) q2 hS)
  · rename_i c ho
    split at h
    · rename_i b hb
      obtain ⟨callee, ⟨args⟩, ats⟩ := c
      simp only at hb
      subst hb
      simp only [Option.bind_eq_some_iff] at h
      obtain ⟨vs, h1, h2⟩ := h
      obtain ⟨v', β', w', q1, q2, q3, q4⟩ := evBuiltin_ok hor hS h2 (rel_evs hT _ _ h1)
      unfold Oper.wp
      have he : execOp a.eval o = builtin b ats o.type ((List.toArray args).map fun | .const _ => true | _ => false) (args.map a.eval).toArray := by
        simp only [execOp, ho, resolve, invoke, pure_bind, List.map_toArray]
        rfl
      rw [he, q1]
      exact hK _ _ _ (q2.slot _) q3 q4
    · rename_i f hb
      simp only [Option.bind_eq_some_iff] at h
      obtain ⟨fv, h1, vs, h2, h3⟩ := h
      unfold evFn at h3
      split at h3
      · rename_i u hu
        simp only [Option.some.injEq, Prod.mk.injEq] at h3
        obtain ⟨rfl, rfl⟩ := h3
        unfold evExt at hu
        split at hu
        · rename_i g fs cap
          simp only [Option.ite_none_right_eq_some, Option.bind_eq_some_iff, List.isEmpty_iff, Bool.and_eq_true, List.all_eq_true] at hu
          obtain ⟨hfs, fn, h4, ⟨h5, h6⟩, nx, h7, h8⟩ := hu
          obtain ⟨cap', e1, e2⟩ := (rel_ev hT h1).fn_inv hfs
          have hargs := relL_append (rel_evs hT _ _ h2) e2
          have hvs := list_eq_of hargs.1 fun i v v' x y => (hargs.2 i v v' x y).eq_of_flat (h6 v (List.mem_of_getElem? x))
          split at h8
          · obtain ⟨rfl, h9⟩ := fl_eq h8
            unfold Oper.wp
            have e1' : a.eval f = .func (.func g) #[] cap'.toList.toArray := by rw [e1]
            rw [exec_call ho hb e1', hvs, pureRun_run _ _ w h7]
            exact hK _ β w (Keep.refl _ _ _) (.flat h9) hS
          · cases h8
        · cases hu
      split at h3
      rotate_left
      · simp only [Option.map_eq_some_iff, Prod.mk.injEq] at h3
        obtain ⟨u, hu, rfl, rfl⟩ := h3
        unfold evExtL at hu
        split at hu
        · rename_i g fs cap _ _
          simp only [Option.ite_none_right_eq_some, List.isEmpty_iff] at hu
          obtain ⟨hfs, h4⟩ := hu
          obtain ⟨cap', e1, e2⟩ := (rel_ev hT h1).fn_inv hfs
          have hargs := relL_append (rel_evs hT _ _ h2) e2
          obtain ⟨q1, q2, q3⟩ := hor.ext _ (findCall_mem h4)
          simp only [List.all_eq_true] at q1 q2 q3
          have hvs := list_map_of (g := inst ρ) hargs.1 fun i v v' x y => (hargs.2 i v v' x y).af_eq (q1 v (List.mem_of_getElem? x))
          unfold Oper.wp
          have e1' : a.eval f = .func (.func g) #[] cap'.toList.toArray := by rw [e1]
          rw [exec_call ho hb e1', hvs, q3 w]
          exact hK _ β w (Keep.refl _ _ _) (rel_inst q2) hS
        · cases hu
      rename_i pg h4
      have h5 := h3
      obtain ⟨g, cap⟩ := pg
      obtain ⟨cap', fn, e1, e2, e3, e4⟩ := asFn_ok h4 (rel_ev hT h1)
      have hargs := relL_append (rel_evs hT _ _ h2) e2
      unfold Oper.wp
      rw [exec_call ho hb e1, run_callFunc e3 e4]
      unfold evGo at h5
      split at h5
      · rename_i u hu
        simp only [Option.some.injEq, Prod.mk.injEq] at h5
        obtain ⟨rfl, rfl⟩ := h5
        obtain ⟨q1, q2, q3⟩ := hor.calls _ (findCall_mem hu)
        simp only [List.all_eq_true] at q1 q2 q3
        have hvs := list_map_of (g := inst ρ) hargs.1 fun i v v' x y => (hargs.2 i v v' x y).af_eq (q1 v (List.mem_of_getElem? x))
        rw [hvs]
        refine (q3 w hS.far).mono ?_
        rintro e w' ⟨rfl, hb⟩
        exact hK _ _ _ (Keep.refl _ _ _) (rel_inst q2) (hS.onto hb)
      split at h5
      · rename_i hfl
        simp only [Option.bind_eq_some_iff] at h5
        obtain ⟨⟨u, H2⟩, h6, h7⟩ := h5
        have hfl := List.all_eq_true.1 hfl
        have hR := callM_ok hor hc ⟨w, []⟩ _ _ _ _ _ h6 (fun _ => none) w _ (Sim.start ρ P w hS.far) (rel_names hargs hfl)
        refine hR.mono ?_
        rintro e w' ⟨v', β', rfl, _, q2, q3⟩
        split at h7
        · rename_i hfu
          simp only [Option.some.injEq, Prod.mk.injEq] at h7
          obtain ⟨rfl, rfl⟩ := h7
          exact hK _ _ _ (Keep.refl _ _ _) (q2.names hfu) (hS.onto q3.below.toBelow)
        · obtain ⟨γ, r1, r2, r3⟩ := shift_ok hS q3 q2 h7
          exact hK _ _ _ (r1.slot _) r2 r3
      · refine (herm_ok (callM_ok hor hc) hS hargs h5).mono ?_
        rintro e w' ⟨v', β', rfl, q1, q2, q3⟩
        exact hK _ _ _ (q1.slot _) q2 q3
    · cases h
  · rename_i s d x ho
    split at h
    · rename_i u hu
      simp only [Option.some.injEq, Prod.mk.injEq] at h
      obtain ⟨rfl, rfl⟩ := h
      rw [← ho] at hu
      exact pureOp_ok hor hT hu w K Q fun v' q => hK v' β w (Keep.refl _ _ _) q hS
    · simp only [Option.bind_eq_some_iff, Option.map_eq_some_iff, Prod.mk.injEq] at h
      obtain ⟨vx, h1, u, h2, rfl, rfl⟩ := h
      obtain ⟨v', q1, q2⟩ := evConv_ok hS h2 (rel_ev hT h1)
      exact wp_val (by simp only [execOp, ho]) q1 (hK _ _ _ (Keep.refl _ _ _) q2 hS)
  · simp only [Option.map_eq_some_iff, Prod.mk.injEq] at h
    obtain ⟨u, h1, rfl, rfl⟩ := h
    exact pureOp_ok hor hT h1 w K Q fun v' q => hK v' β w (Keep.refl _ _ _) q hS
end
end
end Go.Proofs.Ytapcooolainmdaa.Ev
