/- texts as numerals: what ParseInt and FormatInt answer; slices of opaque strings; loops in a wider environment. -/
import Derived.Test.YtmoppmpnbkemdaaDoorLx4
import Derived.Test.YtmoppmpnbkemdaaDoorLaidT
import Derived.Test.YtmoppmpnbkemdaaDoorSyA
import Derived.Lib.AtoiAllCases
import Derived.Lib.ParseIntBTie
namespace Go.Proofs.YtmoppmpnbkemdaaDoor.Ev
open Go.RowKit
set_option linter.unusedVariables false
set_option linter.unusedSimpArgs false
set_option maxRecDepth 8000
def itoaB (n : Int) : ByteArray := ⟨(Lib.itoa n).toArray⟩
theorem dec_len : ∀ (k u : Nat), u < 10 ^ (k + 1) → (Lib.decDigits u).length ≤ k + 1
  | 0, u, h => by rw [Lib.decDigits_one (by simpa using h)]; simp
  | k + 1, u, h => by
    rw [Lib.decDigits]
    split
    · simp
    · have := dec_len k (u / 10) (by rw [Nat.div_lt_iff_lt_mul (by decide)]; rw [Nat.pow_succ] at h; exact h)
      simp only [List.length_append, List.length_cons, List.length_nil]; omega
theorem itoa_size {n : Int} (h : bd (-9223372036854775808) 9223372036854775807 n) : (itoaB n).size ≤ 21 := by
  show (Lib.itoa n).toArray.size ≤ 21
  simp only [bd] at h
  rw [List.size_toArray]
  unfold Lib.itoa
  split
  · have := dec_len 19 n.natAbs (by omega)
    simp only [List.length_cons]; omega
  · have := dec_len 19 n.toNat (by omega)
    omega
theorem pu_snoc : ∀ (l : List UInt8) (acc a : Nat) (c : UInt8), Lib.parseUint10 acc l = .ok a → Lib.parseUint10 acc (l ++ [c]) = Lib.parseUint10 a [c] := by
  intro l
  induction l with
  | nil => intro acc a c h; simp only [Lib.parseUint10] at h; cases h; rfl
  | cons b r ih =>
    intro acc a c h
    rw [List.cons_append]
    rw [Lib.parseUint10] at h ⊢
    split at h
    · rename_i hb
      rw [if_pos hb]
      split at h
      · cases h
      · rename_i h1
        rw [if_neg h1]
        split at h
        · cases h
        · rename_i h2
          rw [if_neg h2]
          exact ih _ a c h
    · cases h
theorem dig_nat {k : Nat} (h : k < 10) : (UInt8.ofNat (48 + k)).toNat = 48 + k := by
  rw [UInt8.toNat_ofNat']; omega
theorem pu_dec : ∀ (u : Nat), u ≤ 9223372036854775808 → Lib.parseUint10 0 (Lib.decDigits u) = .ok u := by
  intro u
  induction u using Nat.strongRecOn with
  | _ u ih =>
    intro hu
    rw [Lib.decDigits]
    split
    · rename_i h
      rw [Lib.parseUint10, dig_nat h, if_pos (by omega), if_neg (by omega), if_neg (by omega)]
      simp only [Lib.parseUint10]
      congr 1; omega
    · rename_i h
      rw [pu_snoc _ _ _ _ (ih (u / 10) (by omega) (by omega))]
      rw [Lib.parseUint10, dig_nat (by omega), if_pos (by omega), if_neg (by omega), if_neg (by omega)]
      simp only [Lib.parseUint10]
      congr 1; omega
theorem dec_first : ∀ (u : Nat), ∃ c r, Lib.decDigits u = c :: r ∧ 48 ≤ c.toNat ∧ c.toNat ≤ 57 := by
  intro u
  induction u using Nat.strongRecOn with
  | _ u ih =>
    rw [Lib.decDigits]
    split
    · rename_i h
      exact ⟨_, _, rfl, by rw [dig_nat h]; omega, by rw [dig_nat h]; omega⟩
    · rename_i h
      obtain ⟨c, r, h1, h2, h3⟩ := ih (u / 10) (by omega)
      exact ⟨c, r ++ [UInt8.ofNat (48 + u % 10)], by rw [h1]; rfl, h2, h3⟩
theorem dec_all : ∀ (u : Nat), ∀ c ∈ Lib.decDigits u, 48 ≤ c.toNat := by
  intro u
  induction u using Nat.strongRecOn with
  | _ u ih =>
    intro c hc
    rw [Lib.decDigits] at hc
    split at hc
    · rename_i h
      simp only [List.mem_singleton] at hc
      subst hc; rw [dig_nat h]; omega
    · rename_i h
      rcases List.mem_append.1 hc with hc | hc
      · exact ih (u / 10) (by omega) c hc
      · simp only [List.mem_singleton] at hc
        subst hc; rw [dig_nat (by omega)]; omega
theorem parse_itoa (n : Int) (h0 : -9223372036854775808 ≤ n) (h1 : n ≤ 9223372036854775807) : Lib.parseIntB 64 (Lib.itoa n) = .ok n := by
  rw [Lib.parseIntB_64]
  unfold Lib.itoa
  split
  · rename_i hn
    rw [Lib.atoiAll_minus]
    obtain ⟨c, r, e1, _⟩ := dec_first n.natAbs
    have : Lib.parseMag (Lib.decDigits n.natAbs) = .ok n.natAbs := by
      unfold Lib.parseMag
      rw [if_neg (by rw [e1]; simp)]
      exact pu_dec _ (by omega)
    rw [this]
    simp only [Lib.signed]
    rw [if_neg (by omega)]
    congr 1; omega
  · rename_i hn
    obtain ⟨c, r, e1, e2, e3⟩ := dec_first n.toNat
    have hp : Lib.parseMag (Lib.decDigits n.toNat) = .ok n.toNat := by
      unfold Lib.parseMag
      rw [if_neg (by rw [e1]; simp)]
      exact pu_dec _ (by omega)
    rw [e1] at hp ⊢
    rw [Lib.atoiAll_plain _ _ (by omega) (by omega), hp]
    simp only [Lib.signless]
    rw [if_neg (by omega)]
    congr 1; omega
/-- what a text reads as -/
def pvB (s : ByteArray) : Int := match Lib.parseIntB 64 s.data.toList with | .ok v => v | .range => Lib.intSat 64 s.data.toList | _ => 0
def pokB (s : ByteArray) : Bool := match Lib.parseIntB 64 s.data.toList with | .ok _ => true | _ => false
theorem pv_bd (s : ByteArray) : bd (-9223372036854775808) 9223372036854775807 (pvB s) := by
  unfold pvB
  split
  · rename_i v h
    have := Lib.parseIntB_bounds h
    simp at this
    exact ⟨by omega, by omega⟩
  · rw [Lib.intSat_64]
    have := Lib.atoiSat_bounds s.data.toList
    exact ⟨this.1, this.2⟩
  · exact ⟨by omega, by omega⟩
theorem itoaB_data (n : Int) : (itoaB n).data.toList = Lib.itoa n := by unfold itoaB; simp
theorem pv_itoa {n : Int} (h : bd (-9223372036854775808) 9223372036854775807 n) : pvB (itoaB n) = n ∧ pokB (itoaB n) = true := by
  unfold pvB pokB
  rw [itoaB_data, parse_itoa n h.1 h.2]
  exact ⟨rfl, rfl⟩
def sameS (a b : ByteArray) : Bool := a.toList == b.toList
theorem sameS_iff {a b : ByteArray} : sameS a b = true ↔ a = b := by
  unfold sameS
  rw [beq_iff_eq, ByteArray.toList_eq, ByteArray.toList_eq]
  constructor
  · intro h
    obtain ⟨⟨x⟩⟩ := a
    obtain ⟨⟨y⟩⟩ := b
    simp only at h
    subst h; rfl
  · intro h; rw [h]
theorem ba_get (s : ByteArray) (i : Nat) : s[i]? = s.data.toList[i]? := by
  by_cases h : i < s.size
  · rw [getElem?_pos s i h, List.getElem?_eq_getElem (by rw [Array.length_toList]; exact h)]
    rfl
  · rw [getElem?_neg s i h, List.getElem?_eq_none (by rw [Array.length_toList]; exact Nat.le_of_not_lt h)]
theorem ext_list (s : ByteArray) (i j : Nat) : (s.extract i j).data.toList = (s.data.toList.drop i).take (j - i) := by
  rw [ByteArray.data_extract, Array.toList_extract]
theorem ba_ext {a b : ByteArray} (h : a.data.toList = b.data.toList) : a = b := by
  obtain ⟨⟨x⟩⟩ := a
  obtain ⟨⟨y⟩⟩ := b
  simp only at h
  subst h; rfl
/-- the two errors are there -/
structure Errs (w : World) : Prop where
  syn : ∃ te pe, w.cell? ⟨1, 0, none⟩ = some (.iface te pe)
  rng : ∃ te pe, w.cell? ⟨2, 0, none⟩ = some (.iface te pe)
theorem cell_lt {w : World} {b o : Nat} {v : Value} (h : w.cell? ⟨b, o, none⟩ = some v) : b < w.heap.size := by
  rcases Nat.lt_or_ge b w.heap.size with q | q
  · exact q
  · have : w.heap[b]? = none := Array.getElem?_eq_none q
    simp [World.cell?, this] at h
theorem Errs.on {w w' : World} (h : Errs w) (hb : Below w.heap.size w w') : Errs w' := by
  obtain ⟨⟨a, b, h1⟩, c, d, h2⟩ := h
  exact ⟨⟨a, b, (hb.cell (p := ⟨1, 0, none⟩) (cell_lt h1)).trans h1⟩, c, d, (hb.cell (p := ⟨2, 0, none⟩) (cell_lt h2)).trans h2⟩
/-- an error that is there -/
def errV : Value := .complex .f32 0 1
def errOf (s : ByteArray) : Value := if pokB s then .nilIface else errV
theorem parse_ends (s : ByteArray) (hs : s.size ≤ 1000000000000) (w : World) (he : Errs w) :
    Calls Tryd.prog 47 #[.string s, .int .i64 10, .int .i64 64] w fun e w' => (∃ v', e = .returned (.tuple #[.int .i64 (pvB s), v']) ∧ (if pokB s then v' = .nilIface else ∃ t u, v' = .iface t u)) ∧ Below w.heap.size w w' := by
  obtain ⟨⟨a, b, h1⟩, c, d, h2⟩ := he
  unfold pvB pokB
  rcases h : Lib.parseIntB 64 s.data.toList with v | _ | _
  ·
    refine (shelf_strconv_ParseInt_10_at64_ok s (by omega) v h w).mono ?_
    rintro e w' ⟨rfl, hw⟩
    refine ⟨⟨.nilIface, rfl, rfl⟩, ?_⟩
    rcases hw with rfl | ⟨t, rfl⟩
    · exact Below.refl _ _
    · exact Lib.bytesWorld_below _ _ _
  ·
    refine (shelf_strconv_ParseInt_10_at64_syntax s (by omega) (h.trans (by kernel_rfl)) _ w h1 (.inr ⟨a, b, rfl⟩)).mono ?_
    rintro e w' ⟨N, rfl, _, _, hb⟩
    exact ⟨⟨_, rfl, _, _, rfl⟩, hb⟩
  ·
    refine (shelf_strconv_ParseInt_10_at64_range s (by omega) h _ w h2 (.inr ⟨c, d, rfl⟩)).mono ?_
    rintro e w' ⟨N, rfl, _, _, hb⟩
    exact ⟨⟨_, rfl, _, _, rfl⟩, hb⟩
/-- a call whose answer holds an error of which no more is known -/
theorem memo_err {ρ : Env} {P : Program} {f : FuncId} {args : List Value} {v : Value} {args' : Array Value} (ha : args.all af = true) (ea : (args.map (inst ρ)).toArray = args')
    (h : ∀ w : World, Below ρ.w.heap.size ρ.w w → Calls P f args' w fun e w' => (∃ v', e = .returned v' ∧ ∀ β, Rel ρ β v v') ∧ Below w.heap.size w w') : MemoE ρ P (f, args, [], v, []) := by
  intro w0 β w bs hS hA
  have e : bs = args.map (inst ρ) := list_map_of hA.1 fun i x x' q q' => (hA.2 i x x' q q').af_eq (List.all_eq_true.1 ha x (List.mem_of_getElem? q))
  rw [e, ea]
  refine (h w hS.far).mono ?_
  rintro en w' ⟨⟨v', rfl, hv⟩, hb⟩
  exact ⟨v', β, rfl, Keep.refl _ _ _, hv β, hS.onto hb⟩
theorem rel_pair {ρ : Env} {β : Names} {x x' e e' : Value} (h1 : Rel ρ β x x') (h2 : Rel ρ β e e') : Rel ρ β (.tuple #[x, e]) (.tuple #[x', e']) :=
  Rel.tup (cs := [x, e]) (cs' := [x', e']) rfl fun i v v' q q' => by
    match i, q, q' with
    | 0, q, q' => cases q; cases q'; exact h1
    | 1, q, q' => cases q; cases q'; exact h2
/-- ParseInt of an opaque string -/
theorem parseMemo {ρ : Env} {i : Nat} {n : Int} {s : ByteArray} {ev : Value} (hv : ρ.val i = .string s) (hn : isSym n = true) (hr : ρ.num n = pvB s) (hs : s.size ≤ 1000000000000) (he : Errs ρ.w) (hev : ev = errOf s) :
    MemoE ρ Tryd.prog (47, [oq i, .int .i64 10, .int .i64 64], [], .tuple #[.int .i64 n, ev], []) := by
  subst hev
  refine memo_err rfl (by show #[ρ.val i, _, _] = _; rw [hv]; rfl) fun w hw => (parse_ends s hs w (he.on hw)).mono ?_
  rintro e w' ⟨⟨v', rfl, h⟩, hb⟩
  refine ⟨⟨_, rfl, fun β => rel_pair (by rw [← hr]; exact .sym hn) ?_⟩, hb⟩
  unfold errOf
  split at h
  · rename_i hp; rw [if_pos hp, h]; exact .flat rfl
  · rename_i hp; obtain ⟨t, u, rfl⟩ := h; rw [if_neg hp]; exact .nni
theorem sl_bound {P : Program} {y n : Nat} (h : n ≤ y) (code : BoundsCode) (w : World) : (Instr.sliceBound (.int .i64 (n : Int)) y code).run P w = .ok n w := by
  have : (0 : Int) ≤ (n : Int) ∧ (n : Int) ≤ (y : Int) := ⟨by omega, by omega⟩
  simp only [Instr.sliceBound, asIntOf, pure_bind]
  rw [if_pos this]; simp
def bndIs (ρ : Env) (d : Nat) (o : Option Value) (l : Nat) : Prop :=
  match o with
  | none => l = d
  | some v => inst ρ v = .int .i64 (l : Int)
theorem ssliOK {ρ : Env} {P : Program} {ty : TypeId} {i j : Nat} {lo hi : Option Value} {l h : Nat} {s : ByteArray} (hd : P.underlying ty = some .string) (hv : ρ.val i = .string s) (hl : bndIs ρ 0 lo l) (hh : bndIs ρ s.size hi h)
    (h1 : l ≤ h) (h2 : h ≤ s.size) (hr : ρ.val j = .string (s.extract l h)) : SliOK ρ P (ty, oq i, lo, hi, oq j) := by
  refine ⟨rfl, rfl, fun w => ?_⟩
  show (Instr.sliceAt ty (ρ.val i) (lo.map (inst ρ)) (hi.map (inst ρ)) none).run P w = .ok (ρ.val j) w
  rw [hv, hr]
  simp only [Instr.sliceAt, Instr.slice, Sem.run_bind, run_underlying hd, Result.andThen_ok, Option.isSome_none, Bool.false_eq_true, if_false]
  unfold bndIs at hl hh
  cases lo with
  | none =>
    simp only at hl
    subst hl
    cases hi with
    | none =>
      simp only at hh
      subst hh
      simp [Instr.sliceBounds]
    | some v =>
      simp only at hh
      simp only [Option.map_none, Option.map_some, hh]
      simp [Instr.sliceBounds, sl_bound h2]
  | some u =>
    simp only at hl
    cases hi with
    | none =>
      simp only at hh
      subst hh
      simp only [Option.map_none, Option.map_some, hl]
      simp [Instr.sliceBounds, sl_bound h1]
    | some v =>
      simp only at hh
      simp only [Option.map_some, hl, hh]
      simp [Instr.sliceBounds, sl_bound h1, sl_bound h2]
theorem Left.unpick {f : List Nat} {a b : Names} {w w' : World} (h : Left (pick f a) w b w') : Left a w b w' :=
  ⟨fun k hk hn => h.keep k hk fun i e q => by obtain ⟨c, _, q2⟩ := pick_get q; exact hn c e q2, fun i e q => by
    rcases h.names i e q with g | ⟨j, d, g1, g2⟩
    · exact .inl g
    · obtain ⟨c, _, q2⟩ := pick_get g1; exact .inr ⟨c, d, q2, g2⟩, h.size⟩
/-- a loop's theorem in another environment -/
theorem loop_move {P : Program} {ρ1 ρ2 : Env} (hw : ρ1.w = ρ2.w) {g : FuncId} {p : List Bool} {t tf : Tm} {H Hf : Heap} {x : X} (h : LoopE ρ1 P (g, p, t, H, x, tf, Hf)) {f f2 : List Nat} {es es2 : Eqs}
    (hi : passQ P f t H t H es = true) (hf : idPre 0 H.length f = true) (he : Holds ρ2 ρ1 es) (ho : passQ P f2 tf Hf tf Hf es2 = true) (hf2 : idPre 0 H.length f2 = true) (hl : H.length ≤ Hf.length) (he2 : Holds ρ1 ρ2 es2) : LoopE ρ2 P (g, p, t, H, x, tf, Hf) := by
  intro c hc w0 β w a Q hS hT hQ
  simp only at hc hS hT hQ
  have pre : ∀ (f : List Nat) (γ : Names), idPre 0 H.length f = true → ∀ i, i < H.length → pick f γ i = γ i := by
    intro f γ h i hi
    have := idPre_at H.length 0 h i hi
    rw [Nat.zero_add] at this
    unfold pick; rw [this]; rfl
  have p1 := passQ_ok hw.symm hi he
  refine h c hc w0 (pick f β) w a Q (p1.sim hS) (p1.rel hS hT) fun β' w' a' k1 k2 k3 k4 k5 => ?_
  have p2 := passQ_ok hw ho he2
  refine hQ (pick f2 β') w' a' ⟨⟨fun i e q => ?_, fun y hy hn _ => ?_⟩, hl⟩ (p2.rel k5 k2) (pickM k3) (pickL k4.unpick) (p2.sim k5)
  · have hi := hS.dom i e q
    rw [pre f2 β' hf2 i hi]
    exact k1.1.1 _ _ (by rw [pre f β hf i hi]; exact q)
  · rw [pre f2 β' hf2 y hy]
    exact k1.1.2 y hy (by rw [pre f β hf y hy]; exact hn) (by simp)
end Go.Proofs.YtmoppmpnbkemdaaDoor.Ev
