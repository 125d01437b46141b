/- The reference's Primitive. -/
import Derived.Test.YtkfdbhhchnbjdaaVeP2
import Derived.Test.YtkfdbhhchnbjdaaVeG2
namespace Go.Proofs.Ytkfdbhhchnbjdaa.Ve
open Go.RowKit Ba
set_option linter.unusedVariables false

theorem quiet_ex_add {P : Program} {f : FuncId} {args : Array Value} {w : World} {a n : Nat} {v : Value}
    (h : Calls P f args (w.drewN (a + n)) fun e w' => e = .returned v ∧ ∃ m, w' = (w.drewN (a + n)).drewN m) :
    Calls P f args (w.drewN (a + n)) fun e w'' => e = .returned v ∧ ∃ m, w'' = w.drewN (a + m) :=
  h.mono fun _ _ ⟨he, m, hm⟩ => ⟨he, n + m, by rw [hm, World.drewN_drewN, Nat.add_assoc]⟩
theorem quiet_ex {P : Program} {f : FuncId} {args : Array Value} {w : World} {n : Nat} {v : Value}
    (h : Calls P f args (w.drewN n) fun e w' => e = .returned v ∧ ∃ m, w' = (w.drewN n).drewN m) :
    Calls P f args (w.drewN n) fun e w'' => e = .returned v ∧ ∃ m, w'' = w.drewN m :=
  h.mono fun _ _ ⟨he, m, hm⟩ => ⟨he, n + m, by rw [hm, World.drewN_drewN]⟩
set_option maxHeartbeats 1600000 in
theorem rprimitive_any (x y z : Int) (h : in3 x y z = true) (hg : 1 ≤ gcd3 x y z) (w : World) : Calls Try.prog 28 #[.agg #[.int .i64 x, .int .i64 y, .int .i64 z]] w fun e w' => e = .returned (.tuple #[.agg #[.int .i64 (x.tdiv (gcd3 x y z)), .int .i64 (y.tdiv (gcd3 x y z)), .int .i64 (z.tdiv (gcd3 x y z))], .int .i64 (gcd3 x y z)]) ∧ Below w.heap.size w w' := by

  obtain ⟨⟨_, _⟩, ⟨_, _⟩, ⟨_, _⟩⟩ := in3_iff.1 h
  clear h
  have A1 := Lib.hid fun W => absolute_any x (by omega) (by omega) W
  have A2 := Lib.hid fun W => absolute_any y (by omega) (by omega) W
  have A3 := Lib.hid fun W => absolute_any z (by omega) (by omega) W
  have d2 := gcdI_nonneg x y
  have e2 := gcdI_bd (a := x) (b := y) 1000000 (by omega) (by omega)
  have d3 := gcdI_nonneg (gcdI x y) z
  have e3 := gcdI_bd (a := gcdI x y) (b := z) 1000000 (by omega) (by omega)
  have D1 := Lib.hid fun W => rdivisor_q (x.natAbs : Int) (y.natAbs : Int) ⟨by omega, by omega⟩ ⟨by omega, by omega⟩ W
  have D2 := Lib.hid fun W => rdivisor_q (gcdI x y) (z.natAbs : Int) ⟨by omega, by omega⟩ ⟨by omega, by omega⟩ W
  rw [gcdI_abs] at D1
  rw [gcdI_absr] at D2
  have HG : Hid (gcdI (gcdI x y) z = gcd3 x y z) := Lib.hid rfl
  rw [HG.out] at D2 d3 e3
  clear HG
  obtain ⟨_, _⟩ := tdiv_bd (x := x) hg
  obtain ⟨_, _⟩ := tdiv_bd (x := y) hg
  obtain ⟨_, _⟩ := tdiv_bd (x := z) hg
  have t1 : IntKind.i64.wrap (x.tdiv (gcd3 x y z)) = x.tdiv (gcd3 x y z) := IntWalk.i64_in _ (by omega)
  have t2 : IntKind.i64.wrap (y.tdiv (gcd3 x y z)) = y.tdiv (gcd3 x y z) := IntWalk.i64_in _ (by omega)
  have t3 : IntKind.i64.wrap (z.tdiv (gcd3 x y z)) = z.tdiv (gcd3 x y z) := IntWalk.i64_in _ (by omega)
  have tg : (gcd3 x y z == 0) = false := by simp; omega
  have tn : ¬ gcd3 x y z = 0 := by omega
  generalize gcd3 x y z = G at *
  generalize gcdI x y = G2 at *
  generalize (x.natAbs : Int) = P at *
  generalize (y.natAbs : Int) = Q at *
  generalize (z.natAbs : Int) = R at *
  go_enter Try.func28, Try.ntmps28
  go_wp2
  go_quiet ((first | (go_at_call_of 47 (Value.int IntKind.i64 x); first | exact quiet_left (A1.out _) | exact quiet_add_left (A1.out _)) | (go_at_call_of 47 (Value.int IntKind.i64 y); first | exact quiet_left (A2.out _) | exact quiet_add_left (A2.out _)) | (go_at_call_of 47 (Value.int IntKind.i64 z); first | exact quiet_left (A3.out _) | exact quiet_add_left (A3.out _)) | (go_at_call_of 46 (Value.int IntKind.i64 P); first | exact quiet_ex (D1.out _) | exact quiet_ex_add (D1.out _)) | (go_at_call_of 46 (Value.int IntKind.i64 G2); first | exact quiet_ex (D2.out _) | exact quiet_ex_add (D2.out _))))
  trace "quiet done"
  go_wp2
  trace "r"
  go_region
  trace "region done"
  all_goals
    go_wp2
    refine bodyPost_ret (v := .tuple #[.agg #[.int .i64 (x.tdiv G), .int .i64 (y.tdiv G), .int .i64 (z.tdiv G)], .int .i64 G]) ?_ rfl ⟨rfl, ?_⟩
    · simp [results, Try.results28, go_sem, *]
    · repeat (first | exact Below.refl _ _ | refine Below.drew ?_ | refine below_drewN ?_ _ | refine below_set ?_ (by simp <;> omega) _ | refine below_alloc ?_ _)

end Go.Proofs.Ytkfdbhhchnbjdaa.Ve
