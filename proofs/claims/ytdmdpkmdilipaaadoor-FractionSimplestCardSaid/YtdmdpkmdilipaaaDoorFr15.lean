/- fraction: division of 128 bits by 64: the result. -/
import Derived.Test.YtdmdpkmdilipaaaDoorFr14
namespace Go.Proofs.YtdmdpkmdilipaaaDoor.Ev
open Go.RowKit
set_option linter.unusedVariables false
set_option linter.unusedSimpArgs false
set_option maxRecDepth 8000

theorem kkey {q i D n1 n0 r u c H : Nat} (hi : i ≤ q) (hD : D = n1 * H + n0) (hr : q * n1 + r = u) : (q - i) * D + (H * (r + i * n1) + c) = u * H + c + (q - i) * n0 := by
  obtain ⟨d, rfl⟩ : ∃ d, q = i + d := ⟨q - i, by omega⟩
  rw [show i + d - i = d by omega, hD, ← hr]
  grind
theorem kstep {u c n1 n0 D q m r : Nat} (hn1 : 2147483648 ≤ n1) (hn1b : n1 < 4294967296) (hn0b : n0 < 4294967296) (hc : c < 4294967296) (hD : D = n1 * 4294967296 + n0) (hu : u < D) (huM : u < 18446744073709551616) (e1 : u / n1 = q) (e2 : q * n1 % 18446744073709551616 = m) (e3 : (u + 18446744073709551616 - m) % 18446744073709551616 = r) :
    ∃ K, (∀ i, i ≤ K → r + i * n1 < 4294967296) ∧ (∀ i, i < K → cnd q r n1 n0 c i ∧ r + (i + 1) * n1 < 4294967296) ∧ ((¬ cnd q r n1 n0 c K ∧ q - K = (u * 4294967296 + c) / D) ∨ (cnd q r n1 n0 c K ∧ 4294967296 ≤ r + (K + 1) * n1 ∧ q - (K + 1) = (u * 4294967296 + c) / D)) := by
  have hn : 0 < n1 := by omega
  have em : q * n1 ≤ u := e1 ▸ Nat.div_mul_le_self u n1
  have em2 : u < (q + 1) * n1 := by
    rw [← Nat.div_lt_iff_lt_mul hn, e1]; omega
  have hsm : (q + 1) * n1 = q * n1 + n1 := Nat.succ_mul _ _
  have hr : q * n1 + r = u := by omega
  have hrn : r < n1 := by omega
  clear e2 e3
  have hDp : 0 < D := by omega
  have hQ1 : (u * 4294967296 + c) / D * D ≤ u * 4294967296 + c := Nat.div_mul_le_self _ _
  have hQH : (u * 4294967296 + c) / D < 4294967296 := by
    rw [Nat.div_lt_iff_lt_mul hDp]; omega
  have c2 : ∀ i, i ≤ q → (4294967296 * (r + i * n1) + c < (q - i) * n0 ↔ (u * 4294967296 + c) / D < q - i) := by
    intro i hi
    have k := kkey (c := c) hi hD hr
    rw [Nat.div_lt_iff_lt_mul hDp]
    constructor <;> intro h <;> omega
  have hcn : ∀ i, i ≤ q → (cnd q r n1 n0 c i ↔ (u * 4294967296 + c) / D < q - i) := by
    intro i hi
    unfold cnd
    rw [c2 i hi]
    constructor
    · rintro (h | h) <;> omega
    · intro h; exact .inr h
  have hQq : (u * 4294967296 + c) / D ≤ q := by
    rcases Nat.lt_or_ge q ((u * 4294967296 + c) / D) with h | h
    · exfalso
      have h1 : (q + 1) * D ≤ (u * 4294967296 + c) / D * D := Nat.mul_le_mul_right _ h
      have h2 : (q + 1) * D = (q + 1) * n1 * 4294967296 + (q + 1) * n0 := by rw [hD, Nat.mul_add, Nat.mul_assoc]
      omega
    · exact h
  have hqb : q ≤ 4294967296 + 1 := by
    have : q * n1 < (4294967296 + 2) * n1 := by rw [Nat.add_mul]; omega
    have := Nat.lt_of_mul_lt_mul_right this
    omega
  generalize hQ : (u * 4294967296 + c) / D = Q at *
  have claim : ∀ i, 1 ≤ i → i < q - Q → r + i * n1 < 4294967296 := by
    intro i h1 h2
    rcases Nat.lt_or_ge (r + i * n1) 4294967296 with h | h
    · exact h
    · exfalso
      have h3 := (c2 i (by omega)).2 (by omega)
      have h4 := Nat.mul_le_mul (show q - i ≤ 4294967296 by omega) (show n0 ≤ 4294967295 by omega)
      omega
  have low : ∀ i, i < q - Q → r + i * n1 < 4294967296 := by
    intro i h
    rcases Nat.eq_zero_or_pos i with rfl | hp
    · rw [Nat.zero_mul]; omega
    · exact claim i hp h
  rcases Nat.eq_zero_or_pos (q - Q) with h0 | h0
  · refine ⟨0, ?_, fun i h => absurd h (Nat.not_lt_zero _), .inl ⟨?_, by omega⟩⟩
    · intro i h; obtain rfl : i = 0 := by omega
      rw [Nat.zero_mul]; omega
    · rw [hcn 0 (by omega)]; omega
  · rcases Nat.lt_or_ge (r + (q - Q) * n1) 4294967296 with h | h
    · refine ⟨q - Q, ?_, ?_, .inl ⟨?_, by omega⟩⟩
      · intro i hi
        rcases Nat.lt_or_eq_of_le hi with g | g
        · exact low i g
        · rw [g]; exact h
      · intro i hi
        refine ⟨(hcn i (by omega)).2 (by omega), ?_⟩
        rcases Nat.lt_or_eq_of_le (show i + 1 ≤ q - Q by omega) with g | g
        · exact low _ g
        · rw [g]; exact h
      · rw [hcn _ (by omega)]; omega
    · refine ⟨q - Q - 1, ?_, ?_, .inr ⟨(hcn _ (by omega)).2 (by omega), ?_, by omega⟩⟩
      · intro i hi; exact low i (by omega)
      · intro i hi; exact ⟨(hcn i (by omega)).2 (by omega), low _ (by omega)⟩
      · rw [show q - Q - 1 + 1 = q - Q by omega]; exact h
theorem kmod {u c D Q a1 a2 a3 x : Nat} (hD0 : 0 < D) (hD : D < 18446744073709551616) (hQ : (u * 4294967296 + c) / D = Q) (h1 : u * 4294967296 % 18446744073709551616 = a1) (h2 : (a1 + c) % 18446744073709551616 = a2) (h3 : Q * D % 18446744073709551616 = a3) (h4 : (a2 + 18446744073709551616 - a3) % 18446744073709551616 = x) : x = (u * 4294967296 + c) % D := by
  have e := Nat.div_add_mod (u * 4294967296 + c) D
  have l := Nat.mod_lt (u * 4294967296 + c) hD0
  rw [hQ, Nat.mul_comm] at e
  obtain ⟨t, ht⟩ : ∃ t, (u * 4294967296 + c) % D = t := ⟨_, rfl⟩
  obtain ⟨z, hz⟩ : ∃ z, Q * D = z := ⟨_, rfl⟩
  rw [ht] at e l
  rw [ht]
  rw [hz] at e h3
  clear ht hz hQ
  omega
theorem ush {xh xl s : Nat} (hs : s ≤ 63) (hl : xl < 18446744073709551616) : (xh * 2 ^ s ||| xl / 2 ^ (64 - s)) * 18446744073709551616 + xl * 2 ^ s % 18446744073709551616 = (xh * 18446744073709551616 + xl) * 2 ^ s := by
  have eM : (18446744073709551616 : Nat) = 2 ^ (64 - s) * 2 ^ s := by rw [← Nat.pow_add, show 64 - s + s = 64 by omega]
  have h1 : xl / 2 ^ (64 - s) < 2 ^ s := by
    rw [Nat.div_lt_iff_lt_mul (Nat.two_pow_pos _), Nat.mul_comm, ← eM]; exact hl
  have h2 := Nat.two_pow_add_eq_or_of_lt h1 xh
  rw [Nat.mul_comm xh, ← h2]
  have h3 : xl * 2 ^ s / 18446744073709551616 = xl / 2 ^ (64 - s) := by
    rw [eM, Nat.mul_div_mul_right _ _ (Nat.two_pow_pos _)]
  have h4 := Nat.div_add_mod (xl * 2 ^ s) 18446744073709551616
  rw [h3] at h4
  have h5 : 2 ^ s * xh * 18446744073709551616 = xh * 18446744073709551616 * 2 ^ s := by rw [Nat.mul_comm (2 ^ s) xh, Nat.mul_right_comm]
  rw [Nat.add_mul, Nat.add_mul, h5]
  omega
theorem dfin {X y s ys Q x Z b : Nat} {u c1 c0 : Nat} (hy : 0 < y) (hys : y * 2 ^ s = ys) (hX : u * 18446744073709551616 + (c1 * 4294967296 + c0) = X * 2 ^ s) (hQ : (u * 4294967296 + c1) / ys = Q) (hx : x = (u * 4294967296 + c1) % ys) (hZ : (x * 4294967296 + c0) / ys = Z) (hb : b = (x * 4294967296 + c0) % ys) : Q * 4294967296 + Z = X / y ∧ b / 2 ^ s = X % y := by
  have hp : 0 < 2 ^ s := Nat.two_pow_pos s
  have hys0 : 0 < ys := by rw [← hys]; exact Nat.mul_pos hy hp
  have d1 := Nat.div_add_mod (u * 4294967296 + c1) ys
  have d2 := Nat.div_add_mod (x * 4294967296 + c0) ys
  have l2 := Nat.mod_lt (x * 4294967296 + c0) hys0
  rw [hQ, ← hx] at d1
  rw [hZ, ← hb] at d2
  rw [← hb] at l2
  have e : X * 2 ^ s = b + ys * (Q * 4294967296 + Z) := by
    rw [← hX, Nat.mul_add, ← Nat.mul_assoc]; omega
  have q1 : X * 2 ^ s / ys = Q * 4294967296 + Z := by rw [e, Nat.add_mul_div_left _ _ hys0, Nat.div_eq_of_lt l2, Nat.zero_add]
  have q2 : X * 2 ^ s % ys = b := by rw [e, Nat.add_mul_mod_self_left, Nat.mod_eq_of_lt l2]
  rw [← hys, Nat.mul_div_mul_right _ _ hp] at q1
  rw [← hys, Nat.mul_mod_mul_right] at q2
  exact ⟨q1.symm, by rw [← q2, Nat.mul_div_cancel _ hp]⟩
set_option maxHeartbeats 2000000 in
theorem div64_pos (xh xl y : Nat) (w : World) (hxhL : xh < 18446744073709551616) (hxlL : xl < 18446744073709551616) (hyL : y < 18446744073709551616) (hxy : xh < y) (hx0 : 0 < xh) : Calls Tryd.prog 68 #[.int .u64 (xh : Int), .int .u64 (xl : Int), .int .u64 (y : Int)] w fun e w' => e = .returned (.tuple #[.int .u64 (((xh * 18446744073709551616 + xl) / y : Nat) : Int), .int .u64 (((xh * 18446744073709551616 + xl) % y : Nat) : Int)]) ∧ Below w.heap.size w w' := by
  obtain ⟨s, hs, hlz, hb1, hb2⟩ := bl_bounds hyL (by omega)
  obtain ⟨ys, e_ys⟩ : ∃ z, y * 2 ^ s % 18446744073709551616 = z := ⟨_, rfl⟩
  obtain ⟨n1, e_n1⟩ : ∃ z, ys / 2 ^ 32 = z := ⟨_, rfl⟩
  obtain ⟨n0, e_n0⟩ : ∃ z, ys &&& 4294967295 = z := ⟨_, rfl⟩
  obtain ⟨v1, e_v1⟩ : ∃ z, xh * 2 ^ s % 18446744073709551616 = z := ⟨_, rfl⟩
  obtain ⟨k, e_k⟩ : ∃ z, (64 + 18446744073709551616 - s) % 18446744073709551616 = z := ⟨_, rfl⟩
  obtain ⟨v2, e_v2⟩ : ∃ z, xl / 2 ^ k = z := ⟨_, rfl⟩
  obtain ⟨u, e_u⟩ : ∃ z, v1 ||| v2 = z := ⟨_, rfl⟩
  obtain ⟨wd, e_wd⟩ : ∃ z, xl * 2 ^ s % 18446744073709551616 = z := ⟨_, rfl⟩
  obtain ⟨c1, e_c1⟩ : ∃ z, wd / 2 ^ 32 = z := ⟨_, rfl⟩
  obtain ⟨c0, e_c0⟩ : ∃ z, wd &&& 4294967295 = z := ⟨_, rfl⟩
  obtain ⟨qa, e_qa⟩ : ∃ z, u / n1 = z := ⟨_, rfl⟩
  obtain ⟨m, e_m⟩ : ∃ z, qa * n1 % 18446744073709551616 = z := ⟨_, rfl⟩
  obtain ⟨r, e_r⟩ : ∃ z, (u + 18446744073709551616 - m) % 18446744073709551616 = z := ⟨_, rfl⟩
  have q_ys : y * 2 ^ s = ys := by rw [← e_ys, Nat.mod_eq_of_lt hb2]
  rw [q_ys] at hb1 hb2
  have q_k : k = 64 - s := by omega
  have q_v1 : v1 = xh * 2 ^ s := by
    rw [← e_v1, Nat.mod_eq_of_lt]
    have : xh * 2 ^ s < y * 2 ^ s := Nat.mul_lt_mul_of_pos_right hxy (Nat.two_pow_pos _)
    omega
  have q_n0 : ys % 4294967296 = n0 := by rw [← e_n0]; exact (Nat.and_two_pow_sub_one_eq_mod ys 32).symm
  have q_c0 : wd % 4294967296 = c0 := by rw [← e_c0]; exact (Nat.and_two_pow_sub_one_eq_mod wd 32).symm
  have q_u : u * 18446744073709551616 + wd = (xh * 18446744073709551616 + xl) * 2 ^ s := by rw [← e_u, ← e_wd, ← e_v2, q_v1, q_k]; exact ush hs hxlL
  have q_n1 : ys / 4294967296 = n1 := e_n1
  have q_c1 : wd / 4294967296 = c1 := e_c1
  have hwdL : wd < 18446744073709551616 := by rw [← e_wd]; exact Nat.mod_lt _ (by decide)
  have hu : u < ys := by
    have h1 : (xh * 18446744073709551616 + xl) * 2 ^ s < (y * 18446744073709551616) * 2 ^ s := Nat.mul_lt_mul_of_pos_right (by omega) (Nat.two_pow_pos _)
    rw [Nat.mul_right_comm, q_ys] at h1
    omega
  have hv2L : v2 < 18446744073709551616 := by rw [← e_v2]; exact Nat.lt_of_le_of_lt (Nat.div_le_self _ _) hxlL
  have hv1L : v1 < 18446744073709551616 := by rw [← e_v1]; exact Nat.mod_lt _ (by decide)
  have hqaL : qa < 18446744073709551616 := by rw [← e_qa]; exact Nat.lt_of_le_of_lt (Nat.div_le_self _ _) (by omega)
  have hmL : m < 18446744073709551616 := by rw [← e_m]; exact Nat.mod_lt _ (by decide)
  obtain ⟨K1, ha1, hb1', hc1'⟩ := kstep (u := u) (c := c1) (n1 := n1) (n0 := n0) (D := ys) (by omega) (by omega) (by omega) (by omega) (by omega) hu (by omega) e_qa e_m e_r
  obtain ⟨Q, e_Q⟩ : ∃ z, (u * 4294967296 + c1) / ys = z := ⟨_, rfl⟩
  rw [e_Q] at hc1'
  have hQH : Q < 4294967296 := by rw [← e_Q, Nat.div_lt_iff_lt_mul (by omega)]; omega
  obtain ⟨a1, e_a1⟩ : ∃ z, u * 4294967296 % 18446744073709551616 = z := ⟨_, rfl⟩
  obtain ⟨a2, e_a2⟩ : ∃ z, (a1 + c1) % 18446744073709551616 = z := ⟨_, rfl⟩
  obtain ⟨a3, e_a3⟩ : ∃ z, Q * ys % 18446744073709551616 = z := ⟨_, rfl⟩
  obtain ⟨x, e_x⟩ : ∃ z, (a2 + 18446744073709551616 - a3) % 18446744073709551616 = z := ⟨_, rfl⟩
  obtain ⟨p, e_p⟩ : ∃ z, x / n1 = z := ⟨_, rfl⟩
  obtain ⟨m2, e_m2⟩ : ∃ z, p * n1 % 18446744073709551616 = z := ⟨_, rfl⟩
  obtain ⟨r2, e_r2⟩ : ∃ z, (x + 18446744073709551616 - m2) % 18446744073709551616 = z := ⟨_, rfl⟩
  have q_x := kmod (by omega) hb2 e_Q e_a1 e_a2 e_a3 e_x
  have hxy2 : x < ys := by rw [q_x]; exact Nat.mod_lt _ (by omega)
  obtain ⟨K2, ha2, hb2', hc2'⟩ := kstep (u := x) (c := c0) (n1 := n1) (n0 := n0) (D := ys) (by omega) (by omega) (by omega) (by omega) (by omega) hxy2 (by omega) e_p e_m2 e_r2
  obtain ⟨Z, e_Z⟩ : ∃ z, (x * 4294967296 + c0) / ys = z := ⟨_, rfl⟩
  rw [e_Z] at hc2'
  have hZH : Z < 4294967296 := by rw [← e_Z, Nat.div_lt_iff_lt_mul (by omega)]; omega
  obtain ⟨b1, e_b1⟩ : ∃ z, Q * 4294967296 % 18446744073709551616 = z := ⟨_, rfl⟩
  obtain ⟨b2, e_b2⟩ : ∃ z, (b1 + Z) % 18446744073709551616 = z := ⟨_, rfl⟩
  obtain ⟨b3, e_b3⟩ : ∃ z, x * 4294967296 % 18446744073709551616 = z := ⟨_, rfl⟩
  obtain ⟨b4, e_b4⟩ : ∃ z, (b3 + c0) % 18446744073709551616 = z := ⟨_, rfl⟩
  obtain ⟨b5, e_b5⟩ : ∃ z, Z * ys % 18446744073709551616 = z := ⟨_, rfl⟩
  obtain ⟨b6, e_b6⟩ : ∃ z, (b4 + 18446744073709551616 - b5) % 18446744073709551616 = z := ⟨_, rfl⟩
  obtain ⟨b7, e_b7⟩ : ∃ z, b6 / 2 ^ s = z := ⟨_, rfl⟩
  have q_b := kmod (by omega) hb2 e_Z e_b3 e_b4 e_b5 e_b6
  obtain ⟨f1, f2⟩ := dfin (X := (xh * 18446744073709551616 + xl)) (by omega) q_ys (by rw [← q_u]; omega) e_Q q_x e_Z q_b
  have g1 : b2 = (xh * 18446744073709551616 + xl) / y := by omega
  have g2 : b7 = (xh * 18446744073709551616 + xl) % y := by rw [← e_b7]; exact f2
  rw [← g1, ← g2]
  have hpL : p < 18446744073709551616 := by rw [← e_p]; exact Nat.lt_of_le_of_lt (Nat.div_le_self _ _) (by omega)
  have hb7L : b7 < 18446744073709551616 := by rw [← e_b7]; exact Nat.lt_of_le_of_lt (Nat.div_le_self _ _) (by omega)
  refine div64_core xh xl y s ys n1 n0 v1 k v2 u wd c1 c0 qa m r Q a1 a2 a3 x p m2 r2 Z b1 b2 b3 b4 b5 b6 b7 w (by omega) (by omega) (by omega) (by omega) (by omega) (by omega) (by omega) (by omega) (by omega) (by omega) (by omega) (by omega) (by omega) (by omega) (by omega) (by omega) (by omega) (by omega) (by omega) (by omega) (by omega) (by omega) (by omega) (by omega) (by omega) (by omega) (by omega) (by omega) (by omega) (by omega) (by omega) (by omega) (by omega) (by omega) hxy hx0 (by omega) (by omega) (by omega) hlz e_ys e_n1 e_n0 e_v1 e_k e_v2 e_u e_wd e_c1 e_c0 e_qa e_m e_r e_a1 e_a2 e_a3 e_x e_p e_m2 e_r2 e_b1 e_b2 e_b3 e_b4 e_b5 e_b6 e_b7 ?_ ?_
  · exact dk1_loop_out w xh xl y s ys n1 n0 v1 k v2 u wd c1 c0 qa m r Q a1 a2 a3 x p m2 r2 Z b1 b2 b3 b4 b5 b6 b7 (by omega) (by omega) (by omega) hqaL K1 ha1 hb1' hc1'
  · exact dk2_loop_out w xh xl y s ys n1 n0 v1 k v2 u wd c1 c0 qa m r Q a1 a2 a3 x p m2 r2 Z b1 b2 b3 b4 b5 b6 b7 (by omega) (by omega) (by omega) hpL K2 ha2 hb2' hc2'
theorem div64_zero (xl y : Nat) (w : World) (hxlL : xl < 18446744073709551616) (hyL : y < 18446744073709551616) (hy0 : 0 < y) : Calls Tryd.prog 68 #[.int .u64 0, .int .u64 ((xl : Int)), .int .u64 ((y : Int))] w fun e w' => e = .returned (.tuple #[.int .u64 (((((xl) / (y)) : Nat) : Int)), .int .u64 (((((xl) % (y)) : Nat) : Int))]) ∧ Below w.heap.size w w' := by
  exact run_know (P := Tryd.prog) (ρ := env [(xl : Int), (y : Int), ((((xl) / (y)) : Nat) : Int), ((((xl) % (y)) : Nat) : Int)] [] w) (o := { bin := [(.eql, 45, .int .u64 (sn 1), .int .u64 0, .bool false), (.leq, 45, .int .u64 (sn 1), .int .u64 0, .bool false), (.quo, 45, syk .u64 0, syk .u64 1, syk .u64 2), (.rem, 45, syk .u64 0, syk .u64 1, syk .u64 3)] }) ⟨(all_cons (cmpOK (op := .eql) (ty := 45) (k := .u64) (n := (sn 1)) (m := 0) (t := false) (a := ((y : Int))) (b := 0) (by kernel_rfl) (by kernel_rfl) (congrArg some ((show (((y : Int)) == 0) = false from (by simp only [beq_eq_false_iff_ne, ne_eq]; omega))))) (all_cons (cmpOK (op := .leq) (ty := 45) (k := .u64) (n := (sn 1)) (m := 0) (t := false) (a := ((y : Int))) (b := 0) (by kernel_rfl) (by kernel_rfl) (congrArg some ((show decide (((y : Int)) ≤ 0) = false from (by simp only [decide_eq_false_iff_not]; omega))))) (all_cons (binK (op := .quo) (ty := 45) (x := syk .u64 0) (y := syk .u64 1) (r := syk .u64 2) (by kernel_rfl) (k := .u64) (l := .u64) (a := ((xl : Int))) (b := ((y : Int))) (v := .int .u64 (((((xl) / (y)) : Nat) : Int))) (by kernel_rfl) (by kernel_rfl) (by kernel_rfl) (fun w => b_quo (a := xl) (b := y) hxlL (by omega) w)) (all_cons (binK (op := .rem) (ty := 45) (x := syk .u64 0) (y := syk .u64 1) (r := syk .u64 3) (by kernel_rfl) (k := .u64) (l := .u64) (a := ((xl : Int))) (b := ((y : Int))) (v := .int .u64 (((((xl) % (y)) : Nat) : Int))) (by kernel_rfl) (by kernel_rfl) (by kernel_rfl) (fun w => b_rem (a := xl) (b := y) (by omega) w)) all_nil)))), all_nil, all_nil, all_nil, all_nil, all_nil, all_nil, all_nil, all_nil, all_nil, all_nil, all_nil, all_nil, all_nil, all_nil, all_nil, all_nil⟩ 1000 50 68 [.int .u64 0, syk .u64 0, syk .u64 1] (.tuple #[syk .u64 2, syk .u64 3]) (args' := #[.int .u64 0, .int .u64 ((xl : Int)), .int .u64 ((y : Int))]) (v' := .tuple #[.int .u64 (((((xl) / (y)) : Nat) : Int)), .int .u64 (((((xl) % (y)) : Nat) : Int))]) (by kernel_rfl) (by kernel_rfl) (by kernel_rfl) w (Below.refl _ _)
theorem div64_any (xh xl y : Nat) (w : World) (hxhL : xh < 18446744073709551616) (hxlL : xl < 18446744073709551616) (hyL : y < 18446744073709551616) (hxy : xh < y) : Calls Tryd.prog 68 #[.int .u64 (xh : Int), .int .u64 (xl : Int), .int .u64 (y : Int)] w fun e w' => e = .returned (.tuple #[.int .u64 (((xh * 18446744073709551616 + xl) / y : Nat) : Int), .int .u64 (((xh * 18446744073709551616 + xl) % y : Nat) : Int)]) ∧ Below w.heap.size w w' := by
  rcases Nat.eq_zero_or_pos xh with rfl | h
  · have q := div64_zero xl y w hxlL hyL (by omega)
    rw [show (0 * 18446744073709551616 + xl) = xl by omega]
    exact q
  · exact div64_pos xh xl y w hxhL hxlL hyL hxy h
end Go.Proofs.YtdmdpkmdilipaaaDoor.Ev
