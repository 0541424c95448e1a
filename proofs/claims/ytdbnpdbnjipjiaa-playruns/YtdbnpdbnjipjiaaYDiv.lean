/-
  Layer 15 (play): the library's division of two words by a speed.
-/
import Derived.Test.YtdbnpdbnjipjiaaYBits
import Derived.BigQuiet
namespace Go.Proofs.Ytdbnpdbnjipjiaa
open Go.RowKit Go.Lib
set_option maxRecDepth 100000

/-- A quotient of two digits by one, and what is left. -/
theorem y_quo (A N : Int) (h0 : 0 ≤ A) (hN : 0 < N) (h : A < N * 4294967296) : ∃ Q R, A.tdiv N = Q ∧ Q * N = A - R ∧ 0 ≤ R ∧ R < N ∧ 0 ≤ Q ∧ Q < 4294967296 := by
  refine ⟨A / N, A % N, Int.tdiv_eq_ediv_of_nonneg h0, ?_, Int.emod_nonneg _ (by omega), Int.emod_lt_of_pos _ hN, Int.ediv_nonneg h0 (by omega), Int.ediv_lt_of_lt_mul hN (by rw [Int.mul_comm]; exact h)⟩
  have := Int.emod_add_mul_ediv A N
  rw [Int.mul_comm]
  omega
theorem y_quo_eq (U y q z : Int) (hy : 0 < y) (hz : q * y = z) (h0 : z ≤ U) (h1 : U < z + y) : U / y = q := by
  have a : q ≤ U / y := Int.le_ediv_of_mul_le hy (by omega)
  have b : U / y < q + 1 := Int.ediv_lt_of_lt_mul hy (by rw [Int.add_mul, Int.one_mul]; omega)
  omega
theorem y_or_join (a b : Int) (s : Nat) (ha : 0 ≤ a) (hb : 0 ≤ b) (hm : a % (2 ^ s : Nat) = 0) (hl : b < (2 ^ s : Nat)) (h : a + b < 18446744073709551616) : bits .or .u64 a b = a + b := by
  obtain ⟨m, rfl⟩ := Int.eq_ofNat_of_zero_le ha
  obtain ⟨n, rfl⟩ := Int.eq_ofNat_of_zero_le hb
  rw [u64_or_nat _ _ (by omega) (by omega)]
  have h1 : m = 2 ^ s * (m / 2 ^ s) := by
    have : m % 2 ^ s = 0 := by omega
    have := Nat.div_add_mod m (2 ^ s)
    omega
  rw [h1, ← Nat.two_pow_add_eq_or_of_lt (by omega : n < 2 ^ s)]
  omega

set_option maxHeartbeats 2000000 in
theorem div_54 (w : World) (hi lo y : Int) (h0 : 0 ≤ hi) (h1 : hi < y) (l0 : 0 ≤ lo) (l1 : lo < 18446744073709551616) (y0 : 512 ≤ y) (y1 : y < 1024) (hy : y ≤ 1000) (hb : Lib.bitLen y.toNat = 10) (h : hi ≠ 0) :
    Calls Try.prog 34 #[.int .u64 hi, .int .u64 lo, .int .u64 y] w fun e w' => (∃ r, e = .returned (.tuple #[.int .u64 ((18446744073709551616 * hi + lo) / y), .int .u64 r])) ∧ w' = w := by
  have HL := Lib.hid (fun w => lead_ok w y (by omega) hy)
  rw [hb] at HL
  have g1 : (y == 0) = false := beq_eq_false_iff_ne.2 (by omega)
  have g2 : decide (y ≤ hi) = false := decide_eq_false (by omega)
  have g3 : (hi == 0) = false := beq_eq_false_iff_ne.2 h
  obtain ⟨Y, hY⟩ : ∃ Y, y * 18014398509481984 = Y := ⟨_, rfl⟩
  obtain ⟨N, hN⟩ : ∃ N, N = y * 4194304 := ⟨_, rfl⟩
  obtain ⟨A, hA⟩ : ∃ A, A = hi * 18014398509481984 + lo / 1024 := ⟨_, rfl⟩
  obtain ⟨V, hV⟩ : ∃ V, V = lo % 1024 * 18014398509481984 := ⟨_, rfl⟩
  obtain ⟨V1, hV1⟩ : ∃ V1, V / 4294967296 = V1 := ⟨_, rfl⟩
  obtain ⟨V0, hV0⟩ : ∃ V0, V % 4294967296 = V0 := ⟨_, rfl⟩
  have NY : Y = N * 4294967296 := by omega
  have bN : 0 < N ∧ N < 4294967296 := by omega
  have bY : 0 < Y ∧ Y < 18446744073709551616 := by omega
  have bA : 0 ≤ A ∧ A < N * 4294967296 := by omega
  have bA' : A < 18446744073709551616 := by omega
  have bV : 0 ≤ V ∧ V < 18446744073709551616 := by omega
  have bV1 : 0 ≤ V1 ∧ V1 < 4294967296 := by omega
  have bV0 : 0 ≤ V0 ∧ V0 < 4294967296 := by omega
  obtain ⟨Q1, R1, a1, a2, a3, a4, a5, a6⟩ := y_quo A N bA.1 bN.1 bA.2
  obtain ⟨M1, hM1⟩ : ∃ M1, M1 = A - R1 := ⟨_, rfl⟩
  rw [← hM1] at a2
  obtain ⟨B, hB⟩ : ∃ B, B = R1 * 4294967296 + V1 := ⟨_, rfl⟩
  have bB : 0 ≤ B ∧ B < N * 4294967296 := by omega
  have bB' : B < 18446744073709551616 := by omega
  obtain ⟨Q0, R0, c1, c2, c3, c4, c5, c6⟩ := y_quo B N bB.1 bN.1 bB.2
  obtain ⟨M0, hM0⟩ : ∃ M0, M0 = B - R0 := ⟨_, rfl⟩
  rw [← hM0] at c2
  have hQ : (18446744073709551616 * hi + lo) / y = Q1 * 4294967296 + Q0 := by
    refine y_quo_eq _ _ _ (Q1 * y * 4294967296 + Q0 * y) (by omega) ?_ ?_ ?_
    · rw [Int.add_mul, Int.mul_assoc, Int.mul_comm 4294967296 y, ← Int.mul_assoc]
    all_goals
      have k1 : Q1 * y * 4194304 = M1 := by rw [← a2, hN, Int.mul_assoc]
      have k0 : Q0 * y * 4194304 = M0 := by rw [← c2, hN, Int.mul_assoc]
      generalize Q1 * y = z1 at *
      generalize Q0 * y = z0 at *
      clear a1 a2 c1 c2 HL g1 g2 g3
      omega
  have HQ := Lib.hid hQ
  have f1 : Y / 4294967296 = N := by omega
  have f2 : bits .and .u64 Y 4294967295 = 0 := by rw [u64_mask32 Y (by omega) (by omega)]; omega
  have f3 : bits .or .u64 (hi * 18014398509481984) (lo / 1024) = A := by rw [y_or_join (hi * 18014398509481984) (lo / 1024) 54 (by omega) (by omega) (by simp only [Nat.reducePow]; omega) (by simp only [Nat.reducePow]; omega) (by omega)]; exact hA.symm
  have f4 : IntKind.u64.wrap (lo * 18014398509481984) = V := by rw [IntKind.wrap_u64]; omega
  have f5 : bits .and .u64 V 4294967295 = V0 := by rw [u64_mask32 V (by omega) (by omega)]; exact hV0
  have f6 : A - M1 = R1 := by omega
  have f7 : B - M0 = R0 := by omega
  obtain ⟨W1, hW1⟩ : ∃ W1, A * 4294967296 % 18446744073709551616 = W1 := ⟨_, rfl⟩
  obtain ⟨W2, hW2⟩ : ∃ W2, (W1 + V1) % 18446744073709551616 = W2 := ⟨_, rfl⟩
  obtain ⟨P1, hP1⟩ : ∃ P1, M1 * 4294967296 % 18446744073709551616 = P1 := ⟨_, rfl⟩
  have f8 : IntKind.u64.wrap (A * 4294967296) = W1 := by rw [IntKind.wrap_u64, hW1]
  have f9 : IntKind.u64.wrap (W1 + V1) = W2 := by rw [IntKind.wrap_u64, hW2]
  have fa : IntKind.u64.wrap (Q1 * Y) = P1 := by rw [IntKind.wrap_u64, NY, ← Int.mul_assoc, a2, hP1]
  have fb : IntKind.u64.wrap (W2 - P1) = B := by rw [IntKind.wrap_u64]; omega
  have t1 : decide (4294967296 ≤ Q1) = false := decide_eq_false (by omega)
  have t2 : decide (4294967296 ≤ Q0) = false := decide_eq_false (by omega)
  have t3 : decide (4294967296 * R1 + V1 < 0) = false := decide_eq_false (by omega)
  have t4 : decide (4294967296 * R0 + V0 < 0) = false := decide_eq_false (by omega)
  have nM1 : 0 ≤ M1 := by rw [← a2]; exact Int.mul_nonneg a5 (by omega)
  have nM0 : 0 ≤ M0 := by rw [← c2]; exact Int.mul_nonneg c5 (by omega)
  have bM1 : M1 ≤ A := by omega
  have bM0 : M0 ≤ B := by omega
  have bW : 0 ≤ W1 ∧ W1 < 18446744073709551616 ∧ 0 ≤ W2 ∧ W2 < 18446744073709551616 ∧ 0 ≤ P1 ∧ P1 < 18446744073709551616 := by omega
  have bhi : hi * 18014398509481984 < 18446744073709551616 := by omega
  have bR : R1 < 4294967296 ∧ R0 < 4294967296 := by omega
  rw [HQ.out]
  clear hb y1 y0 h hA hV hM1 hM0 hB hW1 hW2 hP1 hN NY hV0 hQ bA bB HQ
  go_enter Try.func34, Try.ntmps34
  go_wp2_with (refine (HL.out _).mono ?_; rintro e w1 ⟨rfl, hw⟩; rw [hw]; clear hw w1)
  go_loopw [15, 16] (fun a b wr => a = .int .u64 Q1 ∧ b = .int .u64 R1 ∧ wr = w) (fun _ _ _ => 0)
  case atStart => exact ⟨rfl, rfl, rfl⟩
  case round =>
    obtain ⟨rfl, rfl, rfl⟩ := hrel
    go_wp2_with fail
    go_loopw [18, 16] (fun a b wz => a = .int .u64 Q0 ∧ b = .int .u64 R0 ∧ wz = wr) (fun _ _ _ => 0)
    case atStart => exact ⟨rfl, rfl, rfl⟩
    case round =>
      obtain ⟨rfl, rfl, rfl⟩ := hrel
      go_wp2_with fail
      go_ret2
      exact ⟨⟨_, rfl⟩, rfl⟩

set_option maxHeartbeats 2000000 in
theorem div_55 (w : World) (hi lo y : Int) (h0 : 0 ≤ hi) (h1 : hi < y) (l0 : 0 ≤ lo) (l1 : lo < 18446744073709551616) (y0 : 256 ≤ y) (y1 : y < 512) (hy : y ≤ 1000) (hb : Lib.bitLen y.toNat = 9) (h : hi ≠ 0) :
    Calls Try.prog 34 #[.int .u64 hi, .int .u64 lo, .int .u64 y] w fun e w' => (∃ r, e = .returned (.tuple #[.int .u64 ((18446744073709551616 * hi + lo) / y), .int .u64 r])) ∧ w' = w := by
  have HL := Lib.hid (fun w => lead_ok w y (by omega) hy)
  rw [hb] at HL
  have g1 : (y == 0) = false := beq_eq_false_iff_ne.2 (by omega)
  have g2 : decide (y ≤ hi) = false := decide_eq_false (by omega)
  have g3 : (hi == 0) = false := beq_eq_false_iff_ne.2 h
  obtain ⟨Y, hY⟩ : ∃ Y, y * 36028797018963968 = Y := ⟨_, rfl⟩
  obtain ⟨N, hN⟩ : ∃ N, N = y * 8388608 := ⟨_, rfl⟩
  obtain ⟨A, hA⟩ : ∃ A, A = hi * 36028797018963968 + lo / 512 := ⟨_, rfl⟩
  obtain ⟨V, hV⟩ : ∃ V, V = lo % 512 * 36028797018963968 := ⟨_, rfl⟩
  obtain ⟨V1, hV1⟩ : ∃ V1, V / 4294967296 = V1 := ⟨_, rfl⟩
  obtain ⟨V0, hV0⟩ : ∃ V0, V % 4294967296 = V0 := ⟨_, rfl⟩
  have NY : Y = N * 4294967296 := by omega
  have bN : 0 < N ∧ N < 4294967296 := by omega
  have bY : 0 < Y ∧ Y < 18446744073709551616 := by omega
  have bA : 0 ≤ A ∧ A < N * 4294967296 := by omega
  have bA' : A < 18446744073709551616 := by omega
  have bV : 0 ≤ V ∧ V < 18446744073709551616 := by omega
  have bV1 : 0 ≤ V1 ∧ V1 < 4294967296 := by omega
  have bV0 : 0 ≤ V0 ∧ V0 < 4294967296 := by omega
  obtain ⟨Q1, R1, a1, a2, a3, a4, a5, a6⟩ := y_quo A N bA.1 bN.1 bA.2
  obtain ⟨M1, hM1⟩ : ∃ M1, M1 = A - R1 := ⟨_, rfl⟩
  rw [← hM1] at a2
  obtain ⟨B, hB⟩ : ∃ B, B = R1 * 4294967296 + V1 := ⟨_, rfl⟩
  have bB : 0 ≤ B ∧ B < N * 4294967296 := by omega
  have bB' : B < 18446744073709551616 := by omega
  obtain ⟨Q0, R0, c1, c2, c3, c4, c5, c6⟩ := y_quo B N bB.1 bN.1 bB.2
  obtain ⟨M0, hM0⟩ : ∃ M0, M0 = B - R0 := ⟨_, rfl⟩
  rw [← hM0] at c2
  have hQ : (18446744073709551616 * hi + lo) / y = Q1 * 4294967296 + Q0 := by
    refine y_quo_eq _ _ _ (Q1 * y * 4294967296 + Q0 * y) (by omega) ?_ ?_ ?_
    · rw [Int.add_mul, Int.mul_assoc, Int.mul_comm 4294967296 y, ← Int.mul_assoc]
    all_goals
      have k1 : Q1 * y * 8388608 = M1 := by rw [← a2, hN, Int.mul_assoc]
      have k0 : Q0 * y * 8388608 = M0 := by rw [← c2, hN, Int.mul_assoc]
      generalize Q1 * y = z1 at *
      generalize Q0 * y = z0 at *
      clear a1 a2 c1 c2 HL g1 g2 g3
      omega
  have HQ := Lib.hid hQ
  have f1 : Y / 4294967296 = N := by omega
  have f2 : bits .and .u64 Y 4294967295 = 0 := by rw [u64_mask32 Y (by omega) (by omega)]; omega
  have f3 : bits .or .u64 (hi * 36028797018963968) (lo / 512) = A := by rw [y_or_join (hi * 36028797018963968) (lo / 512) 55 (by omega) (by omega) (by simp only [Nat.reducePow]; omega) (by simp only [Nat.reducePow]; omega) (by omega)]; exact hA.symm
  have f4 : IntKind.u64.wrap (lo * 36028797018963968) = V := by rw [IntKind.wrap_u64]; omega
  have f5 : bits .and .u64 V 4294967295 = V0 := by rw [u64_mask32 V (by omega) (by omega)]; exact hV0
  have f6 : A - M1 = R1 := by omega
  have f7 : B - M0 = R0 := by omega
  obtain ⟨W1, hW1⟩ : ∃ W1, A * 4294967296 % 18446744073709551616 = W1 := ⟨_, rfl⟩
  obtain ⟨W2, hW2⟩ : ∃ W2, (W1 + V1) % 18446744073709551616 = W2 := ⟨_, rfl⟩
  obtain ⟨P1, hP1⟩ : ∃ P1, M1 * 4294967296 % 18446744073709551616 = P1 := ⟨_, rfl⟩
  have f8 : IntKind.u64.wrap (A * 4294967296) = W1 := by rw [IntKind.wrap_u64, hW1]
  have f9 : IntKind.u64.wrap (W1 + V1) = W2 := by rw [IntKind.wrap_u64, hW2]
  have fa : IntKind.u64.wrap (Q1 * Y) = P1 := by rw [IntKind.wrap_u64, NY, ← Int.mul_assoc, a2, hP1]
  have fb : IntKind.u64.wrap (W2 - P1) = B := by rw [IntKind.wrap_u64]; omega
  have t1 : decide (4294967296 ≤ Q1) = false := decide_eq_false (by omega)
  have t2 : decide (4294967296 ≤ Q0) = false := decide_eq_false (by omega)
  have t3 : decide (4294967296 * R1 + V1 < 0) = false := decide_eq_false (by omega)
  have t4 : decide (4294967296 * R0 + V0 < 0) = false := decide_eq_false (by omega)
  have nM1 : 0 ≤ M1 := by rw [← a2]; exact Int.mul_nonneg a5 (by omega)
  have nM0 : 0 ≤ M0 := by rw [← c2]; exact Int.mul_nonneg c5 (by omega)
  have bM1 : M1 ≤ A := by omega
  have bM0 : M0 ≤ B := by omega
  have bW : 0 ≤ W1 ∧ W1 < 18446744073709551616 ∧ 0 ≤ W2 ∧ W2 < 18446744073709551616 ∧ 0 ≤ P1 ∧ P1 < 18446744073709551616 := by omega
  have bhi : hi * 36028797018963968 < 18446744073709551616 := by omega
  have bR : R1 < 4294967296 ∧ R0 < 4294967296 := by omega
  rw [HQ.out]
  clear hb y1 y0 h hA hV hM1 hM0 hB hW1 hW2 hP1 hN NY hV0 hQ bA bB HQ
  go_enter Try.func34, Try.ntmps34
  go_wp2_with (refine (HL.out _).mono ?_; rintro e w1 ⟨rfl, hw⟩; rw [hw]; clear hw w1)
  go_loopw [15, 16] (fun a b wr => a = .int .u64 Q1 ∧ b = .int .u64 R1 ∧ wr = w) (fun _ _ _ => 0)
  case atStart => exact ⟨rfl, rfl, rfl⟩
  case round =>
    obtain ⟨rfl, rfl, rfl⟩ := hrel
    go_wp2_with fail
    go_loopw [18, 16] (fun a b wz => a = .int .u64 Q0 ∧ b = .int .u64 R0 ∧ wz = wr) (fun _ _ _ => 0)
    case atStart => exact ⟨rfl, rfl, rfl⟩
    case round =>
      obtain ⟨rfl, rfl, rfl⟩ := hrel
      go_wp2_with fail
      go_ret2
      exact ⟨⟨_, rfl⟩, rfl⟩

set_option maxHeartbeats 2000000 in
theorem div_56 (w : World) (hi lo y : Int) (h0 : 0 ≤ hi) (h1 : hi < y) (l0 : 0 ≤ lo) (l1 : lo < 18446744073709551616) (y0 : 128 ≤ y) (y1 : y < 256) (hy : y ≤ 1000) (hb : Lib.bitLen y.toNat = 8) (h : hi ≠ 0) :
    Calls Try.prog 34 #[.int .u64 hi, .int .u64 lo, .int .u64 y] w fun e w' => (∃ r, e = .returned (.tuple #[.int .u64 ((18446744073709551616 * hi + lo) / y), .int .u64 r])) ∧ w' = w := by
  have HL := Lib.hid (fun w => lead_ok w y (by omega) hy)
  rw [hb] at HL
  have g1 : (y == 0) = false := beq_eq_false_iff_ne.2 (by omega)
  have g2 : decide (y ≤ hi) = false := decide_eq_false (by omega)
  have g3 : (hi == 0) = false := beq_eq_false_iff_ne.2 h
  obtain ⟨Y, hY⟩ : ∃ Y, y * 72057594037927936 = Y := ⟨_, rfl⟩
  obtain ⟨N, hN⟩ : ∃ N, N = y * 16777216 := ⟨_, rfl⟩
  obtain ⟨A, hA⟩ : ∃ A, A = hi * 72057594037927936 + lo / 256 := ⟨_, rfl⟩
  obtain ⟨V, hV⟩ : ∃ V, V = lo % 256 * 72057594037927936 := ⟨_, rfl⟩
  obtain ⟨V1, hV1⟩ : ∃ V1, V / 4294967296 = V1 := ⟨_, rfl⟩
  obtain ⟨V0, hV0⟩ : ∃ V0, V % 4294967296 = V0 := ⟨_, rfl⟩
  have NY : Y = N * 4294967296 := by omega
  have bN : 0 < N ∧ N < 4294967296 := by omega
  have bY : 0 < Y ∧ Y < 18446744073709551616 := by omega
  have bA : 0 ≤ A ∧ A < N * 4294967296 := by omega
  have bA' : A < 18446744073709551616 := by omega
  have bV : 0 ≤ V ∧ V < 18446744073709551616 := by omega
  have bV1 : 0 ≤ V1 ∧ V1 < 4294967296 := by omega
  have bV0 : 0 ≤ V0 ∧ V0 < 4294967296 := by omega
  obtain ⟨Q1, R1, a1, a2, a3, a4, a5, a6⟩ := y_quo A N bA.1 bN.1 bA.2
  obtain ⟨M1, hM1⟩ : ∃ M1, M1 = A - R1 := ⟨_, rfl⟩
  rw [← hM1] at a2
  obtain ⟨B, hB⟩ : ∃ B, B = R1 * 4294967296 + V1 := ⟨_, rfl⟩
  have bB : 0 ≤ B ∧ B < N * 4294967296 := by omega
  have bB' : B < 18446744073709551616 := by omega
  obtain ⟨Q0, R0, c1, c2, c3, c4, c5, c6⟩ := y_quo B N bB.1 bN.1 bB.2
  obtain ⟨M0, hM0⟩ : ∃ M0, M0 = B - R0 := ⟨_, rfl⟩
  rw [← hM0] at c2
  have hQ : (18446744073709551616 * hi + lo) / y = Q1 * 4294967296 + Q0 := by
    refine y_quo_eq _ _ _ (Q1 * y * 4294967296 + Q0 * y) (by omega) ?_ ?_ ?_
    · rw [Int.add_mul, Int.mul_assoc, Int.mul_comm 4294967296 y, ← Int.mul_assoc]
    all_goals
      have k1 : Q1 * y * 16777216 = M1 := by rw [← a2, hN, Int.mul_assoc]
      have k0 : Q0 * y * 16777216 = M0 := by rw [← c2, hN, Int.mul_assoc]
      generalize Q1 * y = z1 at *
      generalize Q0 * y = z0 at *
      clear a1 a2 c1 c2 HL g1 g2 g3
      omega
  have HQ := Lib.hid hQ
  have f1 : Y / 4294967296 = N := by omega
  have f2 : bits .and .u64 Y 4294967295 = 0 := by rw [u64_mask32 Y (by omega) (by omega)]; omega
  have f3 : bits .or .u64 (hi * 72057594037927936) (lo / 256) = A := by rw [y_or_join (hi * 72057594037927936) (lo / 256) 56 (by omega) (by omega) (by simp only [Nat.reducePow]; omega) (by simp only [Nat.reducePow]; omega) (by omega)]; exact hA.symm
  have f4 : IntKind.u64.wrap (lo * 72057594037927936) = V := by rw [IntKind.wrap_u64]; omega
  have f5 : bits .and .u64 V 4294967295 = V0 := by rw [u64_mask32 V (by omega) (by omega)]; exact hV0
  have f6 : A - M1 = R1 := by omega
  have f7 : B - M0 = R0 := by omega
  obtain ⟨W1, hW1⟩ : ∃ W1, A * 4294967296 % 18446744073709551616 = W1 := ⟨_, rfl⟩
  obtain ⟨W2, hW2⟩ : ∃ W2, (W1 + V1) % 18446744073709551616 = W2 := ⟨_, rfl⟩
  obtain ⟨P1, hP1⟩ : ∃ P1, M1 * 4294967296 % 18446744073709551616 = P1 := ⟨_, rfl⟩
  have f8 : IntKind.u64.wrap (A * 4294967296) = W1 := by rw [IntKind.wrap_u64, hW1]
  have f9 : IntKind.u64.wrap (W1 + V1) = W2 := by rw [IntKind.wrap_u64, hW2]
  have fa : IntKind.u64.wrap (Q1 * Y) = P1 := by rw [IntKind.wrap_u64, NY, ← Int.mul_assoc, a2, hP1]
  have fb : IntKind.u64.wrap (W2 - P1) = B := by rw [IntKind.wrap_u64]; omega
  have t1 : decide (4294967296 ≤ Q1) = false := decide_eq_false (by omega)
  have t2 : decide (4294967296 ≤ Q0) = false := decide_eq_false (by omega)
  have t3 : decide (4294967296 * R1 + V1 < 0) = false := decide_eq_false (by omega)
  have t4 : decide (4294967296 * R0 + V0 < 0) = false := decide_eq_false (by omega)
  have nM1 : 0 ≤ M1 := by rw [← a2]; exact Int.mul_nonneg a5 (by omega)
  have nM0 : 0 ≤ M0 := by rw [← c2]; exact Int.mul_nonneg c5 (by omega)
  have bM1 : M1 ≤ A := by omega
  have bM0 : M0 ≤ B := by omega
  have bW : 0 ≤ W1 ∧ W1 < 18446744073709551616 ∧ 0 ≤ W2 ∧ W2 < 18446744073709551616 ∧ 0 ≤ P1 ∧ P1 < 18446744073709551616 := by omega
  have bhi : hi * 72057594037927936 < 18446744073709551616 := by omega
  have bR : R1 < 4294967296 ∧ R0 < 4294967296 := by omega
  rw [HQ.out]
  clear hb y1 y0 h hA hV hM1 hM0 hB hW1 hW2 hP1 hN NY hV0 hQ bA bB HQ
  go_enter Try.func34, Try.ntmps34
  go_wp2_with (refine (HL.out _).mono ?_; rintro e w1 ⟨rfl, hw⟩; rw [hw]; clear hw w1)
  go_loopw [15, 16] (fun a b wr => a = .int .u64 Q1 ∧ b = .int .u64 R1 ∧ wr = w) (fun _ _ _ => 0)
  case atStart => exact ⟨rfl, rfl, rfl⟩
  case round =>
    obtain ⟨rfl, rfl, rfl⟩ := hrel
    go_wp2_with fail
    go_loopw [18, 16] (fun a b wz => a = .int .u64 Q0 ∧ b = .int .u64 R0 ∧ wz = wr) (fun _ _ _ => 0)
    case atStart => exact ⟨rfl, rfl, rfl⟩
    case round =>
      obtain ⟨rfl, rfl, rfl⟩ := hrel
      go_wp2_with fail
      go_ret2
      exact ⟨⟨_, rfl⟩, rfl⟩

set_option maxHeartbeats 2000000 in
theorem div_57 (w : World) (hi lo y : Int) (h0 : 0 ≤ hi) (h1 : hi < y) (l0 : 0 ≤ lo) (l1 : lo < 18446744073709551616) (y0 : 64 ≤ y) (y1 : y < 128) (hy : y ≤ 1000) (hb : Lib.bitLen y.toNat = 7) (h : hi ≠ 0) :
    Calls Try.prog 34 #[.int .u64 hi, .int .u64 lo, .int .u64 y] w fun e w' => (∃ r, e = .returned (.tuple #[.int .u64 ((18446744073709551616 * hi + lo) / y), .int .u64 r])) ∧ w' = w := by
  have HL := Lib.hid (fun w => lead_ok w y (by omega) hy)
  rw [hb] at HL
  have g1 : (y == 0) = false := beq_eq_false_iff_ne.2 (by omega)
  have g2 : decide (y ≤ hi) = false := decide_eq_false (by omega)
  have g3 : (hi == 0) = false := beq_eq_false_iff_ne.2 h
  obtain ⟨Y, hY⟩ : ∃ Y, y * 144115188075855872 = Y := ⟨_, rfl⟩
  obtain ⟨N, hN⟩ : ∃ N, N = y * 33554432 := ⟨_, rfl⟩
  obtain ⟨A, hA⟩ : ∃ A, A = hi * 144115188075855872 + lo / 128 := ⟨_, rfl⟩
  obtain ⟨V, hV⟩ : ∃ V, V = lo % 128 * 144115188075855872 := ⟨_, rfl⟩
  obtain ⟨V1, hV1⟩ : ∃ V1, V / 4294967296 = V1 := ⟨_, rfl⟩
  obtain ⟨V0, hV0⟩ : ∃ V0, V % 4294967296 = V0 := ⟨_, rfl⟩
  have NY : Y = N * 4294967296 := by omega
  have bN : 0 < N ∧ N < 4294967296 := by omega
  have bY : 0 < Y ∧ Y < 18446744073709551616 := by omega
  have bA : 0 ≤ A ∧ A < N * 4294967296 := by omega
  have bA' : A < 18446744073709551616 := by omega
  have bV : 0 ≤ V ∧ V < 18446744073709551616 := by omega
  have bV1 : 0 ≤ V1 ∧ V1 < 4294967296 := by omega
  have bV0 : 0 ≤ V0 ∧ V0 < 4294967296 := by omega
  obtain ⟨Q1, R1, a1, a2, a3, a4, a5, a6⟩ := y_quo A N bA.1 bN.1 bA.2
  obtain ⟨M1, hM1⟩ : ∃ M1, M1 = A - R1 := ⟨_, rfl⟩
  rw [← hM1] at a2
  obtain ⟨B, hB⟩ : ∃ B, B = R1 * 4294967296 + V1 := ⟨_, rfl⟩
  have bB : 0 ≤ B ∧ B < N * 4294967296 := by omega
  have bB' : B < 18446744073709551616 := by omega
  obtain ⟨Q0, R0, c1, c2, c3, c4, c5, c6⟩ := y_quo B N bB.1 bN.1 bB.2
  obtain ⟨M0, hM0⟩ : ∃ M0, M0 = B - R0 := ⟨_, rfl⟩
  rw [← hM0] at c2
  have hQ : (18446744073709551616 * hi + lo) / y = Q1 * 4294967296 + Q0 := by
    refine y_quo_eq _ _ _ (Q1 * y * 4294967296 + Q0 * y) (by omega) ?_ ?_ ?_
    · rw [Int.add_mul, Int.mul_assoc, Int.mul_comm 4294967296 y, ← Int.mul_assoc]
    all_goals
      have k1 : Q1 * y * 33554432 = M1 := by rw [← a2, hN, Int.mul_assoc]
      have k0 : Q0 * y * 33554432 = M0 := by rw [← c2, hN, Int.mul_assoc]
      generalize Q1 * y = z1 at *
      generalize Q0 * y = z0 at *
      clear a1 a2 c1 c2 HL g1 g2 g3
      omega
  have HQ := Lib.hid hQ
  have f1 : Y / 4294967296 = N := by omega
  have f2 : bits .and .u64 Y 4294967295 = 0 := by rw [u64_mask32 Y (by omega) (by omega)]; omega
  have f3 : bits .or .u64 (hi * 144115188075855872) (lo / 128) = A := by rw [y_or_join (hi * 144115188075855872) (lo / 128) 57 (by omega) (by omega) (by simp only [Nat.reducePow]; omega) (by simp only [Nat.reducePow]; omega) (by omega)]; exact hA.symm
  have f4 : IntKind.u64.wrap (lo * 144115188075855872) = V := by rw [IntKind.wrap_u64]; omega
  have f5 : bits .and .u64 V 4294967295 = V0 := by rw [u64_mask32 V (by omega) (by omega)]; exact hV0
  have f6 : A - M1 = R1 := by omega
  have f7 : B - M0 = R0 := by omega
  obtain ⟨W1, hW1⟩ : ∃ W1, A * 4294967296 % 18446744073709551616 = W1 := ⟨_, rfl⟩
  obtain ⟨W2, hW2⟩ : ∃ W2, (W1 + V1) % 18446744073709551616 = W2 := ⟨_, rfl⟩
  obtain ⟨P1, hP1⟩ : ∃ P1, M1 * 4294967296 % 18446744073709551616 = P1 := ⟨_, rfl⟩
  have f8 : IntKind.u64.wrap (A * 4294967296) = W1 := by rw [IntKind.wrap_u64, hW1]
  have f9 : IntKind.u64.wrap (W1 + V1) = W2 := by rw [IntKind.wrap_u64, hW2]
  have fa : IntKind.u64.wrap (Q1 * Y) = P1 := by rw [IntKind.wrap_u64, NY, ← Int.mul_assoc, a2, hP1]
  have fb : IntKind.u64.wrap (W2 - P1) = B := by rw [IntKind.wrap_u64]; omega
  have t1 : decide (4294967296 ≤ Q1) = false := decide_eq_false (by omega)
  have t2 : decide (4294967296 ≤ Q0) = false := decide_eq_false (by omega)
  have t3 : decide (4294967296 * R1 + V1 < 0) = false := decide_eq_false (by omega)
  have t4 : decide (4294967296 * R0 + V0 < 0) = false := decide_eq_false (by omega)
  have nM1 : 0 ≤ M1 := by rw [← a2]; exact Int.mul_nonneg a5 (by omega)
  have nM0 : 0 ≤ M0 := by rw [← c2]; exact Int.mul_nonneg c5 (by omega)
  have bM1 : M1 ≤ A := by omega
  have bM0 : M0 ≤ B := by omega
  have bW : 0 ≤ W1 ∧ W1 < 18446744073709551616 ∧ 0 ≤ W2 ∧ W2 < 18446744073709551616 ∧ 0 ≤ P1 ∧ P1 < 18446744073709551616 := by omega
  have bhi : hi * 144115188075855872 < 18446744073709551616 := by omega
  have bR : R1 < 4294967296 ∧ R0 < 4294967296 := by omega
  rw [HQ.out]
  clear hb y1 y0 h hA hV hM1 hM0 hB hW1 hW2 hP1 hN NY hV0 hQ bA bB HQ
  go_enter Try.func34, Try.ntmps34
  go_wp2_with (refine (HL.out _).mono ?_; rintro e w1 ⟨rfl, hw⟩; rw [hw]; clear hw w1)
  go_loopw [15, 16] (fun a b wr => a = .int .u64 Q1 ∧ b = .int .u64 R1 ∧ wr = w) (fun _ _ _ => 0)
  case atStart => exact ⟨rfl, rfl, rfl⟩
  case round =>
    obtain ⟨rfl, rfl, rfl⟩ := hrel
    go_wp2_with fail
    go_loopw [18, 16] (fun a b wz => a = .int .u64 Q0 ∧ b = .int .u64 R0 ∧ wz = wr) (fun _ _ _ => 0)
    case atStart => exact ⟨rfl, rfl, rfl⟩
    case round =>
      obtain ⟨rfl, rfl, rfl⟩ := hrel
      go_wp2_with fail
      go_ret2
      exact ⟨⟨_, rfl⟩, rfl⟩

set_option maxHeartbeats 2000000 in
theorem div_58 (w : World) (hi lo y : Int) (h0 : 0 ≤ hi) (h1 : hi < y) (l0 : 0 ≤ lo) (l1 : lo < 18446744073709551616) (y0 : 32 ≤ y) (y1 : y < 64) (hy : y ≤ 1000) (hb : Lib.bitLen y.toNat = 6) (h : hi ≠ 0) :
    Calls Try.prog 34 #[.int .u64 hi, .int .u64 lo, .int .u64 y] w fun e w' => (∃ r, e = .returned (.tuple #[.int .u64 ((18446744073709551616 * hi + lo) / y), .int .u64 r])) ∧ w' = w := by
  have HL := Lib.hid (fun w => lead_ok w y (by omega) hy)
  rw [hb] at HL
  have g1 : (y == 0) = false := beq_eq_false_iff_ne.2 (by omega)
  have g2 : decide (y ≤ hi) = false := decide_eq_false (by omega)
  have g3 : (hi == 0) = false := beq_eq_false_iff_ne.2 h
  obtain ⟨Y, hY⟩ : ∃ Y, y * 288230376151711744 = Y := ⟨_, rfl⟩
  obtain ⟨N, hN⟩ : ∃ N, N = y * 67108864 := ⟨_, rfl⟩
  obtain ⟨A, hA⟩ : ∃ A, A = hi * 288230376151711744 + lo / 64 := ⟨_, rfl⟩
  obtain ⟨V, hV⟩ : ∃ V, V = lo % 64 * 288230376151711744 := ⟨_, rfl⟩
  obtain ⟨V1, hV1⟩ : ∃ V1, V / 4294967296 = V1 := ⟨_, rfl⟩
  obtain ⟨V0, hV0⟩ : ∃ V0, V % 4294967296 = V0 := ⟨_, rfl⟩
  have NY : Y = N * 4294967296 := by omega
  have bN : 0 < N ∧ N < 4294967296 := by omega
  have bY : 0 < Y ∧ Y < 18446744073709551616 := by omega
  have bA : 0 ≤ A ∧ A < N * 4294967296 := by omega
  have bA' : A < 18446744073709551616 := by omega
  have bV : 0 ≤ V ∧ V < 18446744073709551616 := by omega
  have bV1 : 0 ≤ V1 ∧ V1 < 4294967296 := by omega
  have bV0 : 0 ≤ V0 ∧ V0 < 4294967296 := by omega
  obtain ⟨Q1, R1, a1, a2, a3, a4, a5, a6⟩ := y_quo A N bA.1 bN.1 bA.2
  obtain ⟨M1, hM1⟩ : ∃ M1, M1 = A - R1 := ⟨_, rfl⟩
  rw [← hM1] at a2
  obtain ⟨B, hB⟩ : ∃ B, B = R1 * 4294967296 + V1 := ⟨_, rfl⟩
  have bB : 0 ≤ B ∧ B < N * 4294967296 := by omega
  have bB' : B < 18446744073709551616 := by omega
  obtain ⟨Q0, R0, c1, c2, c3, c4, c5, c6⟩ := y_quo B N bB.1 bN.1 bB.2
  obtain ⟨M0, hM0⟩ : ∃ M0, M0 = B - R0 := ⟨_, rfl⟩
  rw [← hM0] at c2
  have hQ : (18446744073709551616 * hi + lo) / y = Q1 * 4294967296 + Q0 := by
    refine y_quo_eq _ _ _ (Q1 * y * 4294967296 + Q0 * y) (by omega) ?_ ?_ ?_
    · rw [Int.add_mul, Int.mul_assoc, Int.mul_comm 4294967296 y, ← Int.mul_assoc]
    all_goals
      have k1 : Q1 * y * 67108864 = M1 := by rw [← a2, hN, Int.mul_assoc]
      have k0 : Q0 * y * 67108864 = M0 := by rw [← c2, hN, Int.mul_assoc]
      generalize Q1 * y = z1 at *
      generalize Q0 * y = z0 at *
      clear a1 a2 c1 c2 HL g1 g2 g3
      omega
  have HQ := Lib.hid hQ
  have f1 : Y / 4294967296 = N := by omega
  have f2 : bits .and .u64 Y 4294967295 = 0 := by rw [u64_mask32 Y (by omega) (by omega)]; omega
  have f3 : bits .or .u64 (hi * 288230376151711744) (lo / 64) = A := by rw [y_or_join (hi * 288230376151711744) (lo / 64) 58 (by omega) (by omega) (by simp only [Nat.reducePow]; omega) (by simp only [Nat.reducePow]; omega) (by omega)]; exact hA.symm
  have f4 : IntKind.u64.wrap (lo * 288230376151711744) = V := by rw [IntKind.wrap_u64]; omega
  have f5 : bits .and .u64 V 4294967295 = V0 := by rw [u64_mask32 V (by omega) (by omega)]; exact hV0
  have f6 : A - M1 = R1 := by omega
  have f7 : B - M0 = R0 := by omega
  obtain ⟨W1, hW1⟩ : ∃ W1, A * 4294967296 % 18446744073709551616 = W1 := ⟨_, rfl⟩
  obtain ⟨W2, hW2⟩ : ∃ W2, (W1 + V1) % 18446744073709551616 = W2 := ⟨_, rfl⟩
  obtain ⟨P1, hP1⟩ : ∃ P1, M1 * 4294967296 % 18446744073709551616 = P1 := ⟨_, rfl⟩
  have f8 : IntKind.u64.wrap (A * 4294967296) = W1 := by rw [IntKind.wrap_u64, hW1]
  have f9 : IntKind.u64.wrap (W1 + V1) = W2 := by rw [IntKind.wrap_u64, hW2]
  have fa : IntKind.u64.wrap (Q1 * Y) = P1 := by rw [IntKind.wrap_u64, NY, ← Int.mul_assoc, a2, hP1]
  have fb : IntKind.u64.wrap (W2 - P1) = B := by rw [IntKind.wrap_u64]; omega
  have t1 : decide (4294967296 ≤ Q1) = false := decide_eq_false (by omega)
  have t2 : decide (4294967296 ≤ Q0) = false := decide_eq_false (by omega)
  have t3 : decide (4294967296 * R1 + V1 < 0) = false := decide_eq_false (by omega)
  have t4 : decide (4294967296 * R0 + V0 < 0) = false := decide_eq_false (by omega)
  have nM1 : 0 ≤ M1 := by rw [← a2]; exact Int.mul_nonneg a5 (by omega)
  have nM0 : 0 ≤ M0 := by rw [← c2]; exact Int.mul_nonneg c5 (by omega)
  have bM1 : M1 ≤ A := by omega
  have bM0 : M0 ≤ B := by omega
  have bW : 0 ≤ W1 ∧ W1 < 18446744073709551616 ∧ 0 ≤ W2 ∧ W2 < 18446744073709551616 ∧ 0 ≤ P1 ∧ P1 < 18446744073709551616 := by omega
  have bhi : hi * 288230376151711744 < 18446744073709551616 := by omega
  have bR : R1 < 4294967296 ∧ R0 < 4294967296 := by omega
  rw [HQ.out]
  clear hb y1 y0 h hA hV hM1 hM0 hB hW1 hW2 hP1 hN NY hV0 hQ bA bB HQ
  go_enter Try.func34, Try.ntmps34
  go_wp2_with (refine (HL.out _).mono ?_; rintro e w1 ⟨rfl, hw⟩; rw [hw]; clear hw w1)
  go_loopw [15, 16] (fun a b wr => a = .int .u64 Q1 ∧ b = .int .u64 R1 ∧ wr = w) (fun _ _ _ => 0)
  case atStart => exact ⟨rfl, rfl, rfl⟩
  case round =>
    obtain ⟨rfl, rfl, rfl⟩ := hrel
    go_wp2_with fail
    go_loopw [18, 16] (fun a b wz => a = .int .u64 Q0 ∧ b = .int .u64 R0 ∧ wz = wr) (fun _ _ _ => 0)
    case atStart => exact ⟨rfl, rfl, rfl⟩
    case round =>
      obtain ⟨rfl, rfl, rfl⟩ := hrel
      go_wp2_with fail
      go_ret2
      exact ⟨⟨_, rfl⟩, rfl⟩

set_option maxHeartbeats 2000000 in
theorem div_59 (w : World) (hi lo y : Int) (h0 : 0 ≤ hi) (h1 : hi < y) (l0 : 0 ≤ lo) (l1 : lo < 18446744073709551616) (y0 : 16 ≤ y) (y1 : y < 32) (hy : y ≤ 1000) (hb : Lib.bitLen y.toNat = 5) (h : hi ≠ 0) :
    Calls Try.prog 34 #[.int .u64 hi, .int .u64 lo, .int .u64 y] w fun e w' => (∃ r, e = .returned (.tuple #[.int .u64 ((18446744073709551616 * hi + lo) / y), .int .u64 r])) ∧ w' = w := by
  have HL := Lib.hid (fun w => lead_ok w y (by omega) hy)
  rw [hb] at HL
  have g1 : (y == 0) = false := beq_eq_false_iff_ne.2 (by omega)
  have g2 : decide (y ≤ hi) = false := decide_eq_false (by omega)
  have g3 : (hi == 0) = false := beq_eq_false_iff_ne.2 h
  obtain ⟨Y, hY⟩ : ∃ Y, y * 576460752303423488 = Y := ⟨_, rfl⟩
  obtain ⟨N, hN⟩ : ∃ N, N = y * 134217728 := ⟨_, rfl⟩
  obtain ⟨A, hA⟩ : ∃ A, A = hi * 576460752303423488 + lo / 32 := ⟨_, rfl⟩
  obtain ⟨V, hV⟩ : ∃ V, V = lo % 32 * 576460752303423488 := ⟨_, rfl⟩
  obtain ⟨V1, hV1⟩ : ∃ V1, V / 4294967296 = V1 := ⟨_, rfl⟩
  obtain ⟨V0, hV0⟩ : ∃ V0, V % 4294967296 = V0 := ⟨_, rfl⟩
  have NY : Y = N * 4294967296 := by omega
  have bN : 0 < N ∧ N < 4294967296 := by omega
  have bY : 0 < Y ∧ Y < 18446744073709551616 := by omega
  have bA : 0 ≤ A ∧ A < N * 4294967296 := by omega
  have bA' : A < 18446744073709551616 := by omega
  have bV : 0 ≤ V ∧ V < 18446744073709551616 := by omega
  have bV1 : 0 ≤ V1 ∧ V1 < 4294967296 := by omega
  have bV0 : 0 ≤ V0 ∧ V0 < 4294967296 := by omega
  obtain ⟨Q1, R1, a1, a2, a3, a4, a5, a6⟩ := y_quo A N bA.1 bN.1 bA.2
  obtain ⟨M1, hM1⟩ : ∃ M1, M1 = A - R1 := ⟨_, rfl⟩
  rw [← hM1] at a2
  obtain ⟨B, hB⟩ : ∃ B, B = R1 * 4294967296 + V1 := ⟨_, rfl⟩
  have bB : 0 ≤ B ∧ B < N * 4294967296 := by omega
  have bB' : B < 18446744073709551616 := by omega
  obtain ⟨Q0, R0, c1, c2, c3, c4, c5, c6⟩ := y_quo B N bB.1 bN.1 bB.2
  obtain ⟨M0, hM0⟩ : ∃ M0, M0 = B - R0 := ⟨_, rfl⟩
  rw [← hM0] at c2
  have hQ : (18446744073709551616 * hi + lo) / y = Q1 * 4294967296 + Q0 := by
    refine y_quo_eq _ _ _ (Q1 * y * 4294967296 + Q0 * y) (by omega) ?_ ?_ ?_
    · rw [Int.add_mul, Int.mul_assoc, Int.mul_comm 4294967296 y, ← Int.mul_assoc]
    all_goals
      have k1 : Q1 * y * 134217728 = M1 := by rw [← a2, hN, Int.mul_assoc]
      have k0 : Q0 * y * 134217728 = M0 := by rw [← c2, hN, Int.mul_assoc]
      generalize Q1 * y = z1 at *
      generalize Q0 * y = z0 at *
      clear a1 a2 c1 c2 HL g1 g2 g3
      omega
  have HQ := Lib.hid hQ
  have f1 : Y / 4294967296 = N := by omega
  have f2 : bits .and .u64 Y 4294967295 = 0 := by rw [u64_mask32 Y (by omega) (by omega)]; omega
  have f3 : bits .or .u64 (hi * 576460752303423488) (lo / 32) = A := by rw [y_or_join (hi * 576460752303423488) (lo / 32) 59 (by omega) (by omega) (by simp only [Nat.reducePow]; omega) (by simp only [Nat.reducePow]; omega) (by omega)]; exact hA.symm
  have f4 : IntKind.u64.wrap (lo * 576460752303423488) = V := by rw [IntKind.wrap_u64]; omega
  have f5 : bits .and .u64 V 4294967295 = V0 := by rw [u64_mask32 V (by omega) (by omega)]; exact hV0
  have f6 : A - M1 = R1 := by omega
  have f7 : B - M0 = R0 := by omega
  obtain ⟨W1, hW1⟩ : ∃ W1, A * 4294967296 % 18446744073709551616 = W1 := ⟨_, rfl⟩
  obtain ⟨W2, hW2⟩ : ∃ W2, (W1 + V1) % 18446744073709551616 = W2 := ⟨_, rfl⟩
  obtain ⟨P1, hP1⟩ : ∃ P1, M1 * 4294967296 % 18446744073709551616 = P1 := ⟨_, rfl⟩
  have f8 : IntKind.u64.wrap (A * 4294967296) = W1 := by rw [IntKind.wrap_u64, hW1]
  have f9 : IntKind.u64.wrap (W1 + V1) = W2 := by rw [IntKind.wrap_u64, hW2]
  have fa : IntKind.u64.wrap (Q1 * Y) = P1 := by rw [IntKind.wrap_u64, NY, ← Int.mul_assoc, a2, hP1]
  have fb : IntKind.u64.wrap (W2 - P1) = B := by rw [IntKind.wrap_u64]; omega
  have t1 : decide (4294967296 ≤ Q1) = false := decide_eq_false (by omega)
  have t2 : decide (4294967296 ≤ Q0) = false := decide_eq_false (by omega)
  have t3 : decide (4294967296 * R1 + V1 < 0) = false := decide_eq_false (by omega)
  have t4 : decide (4294967296 * R0 + V0 < 0) = false := decide_eq_false (by omega)
  have nM1 : 0 ≤ M1 := by rw [← a2]; exact Int.mul_nonneg a5 (by omega)
  have nM0 : 0 ≤ M0 := by rw [← c2]; exact Int.mul_nonneg c5 (by omega)
  have bM1 : M1 ≤ A := by omega
  have bM0 : M0 ≤ B := by omega
  have bW : 0 ≤ W1 ∧ W1 < 18446744073709551616 ∧ 0 ≤ W2 ∧ W2 < 18446744073709551616 ∧ 0 ≤ P1 ∧ P1 < 18446744073709551616 := by omega
  have bhi : hi * 576460752303423488 < 18446744073709551616 := by omega
  have bR : R1 < 4294967296 ∧ R0 < 4294967296 := by omega
  rw [HQ.out]
  clear hb y1 y0 h hA hV hM1 hM0 hB hW1 hW2 hP1 hN NY hV0 hQ bA bB HQ
  go_enter Try.func34, Try.ntmps34
  go_wp2_with (refine (HL.out _).mono ?_; rintro e w1 ⟨rfl, hw⟩; rw [hw]; clear hw w1)
  go_loopw [15, 16] (fun a b wr => a = .int .u64 Q1 ∧ b = .int .u64 R1 ∧ wr = w) (fun _ _ _ => 0)
  case atStart => exact ⟨rfl, rfl, rfl⟩
  case round =>
    obtain ⟨rfl, rfl, rfl⟩ := hrel
    go_wp2_with fail
    go_loopw [18, 16] (fun a b wz => a = .int .u64 Q0 ∧ b = .int .u64 R0 ∧ wz = wr) (fun _ _ _ => 0)
    case atStart => exact ⟨rfl, rfl, rfl⟩
    case round =>
      obtain ⟨rfl, rfl, rfl⟩ := hrel
      go_wp2_with fail
      go_ret2
      exact ⟨⟨_, rfl⟩, rfl⟩

set_option maxHeartbeats 2000000 in
theorem div_60 (w : World) (hi lo y : Int) (h0 : 0 ≤ hi) (h1 : hi < y) (l0 : 0 ≤ lo) (l1 : lo < 18446744073709551616) (y0 : 8 ≤ y) (y1 : y < 16) (hy : y ≤ 1000) (hb : Lib.bitLen y.toNat = 4) (h : hi ≠ 0) :
    Calls Try.prog 34 #[.int .u64 hi, .int .u64 lo, .int .u64 y] w fun e w' => (∃ r, e = .returned (.tuple #[.int .u64 ((18446744073709551616 * hi + lo) / y), .int .u64 r])) ∧ w' = w := by
  have HL := Lib.hid (fun w => lead_ok w y (by omega) hy)
  rw [hb] at HL
  have g1 : (y == 0) = false := beq_eq_false_iff_ne.2 (by omega)
  have g2 : decide (y ≤ hi) = false := decide_eq_false (by omega)
  have g3 : (hi == 0) = false := beq_eq_false_iff_ne.2 h
  obtain ⟨Y, hY⟩ : ∃ Y, y * 1152921504606846976 = Y := ⟨_, rfl⟩
  obtain ⟨N, hN⟩ : ∃ N, N = y * 268435456 := ⟨_, rfl⟩
  obtain ⟨A, hA⟩ : ∃ A, A = hi * 1152921504606846976 + lo / 16 := ⟨_, rfl⟩
  obtain ⟨V, hV⟩ : ∃ V, V = lo % 16 * 1152921504606846976 := ⟨_, rfl⟩
  obtain ⟨V1, hV1⟩ : ∃ V1, V / 4294967296 = V1 := ⟨_, rfl⟩
  obtain ⟨V0, hV0⟩ : ∃ V0, V % 4294967296 = V0 := ⟨_, rfl⟩
  have NY : Y = N * 4294967296 := by omega
  have bN : 0 < N ∧ N < 4294967296 := by omega
  have bY : 0 < Y ∧ Y < 18446744073709551616 := by omega
  have bA : 0 ≤ A ∧ A < N * 4294967296 := by omega
  have bA' : A < 18446744073709551616 := by omega
  have bV : 0 ≤ V ∧ V < 18446744073709551616 := by omega
  have bV1 : 0 ≤ V1 ∧ V1 < 4294967296 := by omega
  have bV0 : 0 ≤ V0 ∧ V0 < 4294967296 := by omega
  obtain ⟨Q1, R1, a1, a2, a3, a4, a5, a6⟩ := y_quo A N bA.1 bN.1 bA.2
  obtain ⟨M1, hM1⟩ : ∃ M1, M1 = A - R1 := ⟨_, rfl⟩
  rw [← hM1] at a2
  obtain ⟨B, hB⟩ : ∃ B, B = R1 * 4294967296 + V1 := ⟨_, rfl⟩
  have bB : 0 ≤ B ∧ B < N * 4294967296 := by omega
  have bB' : B < 18446744073709551616 := by omega
  obtain ⟨Q0, R0, c1, c2, c3, c4, c5, c6⟩ := y_quo B N bB.1 bN.1 bB.2
  obtain ⟨M0, hM0⟩ : ∃ M0, M0 = B - R0 := ⟨_, rfl⟩
  rw [← hM0] at c2
  have hQ : (18446744073709551616 * hi + lo) / y = Q1 * 4294967296 + Q0 := by
    refine y_quo_eq _ _ _ (Q1 * y * 4294967296 + Q0 * y) (by omega) ?_ ?_ ?_
    · rw [Int.add_mul, Int.mul_assoc, Int.mul_comm 4294967296 y, ← Int.mul_assoc]
    all_goals
      have k1 : Q1 * y * 268435456 = M1 := by rw [← a2, hN, Int.mul_assoc]
      have k0 : Q0 * y * 268435456 = M0 := by rw [← c2, hN, Int.mul_assoc]
      generalize Q1 * y = z1 at *
      generalize Q0 * y = z0 at *
      clear a1 a2 c1 c2 HL g1 g2 g3
      omega
  have HQ := Lib.hid hQ
  have f1 : Y / 4294967296 = N := by omega
  have f2 : bits .and .u64 Y 4294967295 = 0 := by rw [u64_mask32 Y (by omega) (by omega)]; omega
  have f3 : bits .or .u64 (hi * 1152921504606846976) (lo / 16) = A := by rw [y_or_join (hi * 1152921504606846976) (lo / 16) 60 (by omega) (by omega) (by simp only [Nat.reducePow]; omega) (by simp only [Nat.reducePow]; omega) (by omega)]; exact hA.symm
  have f4 : IntKind.u64.wrap (lo * 1152921504606846976) = V := by rw [IntKind.wrap_u64]; omega
  have f5 : bits .and .u64 V 4294967295 = V0 := by rw [u64_mask32 V (by omega) (by omega)]; exact hV0
  have f6 : A - M1 = R1 := by omega
  have f7 : B - M0 = R0 := by omega
  obtain ⟨W1, hW1⟩ : ∃ W1, A * 4294967296 % 18446744073709551616 = W1 := ⟨_, rfl⟩
  obtain ⟨W2, hW2⟩ : ∃ W2, (W1 + V1) % 18446744073709551616 = W2 := ⟨_, rfl⟩
  obtain ⟨P1, hP1⟩ : ∃ P1, M1 * 4294967296 % 18446744073709551616 = P1 := ⟨_, rfl⟩
  have f8 : IntKind.u64.wrap (A * 4294967296) = W1 := by rw [IntKind.wrap_u64, hW1]
  have f9 : IntKind.u64.wrap (W1 + V1) = W2 := by rw [IntKind.wrap_u64, hW2]
  have fa : IntKind.u64.wrap (Q1 * Y) = P1 := by rw [IntKind.wrap_u64, NY, ← Int.mul_assoc, a2, hP1]
  have fb : IntKind.u64.wrap (W2 - P1) = B := by rw [IntKind.wrap_u64]; omega
  have t1 : decide (4294967296 ≤ Q1) = false := decide_eq_false (by omega)
  have t2 : decide (4294967296 ≤ Q0) = false := decide_eq_false (by omega)
  have t3 : decide (4294967296 * R1 + V1 < 0) = false := decide_eq_false (by omega)
  have t4 : decide (4294967296 * R0 + V0 < 0) = false := decide_eq_false (by omega)
  have nM1 : 0 ≤ M1 := by rw [← a2]; exact Int.mul_nonneg a5 (by omega)
  have nM0 : 0 ≤ M0 := by rw [← c2]; exact Int.mul_nonneg c5 (by omega)
  have bM1 : M1 ≤ A := by omega
  have bM0 : M0 ≤ B := by omega
  have bW : 0 ≤ W1 ∧ W1 < 18446744073709551616 ∧ 0 ≤ W2 ∧ W2 < 18446744073709551616 ∧ 0 ≤ P1 ∧ P1 < 18446744073709551616 := by omega
  have bhi : hi * 1152921504606846976 < 18446744073709551616 := by omega
  have bR : R1 < 4294967296 ∧ R0 < 4294967296 := by omega
  rw [HQ.out]
  clear hb y1 y0 h hA hV hM1 hM0 hB hW1 hW2 hP1 hN NY hV0 hQ bA bB HQ
  go_enter Try.func34, Try.ntmps34
  go_wp2_with (refine (HL.out _).mono ?_; rintro e w1 ⟨rfl, hw⟩; rw [hw]; clear hw w1)
  go_loopw [15, 16] (fun a b wr => a = .int .u64 Q1 ∧ b = .int .u64 R1 ∧ wr = w) (fun _ _ _ => 0)
  case atStart => exact ⟨rfl, rfl, rfl⟩
  case round =>
    obtain ⟨rfl, rfl, rfl⟩ := hrel
    go_wp2_with fail
    go_loopw [18, 16] (fun a b wz => a = .int .u64 Q0 ∧ b = .int .u64 R0 ∧ wz = wr) (fun _ _ _ => 0)
    case atStart => exact ⟨rfl, rfl, rfl⟩
    case round =>
      obtain ⟨rfl, rfl, rfl⟩ := hrel
      go_wp2_with fail
      go_ret2
      exact ⟨⟨_, rfl⟩, rfl⟩

set_option maxHeartbeats 2000000 in
theorem div_61 (w : World) (hi lo y : Int) (h0 : 0 ≤ hi) (h1 : hi < y) (l0 : 0 ≤ lo) (l1 : lo < 18446744073709551616) (y0 : 4 ≤ y) (y1 : y < 8) (hy : y ≤ 1000) (hb : Lib.bitLen y.toNat = 3) (h : hi ≠ 0) :
    Calls Try.prog 34 #[.int .u64 hi, .int .u64 lo, .int .u64 y] w fun e w' => (∃ r, e = .returned (.tuple #[.int .u64 ((18446744073709551616 * hi + lo) / y), .int .u64 r])) ∧ w' = w := by
  have HL := Lib.hid (fun w => lead_ok w y (by omega) hy)
  rw [hb] at HL
  have g1 : (y == 0) = false := beq_eq_false_iff_ne.2 (by omega)
  have g2 : decide (y ≤ hi) = false := decide_eq_false (by omega)
  have g3 : (hi == 0) = false := beq_eq_false_iff_ne.2 h
  obtain ⟨Y, hY⟩ : ∃ Y, y * 2305843009213693952 = Y := ⟨_, rfl⟩
  obtain ⟨N, hN⟩ : ∃ N, N = y * 536870912 := ⟨_, rfl⟩
  obtain ⟨A, hA⟩ : ∃ A, A = hi * 2305843009213693952 + lo / 8 := ⟨_, rfl⟩
  obtain ⟨V, hV⟩ : ∃ V, V = lo % 8 * 2305843009213693952 := ⟨_, rfl⟩
  obtain ⟨V1, hV1⟩ : ∃ V1, V / 4294967296 = V1 := ⟨_, rfl⟩
  obtain ⟨V0, hV0⟩ : ∃ V0, V % 4294967296 = V0 := ⟨_, rfl⟩
  have NY : Y = N * 4294967296 := by omega
  have bN : 0 < N ∧ N < 4294967296 := by omega
  have bY : 0 < Y ∧ Y < 18446744073709551616 := by omega
  have bA : 0 ≤ A ∧ A < N * 4294967296 := by omega
  have bA' : A < 18446744073709551616 := by omega
  have bV : 0 ≤ V ∧ V < 18446744073709551616 := by omega
  have bV1 : 0 ≤ V1 ∧ V1 < 4294967296 := by omega
  have bV0 : 0 ≤ V0 ∧ V0 < 4294967296 := by omega
  obtain ⟨Q1, R1, a1, a2, a3, a4, a5, a6⟩ := y_quo A N bA.1 bN.1 bA.2
  obtain ⟨M1, hM1⟩ : ∃ M1, M1 = A - R1 := ⟨_, rfl⟩
  rw [← hM1] at a2
  obtain ⟨B, hB⟩ : ∃ B, B = R1 * 4294967296 + V1 := ⟨_, rfl⟩
  have bB : 0 ≤ B ∧ B < N * 4294967296 := by omega
  have bB' : B < 18446744073709551616 := by omega
  obtain ⟨Q0, R0, c1, c2, c3, c4, c5, c6⟩ := y_quo B N bB.1 bN.1 bB.2
  obtain ⟨M0, hM0⟩ : ∃ M0, M0 = B - R0 := ⟨_, rfl⟩
  rw [← hM0] at c2
  have hQ : (18446744073709551616 * hi + lo) / y = Q1 * 4294967296 + Q0 := by
    refine y_quo_eq _ _ _ (Q1 * y * 4294967296 + Q0 * y) (by omega) ?_ ?_ ?_
    · rw [Int.add_mul, Int.mul_assoc, Int.mul_comm 4294967296 y, ← Int.mul_assoc]
    all_goals
      have k1 : Q1 * y * 536870912 = M1 := by rw [← a2, hN, Int.mul_assoc]
      have k0 : Q0 * y * 536870912 = M0 := by rw [← c2, hN, Int.mul_assoc]
      generalize Q1 * y = z1 at *
      generalize Q0 * y = z0 at *
      clear a1 a2 c1 c2 HL g1 g2 g3
      omega
  have HQ := Lib.hid hQ
  have f1 : Y / 4294967296 = N := by omega
  have f2 : bits .and .u64 Y 4294967295 = 0 := by rw [u64_mask32 Y (by omega) (by omega)]; omega
  have f3 : bits .or .u64 (hi * 2305843009213693952) (lo / 8) = A := by rw [y_or_join (hi * 2305843009213693952) (lo / 8) 61 (by omega) (by omega) (by simp only [Nat.reducePow]; omega) (by simp only [Nat.reducePow]; omega) (by omega)]; exact hA.symm
  have f4 : IntKind.u64.wrap (lo * 2305843009213693952) = V := by rw [IntKind.wrap_u64]; omega
  have f5 : bits .and .u64 V 4294967295 = V0 := by rw [u64_mask32 V (by omega) (by omega)]; exact hV0
  have f6 : A - M1 = R1 := by omega
  have f7 : B - M0 = R0 := by omega
  obtain ⟨W1, hW1⟩ : ∃ W1, A * 4294967296 % 18446744073709551616 = W1 := ⟨_, rfl⟩
  obtain ⟨W2, hW2⟩ : ∃ W2, (W1 + V1) % 18446744073709551616 = W2 := ⟨_, rfl⟩
  obtain ⟨P1, hP1⟩ : ∃ P1, M1 * 4294967296 % 18446744073709551616 = P1 := ⟨_, rfl⟩
  have f8 : IntKind.u64.wrap (A * 4294967296) = W1 := by rw [IntKind.wrap_u64, hW1]
  have f9 : IntKind.u64.wrap (W1 + V1) = W2 := by rw [IntKind.wrap_u64, hW2]
  have fa : IntKind.u64.wrap (Q1 * Y) = P1 := by rw [IntKind.wrap_u64, NY, ← Int.mul_assoc, a2, hP1]
  have fb : IntKind.u64.wrap (W2 - P1) = B := by rw [IntKind.wrap_u64]; omega
  have t1 : decide (4294967296 ≤ Q1) = false := decide_eq_false (by omega)
  have t2 : decide (4294967296 ≤ Q0) = false := decide_eq_false (by omega)
  have t3 : decide (4294967296 * R1 + V1 < 0) = false := decide_eq_false (by omega)
  have t4 : decide (4294967296 * R0 + V0 < 0) = false := decide_eq_false (by omega)
  have nM1 : 0 ≤ M1 := by rw [← a2]; exact Int.mul_nonneg a5 (by omega)
  have nM0 : 0 ≤ M0 := by rw [← c2]; exact Int.mul_nonneg c5 (by omega)
  have bM1 : M1 ≤ A := by omega
  have bM0 : M0 ≤ B := by omega
  have bW : 0 ≤ W1 ∧ W1 < 18446744073709551616 ∧ 0 ≤ W2 ∧ W2 < 18446744073709551616 ∧ 0 ≤ P1 ∧ P1 < 18446744073709551616 := by omega
  have bhi : hi * 2305843009213693952 < 18446744073709551616 := by omega
  have bR : R1 < 4294967296 ∧ R0 < 4294967296 := by omega
  rw [HQ.out]
  clear hb y1 y0 h hA hV hM1 hM0 hB hW1 hW2 hP1 hN NY hV0 hQ bA bB HQ
  go_enter Try.func34, Try.ntmps34
  go_wp2_with (refine (HL.out _).mono ?_; rintro e w1 ⟨rfl, hw⟩; rw [hw]; clear hw w1)
  go_loopw [15, 16] (fun a b wr => a = .int .u64 Q1 ∧ b = .int .u64 R1 ∧ wr = w) (fun _ _ _ => 0)
  case atStart => exact ⟨rfl, rfl, rfl⟩
  case round =>
    obtain ⟨rfl, rfl, rfl⟩ := hrel
    go_wp2_with fail
    go_loopw [18, 16] (fun a b wz => a = .int .u64 Q0 ∧ b = .int .u64 R0 ∧ wz = wr) (fun _ _ _ => 0)
    case atStart => exact ⟨rfl, rfl, rfl⟩
    case round =>
      obtain ⟨rfl, rfl, rfl⟩ := hrel
      go_wp2_with fail
      go_ret2
      exact ⟨⟨_, rfl⟩, rfl⟩

set_option maxHeartbeats 2000000 in
theorem div_62 (w : World) (hi lo y : Int) (h0 : 0 ≤ hi) (h1 : hi < y) (l0 : 0 ≤ lo) (l1 : lo < 18446744073709551616) (y0 : 2 ≤ y) (y1 : y < 4) (hy : y ≤ 1000) (hb : Lib.bitLen y.toNat = 2) (h : hi ≠ 0) :
    Calls Try.prog 34 #[.int .u64 hi, .int .u64 lo, .int .u64 y] w fun e w' => (∃ r, e = .returned (.tuple #[.int .u64 ((18446744073709551616 * hi + lo) / y), .int .u64 r])) ∧ w' = w := by
  have HL := Lib.hid (fun w => lead_ok w y (by omega) hy)
  rw [hb] at HL
  have g1 : (y == 0) = false := beq_eq_false_iff_ne.2 (by omega)
  have g2 : decide (y ≤ hi) = false := decide_eq_false (by omega)
  have g3 : (hi == 0) = false := beq_eq_false_iff_ne.2 h
  obtain ⟨Y, hY⟩ : ∃ Y, y * 4611686018427387904 = Y := ⟨_, rfl⟩
  obtain ⟨N, hN⟩ : ∃ N, N = y * 1073741824 := ⟨_, rfl⟩
  obtain ⟨A, hA⟩ : ∃ A, A = hi * 4611686018427387904 + lo / 4 := ⟨_, rfl⟩
  obtain ⟨V, hV⟩ : ∃ V, V = lo % 4 * 4611686018427387904 := ⟨_, rfl⟩
  obtain ⟨V1, hV1⟩ : ∃ V1, V / 4294967296 = V1 := ⟨_, rfl⟩
  obtain ⟨V0, hV0⟩ : ∃ V0, V % 4294967296 = V0 := ⟨_, rfl⟩
  have NY : Y = N * 4294967296 := by omega
  have bN : 0 < N ∧ N < 4294967296 := by omega
  have bY : 0 < Y ∧ Y < 18446744073709551616 := by omega
  have bA : 0 ≤ A ∧ A < N * 4294967296 := by omega
  have bA' : A < 18446744073709551616 := by omega
  have bV : 0 ≤ V ∧ V < 18446744073709551616 := by omega
  have bV1 : 0 ≤ V1 ∧ V1 < 4294967296 := by omega
  have bV0 : 0 ≤ V0 ∧ V0 < 4294967296 := by omega
  obtain ⟨Q1, R1, a1, a2, a3, a4, a5, a6⟩ := y_quo A N bA.1 bN.1 bA.2
  obtain ⟨M1, hM1⟩ : ∃ M1, M1 = A - R1 := ⟨_, rfl⟩
  rw [← hM1] at a2
  obtain ⟨B, hB⟩ : ∃ B, B = R1 * 4294967296 + V1 := ⟨_, rfl⟩
  have bB : 0 ≤ B ∧ B < N * 4294967296 := by omega
  have bB' : B < 18446744073709551616 := by omega
  obtain ⟨Q0, R0, c1, c2, c3, c4, c5, c6⟩ := y_quo B N bB.1 bN.1 bB.2
  obtain ⟨M0, hM0⟩ : ∃ M0, M0 = B - R0 := ⟨_, rfl⟩
  rw [← hM0] at c2
  have hQ : (18446744073709551616 * hi + lo) / y = Q1 * 4294967296 + Q0 := by
    refine y_quo_eq _ _ _ (Q1 * y * 4294967296 + Q0 * y) (by omega) ?_ ?_ ?_
    · rw [Int.add_mul, Int.mul_assoc, Int.mul_comm 4294967296 y, ← Int.mul_assoc]
    all_goals
      have k1 : Q1 * y * 1073741824 = M1 := by rw [← a2, hN, Int.mul_assoc]
      have k0 : Q0 * y * 1073741824 = M0 := by rw [← c2, hN, Int.mul_assoc]
      generalize Q1 * y = z1 at *
      generalize Q0 * y = z0 at *
      clear a1 a2 c1 c2 HL g1 g2 g3
      omega
  have HQ := Lib.hid hQ
  have f1 : Y / 4294967296 = N := by omega
  have f2 : bits .and .u64 Y 4294967295 = 0 := by rw [u64_mask32 Y (by omega) (by omega)]; omega
  have f3 : bits .or .u64 (hi * 4611686018427387904) (lo / 4) = A := by rw [y_or_join (hi * 4611686018427387904) (lo / 4) 62 (by omega) (by omega) (by simp only [Nat.reducePow]; omega) (by simp only [Nat.reducePow]; omega) (by omega)]; exact hA.symm
  have f4 : IntKind.u64.wrap (lo * 4611686018427387904) = V := by rw [IntKind.wrap_u64]; omega
  have f5 : bits .and .u64 V 4294967295 = V0 := by rw [u64_mask32 V (by omega) (by omega)]; exact hV0
  have f6 : A - M1 = R1 := by omega
  have f7 : B - M0 = R0 := by omega
  obtain ⟨W1, hW1⟩ : ∃ W1, A * 4294967296 % 18446744073709551616 = W1 := ⟨_, rfl⟩
  obtain ⟨W2, hW2⟩ : ∃ W2, (W1 + V1) % 18446744073709551616 = W2 := ⟨_, rfl⟩
  obtain ⟨P1, hP1⟩ : ∃ P1, M1 * 4294967296 % 18446744073709551616 = P1 := ⟨_, rfl⟩
  have f8 : IntKind.u64.wrap (A * 4294967296) = W1 := by rw [IntKind.wrap_u64, hW1]
  have f9 : IntKind.u64.wrap (W1 + V1) = W2 := by rw [IntKind.wrap_u64, hW2]
  have fa : IntKind.u64.wrap (Q1 * Y) = P1 := by rw [IntKind.wrap_u64, NY, ← Int.mul_assoc, a2, hP1]
  have fb : IntKind.u64.wrap (W2 - P1) = B := by rw [IntKind.wrap_u64]; omega
  have t1 : decide (4294967296 ≤ Q1) = false := decide_eq_false (by omega)
  have t2 : decide (4294967296 ≤ Q0) = false := decide_eq_false (by omega)
  have t3 : decide (4294967296 * R1 + V1 < 0) = false := decide_eq_false (by omega)
  have t4 : decide (4294967296 * R0 + V0 < 0) = false := decide_eq_false (by omega)
  have nM1 : 0 ≤ M1 := by rw [← a2]; exact Int.mul_nonneg a5 (by omega)
  have nM0 : 0 ≤ M0 := by rw [← c2]; exact Int.mul_nonneg c5 (by omega)
  have bM1 : M1 ≤ A := by omega
  have bM0 : M0 ≤ B := by omega
  have bW : 0 ≤ W1 ∧ W1 < 18446744073709551616 ∧ 0 ≤ W2 ∧ W2 < 18446744073709551616 ∧ 0 ≤ P1 ∧ P1 < 18446744073709551616 := by omega
  have bhi : hi * 4611686018427387904 < 18446744073709551616 := by omega
  have bR : R1 < 4294967296 ∧ R0 < 4294967296 := by omega
  rw [HQ.out]
  clear hb y1 y0 h hA hV hM1 hM0 hB hW1 hW2 hP1 hN NY hV0 hQ bA bB HQ
  go_enter Try.func34, Try.ntmps34
  go_wp2_with (refine (HL.out _).mono ?_; rintro e w1 ⟨rfl, hw⟩; rw [hw]; clear hw w1)
  go_loopw [15, 16] (fun a b wr => a = .int .u64 Q1 ∧ b = .int .u64 R1 ∧ wr = w) (fun _ _ _ => 0)
  case atStart => exact ⟨rfl, rfl, rfl⟩
  case round =>
    obtain ⟨rfl, rfl, rfl⟩ := hrel
    go_wp2_with fail
    go_loopw [18, 16] (fun a b wz => a = .int .u64 Q0 ∧ b = .int .u64 R0 ∧ wz = wr) (fun _ _ _ => 0)
    case atStart => exact ⟨rfl, rfl, rfl⟩
    case round =>
      obtain ⟨rfl, rfl, rfl⟩ := hrel
      go_wp2_with fail
      go_ret2
      exact ⟨⟨_, rfl⟩, rfl⟩
end Go.Proofs.Ytdbnpdbnjipjiaa
