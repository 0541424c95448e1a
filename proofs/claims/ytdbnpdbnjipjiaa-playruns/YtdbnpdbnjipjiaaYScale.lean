/-
  Layer 15's laws: a time scaled, bit by bit.
-/
import Derived.Test.YtdbnpdbnjipjiaaYMath
import Derived.Laws.BitsAllLaws
namespace Go.Proofs.Ytdbnpdbnjipjiaa
open Go.RowKit Go.Lib EM PM
set_option maxRecDepth 100000

theorem i64_and1 (n : Int) : bits .and .i64 n 1 = n % 2 := by
  have h127 : (BitVec.ofInt 64 1).toNat = 2 ^ 1 - 1 := by decide
  have key : (BitVec.ofInt 64 n &&& BitVec.ofInt 64 1).toNat = (n % ((2 ^ 64 : Nat) : Int)).toNat % 2 ^ 1 := by
    rw [BitVec.toNat_and, BitVec.toNat_ofInt, h127, Nat.and_two_pow_sub_one_eq_mod]
  show IntKind.i64.wrap ((BitVec.ofInt 64 n &&& BitVec.ofInt 64 1).toNat : Nat) = n % 2
  rw [key, IntKind.wrap_i64]
  omega

/-- n cut by k bits, times a, by b: W, and R is left. -/
def ScR (n a b : Int) (k : Nat) (W R : Int) : Prop := W * b + R = n / 2 ^ k * a ∧ 0 ≤ R ∧ R < b ∧ 0 ≤ W ∧ W < 4611686018427387904
section
variable {n a b W R : Int} {j k : Nat}
theorem sc_start (h0 : 0 ≤ n) (h1 : n ≤ 4611686018427387904) (hb : 1 ≤ b) : ScR n a b 63 0 0 := by
  have e : n / 2 ^ 63 = 0 := Int.ediv_eq_zero_of_lt h0 (by omega)
  refine ⟨by rw [e]; simp, by omega, by omega, by omega, by omega⟩
/-- What the bits so far tell is no more than what all tell. -/
theorem sc_more (ha : 1 ≤ a) (hb : 1 ≤ b) (h : W * b + R = n / 2 ^ k * a) (hR : 0 ≤ R) : W * 2 ^ k ≤ n * a / b := by
  refine Int.le_ediv_of_mul_le (by omega) ?_
  have hp : (0 : Int) < 2 ^ k := Int.pow_pos (by omega)
  generalize (2 : Int) ^ k = p at *
  have h1 : n / p * p ≤ n := Int.ediv_mul_le n (by omega)
  have h2 : W * b ≤ n / p * a := by omega
  calc W * p * b = W * b * p := by rw [Int.mul_assoc, Int.mul_comm p b, ← Int.mul_assoc]
    _ ≤ n / p * a * p := Int.mul_le_mul_of_nonneg_right h2 (by omega)
    _ = n / p * p * a := by rw [Int.mul_assoc, Int.mul_comm a p, ← Int.mul_assoc]
    _ ≤ n * a := Int.mul_le_mul_of_nonneg_right h1 (by omega)
theorem sc_early (ha : 1 ≤ a) (hb : 1 ≤ b) (h : ScR n a b (j + 1) W R) (hW : 2305843009213693952 ≤ W) : min (n * a / b) 4611686018427387904 = 4611686018427387904 := by
  have h1 := sc_more ha hb h.1 h.2.1
  have hp : (1 : Int) ≤ 2 ^ j := by have : (0 : Int) < 2 ^ j := Int.pow_pos (by omega); omega
  rw [Int.pow_succ, ← Int.mul_assoc] at h1
  have h2 : W * 1 ≤ W * 2 ^ j := Int.mul_le_mul_of_nonneg_left hp (by omega)
  omega
theorem sc_late (ha : 1 ≤ a) (hb : 1 ≤ b) (h : W * b + R = n / 2 ^ k * a) (hR : 0 ≤ R) (hW : 4611686018427387904 ≤ W) : min (n * a / b) 4611686018427387904 = 4611686018427387904 := by
  have h1 := sc_more ha hb h hR
  have hp : (1 : Int) ≤ 2 ^ k := by have : (0 : Int) < 2 ^ k := Int.pow_pos (by omega); omega
  have h2 : W * 1 ≤ W * 2 ^ k := Int.mul_le_mul_of_nonneg_left hp (by omega)
  omega
theorem sc_two (h : ScR n a b (j + 1) W R) : 2 * W * b + (2 * R + n / 2 ^ j % 2 * a) = n / 2 ^ j * a := by
  have h1 := h.1
  have e : n / 2 ^ (j + 1) = n / 2 ^ j / 2 := by
    rw [Int.pow_succ, Int.mul_comm, Int.mul_comm 2, Int.ediv_ediv_of_nonneg (Int.le_of_lt (Int.pow_pos (by omega)))]
  rw [e] at h1
  generalize n / 2 ^ j = m at *
  have e2 : m * a = 2 * (m / 2 * a) + m % 2 * a := by
    conv => lhs; rw [← Int.mul_ediv_add_emod m 2]
    rw [Int.add_mul, Int.mul_assoc]
  rw [e2, ← h1, Int.mul_assoc]
  omega
theorem sc_end (hb : 1 ≤ b) (h : ScR n a b 0 W R) : min (n * a / b) 4611686018427387904 = W := by
  obtain ⟨h1, h2, h3, h4, h5⟩ := h
  have e : n / 2 ^ 0 = n := by simp
  rw [e] at h1
  have : n * a / b = W := by
    rw [← h1, Int.add_comm, Int.add_mul_ediv_right _ _ (by omega), Int.ediv_eq_zero_of_lt h2 h3]
    omega
  omega
end

set_option maxHeartbeats 1000000 in
theorem scale_ok (w : World) (n a b : Int) (h0 : 0 ≤ n) (h1 : n ≤ 4611686018427387904) (ha : 1 ≤ a) (ha1 : a ≤ 1000) (hb : 1 ≤ b) (hb1 : b ≤ 1000) :
    Calls Try.prog 35 #[.int .i64 n, .int .i64 a, .int .i64 b] w fun e w' => e = .returned (.int .i64 (min (n * a / b) 4611686018427387904)) ∧ w' = w := by
  have HS := Lib.hid (sc_start (a := a) h0 h1 hb)
  generalize hm : min (n * a / b) 4611686018427387904 = M
  have HM := Lib.hid hm
  clear hm
  go_enter Try.func35, Try.ntmps35
  go_wp2
  go_loopw [7, 8, 9] (fun x y i wr => ∃ (k : Nat) (W R : Int), k ≤ 63 ∧ i = .int .i64 ((k : Int) - 1) ∧ x = .int .i64 W ∧ y = .int .i64 R ∧ ScR n a b k W R ∧ wr = w) (fun _ _ i _ => (RowKit.intOf i + 1).toNat)
  case atStart => exact ⟨63, 0, 0, Nat.le_refl _, rfl, rfl, rfl, HS.out, rfl⟩
  case round =>
    obtain ⟨k, W, R, hk, rfl, rfl, rfl, hS, rfl⟩ := hrel
    have HR := Lib.hid hS
    obtain ⟨-, r0, r1, w0, w1⟩ := hS
    rcases k with _ | j
    · have hz : ((0 : Nat) : Int) - 1 = -1 := rfl
      rw [hz]
      have he := (sc_end hb HR.out).symm.trans HM.out
      subst he
      go_wp2_with fail
      go_ret
      exact ⟨rfl, rfl⟩
    · have hz : ((j + 1 : Nat) : Int) - 1 = (j : Int) := by omega
      rw [hz]
      have g0 : decide (0 ≤ (j : Int)) = true := decide_eq_true (by omega)
      have hj : j ≤ 62 := by omega
      by_cases hW : 2305843009213693952 ≤ W
      · have g1 : decide (2305843009213693952 ≤ W) = true := decide_eq_true hW
        have he := (sc_early ha hb HR.out hW).symm.trans HM.out
        subst he
        go_wp2_with fail
        go_ret
        exact ⟨rfl, rfl⟩
      · have g1 : decide (2305843009213693952 ≤ W) = false := decide_eq_false hW
        have h2 := sc_two HR.out
        obtain ⟨m, hm⟩ : ∃ m, n / 2 ^ j = m := ⟨_, rfl⟩
        have HMJ := Lib.hid hm
        rw [hm] at h2
        have hx := i64_and1 m
        have hx2 : m % 2 = 0 ∨ m % 2 = 1 := by omega
        generalize m % 2 = x at *
        obtain ⟨W0, hW0⟩ : ∃ W0, 2 * W = W0 := ⟨_, rfl⟩
        have hW0b : 0 ≤ W0 ∧ W0 < 4611686018427387904 := by omega
        rw [hW0] at h2
        rcases hx2 with rfl | rfl
        · obtain ⟨R0, hR0⟩ : ∃ R0, 2 * R = R0 := ⟨_, rfl⟩
          have hR0b : 0 ≤ R0 ∧ R0 ≤ 3000 := by omega
          have H2 := Lib.hid (show W0 * b + R0 = m * a by omega)
          have hx1 : ((0 : Int) == 1) = false := rfl
          clear h2
          go_wp2_with fail
          go_loopw [7, 8] (fun x y wz => ∃ W1 R1 : Int, x = .int .i64 W1 ∧ y = .int .i64 R1 ∧ 0 ≤ R1 ∧ W1 + R1 ≤ W0 + R0 ∧ 0 ≤ W1 ∧ Hid (W1 * b + R1 = m * a) ∧ wz = wr) (fun _ y _ => (RowKit.intOf y).toNat)
          case atStart => exact ⟨W0, R0, rfl, rfl, hR0b.1, Int.le_refl _, hW0b.1, H2, rfl⟩
          case round =>
            obtain ⟨W1, R1, rfl, rfl, k0, k1, k2, HW1, rfl⟩ := hrel
            by_cases hbr : b ≤ R1
            · have gb : decide (b ≤ R1) = true := decide_eq_true hbr
              go_wp2_with fail
              go_roundw
              case rel => exact ⟨W1 + 1, R1 - b, rfl, rfl, by omega, by omega, by omega, Lib.hid (by have := HW1.out; rw [Int.add_mul, Int.one_mul]; omega), trivial⟩
              case measure => simp [RowKit.intOf] <;> omega
            · have gb : decide (b ≤ R1) = false := decide_eq_false hbr
              by_cases hT : 4611686018427387904 ≤ W1
              · have gt : decide (4611686018427387904 ≤ W1) = true := decide_eq_true hT
                have he := (sc_late ha hb (by rw [HMJ.out]; exact HW1.out) k0 hT).symm.trans HM.out
                subst he
                go_wp2_with fail
                go_ret
                exact ⟨rfl, rfl⟩
              · have gt : decide (4611686018427387904 ≤ W1) = false := decide_eq_false hT
                have HN := Lib.hid (show ScR n a b j W1 R1 from ⟨by rw [HMJ.out]; exact HW1.out, k0, by omega, k2, by omega⟩)
                go_wp2_with fail
                go_roundw
                case rel => exact ⟨j, W1, R1, by omega, rfl, rfl, rfl, HN.out, trivial⟩
                case measure => simp [RowKit.intOf] <;> omega
        · obtain ⟨R0, hR0⟩ : ∃ R0, 2 * R + a = R0 := ⟨_, rfl⟩
          have hR0b : 0 ≤ R0 ∧ R0 ≤ 3000 := by omega
          have H2 := Lib.hid (show W0 * b + R0 = m * a by omega)
          have hx1 : ((1 : Int) == 1) = true := rfl
          clear h2
          go_wp2_with fail
          go_loopw [7, 8] (fun x y wz => ∃ W1 R1 : Int, x = .int .i64 W1 ∧ y = .int .i64 R1 ∧ 0 ≤ R1 ∧ W1 + R1 ≤ W0 + R0 ∧ 0 ≤ W1 ∧ Hid (W1 * b + R1 = m * a) ∧ wz = wr) (fun _ y _ => (RowKit.intOf y).toNat)
          case atStart => exact ⟨W0, R0, rfl, rfl, hR0b.1, Int.le_refl _, hW0b.1, H2, rfl⟩
          case round =>
            obtain ⟨W1, R1, rfl, rfl, k0, k1, k2, HW1, rfl⟩ := hrel
            by_cases hbr : b ≤ R1
            · have gb : decide (b ≤ R1) = true := decide_eq_true hbr
              go_wp2_with fail
              go_roundw
              case rel => exact ⟨W1 + 1, R1 - b, rfl, rfl, by omega, by omega, by omega, Lib.hid (by have := HW1.out; rw [Int.add_mul, Int.one_mul]; omega), trivial⟩
              case measure => simp [RowKit.intOf] <;> omega
            · have gb : decide (b ≤ R1) = false := decide_eq_false hbr
              by_cases hT : 4611686018427387904 ≤ W1
              · have gt : decide (4611686018427387904 ≤ W1) = true := decide_eq_true hT
                have he := (sc_late ha hb (by rw [HMJ.out]; exact HW1.out) k0 hT).symm.trans HM.out
                subst he
                go_wp2_with fail
                go_ret
                exact ⟨rfl, rfl⟩
              · have gt : decide (4611686018427387904 ≤ W1) = false := decide_eq_false hT
                have HN := Lib.hid (show ScR n a b j W1 R1 from ⟨by rw [HMJ.out]; exact HW1.out, k0, by omega, k2, by omega⟩)
                go_wp2_with fail
                go_roundw
                case rel => exact ⟨j, W1, R1, by omega, rfl, rfl, rfl, HN.out, trivial⟩
                case measure => simp [RowKit.intOf] <;> omega
end Go.Proofs.Ytdbnpdbnjipjiaa
