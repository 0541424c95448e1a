/-
  Layer 15 (play): the library's product of two words, of a number by a speed.
-/
import Derived.Test.YtdbnpdbnjipjiaaProg
import Derived.Laws.BitsAllLaws
import Derived.Lib.Strings
import Derived.Lib.Slices
import Derived.Lib.Small
import Derived.Lib.Walk
import Derived.Lib.BitFns
import Derived.Lib.Hide
import Derived.ProofKit
import Derived.RowKit
import Derived.OpenShut
namespace Go.Proofs.Ytdbnpdbnjipjiaa
open Go.RowKit Go.Lib
set_option maxRecDepth 100000

theorem u64_mask32 (n : Int) (h0 : 0 ≤ n) (h1 : n < 18446744073709551616) : bits .and .u64 n 4294967295 = n % 4294967296 := by
  have h127 : (BitVec.ofInt 64 4294967295).toNat = 2 ^ 32 - 1 := by decide
  have key : (BitVec.ofInt 64 n &&& BitVec.ofInt 64 4294967295).toNat = (n % 4294967296).toNat := by
    rw [BitVec.toNat_and, BitVec.toNat_ofInt, h127, Nat.and_two_pow_sub_one_eq_mod]
    omega
  show IntKind.u64.wrap ((BitVec.ofInt 64 n &&& BitVec.ofInt 64 4294967295).toNat : Nat) = n % 4294967296
  rw [key, IntKind.wrap_u64]
  omega

set_option maxHeartbeats 1000000 in
theorem mul64_ok (w : World) (x y : Int) (hx0 : 0 ≤ x) (hx : x ≤ 4611686018427387904) (hy0 : 0 ≤ y) (hy : y ≤ 1000) : Calls Try.prog 33 #[.int .u64 x, .int .u64 y] w fun e w' =>
    e = .returned (.tuple #[.int .u64 (x * y / 18446744073709551616), .int .u64 (x * y % 18446744073709551616)]) ∧ w' = w := by
  obtain ⟨x0, hx0'⟩ : ∃ x0, x0 = x % 4294967296 := ⟨_, rfl⟩
  obtain ⟨x1, hx1'⟩ : ∃ x1, x1 = x / 4294967296 := ⟨_, rfl⟩
  obtain ⟨m0, hm0⟩ : ∃ m0, m0 = x0 * y := ⟨_, rfl⟩
  obtain ⟨m1, hm1⟩ : ∃ m1, m1 = x1 * y := ⟨_, rfl⟩
  have b0 : 0 ≤ m0 ∧ m0 ≤ 4294967296000 := by
    rw [hm0]
    have h1 : 0 ≤ x0 := by omega
    have h2 : x0 ≤ 4294967296 := by omega
    have h3 : x0 * y ≤ x0 * 1000 := Int.mul_le_mul_of_nonneg_left hy h1
    exact ⟨Int.mul_nonneg h1 hy0, by omega⟩
  have b1 : 0 ≤ m1 ∧ m1 ≤ 1073741824000 := by
    rw [hm1]
    have h1 : 0 ≤ x1 := by omega
    have h2 : x1 ≤ 1073741824 := by omega
    have h3 : x1 * y ≤ x1 * 1000 := Int.mul_le_mul_of_nonneg_left hy h1
    exact ⟨Int.mul_nonneg h1 hy0, by omega⟩
  have hxy : x * y = 4294967296 * m1 + m0 := by
    rw [hm0, hm1, show x = 4294967296 * x1 + x0 by omega, Int.add_mul, Int.mul_assoc]
  obtain ⟨t, ht⟩ : ∃ t, t = m1 + m0 / 4294967296 := ⟨_, rfl⟩
  have e1 : bits .and .u64 x 4294967295 = x0 := by rw [u64_mask32 x hx0 (by omega)]; exact hx0'.symm
  have e2 : bits .and .u64 y 4294967295 = y := by rw [u64_mask32 y hy0 (by omega)]; omega
  have e3 : y / 4294967296 = 0 := by omega
  have e4 : bits .and .u64 t 4294967295 = t % 4294967296 := u64_mask32 t (by omega) (by omega)
  have e5 : x / 4294967296 = x1 := hx1'.symm
  have m0e : x0 * y = m0 := hm0.symm
  have m1e : x1 * y = m1 := hm1.symm
  have te : m1 + m0 / 4294967296 = t := ht.symm
  have hw : IntKind.u64.wrap 0 = 0 := by decide
  have H := Lib.hid hxy
  rw [hxy]
  clear hxy
  have hx0b : 0 ≤ x0 ∧ x0 ≤ 4294967295 := by omega
  have hx1b : 0 ≤ x1 ∧ x1 ≤ 1073741824 := by omega
  have htb : 0 ≤ t ∧ t ≤ 1073741825000 := by omega
  clear hx0' hx1' hm0 hm1 ht
  go_enter Try.func33, Try.ntmps33
  go_wp2
  go_ret2
  have q1 : t / 4294967296 + t % 4294967296 / 4294967296 = (4294967296 * m1 + m0) / 18446744073709551616 := by omega
  have q2 : IntKind.u64.wrap (x * y) = (4294967296 * m1 + m0) % 18446744073709551616 := by rw [H.out, IntKind.wrap_u64]
  refine ⟨?_, rfl⟩
  rw [← q1, ← q2]
  rfl

/-! ### how many bits a speed takes -/
theorem bits_few : ∀ n : Fin 1001, 1 ≤ n.val → 1 ≤ Lib.bitLen n.val ∧ Lib.bitLen n.val ≤ 10 ∧ 2 ^ (Lib.bitLen n.val - 1) ≤ n.val ∧ n.val < 2 ^ Lib.bitLen n.val := by decide +kernel

set_option maxHeartbeats 1000000 in
theorem len64_ok (w : World) (x : Int) (h0 : 0 ≤ x) (h1 : x ≤ 1000) : Calls Try.prog 42 #[.int .u64 x] w fun e w' => e = .returned (.int .i64 (Lib.bitLen x.toNat)) ∧ w' = w := by
  by_cases hx : 256 ≤ x
  · obtain ⟨z, hz⟩ : ∃ z, z = x / 256 := ⟨_, rfl⟩
    have k0 : 0 ≤ z := by omega
    have k1 : z ≤ 255 := by omega
    have kz : x / 256 = z := hz.symm
    have s := Lib.bitLen_shift8 x.toNat (by omega) (by omega)
    rw [show x.toNat / 256 = z.toNat by omega] at s
    have S := Lib.hid s
    clear s hz
    go_enter Try.func42, Try.ntmps42
    go_wp2
    go_ret
    refine ⟨congrArg Ending.returned (congrArg (Value.int IntKind.i64) ?_), rfl⟩
    rw [S.out]
    simp only [Lib.len8_of z k0 k1]
    have l := Lib.bitLen_le8' z k0 k1
    simp [wrap64]
    omega
  · have k1 : x ≤ 255 := by omega
    go_enter Try.func42, Try.ntmps42
    go_wp2
    go_ret
    refine ⟨congrArg Ending.returned (congrArg (Value.int IntKind.i64) ?_), rfl⟩
    simp only [Lib.len8_of x h0 k1]
    have l := Lib.bitLen_le8' x h0 k1
    simp [wrap64]
    omega
theorem lead_ok (w : World) (x : Int) (h0 : 0 ≤ x) (h1 : x ≤ 1000) : Calls Try.prog 40 #[.int .u64 x] w fun e w' => e = .returned (.int .i64 (64 - (Lib.bitLen x.toNat : Int))) ∧ w' = w := by
  have l := Lib.bitLen_le x.toNat 10 (by omega) (by omega)
  have HL := Lib.hid (fun w => len64_ok w x h0 h1)
  generalize Lib.bitLen x.toNat = n at *
  go_enter Try.func40, Try.ntmps40
  go_wp2_with (refine (HL.out _).mono ?_; rintro e w' ⟨rfl, rfl⟩)
  go_ret
  exact ⟨rfl, rfl⟩
end Go.Proofs.Ytdbnpdbnjipjiaa
