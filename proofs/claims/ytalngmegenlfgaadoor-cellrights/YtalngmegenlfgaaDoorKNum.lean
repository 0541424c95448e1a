/-
  Layer 8 (cell): a style's number (number), the style of a number (styleOf), PutStyle, TakeStyle.
-/
import Derived.Test.YtalngmegenlfgaaDoorKCh2
import Derived.Test.YtalngmegenlfgaaDoorKRead
import Derived.Test.YtalngmegenlfgaaDoorVApp
namespace Go.Proofs.YtalngmegenlfgaaDoor
open Go.RowKit Go.Lib KM

set_option maxRecDepth 100000 in
set_option maxHeartbeats 1000000 in
theorem number_ok (w : World) (s : Sty) (hs : sright s = true) : Calls Tryd.prog 36 #[styV s] w fun e w' => e = .returned (.int .u64 (snum s : Int)) ∧ Below w.heap.size w w' := by
  rw [sright_iff] at hs
  obtain ⟨b, u, t, f, k⟩ := s
  simp only at hs
  obtain ⟨f, rfl⟩ := Int.eq_ofNat_of_zero_le hs.1.1
  obtain ⟨k, rfl⟩ := Int.eq_ofNat_of_zero_le hs.2.1
  have h1 : f ≤ 8 := by omega
  have h2 : k ≤ 8 := by omega
  simp only [styV, snum, Int.toNat_natCast]
  clear hs
  rcases b with _ | _ <;> rcases u with _ | _ <;> rcases t with _ | _
  all_goals go_enter Tryd.func36, Tryd.ntmps36
  all_goals go_wp2
  all_goals go_ret
  all_goals refine ⟨?_, (Below.refl _ _).alloc (Nat.le_refl _) _⟩
  all_goals simp
  all_goals omega

theorem and_bit (n i : Nat) (hn : n < 2048) (hi : i ≤ 10) : bits .and .i64 (n : Int) ((2 ^ i : Nat) : Int) = (((n / 2 ^ i % 2) * 2 ^ i : Nat) : Int) := by
  have hp : 2 ^ i ≤ 1024 := Nat.pow_le_pow_right (by omega) hi
  have key : (BitVec.ofInt 64 (n : Int) &&& BitVec.ofInt 64 ((2 ^ i : Nat) : Int)).toNat = n &&& 2 ^ i := by
    rw [BitVec.toNat_and, BitVec.toNat_ofInt, BitVec.toNat_ofInt]
    generalize 2 ^ i = p at hp ⊢
    congr 1
    · omega
    · omega
  show IntKind.i64.wrap ((BitVec.ofInt 64 (n : Int) &&& BitVec.ofInt 64 ((2 ^ i : Nat) : Int)).toNat : Nat) = _
  have e : n &&& 2 ^ i = (n / 2 ^ i % 2) * 2 ^ i := by
    have ht : n.testBit i = decide (n / 2 ^ i % 2 = 1) := Nat.testBit_eq_decide_div_mod_eq
    rcases (by omega : n / 2 ^ i % 2 = 0 ∨ n / 2 ^ i % 2 = 1) with h | h
    · rw [h] at ht ⊢
      refine Nat.eq_of_testBit_eq fun j => ?_
      rw [Nat.testBit_and, Nat.testBit_two_pow]
      by_cases hij : i = j
      · subst hij; simp [ht]
      · simp [hij]
    · rw [h] at ht ⊢
      refine Nat.eq_of_testBit_eq fun j => ?_
      rw [Nat.testBit_and, Nat.one_mul, Nat.testBit_two_pow]
      by_cases hij : i = j
      · subst hij; simp [ht]
      · simp [hij]
  rw [key, IntKind.wrap_i64, e]
  have : n / 2 ^ i % 2 * 2 ^ i ≤ 1 * 2 ^ i := Nat.mul_le_mul_right _ (by omega)
  omega
theorem bit_ne (m k : Nat) (hk : 0 < k) : (((m % 2 * k : Nat) : Int) != 0) = (m % 2 == 1) := by
  rcases (by omega : m % 2 = 0 ∨ m % 2 = 1) with h | h
  · simp [h]
  · simp [h]; omega

set_option maxRecDepth 100000 in
set_option maxHeartbeats 1000000 in
theorem styleOf_ok (w : World) (n : Nat) (hn : n < 2048) : Calls Tryd.prog 37 #[.int .i64 (n : Int)] w fun e w' => e = .returned (styV (styOf n)) ∧ Below w.heap.size w w' := by
  have a8 : bits .and .i64 (n : Int) 256 = _ := and_bit n 8 hn (by omega)
  have a9 : bits .and .i64 (n : Int) 512 = _ := and_bit n 9 hn (by omega)
  have a10 : bits .and .i64 (n : Int) 1024 = _ := and_bit n 10 hn (by omega)
  have e8 := bit_ne (n / 2 ^ 8) (2 ^ 8) (by omega)
  have e9 := bit_ne (n / 2 ^ 9) (2 ^ 9) (by omega)
  have e10 := bit_ne (n / 2 ^ 10) (2 ^ 10) (by omega)
  have hst : styOf n = ⟨n / 2 ^ 8 % 2 == 1, n / 2 ^ 9 % 2 == 1, n / 2 ^ 10 % 2 == 1, ((n % 16 : Nat) : Int), ((n % 256 / 16 : Nat) : Int)⟩ := rfl
  rw [hst]
  simp only [styV]
  generalize n / 2 ^ 8 % 2 * 2 ^ 8 = q8 at *
  generalize n / 2 ^ 9 % 2 * 2 ^ 9 = q9 at *
  generalize n / 2 ^ 10 % 2 * 2 ^ 10 = q10 at *
  generalize (n / 2 ^ 8 % 2 == 1) = b8 at *
  generalize (n / 2 ^ 9 % 2 == 1) = b9 at *
  generalize (n / 2 ^ 10 % 2 == 1) = b10 at *
  have hbs := fun w f k => build_style w b8 b9 b10 f k
  clear hst
  go_enter Tryd.func37, Tryd.ntmps37
  go_wp2
  exact bodyPost_ret (v := .agg #[.bool b8, .bool b9, .bool b10, .int .i64 ((n % 16 : Nat) : Int), .int .i64 ((n % 256 / 16 : Nat) : Int)]) (by simp [results, Tryd.results37, go_sem]) rfl ⟨rfl, (Below.refl _ _).alloc (Nat.le_refl _) _⟩
end Go.Proofs.YtalngmegenlfgaaDoor
