/-
  Layer 1 (vary): what Take answers, of whatever bytes.
-/
import Derived.Test.YtciogdhapogolaaDoorRows
import Derived.Test.YtciogdhapogolaaDoorVMath
import Derived.Test.YtciogdhapogolaaDoorVMem
import Derived.WalkKit
import Derived.WalkSpells
import Derived.Lib.Hide
import Derived.Laws.BitsAllLaws
namespace Go.Proofs.YtciogdhapogolaaDoor
open Go.RowKit

theorem or_join (X c k : Nat) (hk : k ≤ 9) (hX : X < 2 ^ (7 * k)) (hc : k = 9 → c ≤ 1) :
    bits .or .u64 (X : Int) (IntKind.u64.wrap ((c : Int) % 128 * 2 ^ (7 * k))) = ((X + c % 128 * 2 ^ (7 * k) : Nat) : Int) := by
  have hp : 2 ^ (7 * k) ≤ 9223372036854775808 := by
    have := Nat.pow_le_pow_right (n := 2) (by omega) (show 7 * k ≤ 63 by omega)
    exact this
  have hlt : c % 128 * 2 ^ (7 * k) + 2 ^ (7 * k) ≤ 18446744073709551616 := by
    by_cases h9 : k = 9
    · have := hc h9
      have : c % 128 * 2 ^ (7 * k) ≤ 1 * 2 ^ (7 * k) := Nat.mul_le_mul_right _ (by omega)
      omega
    · have h1 : 2 ^ (7 * k) ≤ 2 ^ 56 := Nat.pow_le_pow_right (by omega) (by omega)
      have h2 : c % 128 * 2 ^ (7 * k) ≤ 127 * 2 ^ 56 := Nat.mul_le_mul (by omega) h1
      have e1 : (127 : Nat) * 2 ^ 56 = 9151314442816847872 := by decide
      have e2 : (2 : Nat) ^ 56 = 72057594037927936 := by decide
      omega
  have e : IntKind.u64.wrap ((c : Int) % 128 * 2 ^ (7 * k)) = ((c % 128 * 2 ^ (7 * k) : Nat) : Int) := by
    rw [show ((c : Int) % 128 * 2 ^ (7 * k)) = ((c % 128 * 2 ^ (7 * k) : Nat) : Int) from by push_cast; rfl]
    exact IntWalk.u64_in _ ⟨by omega, by omega⟩
  rw [e, u64_or_nat _ _ (by omega) (by omega), Nat.or_comm, nat_join (7 * k) _ _ (Nat.mul_mod_left _ _) hX, Nat.add_comm]

theorem ret_pair {a c b d : Int} (h1 : a = c) (h2 : b = d) : Ending.returned (.tuple #[.int .u64 a, .int .i64 b]) = .returned (.tuple #[.int .u64 c, .int .i64 d]) := by rw [h1, h2]
theorem join_lt {X x k : Nat} (hX : X < 2 ^ (7 * k)) : X + x % 128 * 2 ^ (7 * k) < 2 ^ (7 * (k + 1)) := by
  rw [VM.pow7]
  have : x % 128 * 2 ^ (7 * k) + 2 ^ (7 * k) ≤ 128 * 2 ^ (7 * k) := by
    rw [← Nat.succ_mul]; exact Nat.mul_le_mul_right _ (by omega)
  omega

end Go.Proofs.YtciogdhapogolaaDoor
