/-
  Layer 1 (vary): what Take answers, of whatever bytes.
-/
import Derived.Test.YtfbfelfioikieaaRows
import Derived.Test.YtfbfelfioikieaaVMath
import Derived.Test.YtfbfelfioikieaaVMem
import Derived.WalkKit
import Derived.WalkSpells
import Derived.Lib.Hide
import Derived.Laws.BitsAllLaws
namespace Go.Proofs.Ytfbfelfioikieaa
open Go.RowKit

theorem or_join (X c k : Nat) (hk : k ≤ 9) (hX : X < 2 ^ (7 * k)) (hc : k = 9 → c ≤ 1) :
    bits .or .u64 (X : Int) (IntKind.u64.wrap ((c : Int) % 128 * 2 ^ (7 * k))) = ((X + c % 128 * 2 ^ (7 * k) : Nat) : Int) := by
  have hp : 2 ^ (7 * k) ≤ 9223372036854775808 := by
    have := Nat.pow_le_pow_right (n := 2) (by omega) (show 7 * k ≤ 63 by omega)
    exact this
  have hlt : c % 128 * 2 ^ (7 * k) + 2 ^ (7 * k) ≤ 18446744073709551616 := by
    by_cases h9 : k = 9
    · have := hc h9
      have : c % 128 * 2 ^ (7 * k) ≤ 1 * 2 ^ (7 * k) := Nat.mul_le_mul_right _ (by omega)
      omega
    · have h1 : 2 ^ (7 * k) ≤ 2 ^ 56 := Nat.pow_le_pow_right (by omega) (by omega)
      have h2 : c % 128 * 2 ^ (7 * k) ≤ 127 * 2 ^ 56 := Nat.mul_le_mul (by omega) h1
      have e1 : (127 : Nat) * 2 ^ 56 = 9151314442816847872 := by decide
      have e2 : (2 : Nat) ^ 56 = 72057594037927936 := by decide
      omega
  have e : IntKind.u64.wrap ((c : Int) % 128 * 2 ^ (7 * k)) = ((c % 128 * 2 ^ (7 * k) : Nat) : Int) := by
    rw [show ((c : Int) % 128 * 2 ^ (7 * k)) = ((c % 128 * 2 ^ (7 * k) : Nat) : Int) from by push_cast; rfl]
    exact IntWalk.u64_in _ ⟨by omega, by omega⟩
  rw [e, u64_or_nat _ _ (by omega) (by omega), Nat.or_comm, nat_join (7 * k) _ _ (Nat.mul_mod_left _ _) hX, Nat.add_comm]

theorem ret_pair {a c b d : Int} (h1 : a = c) (h2 : b = d) : Ending.returned (.tuple #[.int .u64 a, .int .i64 b]) = .returned (.tuple #[.int .u64 c, .int .i64 d]) := by rw [h1, h2]
theorem join_lt {X x k : Nat} (hX : X < 2 ^ (7 * k)) : X + x % 128 * 2 ^ (7 * k) < 2 ^ (7 * (k + 1)) := by
  rw [VM.pow7]
  have : x % 128 * 2 ^ (7 * k) + 2 ^ (7 * k) ≤ 128 * 2 ^ (7 * k) := by
    rw [← Nat.succ_mul]; exact Nat.mul_le_mul_right _ (by omega)
  omega

set_option maxRecDepth 100000 in
set_option maxHeartbeats 400000 in
theorem take_any (A : Option Addr) (c : Nat) (l : List Nat) (w : World) (B : Nat) (hm : l.length ≤ maxLen) (hr : Row w B .u8 A l) (hb : ∀ c ∈ l, c < 256) :
    Calls Try.prog 35 #[.slice A l.length c] w fun e w' => e = .returned (.tuple #[.int .u64 (VM.take l).1, .int .i64 (VM.take l).2]) ∧ w = w' := by
  unfold maxLen at hm
  go_enter Try.func35, Try.ntmps35
  go_wp2
  go_loop [4, 9] (fun x i => ∃ k X : Nat, k ≤ l.length ∧ k ≤ 9 ∧ i = .int .i64 k ∧ x = .int .u64 X ∧ X < 2 ^ (7 * k) ∧ VM.take l = VM.dec k X (l.drop k)) (fun _ i => l.length - (intOf i).toNat)
  case atStart => exact ⟨0, 0, Nat.zero_le _, Nat.zero_le _, rfl, rfl, by simp, rfl⟩
  case round =>
    obtain ⟨k, X, hk, hk9, rfl, rfl, hX, hd⟩ := hrel
    have HD := Lib.hid hd; clear hd
    have HX := Lib.hid hX; clear hX
    by_cases hlt : k < l.length
    · obtain ⟨b, off, rfl, _, hcell⟩ := hr.at_ hlt
      have hgk : l.getD k 0 = l[k] := by simp [hlt]
      have hcb : l.getD k 0 < 256 := by rw [hgk]; exact hb _ (List.getElem_mem _)
      have hsp : l.drop k = l.getD k 0 :: l.drop (k + 1) := by rw [List.drop_eq_getElem_cons hlt, hgk]
      clear hgk
      generalize l.getD k 0 = x at *
      have HS := Lib.hid hsp; clear hsp
      clear hr hb
      have HE := Lib.hid (HD.out.trans (by rw [HS.out, VM.dec]))
      by_cases h9 : k = 9
      · subst h9
        by_cases hx : 1 < x
        · have e := HE.out; rw [if_pos ⟨rfl, hx⟩] at e
          have E := Lib.hid e; clear e
          go_wp2
          go_ret2
          exact ⟨ret_pair (by rw [E.out]; rfl) (by rw [E.out]; rfl), rfl⟩
        · have e := HE.out; rw [if_neg (by omega), if_neg (by omega)] at e
          by_cases hx0 : x = 0
          · rw [if_pos (by omega)] at e
            have E := Lib.hid e; clear e
            subst hx0
            go_wp2
            go_ret2
            exact ⟨ret_pair (by rw [E.out]; rfl) (by rw [E.out]; rfl), rfl⟩
          · rw [if_neg (by omega)] at e
            have E := Lib.hid e; clear e
            obtain rfl : x = 1 := by omega
            have hj := Lib.hid (or_join X 1 9 (by omega) HX.out (by omega))
            go_wp2
            go_ret2
            refine ⟨ret_pair ?_ ?_, rfl⟩
            · rw [E.out]; exact hj.out
            · rw [E.out]; rfl
      · have b9 : ((k : Int) == 9) = false := by simp; omega
        by_cases h128 : 128 ≤ x
        · have e := HE.out; rw [if_neg (by omega), if_pos (by omega)] at e
          have E := Lib.hid e; clear e
          have hj := Lib.hid (or_join X x k (by omega) HX.out (by omega))
          have hl := Lib.hid (join_lt (x := x) HX.out)
          go_wp2
          go_round
          case rel => exact ⟨k + 1, _, by omega, by omega, by go_num, by rw [hj.out], hl.out, E.out⟩
          case measure => simp [intOf]; omega
        · have e := HE.out; rw [if_neg (by omega), if_neg (by omega)] at e
          by_cases hx0 : x = 0 ∧ 0 < k
          · rw [if_pos hx0] at e
            have E := Lib.hid e; clear e
            obtain ⟨rfl, hk0⟩ := hx0
            go_wp2
            go_ret2
            exact ⟨ret_pair (by rw [E.out]; rfl) (by rw [E.out]; rfl), rfl⟩
          · rw [if_neg hx0] at e
            have E := Lib.hid e; clear e
            have hj := Lib.hid (or_join X x k (by omega) HX.out (by omega))
            go_wp2
            all_goals go_ret2
            all_goals refine ⟨ret_pair ?_ ?_, rfl⟩
            all_goals rw [E.out]
            all_goals first | omega | exact hj.out | (simpa [show x = 0 by assumption] using hj.out)
    · have e : l.drop k = [] := List.drop_eq_nil_of_le (by omega)
      have E := Lib.hid (HD.out.trans (by rw [e, VM.dec])); clear e
      go_wp2
      go_ret2
      exact ⟨ret_pair (by rw [E.out]; rfl) (by rw [E.out]; rfl), rfl⟩
end Go.Proofs.Ytfbfelfioikieaa
