/-
  Layer 2 (crc): what shift and Sum answer, of whatever bytes.
-/
import Derived.Test.YtfndbgdamplelaaRows
import Derived.Test.YtfndbgdamplelaaCMath
import Derived.Test.YtfndbgdamplelaaVMem
import Derived.WalkKit
import Derived.WalkSpells
import Derived.Lib.Hide
import Derived.Laws.BitsAllLaws
namespace Go.Proofs.Ytfndbgdamplelaa
open Go.RowKit

theorem div_pow_cast (x k : Nat) (hx : x < 4294967296) : ((x : Int) / 2 ^ k % 4294967296) = ((x / 2 ^ k : Nat) : Int) := by
  have h1 : ((x : Int) / 2 ^ k) = ((x / 2 ^ k : Nat) : Int) := by push_cast; rfl
  have h2 : x / 2 ^ k ≤ x := Nat.div_le_self _ _
  rw [h1]; exact Int.emod_eq_of_lt (Int.natCast_nonneg _) (Int.ofNat_lt.2 (Nat.lt_of_le_of_lt h2 hx))
theorem unlike_bit (R x k : Nat) (hR : R < 4294967296) (hx : x < 256) :
    (bits .and .u32 (bits .xor .u32 (R : Int) ((x : Int) / 2 ^ k % 4294967296)) 1 == 1) = decide ((R ^^^ (x / 2 ^ k)) % 2 = 1) := by
  have h2 : x / 2 ^ k ≤ x := Nat.div_le_self _ _
  rw [div_pow_cast x k (by omega), u32_xor_nat _ _ hR (by omega)]
  have h3 : R ^^^ (x / 2 ^ k) < 4294967296 := Nat.xor_lt_two_pow (n := 32) hR (by show _ < 4294967296; omega)
  rw [show (1 : Int) = ((1 : Nat) : Int) from rfl, u32_and_nat _ _ h3 (by omega), nat_mask1, Bool.eq_iff_iff]
  simp only [beq_iff_eq, decide_eq_true_eq]
  omega
theorem half_xor (R : Nat) (hR : R < 4294967296) : bits .xor .u32 ((R : Int) / 2) 3988292384 = ((R / 2 ^^^ 3988292384 : Nat) : Int) := by
  rw [show ((R : Int) / 2) = ((R / 2 : Nat) : Int) from by omega, show (3988292384 : Int) = ((3988292384 : Nat) : Int) from rfl, u32_xor_nat _ _ (by omega) (by omega)]
theorem sh_step (k R x : Nat) (hk : k < 8) : CM.sh (8 - k) R (x / 2 ^ k) = CM.sh (8 - (k + 1)) (R / 2 ^^^ (if (R ^^^ (x / 2 ^ k)) % 2 = 1 then 3988292384 else 0)) (x / 2 ^ (k + 1)) := by
  rw [show 8 - k = (8 - (k + 1)) + 1 from by omega, Nat.pow_succ, ← Nat.div_div_eq_div_mul]
  rfl
theorem ret_int {k : IntKind} {a b : Int} (h : a = b) : Ending.returned (.int k a) = .returned (.int k b) := by rw [h]

set_option maxRecDepth 100000 in
set_option maxHeartbeats 400000 in
theorem shift_any (r x : Nat) (w : World) (hr : r < 4294967296) (hx : x < 256) :
    Calls Try.prog 16 #[.int .u32 r, .int .u8 x] w fun e w' => e = .returned (.int .u32 (CM.byte r x : Nat)) ∧ w = w' := by
  go_enter Try.func16, Try.ntmps16
  go_wp2
  go_loop [0, 7] (fun q i => ∃ k R : Nat, k ≤ 8 ∧ i = .int .i64 k ∧ q = .int .u32 R ∧ R < 4294967296 ∧ CM.byte r x = CM.sh (8 - k) R (x / 2 ^ k)) (fun _ i => 8 - (intOf i).toNat)
  case atStart => exact ⟨0, r, by omega, rfl, rfl, hr, by simp; rw [CM.sh_eq 8 r x (by omega)]; rfl⟩
  case round =>
    obtain ⟨k, R, hk, rfl, rfl, hR, hd⟩ := hrel
    by_cases hlt : k < 8
    · have hb := unlike_bit R x k hR hx
      rw [sh_step k R x hlt] at hd
      by_cases hu : (R ^^^ (x / 2 ^ k)) % 2 = 1
      · rw [if_pos hu] at hd
        rw [decide_eq_true hu] at hb
        have HX := Lib.hid (half_xor R hR)
        have HD := Lib.hid hd; clear hd
        have HL : Hid (R / 2 ^^^ 3988292384 < 4294967296) := Nat.xor_lt_two_pow (n := 32) (by show _ < 4294967296; omega) (by decide)
        clear hu
        go_wp2
        go_round
        case rel => exact ⟨k + 1, R / 2 ^^^ 3988292384, by omega, by go_num, by rw [HX.out], HL.out, HD.out⟩
        case measure => simp [intOf]; omega
      · rw [if_neg hu, Nat.xor_zero] at hd
        rw [decide_eq_false hu] at hb
        have HD := Lib.hid hd; clear hd
        clear hu
        go_wp2
        go_round
        case rel => exact ⟨k + 1, R / 2, by omega, by go_num, by go_num, by omega, HD.out⟩
        case measure => simp [intOf]; omega
    · obtain rfl : k = 8 := by omega
      have HD := Lib.hid hd; clear hd
      go_wp2
      go_ret
      exact ⟨ret_int (by rw [HD.out]; rfl), rfl⟩

theorem turn_all (R : Nat) (hR : R < 4294967296) : bits .xor .u32 IntKind.u32.max (R : Int) = ((R ^^^ 4294967295 : Nat) : Int) := by
  rw [show IntKind.u32.max = ((4294967295 : Nat) : Int) from by decide, u32_xor_nat _ _ (by omega) hR, Nat.xor_comm]

set_option maxRecDepth 100000 in
set_option maxHeartbeats 400000 in
theorem sum_any (A : Option Addr) (c : Nat) (l : List Nat) (w : World) (B : Nat) (hm : l.length ≤ maxLen) (hr : Row w B .u8 A l) (hb : ∀ c ∈ l, c < 256) :
    Calls Try.prog 12 #[.slice A l.length c] w fun e w' => e = .returned (.int .u32 (CM.sum l : Nat)) ∧ w = w' := by
  unfold maxLen at hm
  go_enter Try.func12, Try.ntmps12
  go_wp2
  go_loop [3, 8] (fun q i => ∃ k R : Nat, k ≤ l.length ∧ i = .int .i64 k ∧ q = .int .u32 R ∧ R < 4294967296 ∧ CM.reg 4294967295 l = CM.reg R (l.drop k)) (fun _ i => l.length - (intOf i).toNat)
  case atStart => exact ⟨0, 4294967295, by omega, rfl, rfl, by omega, rfl⟩
  case round =>
    obtain ⟨k, R, hk, rfl, rfl, hR, hd⟩ := hrel
    by_cases hlt : k < l.length
    · obtain ⟨b, off, rfl, _, hcell⟩ := hr.at_ hlt
      have hgk : l.getD k 0 = l[k] := by simp [hlt]
      have hcb : l.getD k 0 < 256 := by rw [hgk]; exact hb _ (List.getElem_mem _)
      have hsp : l.drop k = l.getD k 0 :: l.drop (k + 1) := by rw [List.drop_eq_getElem_cons hlt, hgk]
      rw [hsp, CM.reg_cons] at hd
      clear hgk hsp hr hb
      generalize l.getD k 0 = x at *
      have HD := Lib.hid hd; clear hd
      have HL := Lib.hid (CM.byte_lt hR hcb)
      go_wp2_with fail
      refine (shift_any R x _ hR hcb).mono ?_
      rintro e w1 ⟨rfl, rfl⟩
      go_wp2
      go_round
      case rel => exact ⟨k + 1, _, by omega, by go_num, rfl, HL.out, HD.out⟩
      case measure => simp [intOf]; omega
    · rw [List.drop_eq_nil_of_le (by omega), CM.reg_nil] at hd
      have HD := Lib.hid hd; clear hd
      have HT := Lib.hid (turn_all R hR)
      go_wp2
      go_ret
      exact ⟨ret_int (by unfold CM.sum; rw [HD.out]; exact HT.out), rfl⟩
end Go.Proofs.Ytfndbgdamplelaa
