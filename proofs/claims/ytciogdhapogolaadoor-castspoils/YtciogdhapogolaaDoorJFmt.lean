/-
  Layer 3 (json): a number as text of base 16, at the numbers that Quote writes so.
-/
import Derived.Test.YtciogdhapogolaaDoorJBuild
import Derived.Test.YtciogdhapogolaaDoorJMath
import Derived.Laws.BitsAllLaws
import Derived.Outline
set_option linter.unusedVariables false
namespace Go.Proofs.YtciogdhapogolaaDoor
open Go.RowKit

theorem gLow : Tryd.prog.globalNamed "math/bits.deBruijn64tab" = some 7 := by kernel_rfl

set_option maxHeartbeats 1000000 in
set_option maxRecDepth 100000 in
theorem trailing (w : World) (hF : Fmt w) : Calls Tryd.prog 79 #[.int .u64 16] w fun e w' => e = .returned (.int .i64 4) ∧ w' = w := by
  have hc : w.cell? ⟨7, 15, none⟩ = some (.int .u8 4) := hF.low.cell gLow 15 (by decide)
  have e1 : IntKind.u64.wrap (-16) = 18446744073709551600 := by decide +kernel
  have e2 : bits .and .u64 16 18446744073709551600 = 16 := by decide +kernel
  have e3 : IntKind.u64.wrap (16 * 285870213051353865) = 4573923408821661840 := by decide +kernel
  have e4 : IntKind.u64.wrap 4573923408821661840 = 4573923408821661840 := by decide +kernel
  go_enter Tryd.func79, Tryd.ntmps79
  go_wp2
  go_ret
  exact ⟨rfl, rfl⟩

set_option maxHeartbeats 1000000 in
set_option maxRecDepth 100000 in
theorem trailing16 (w : World) (hF : Fmt w) : Calls Tryd.prog 75 #[.int .u64 16] w fun e w' => e = .returned (.int .i64 4) ∧ w' = w := by
  go_enter Tryd.func75, Tryd.ntmps75
  go_wp2_with (go_at_call 79; refine (trailing _ hF).mono ?_; rintro e w' ⟨rfl, rfl⟩)
  go_ret
  exact ⟨rfl, rfl⟩

set_option maxHeartbeats 1000000 in
set_option maxRecDepth 100000 in
theorem power16 (w : World) : Calls Tryd.prog 74 #[.int .i64 16] w fun e w' => e = .returned (.bool true) ∧ w' = w := by
  have e1 : bits .and .i64 16 15 = 0 := by decide +kernel
  go_enter Tryd.func74, Tryd.ntmps74
  go_wp2
  go_ret
  exact ⟨rfl, rfl⟩

abbrev digits : ByteArray := ⟨#[48, 49, 50, 51, 52, 53, 54, 55, 56, 57, 97, 98, 99, 100, 101, 102, 103, 104, 105, 106, 107, 108, 109, 110, 111, 112, 113, 114, 115, 116, 117, 118, 119, 120, 121, 122]⟩
theorem digit_at (n : Nat) (h : n < 16) (w : World) : (Instr.index 9 (.string digits) (.int .u64 n)).run Tryd.prog w = .ok (.int .u8 (JM.hexd n).toNat) w := by
  have hn : n < digits.size := by show n < 36; omega
  rw [run_index_string w 9 digits .u64 n Tryd.underlying9, dif_pos ⟨by omega, by show (n : Int) < 36; omega⟩]
  simp only [Int.toNat_natCast]
  have key : ∀ n : Fin 16, digits.data.toList.getD n.val 0 = JM.hexd n.val := by decide +kernel
  have k2 := key ⟨n, h⟩
  have k3 : digits[n] = digits.data.toList.getD n 0 := by
    show digits.data[n] = _
    rw [List.getD_eq_getElem?_getD, Array.getElem?_toList, Array.getElem?_eq_getElem (by exact hn)]
    rfl
  rw [k3, k2]
theorem and15 (a d : Nat) (ha : a < 18446744073709551616) (h : a % 16 = d) : bits .and .u64 (a : Int) 15 = (d : Int) := by
  have := u64_and_nat a 15 ha (by omega)
  rw [show ((15 : Nat) : Int) = 15 by rfl] at this
  rw [this, show (15 : Nat) = 2 ^ 4 - 1 by rfl, Nat.and_two_pow_sub_one_eq_mod, show 2 ^ 4 = 16 by rfl, h]

/-- How the state of formatBits' loop goes, at a number of three digits whose first is 1. -/
def At (w : World) (u0 u1 : Int) (d0 d1 : Nat) (u i : Value) (wr : World) (k : Nat) : Prop :=
  ∃ A : Array Value, wr = w.alloc (.cells A 106) ∧ A.size = 65 ∧
    ((k = 2 ∧ u = .int .u64 u0 ∧ i = .int .i64 65) ∨ (k = 1 ∧ u = .int .u64 u1 ∧ i = .int .i64 64 ∧ A[64]? = some (.int .u8 (JM.hexd d0).toNat)) ∨
      (k = 0 ∧ u = .int .u64 1 ∧ i = .int .i64 63 ∧ A[64]? = some (.int .u8 (JM.hexd d0).toNat) ∧ A[63]? = some (.int .u8 (JM.hexd d1).toNat)))

set_option maxHeartbeats 4000000 in
set_option maxRecDepth 100000 in
theorem formatBits (u0 u1 : Int) (d0 d1 : Nat) (h0 : d0 < 16) (h1 : d1 < 16) (hu0 : u0 = 256 + 16 * d1 + d0) (hu1 : u1 = 16 + d1) (w : World) (hF : Fmt w) :
    Calls Tryd.prog 64 #[.slice none 0 0, .int .u64 u0, .int .i64 16, .bool false, .bool false] w fun e w' => e = .returned (.tuple #[.slice none 0 0, .string ⟨#[49, JM.hexd d1, JM.hexd d0]⟩]) ∧ Below w.heap.size w w' := by
  have hF1 : ∀ o, Fmt (w.alloc o) := fun o => hF.on ((Below.refl _ w).alloc (Nat.le_refl _) _)
  have g0 : decide (16 ≤ u0) = true := by simp; omega
  have g1 : decide (16 ≤ u1) = true := by simp; omega
  have b0 : bits .and .u64 u0 15 = (d0 : Int) := by
    have := and15 (256 + 16 * d1 + d0) d0 (by omega) (by omega)
    rw [hu0]; simpa using this
  have b1 : bits .and .u64 u1 15 = (d1 : Int) := by
    have := and15 (16 + d1) d1 (by omega) (by omega)
    rw [hu1]; simpa using this
  have s0 : u0 / 16 = u1 := by omega
  have s1 : u1 / 16 = 1 := by omega
  have x0 := digit_at d0 h0
  have x1 := digit_at d1 h1
  have x2 := digit_at 1 (by omega)
  clear hu0 hu1
  go_enter Tryd.func64, Tryd.ntmps64
  go_wp2_with (first
    | (go_at_call 74; refine (power16 _).mono ?_; rintro e w' ⟨rfl, rfl⟩)
    | (go_at_call 75; refine (trailing16 _ (hF1 _)).mono ?_; rintro e w' ⟨rfl, rfl⟩))
  go_loopw [1, 13] (fun u i wr => ∃ k, At w u0 u1 d0 d1 u i wr k) (fun _ i _ => (intOf i).toNat)
  case atStart => exact ⟨2, _, rfl, by kernel_rfl, .inl ⟨rfl, rfl, rfl⟩⟩
  case round =>
    obtain ⟨k, A, rfl, hA, hcase⟩ := hrel
    have ex : ∀ j, j < 65 → ∃ y, A[j]? = some y := fun j hj => ⟨A[j]'(by omega), Array.getElem?_eq_getElem (by omega)⟩
    have HA := Lib.hid hA
    clear hA
    rcases hcase with ⟨rfl, rfl, rfl⟩ | ⟨rfl, rfl, rfl, a4⟩ | ⟨rfl, rfl, rfl, a4, a3⟩
    · obtain ⟨y, hy⟩ := ex 64 (by omega)
      clear ex
      go_wp2
      go_roundw
      case rel =>
        have hA := HA.out
        exact ⟨1, _, rfl, by simpa using hA, .inr (.inl ⟨rfl, rfl, rfl, by simp [hA]⟩)⟩
      case measure => simp [intOf]
    · obtain ⟨y, hy⟩ := ex 63 (by omega)
      clear ex
      go_wp2
      go_roundw
      case rel =>
        have hA := HA.out
        exact ⟨0, _, rfl, by simpa using hA, .inr (.inr ⟨rfl, rfl, rfl, by rw [Array.getElem?_setIfInBounds]; simpa using a4, by simp [hA]⟩)⟩
      case measure => simp [intOf]
    · obtain ⟨y, hy⟩ := ex 62 (by omega)
      clear ex
      have hcv : ∀ z : Int, z = 49 → (convert 37 9 (.slice (some ⟨w.heap.size, 62, none⟩) 3 3)).run Tryd.prog (w.alloc (.cells (A.setIfInBounds 62 (.int .u8 z)) 106)) = .ok (.string ⟨#[49, JM.hexd d1, JM.hexd d0]⟩) (w.alloc (.cells (A.setIfInBounds 62 (.int .u8 z)) 106)) := by
        rintro z rfl
        have hA := HA.out
        refine run_convert_bytes_back _ _ _ 5 ⟨w.heap.size, 62, none⟩ 3 [49, JM.hexd d1, JM.hexd d0] Tryd.underlying37 Tryd.underlying5 Tryd.underlying9 ?_
        intro j hj
        match j, hj with
        | 0, _ => simp [Addr.add, hA]
        | 1, _ => simp [Addr.add, a3]
        | 2, _ => simp [Addr.add, a4]
      go_wp2
      rw [hcv _ (by rfl)]
      simp only [Result.andThen]
      rw [Oper.upon_value]
      go_wp2
      go_ret2
      exact ⟨rfl, (Below.refl _ w).alloc (Nat.le_refl _) _⟩

set_option maxHeartbeats 1000000 in
set_option maxRecDepth 100000 in
theorem formatInt16 (u0 : Int) (d0 d1 : Nat) (h0 : d0 < 16) (h1 : d1 < 16) (hu0 : u0 = 256 + 16 * d1 + d0) (w : World) (hF : Fmt w) :
    Calls Tryd.prog 50 #[.int .i64 u0, .int .i64 16] w fun e w' => e = .returned (.string ⟨#[49, JM.hexd d1, JM.hexd d0]⟩) ∧ Below w.heap.size w w' := by
  have g0 : decide (u0 < 0) = false := by simp; omega
  have g1 : IntKind.u64.wrap u0 = u0 := by rw [IntKind.wrap_u64]; omega
  go_enter Tryd.func50, Tryd.ntmps50
  have HU := Lib.hid hu0
  clear hu0
  go_wp2_with (go_at_call 64; refine (formatBits u0 _ d0 d1 h0 h1 HU.out rfl _ hF).mono ?_; rintro e w' ⟨rfl, hb⟩)
  go_ret
  exact ⟨rfl, hb⟩

set_option maxHeartbeats 1000000 in
set_option maxRecDepth 100000 in
/-- FormatInt of base 16, at a number of three digits whose first is 1. -/
theorem format16 (u0 : Int) (d0 d1 : Nat) (h0 : d0 < 16) (h1 : d1 < 16) (hu0 : u0 = 256 + 16 * d1 + d0) (w : World) (hF : Fmt w) :
    Calls Tryd.prog 51 #[.int .i64 u0, .int .i64 16] w fun e w' => e = .returned (.string ⟨#[49, JM.hexd d1, JM.hexd d0]⟩) ∧ Below w.heap.size w w' := by
  have HU := Lib.hid hu0
  clear hu0
  go_enter Tryd.func51, Tryd.ntmps51
  go_wp2_with (go_at_call 50; refine (formatInt16 u0 d0 d1 h0 h1 HU.out _ hF).mono ?_; rintro e w' ⟨rfl, hb⟩)
  go_ret
  exact ⟨rfl, hb⟩
end Go.Proofs.YtciogdhapogolaaDoor
