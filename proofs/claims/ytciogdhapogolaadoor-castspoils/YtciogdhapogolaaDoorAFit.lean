/-
  Layer 17's laws: the anchor (a size's line); what the laws take of numbers.
-/
import Derived.Test.YtciogdhapogolaaDoorAExp
set_option linter.unusedVariables false
namespace Go.Proofs.YtciogdhapogolaaDoor
open Go.RowKit Go.Lib EM

theorem i64_and62 (n : Int) : bits .and .i64 n 4611686018427387903 = n % 4611686018427387904 := by
  have h127 : (BitVec.ofInt 64 4611686018427387903).toNat = 2 ^ 62 - 1 := by decide
  have key : (BitVec.ofInt 64 n &&& BitVec.ofInt 64 4611686018427387903).toNat = (n % ((2 ^ 64 : Nat) : Int)).toNat % 2 ^ 62 := by
    rw [BitVec.toNat_and, BitVec.toNat_ofInt, h127, Nat.and_two_pow_sub_one_eq_mod]
  show IntKind.i64.wrap ((BitVec.ofInt 64 n &&& BitVec.ofInt 64 4611686018427387903).toNat : Nat) = n % 4611686018427387904
  rw [key, IntKind.wrap_i64]
  omega
/-- The anchor's event, and its text. -/
def ev1 : Ev := ⟨1, 2, ⟨#[]⟩, 80, 24⟩
theorem dec80 : decDigits 80 = [56, 48] := by rw [JM.dec_big (by omega), JM.dec_small (by omega)]; rfl
theorem dec24 : decDigits 24 = [50, 52] := by rw [JM.dec_big (by omega), JM.dec_small (by omega)]; rfl
theorem cast1 : AM.castB 1 2 [ev1] = [123, 34, 118, 101, 114, 115, 105, 111, 110, 34, 58, 32, 50, 44, 32, 34, 119, 105, 100, 116, 104, 34, 58, 32, 49, 44, 32, 34, 104, 101, 105, 103, 104, 116, 34, 58, 32, 50, 125, 10, 91, 48, 46, 48, 48, 48, 48, 48, 49, 44, 32, 34, 114, 34, 44, 32, 34, 56, 48, 120, 50, 52, 34, 93, 10] := by
  have e1 : JM.timeL 1 = [48, 46, 48, 48, 48, 48, 48, 49] := by
    unfold JM.timeL
    rw [Lib.decDigits_one (by omega), Lib.decDigits_eq, Lib.nDigits_unique 6 _ (by omega) (by omega)]
    decide +kernel
  have e2 : AM.textB ev1 = [56, 48, 120, 50, 52] := by
    unfold AM.textB AM.sizeB ev1
    rw [if_pos rfl, show (80 : Int).toNat = 80 from rfl, show (24 : Int).toNat = 24 from rfl, dec80, dec24]
    rfl
  have e3 : JM.quote [56, 48, 120, 50, 52] = [34, 56, 48, 120, 50, 52, 34] := by decide +kernel
  have e4 : AM.lineB ev1 = [91] ++ ([48, 46, 48, 48, 48, 48, 48, 49] ++ ([44, 32, 34] ++ ([114] ++ ([34, 44, 32] ++ ([34, 56, 48, 120, 50, 52, 34] ++ [93, 10]))))) := by
    unfold AM.lineB
    rw [e2, e3, show ev1.t.toNat = 1 from rfl, e1]
    rfl
  unfold AM.castB AM.headB
  rw [JM.dec_small (by omega), JM.dec_small (by omega), List.flatMap_cons, List.flatMap_nil, e4]
  rfl

set_option maxHeartbeats 1000000 in
set_option maxRecDepth 100000 in
theorem afit_ok (w : World) (hF : Fms w) : Calls Tryd.prog 8 #[] w fun e w' => e = .returned (.bool true) ∧ Below w.heap.size w w' := by
  have hrow := evE.row_new w ev1 #[.int .i64 1, .int .i64 2, .string ⟨#[]⟩, .int .i64 80, .int .i64 24] 27 rfl
  have hb : Below w.heap.size w (w.alloc (.cells #[.int .i64 1, .int .i64 2, .string ⟨#[]⟩, .int .i64 80, .int .i64 24] 27)) := (Below.refl _ _).alloc (Nat.le_refl _) _
  have hsz : w.heap.size + 1 ≤ (w.alloc (.cells #[.int .i64 1, .int .i64 2, .string ⟨#[]⟩, .int .i64 80, .int .i64 24] 27)).heap.size := by simp
  have hbd : ∀ v, (Instr.build 27 #[(0, .int .i64 1), (1, .int .i64 2), (3, .int .i64 80), (4, .int .i64 24)]).run Tryd.prog v = .ok (.agg #[.int .i64 1, .int .i64 2, .string ⟨#[]⟩, .int .i64 80, .int .i64 24]) v := fun v => by kernel_rfl
  obtain ⟨W, hW⟩ : ∃ W, W = w.alloc (.cells #[.int .i64 1, .int .i64 2, .string ⟨#[]⟩, .int .i64 80, .int .i64 24] 27) := ⟨_, rfl⟩
  rw [← hW] at hrow hb hsz
  have HE := Lib.hid (export_ok W 1 2 (by omega) (by omega) (by omega) (by omega) (hF.on hb) [ev1] (some ⟨w.heap.size, 0, none⟩) 1 (w.heap.size + 1) hrow hsz (by simp) (by intro e he; simp at he; subst he; rfl))
  have HW := Lib.hid hW
  have HB := Lib.hid hb
  clear hrow hb hsz hW
  go_enter Tryd.func8, Tryd.ntmps8
  go_wp2_with fail
  rw [← HW.out]
  refine HE.out.mono ?_
  rintro e w1 ⟨rfl, b1⟩
  rw [show (1 : Int).toNat = 1 from rfl, show (2 : Int).toNat = 2 from rfl, cast1]
  have HB1 := Lib.hid (HB.out.trans (b1.mono HB.out.size))
  clear b1 HE
  go_wp2
  go_ret
  exact ⟨rfl, HB1.out⟩
end Go.Proofs.YtciogdhapogolaaDoor
