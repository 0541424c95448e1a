/-
  Layer 4's laws: fit.
-/
import Derived.Test.YtdaipoelicpnoaaFDo
import Derived.Lib.SlBytesConst
namespace Go.Proofs.Ytdaipoelicpnoaa
open Go.RowKit Go.Maps FM

def fit1 : St := (append (fresh 9) [97] [120, 121, 122]).2
def fit2 : St := crash fit1 [1]
theorem fit_a : append (fresh 9) [97] [120, 121, 122] = (0, fit1) := by rfl
theorem fit_b : readV fit2 [97] = ([120], 0) := by rfl
theorem fit_c : used fit2 = 1 := by rfl
theorem fit_d : fit2.down = false := by rfl

theorem row_new3 (w : World) : Row (w.alloc (.cells #[.int .u8 120, .int .u8 121, .int .u8 122] 5 (3, 4))) (w.heap.size + 1) .u8 (some ⟨w.heap.size, 0, none⟩) [120, 121, 122] := fun _ => by
  refine ⟨w.heap.size, 0, rfl, by omega, fun j hj => ?_⟩
  rw [Nat.zero_add, World.cell?_alloc_mark]
  match j, hj with
  | 0, _ => rfl
  | 1, _ => rfl
  | 2, _ => rfl
theorem rowI_new1 (w : World) : RowI (w.alloc (.cells #[.int .i64 1] 3)) (w.heap.size + 1) (some ⟨w.heap.size, 0, none⟩) [1] := fun _ => by
  refine ⟨w.heap.size, 0, rfl, by omega, fun j hj => ?_⟩
  match j, hj with
  | 0, _ => simp

set_option maxRecDepth 100000 in
set_option maxHeartbeats 1000000 in
theorem fit_ok (w : World) : Calls Try.prog 8 #[] w fun e w' => e = .returned (.bool true) ∧ Below w.heap.size w w' := by
  have hcv := fun (w : World) (C : Array Value) (n c : Nat) => Lib.run_convert_bytes_const (P := Try.prog) w 31 5 C n c Try.underlying31 Try.underlying5
  go_enter Try.func8, Try.ntmps8
  go_wp2_with fail
  refine (new_ok w 9 (by omega)).mono ?_
  rintro e w1 ⟨sb, rfl, h1, hb1⟩
  have hz1 := hb1.size
  have hS1 : ∀ k, wider (fun _ => False) w w1 k → w.heap.size ≤ k := fun k hk => by rcases hk with hk | hk; exact hk.elim; exact hk.1
  generalize wider (fun _ => False) w w1 = S1 at *
  have H1 := Lib.hid h1; have HB1 := Lib.hid hb1; have HS1 := Lib.hid hS1
  clear h1 hb1 hS1
  go_wp2_with fail
  have hbA : Below w1.heap.size w1 (w1.alloc (.cells #[.int .u8 120, .int .u8 121, .int .u8 122] 5 (3, 4))) := (Below.refl _ _).alloc (Nat.le_refl _) _
  refine (append_ok _ S1 sb (fresh 9) ⟨#[97]⟩ (by unfold maxLen; decide) (some ⟨w1.heap.size, 0, none⟩) [120, 121, 122] 3 (w1.heap.size + 1) (H1.out.below hbA) (by decide) (by decide) (by decide) (by decide) (row_new3 w1) (by simp) (by simp)
    (fun _ a ha => by injection ha with ha; subst ha; have := H1.out.lt _ H1.out.sb; simp; omega) (by decide)).mono ?_
  rintro e w2 ⟨rfl, h2, hf2⟩
  rw [show append (fresh 9) (ByteArray.mk #[97]).data.toList [120, 121, 122] = (0, fit1) from fit_a] at h2 ⊢
  have hz2 := hf2.size
  have hb2 : Below w.heap.size w w2 := HB1.out.trans ((hbA.mono hz1).trans (hf2.below (by simp; omega) HS1.out))
  have hS2 : ∀ k, wider S1 (w1.alloc (.cells #[.int .u8 120, .int .u8 121, .int .u8 122] 5 (3, 4))) w2 k → w.heap.size ≤ k := fun k hk => by
    rcases hk with hk | hk
    · exact HS1.out k hk
    · have := hk.1; simp at this; omega
  generalize wider S1 (w1.alloc (.cells #[.int .u8 120, .int .u8 121, .int .u8 122] 5 (3, 4))) w2 = S2 at *
  have H2 := Lib.hid h2; have HB2 := Lib.hid hb2; have HS2 := Lib.hid hS2
  clear h2 hb2 hS2 hf2 hbA hz2
  go_wp2_with fail
  have hbA : Below w2.heap.size w2 (w2.alloc (.cells #[.int .i64 1] 3)) := (Below.refl _ _).alloc (Nat.le_refl _) _
  refine (crash_ok _ S2 sb fit1 (some ⟨w2.heap.size, 0, none⟩) [1] 1 (w2.heap.size + 1) (H2.out.below hbA) (by decide) (by decide) (by decide) (by decide) (rowI_new1 w2) (by simp)
    (fun _ a ha => by injection ha with ha; subst ha; intro hs; have := H2.out.lt _ hs; simp at this)).mono ?_
  rintro e w3 ⟨rfl, h3, hf3⟩
  have hz3 := HB2.out.size
  have hb3 : Below w.heap.size w w3 := HB2.out.trans ((hbA.mono hz3).trans (hf3.below (by simp; omega) HS2.out))
  obtain ⟨mb, L, h3, _⟩ := h3
  have H3 := Lib.hid (show StoB w3 sb mb L fit2 from h3); have HB3 := Lib.hid hb3
  clear h3 hb3 hf3 hbA hz3
  go_wp2_with fail
  refine (read_ok w3 sb mb L fit2 ⟨#[97]⟩ (by unfold maxLen; decide) H3.out (by decide)).mono ?_
  rintro e w4 ⟨v, rfl, ho4, hb4⟩
  rw [show readV fit2 (ByteArray.mk #[97]).data.toList = ([120], 0) from fit_b] at ho4 ⊢
  obtain ⟨A4, c4, rfl, _, _, _, hr4⟩ := ho4.form
  have hs4 : (convert 31 9 (.slice A4 1 c4)).run Try.prog w4 = .ok (.string (str [120])) w4 := run_string A4 [120] c4 _ w4 hr4
  have e4 : str [120] = ⟨#[120]⟩ := by rfl
  rw [e4] at hs4
  have HB4 := Lib.hid hb4
  have hb34 : Below w.heap.size w w4 := HB3.out.trans (hb4.mono HB3.out.size)
  have HB34 := Lib.hid hb34
  clear ho4 hb4 hr4 e4 hb34
  go_wp2_with fail
  have HU := Lib.hid (used_ok w4 sb mb L fit2 (H3.out.below HB4.out) (by rw [fit_c]; omega))
  rw [fit_c] at HU
  refine HU.out.mono ?_
  rintro e w5 ⟨rfl, hb5⟩
  have HB5 := Lib.hid hb5
  clear hb5
  go_wp2_with fail
  have HP := Lib.hid (up_ok w5 sb mb L fit2 ((H3.out.below HB4.out).below HB5.out))
  rw [fit_d] at HP
  refine HP.out.mono ?_
  rintro e w6 ⟨rfl, hw6⟩
  rw [hw6]
  clear hw6 w6
  go_wp2
  go_ret
  exact ⟨rfl, HB34.out.trans (HB5.out.mono HB34.out.size)⟩
end Go.Proofs.Ytdaipoelicpnoaa
