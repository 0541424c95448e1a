/-
  Layer 12's laws: the anchor (an event's bytes).
-/
import Derived.Test.YtfbfelfioikieaaEPut
namespace Go.Proofs.Ytfbfelfioikieaa
open Go.RowKit Go.Lib EM
set_option maxRecDepth 100000

theorem evB_x : evB 3 ⟨5, 0, ⟨#[120]⟩, 0, 0⟩ = [0, 2, 1, 120] := by
  unfold evB
  rw [if_neg (show ¬ (0 : Int) = 2 by decide)]
  rw [show ((0 : Int)).toNat = 0 from rfl, show ((5 : Int) - 3).toNat = 2 from rfl, show (⟨#[120]⟩ : ByteArray).size = 1 from rfl, VM.enc_lt (by omega), VM.enc_lt (by omega), VM.enc_lt (by omega)]
  rfl
theorem efit_ok (w : World) : Calls Try.prog 8 #[] w fun e w' => e = .returned (.bool true) ∧ Below w.heap.size w w' := by
  have hx := fun w => build_evx w 5 ⟨#[120]⟩
  have h0 := fun w => build_ev0 w
  have h9 := fun w => build_evk w 9
  have HP := Lib.hid (eput_ok (.slice none 0 0) [] 3 ⟨5, 0, ⟨#[120]⟩, 0, 0⟩ w w.heap.size (by kernel_rfl) (by omega) (by show (3 : Int) ≤ 5; omega) (by simp) (Own.nil _ _) (Nat.le_refl _))
  have HR0 := Lib.hid (fun v => right_ok v zero)
  have HR9 := Lib.hid (fun v => right_ok v ⟨0, 9, ByteArray.empty, 0, 0⟩)
  rw [evB_x, show right zero = true from by kernel_rfl, show right ⟨0, 9, ByteArray.empty, 0, 0⟩ = false from by kernel_rfl] at *
  simp only [evV, EM.zero] at HP HR0 HR9
  go_enter Try.func8, Try.ntmps8
  go_wp2_with fail
  refine HP.out.mono ?_
  rintro e w1 ⟨v, rfl, ho, hg⟩
  rw [List.nil_append] at ho
  obtain ⟨A, c, hv, h1, h2, h3, h4⟩ := ho.form
  rw [show ([0, 2, 1, 120] : List Nat).length = 4 from rfl] at hv
  subst hv
  have hb : Below w.heap.size w w1 := ⟨hg.os, hg.tape, hg.output, hg.size, fun k hk => hg.block k hk (by simp [Value.ownBlock])⟩
  have HB := Lib.hid hb
  have hs : (convert 30 9 (.slice A 4 c)).run Try.prog w1 = .ok (.string ⟨#[0, 2, 1, 120]⟩) w1 := by
    have := run_string A [0, 2, 1, 120] c w1.heap.size w1 h4
    rw [show str [0, 2, 1, 120] = ⟨#[0, 2, 1, 120]⟩ from by kernel_rfl] at this
    exact this
  clear ho hg h1 h2 h3 h4 hb HP
  go_wp2_with fail
  refine (HR0.out _).mono ?_
  rintro e w2 ⟨rfl, hb2⟩
  have HB2 := Lib.hid (below_next HB.out hb2)
  clear hb2
  go_wp2_with fail
  refine (HR9.out _).mono ?_
  rintro e w3 ⟨rfl, hb3⟩
  have HB3 := Lib.hid (below_next HB2.out hb3)
  clear hb3
  go_wp2_with fail
  go_ret
  exact ⟨rfl, HB3.out⟩
end Go.Proofs.Ytfbfelfioikieaa
