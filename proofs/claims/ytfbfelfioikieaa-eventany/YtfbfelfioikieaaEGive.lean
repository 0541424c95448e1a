/-
  Layer 12 (event): giveUp.
-/
import Derived.Test.YtfbfelfioikieaaEWd
namespace Go.Proofs.Ytfbfelfioikieaa
open Go.RowKit Go.Lib EM
set_option maxRecDepth 100000

theorem Rd.on {w w' : World} {g B : Nat} {l : List Nat} {bad : Bool} (h : Rd w g l bad) (hb : Below B w w') (hg : g < B) : Rd w' g l bad := by
  obtain ⟨A, c, h1, h2, h3, h4, h5⟩ := h
  exact ⟨A, c, (hb.block g hg).trans h1, h2, h3, h4.below (hb.mono (by omega)), h5⟩
theorem Rd.byte {w : World} {g : Nat} {l : List Nat} {bad : Bool} (h : Rd w g l bad) : ∀ x ∈ l, x < 256 := by
  obtain ⟨A, c, h1, h2, h3, h4, h5⟩ := h
  exact h5
/-- How much a reader may still read. -/
def left (w : World) (g : Nat) : Nat :=
  match w.cell? ⟨g, 0, none⟩, w.cell? ⟨g, 1, none⟩ with
  | some (.slice _ n _), some (.bool false) => n + 1
  | _, _ => 0
theorem left_of {w : World} {g : Nat} {l : List Nat} {bad : Bool} (h : Rd w g l bad) : left w g = if bad = true then 0 else l.length + 1 := by
  obtain ⟨A, c, h1, -⟩ := h
  obtain ⟨h2, h3, -⟩ := two_cell h1
  unfold left
  rw [h2, h3]
  cases bad <;> rfl
theorem num_less {l : List Nat} (hl : ∀ x ∈ l, x < 256) (L : Nat) (h : (numOf l false L).2.2 = false) : (numOf l false L).2.1.length < l.length := by
  obtain ⟨-, h1, -⟩ := num_back hl h
  have h2 := congrArg List.length h1
  have h3 := VM.enc_pos (numOf l false L).1
  rw [List.length_append] at h2
  omega

theorem give_ok (w : World) (g : Nat) (l : List Nat) (bad : Bool) (h : Rd w g l bad) :
    Calls Try.prog 28 #[.pointer (some ⟨g, 0, none⟩)] w fun e w' => e = .returned (.tuple #[]) ∧ w.grownBy w' (some g) := by
  have HR := Lib.hid h
  clear h
  go_enter Try.func28, Try.ntmps28
  go_wp2
  go_loopw [] (fun wr => ∃ (l' : List Nat) (b' : Bool), Rd wr g l' b' ∧ w.grownBy wr (some g)) (fun wr => left wr g)
  case atStart => exact ⟨l, bad, HR.out, only_refl _ _⟩
  case round =>
    obtain ⟨l', b', hr, hg⟩ := hrel
    have HR' := Lib.hid hr
    have HG := Lib.hid hg
    clear hr hg
    have HGD := Lib.hid (good_any wr g l' b' HR'.out)
    cases b' with
    | true =>
      go_wp2_with fail
      refine HGD.out.mono ?_
      rintro e w1 ⟨rfl, rfl⟩
      go_wp2_with fail
      go_end0
      exact ⟨rfl, HG.out⟩
    | false =>
      go_wp2_with fail
      refine HGD.out.mono ?_
      rintro e w1 ⟨rfl, rfl⟩
      go_wp2_with fail
      refine (num_any wr g l' false 0 (by omega) HR'.out).mono ?_
      rintro e w1 ⟨rfl, hr1, hg1⟩
      have HR1 := Lib.hid hr1
      have HG1 := Lib.hid (only_trans HG.out hg1)
      clear hr1 hg1
      go_wp2_with fail
      go_roundw
      case rel => exact ⟨_, _, HR1.out, HG1.out⟩
      case measure =>
        rw [left_of HR1.out, left_of HR'.out]
        have hls := num_less HR'.out.byte (lim 0)
        rcases hb : (numOf l' false (lim 0)).2.2 with _ | _
        · have := hls hb
          simp only [Bool.false_eq_true, ↓reduceIte]
          omega
        · simp
end Go.Proofs.Ytfbfelfioikieaa
