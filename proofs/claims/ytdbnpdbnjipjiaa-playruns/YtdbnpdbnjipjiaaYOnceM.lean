/-
  Layer 15's laws, plain: what a deed does with a player.
-/
import Derived.Test.YtdbnpdbnjipjiaaYOpen
import Derived.Test.YtdbnpdbnjipjiaaYMath
namespace Go.Proofs.Ytdbnpdbnjipjiaa.PM
open Go.Proofs.Ytdbnpdbnjipjiaa EM
set_option maxRecDepth 100000

theorem take_seg (l : List Ev) (a b : Nat) (h : a ≤ b) : l.take a ++ seg l a b = l.take b := by
  rw [← seg_head, ← seg_head, seg_app l 0 a b (Nat.zero_le _) h]
theorem step_l (P : Pl) : P.step.l = P.l := by
  unfold Pl.step
  split <;> rfl
/-- A step of a player that has told all. -/
theorem step_done (P : Pl) (h : P.told = P.l.length) : P.step = P := by unfold Pl.step; rw [if_pos h]
theorem Pl.Ok.step_le {P : Pl} (h : P.Ok) (hf : P.Full) : P.told ≤ P.step.told ∧ P.now ≤ P.step.now := by
  by_cases hn : P.told = P.l.length
  · rw [step_done P hn]; exact ⟨Nat.le_refl _, Int.le_refl _⟩
  · have := Pl.told_le hf
    have := h.step_told hf (by omega)
    omega
theorem Pl.Ok.speed_le {P : Pl} (a b : Int) : P.now ≤ (P.speed a b).now ∨ P.now = 4611686018427387904 := by
  rw [Pl.speed_now]
  have := P.now_top
  omega
end Go.Proofs.Ytdbnpdbnjipjiaa.PM
