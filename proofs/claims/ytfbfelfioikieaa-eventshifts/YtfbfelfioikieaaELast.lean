/-
  Layer 12 (event), plain: lists, their last times, and their bytes. No program.
-/
import Derived.Test.YtfbfelfioikieaaEMath
namespace Go.Proofs.Ytfbfelfioikieaa.EM
open Go.Proofs.Ytfbfelfioikieaa

theorem lastT_snoc (l : List Ev) (e : Ev) (f : Int) : lastT f (l ++ [e]) = e.t := by
  induction l generalizing f with
  | nil => rfl
  | cons x l ih => exact ih x.t
theorem lastT_take (l : List Ev) (f : Int) (k : Nat) (h : k < l.length) : lastT f (l.take (k + 1)) = l[k].t := by
  rw [List.take_succ_eq_append_getElem h, lastT_snoc]
/-- The times of a list never fall. -/
theorem lastT_le (l : List Ev) : ∀ (f : Int), listB f l = true → ∀ k (h : k < l.length), f ≤ lastT f (l.take k) ∧ lastT f (l.take k) ≤ l[k].t := by
  induction l with
  | nil => intro f _ k h; simp at h
  | cons e l ih =>
    intro f h k hk
    simp only [listB, Bool.and_eq_true, decide_eq_true_eq] at h
    obtain ⟨⟨-, h1⟩, h2⟩ := h
    cases k with
    | zero => exact ⟨Int.le_refl _, h1⟩
    | succ k =>
      have := ih e.t h2 k (by simpa using hk)
      exact ⟨Int.le_trans h1 this.1, this.2⟩
theorem encL_take (l : List Ev) (f : Int) (k : Nat) (h : k < l.length) : encL f (l.take (k + 1)) = encL f (l.take k) ++ evB (lastT f (l.take k)) l[k] := by
  rw [List.take_succ_eq_append_getElem h, encL_append]
  simp [encL]
theorem encL_drop (l : List Ev) (f : Int) (k : Nat) (h : k < l.length) : encL (lastT f (l.take k)) (l.drop k) = evB (lastT f (l.take k)) l[k] ++ encL (lastT f (l.take (k + 1))) (l.drop (k + 1)) := by
  rw [List.drop_eq_getElem_cons h, lastT_take l f k h]
  rfl
theorem encL_len (l : List Ev) : ∀ (f : Int), 0 ≤ f → listB f l = true → (encL f l).length ≤ 1000 * l.length := by
  induction l with
  | nil => intro f _ _; simp [encL]
  | cons e l ih =>
    intro f hf h
    simp only [listB, Bool.and_eq_true, decide_eq_true_eq] at h
    obtain ⟨⟨h0, h1⟩, h2⟩ := h
    have a := evB_len f e h0 hf
    have b := ih e.t (by omega) h2
    simp only [encL, List.length_append, List.length_cons]
    omega
theorem listB_take (l : List Ev) : ∀ (f : Int) (k : Nat), listB f l = true → listB f (l.take k) = true := by
  induction l with
  | nil => intro f k _; simp [listB]
  | cons e l ih =>
    intro f k h
    cases k with
    | zero => rfl
    | succ k =>
      simp only [listB, Bool.and_eq_true] at h
      simp only [List.take_succ_cons, listB, Bool.and_eq_true]
      exact ⟨h.1, ih _ _ h.2⟩
end Go.Proofs.Ytfbfelfioikieaa.EM
