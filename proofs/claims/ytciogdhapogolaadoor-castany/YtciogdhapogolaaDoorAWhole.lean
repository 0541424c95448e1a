/-
  Layer 17's laws: whole; lists all of whose texts are made whole.
-/
import Derived.Test.YtciogdhapogolaaDoorAText
set_option linter.unusedVariables false
namespace Go.Proofs.YtciogdhapogolaaDoor
open Go.RowKit Go.Lib EM

set_option maxHeartbeats 1000000 in
set_option maxRecDepth 100000 in
theorem awhole_ok (l : List UInt8) (hl : l.length ≤ 1000000) (w : World) :
    Calls Tryd.prog 10 #[.string (tx l)] w fun e w' => e = .returned (.string (tx (JM.whole l))) ∧ Below w.heap.size w w' := by
  obtain ⟨cap, W, h1, b1, -, hR, -⟩ := run_runes w (tx l) (by rw [tx_size]; exact hl)
  rw [tx_list] at h1 hR
  have h2 := run_back W _ cap (JM.runes l) (fun r hr => good_le (JM.runes_good l r hr)) hR
  have HW := Lib.hid (show JM.whole l = (JM.runes l).flatMap JM.enc from rfl)
  generalize JM.runes l = rs at *
  clear hR
  go_enter Tryd.func10, Tryd.ntmps10
  go_wp2
  go_ret
  refine ⟨?_, b1⟩
  rw [HW.out]
  rfl
namespace AM
/-- An event with its text made whole. -/
def wholeE (e : Ev) : Ev := ⟨e.t, e.k, tx (JM.whole e.d.data.toList), e.w, e.h⟩
theorem whole_whole (l : List UInt8) : JM.whole (JM.whole l) = JM.whole l := by
  show (JM.runes (JM.whole l)).flatMap JM.enc = _
  rw [JM.runes_whole]
  rfl
theorem whole_len (l : List UInt8) : (JM.whole l).length ≤ 4 * l.length := by
  have h1 := JM.flat_len JM.enc 4 (JM.runes l) (fun r => (JM.enc_len r).2)
  have h2 := JM.runes_len l
  unfold JM.whole
  omega
theorem wholeE_utf (e : Ev) : utf (wholeE e) := by
  unfold utf wholeE
  rw [tx_list]
  exact whole_whole _
theorem wholeE_right {e : Ev} (h : right e = true) (hs : (wholeE e).d.size ≤ 400) : right (wholeE e) = true := by
  unfold wholeE at hs ⊢
  unfold right at h ⊢
  simp only [Bool.and_eq_true, decide_eq_true_eq] at h ⊢
  refine ⟨h.1, ?_⟩
  have h2 := h.2
  split at h2
  · rename_i hk
    simp only [Bool.and_eq_true, decide_eq_true_eq] at h2
    rw [if_pos hk]
    simp only [Bool.and_eq_true, decide_eq_true_eq]
    have he : e.d.data.toList = [] := by
      have h0 := h2.1.1.1.1
      rw [Lib.size_eq] at h0
      exact List.length_eq_zero_iff.1 h0
    rw [he, tx_size]
    exact ⟨⟨⟨⟨rfl, h2.1.1.1.2⟩, h2.1.1.2⟩, h2.1.2⟩, h2.2⟩
  · rename_i hk
    simp only [Bool.and_eq_true, decide_eq_true_eq] at h2
    rw [if_neg hk]
    simp only [Bool.and_eq_true, decide_eq_true_eq]
    exact ⟨⟨⟨⟨h2.1.1.1.1, h2.1.1.1.2⟩, hs⟩, h2.1.2⟩, h2.2⟩
theorem wholeL_list (l : List Ev) : ∀ f : Int, listB f l = true → (∀ e ∈ l, (wholeE e).d.size ≤ 400) → listB f (l.map wholeE) = true := by
  induction l with
  | nil => intro f _ _; rfl
  | cons e l ih =>
    intro f h hs
    simp only [listB, Bool.and_eq_true, decide_eq_true_eq, List.map_cons] at h ⊢
    exact ⟨⟨wholeE_right h.1.1 (hs e (by simp)), h.1.2⟩, ih _ h.2 (fun x hx => hs x (by simp [hx]))⟩
end AM
end Go.Proofs.YtciogdhapogolaaDoor
