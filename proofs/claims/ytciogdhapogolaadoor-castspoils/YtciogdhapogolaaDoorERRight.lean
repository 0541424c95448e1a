/-
  Layer 12 (event): the reference's Right.
-/
import Derived.Test.YtciogdhapogolaaDoorEEv
namespace Go.Proofs.YtciogdhapogolaaDoor
open Go.RowKit Go.Lib EM
set_option maxRecDepth 100000

set_option maxHeartbeats 1000000 in
theorem rright_ok (w : World) (e : Ev) : Calls Tryd.prog 28 #[evV e] w fun x w' => x = .returned (.bool (right e)) ∧ Below w.heap.size w w' := by
  obtain ⟨t, k, d, x, y⟩ := e
  simp only [evV]
  have HB := Lib.hid (show Below w.heap.size w (w.alloc (.cells #[.int .i64 t, .int .i64 k, .string d, .int .i64 x, .int .i64 y] 27)) from (Below.refl _ _).alloc (Nat.le_refl _) _)
  have w3 : decide ((400 : Int) < (d.size : Int)) = decide (400 < d.size) := by
    by_cases h : 400 < d.size
    · rw [decide_eq_true h, decide_eq_true (show (400 : Int) < (d.size : Int) by omega)]
    · rw [decide_eq_false h, decide_eq_false (show ¬ (400 : Int) < (d.size : Int) by omega)]
  by_cases hbad : t < 0 ∨ 4611686018427387903 < t ∨ 400 < d.size ∨ k < 0 ∨ 3 < k
  · have e : right ⟨t, k, d, x, y⟩ = false := by
      rw [← Bool.not_eq_true]
      intro h
      obtain ⟨h1, h2, h3, h4, h5, h6, h7, h8, h9, _⟩ := right_parts h
      simp only at h1 h2 h3 h4 h9
      omega
    rw [e]
    clear e
    have HBAD := Lib.hid hbad
    clear hbad
    generalize hc1 : decide (t < 0) = c1
    generalize hc2 : decide (4611686018427387903 < t) = c2
    generalize hc3 : decide (400 < d.size) = c3 at w3
    generalize hc4 : decide (k < 0) = c4
    generalize hc5 : decide (3 < k) = c5
    have HN := Lib.hid (show ¬ (c1 = false ∧ c2 = false ∧ c3 = false ∧ c4 = false ∧ c5 = false) by
      rintro ⟨rfl, rfl, rfl, rfl, rfl⟩
      simp only [decide_eq_false_iff_not] at hc1 hc2 hc3 hc4 hc5
      rcases HBAD.out with h | h | h | h | h <;> contradiction)
    cases c1 with
    | true =>
      go_enter Tryd.func28, Tryd.ntmps28
      go_wp2
      go_ret
      exact ⟨rfl, HB.out⟩
    | false =>
    cases c2 with
    | true =>
      go_enter Tryd.func28, Tryd.ntmps28
      go_wp2
      go_ret
      exact ⟨rfl, HB.out⟩
    | false =>
    cases c3 with
    | true =>
      go_enter Tryd.func28, Tryd.ntmps28
      go_wp2
      go_ret
      exact ⟨rfl, HB.out⟩
    | false =>
    cases c4 with
    | true =>
      go_enter Tryd.func28, Tryd.ntmps28
      go_wp2
      go_ret
      exact ⟨rfl, HB.out⟩
    | false =>
    cases c5 with
    | true =>
      go_enter Tryd.func28, Tryd.ntmps28
      go_wp2
      go_ret
      exact ⟨rfl, HB.out⟩
    | false => exact absurd ⟨rfl, rfl, rfl, rfl, rfl⟩ HN.out
  have g1 : decide (t < 0) = false := by simp; omega
  have g2 : decide (4611686018427387903 < t) = false := by simp; omega
  have g3 : decide ((400 : Int) < (d.size : Int)) = false := by simp; omega
  have g4 : decide (k < 0) = false := by simp; omega
  have g5 : decide (3 < k) = false := by simp; omega
  by_cases h3 : k = 2
  · subst h3
    have e : right ⟨t, 2, d, x, y⟩ = (decide (d.size = 0) && decide (0 < x) && decide (x < 1001) && decide (0 < y) && decide (y < 1001)) := by
      unfold right
      rw [decide_eq_true (show 0 ≤ t by omega), decide_eq_true (show t < 4611686018427387904 by omega)]
      simp only [↓reduceIte, Bool.true_and]
      rw [Bool.eq_iff_iff]
      simp only [Bool.and_eq_true, decide_eq_true_eq]
      omega
    rw [e]
    clear e w3 hbad
    by_cases hd : d.size = 0
    · obtain rfl : d = ByteArray.empty := ByteArray.ext (Array.eq_empty_of_size_eq_zero hd)
      rw [decide_eq_true hd]
      clear hd
      generalize hb1 : decide (0 < x) = b1
      generalize hb2 : decide (x < 1001) = b2
      generalize hb3 : decide (0 < y) = b3
      generalize hb4 : decide (y < 1001) = b4
      cases b1 <;> cases b2 <;> cases b3 <;> cases b4 <;>
      · go_enter Tryd.func28, Tryd.ntmps28
        go_wp2
        go_ret
        exact ⟨rfl, HB.out⟩
    · have g6 : ((d.size : Int) == 0) = false := beq_eq_false_iff_ne.2 (by omega)
      have g7 : (d.size == 0) = false := beq_eq_false_iff_ne.2 hd
      rw [decide_eq_false hd]
      go_enter Tryd.func28, Tryd.ntmps28
      go_wp2
      go_ret
      exact ⟨rfl, HB.out⟩
  · have e : right ⟨t, k, d, x, y⟩ = (decide (x = 0) && decide (y = 0)) := by
      unfold right
      rw [decide_eq_true (show 0 ≤ t by omega), decide_eq_true (show t < 4611686018427387904 by omega)]
      simp only [if_neg h3]
      rw [decide_eq_true (show 0 ≤ k by omega), decide_eq_true (show k ≤ 3 by omega), decide_eq_true (show d.size ≤ 400 by omega)]
      simp
    rw [e]
    clear e w3 hbad
    have g8 : (k == 2) = false := beq_eq_false_iff_ne.2 h3
    have w2 : (x == 0) = decide (x = 0) := by by_cases h : x = 0 <;> simp [h]
    have w3 : (y == 0) = decide (y = 0) := by by_cases h : y = 0 <;> simp [h]
    generalize decide (x = 0) = b2 at *
    generalize decide (y = 0) = b3 at *
    cases b2 <;> cases b3 <;>
    · go_enter Tryd.func28, Tryd.ntmps28
      go_wp2
      go_ret
      exact ⟨rfl, HB.out⟩
end Go.Proofs.YtciogdhapogolaaDoor
