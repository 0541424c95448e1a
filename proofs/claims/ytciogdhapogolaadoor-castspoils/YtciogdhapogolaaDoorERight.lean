/-
  Layer 12 (event): may it be an event? The program's answer and the reference's.
-/
import Derived.Test.YtciogdhapogolaaDoorEEv
namespace Go.Proofs.YtciogdhapogolaaDoor
open Go.RowKit Go.Lib EM
set_option maxRecDepth 100000

theorem side_ok (n : Int) (w : World) : Calls Tryd.prog 48 #[.int .i64 n] w fun e w' => e = .returned (.bool (decide (1 ≤ n) && decide (n ≤ 1000))) ∧ w = w' := by
  by_cases h1 : 1 ≤ n
  · have g1 : decide (1 ≤ n) = true := by simpa
    by_cases h2 : n ≤ 1000
    · have g2 : decide (n ≤ 1000) = true := by simpa
      rw [g1, g2]
      go_enter Tryd.func48, Tryd.ntmps48
      go_wp2
      go_ret
      exact ⟨rfl, rfl⟩
    · have g2 : decide (n ≤ 1000) = false := by simpa using h2
      rw [g1, g2]
      go_enter Tryd.func48, Tryd.ntmps48
      go_wp2
      go_ret
      exact ⟨rfl, rfl⟩
  · have g1 : decide (1 ≤ n) = false := by simpa using h1
    rw [g1]
    go_enter Tryd.func48, Tryd.ntmps48
    go_wp2
    go_ret
    exact ⟨rfl, rfl⟩

set_option maxHeartbeats 1000000 in
theorem right_ok (w : World) (e : Ev) : Calls Tryd.prog 38 #[evV e] w fun x w' => x = .returned (.bool (right e)) ∧ Below w.heap.size w w' := by
  obtain ⟨t, k, d, x, y⟩ := e
  simp only [evV]
  have HB := Lib.hid (show Below w.heap.size w (w.alloc (.cells #[.int .i64 t, .int .i64 k, .string d, .int .i64 x, .int .i64 y] 27)) from (Below.refl _ _).alloc (Nat.le_refl _) _)
  by_cases h1 : t < 0
  · have g1 : decide (t < 0) = true := by simpa
    have e : right ⟨t, k, d, x, y⟩ = false := by unfold right; rw [decide_eq_false (show ¬ 0 ≤ t by omega)]; rfl
    rw [e]
    clear e
    go_enter Tryd.func38, Tryd.ntmps38
    go_wp2
    go_ret
    exact ⟨rfl, HB.out⟩
  have g1 : decide (t < 0) = false := by simpa using h1
  by_cases h2 : 4611686018427387904 ≤ t
  · have g2 : decide (4611686018427387904 ≤ t) = true := by simpa
    have e : right ⟨t, k, d, x, y⟩ = false := by unfold right; rw [decide_eq_false (show ¬ t < 4611686018427387904 by omega)]; simp
    rw [e]
    clear e
    go_enter Tryd.func38, Tryd.ntmps38
    go_wp2
    go_ret
    exact ⟨rfl, HB.out⟩
  have g2 : decide (4611686018427387904 ≤ t) = false := by simpa using h2
  by_cases h3 : k = 2
  · subst h3
    have e : right ⟨t, 2, d, x, y⟩ = (decide (d.size = 0) && (decide (1 ≤ x) && decide (x ≤ 1000)) && (decide (1 ≤ y) && decide (y ≤ 1000))) := by
      unfold right
      rw [decide_eq_true (show 0 ≤ t by omega), decide_eq_true (show t < 4611686018427387904 by omega)]
      simp [Bool.and_assoc]
    rw [e]
    clear e
    have hs1 := side_ok x
    have hs2 := side_ok y
    generalize (decide (1 ≤ x) && decide (x ≤ 1000)) = bx at *
    generalize (decide (1 ≤ y) && decide (y ≤ 1000)) = by' at *
    have HS1 := Lib.hid hs1
    have HS2 := Lib.hid hs2
    clear hs1 hs2
    by_cases hd : d.size = 0
    · have g3 : (d.toList == []) = true := by
        rw [ByteArray.toList_eq, show d = ByteArray.empty from ByteArray.ext (Array.eq_empty_of_size_eq_zero hd)]; rfl
      rw [decide_eq_true hd]
      clear hd
      cases bx with
      | false =>
        go_enter Tryd.func38, Tryd.ntmps38
        go_wp2_with fail
        refine (HS1.out _).mono ?_
        rintro e w' ⟨rfl, rfl⟩
        go_wp2
        go_ret
        exact ⟨rfl, HB.out⟩
      | true =>
        go_enter Tryd.func38, Tryd.ntmps38
        go_wp2_with fail
        refine (HS1.out _).mono ?_
        rintro e w' ⟨rfl, rfl⟩
        go_wp2_with fail
        refine (HS2.out _).mono ?_
        rintro e w' ⟨rfl, rfl⟩
        go_wp2
        go_ret
        exact ⟨rfl, HB.out⟩
    · have g3 : (d.toList == []) = false := by
        rw [beq_eq_false_iff_ne, ByteArray.toList_eq]
        intro h
        exact hd (by have := congrArg List.length h; simpa using this)
      rw [decide_eq_false hd]
      go_enter Tryd.func38, Tryd.ntmps38
      go_wp2
      go_ret
      exact ⟨rfl, HB.out⟩
  by_cases h4 : k = 0 ∨ k = 1 ∨ k = 3
  · have e : right ⟨t, k, d, x, y⟩ = (decide (d.size ≤ 400) && decide (x = 0) && decide (y = 0)) := by
      unfold right
      rw [decide_eq_true (show 0 ≤ t by omega), decide_eq_true (show t < 4611686018427387904 by omega)]
      simp only [if_neg h3]
      rw [decide_eq_true (show 0 ≤ k by omega), decide_eq_true (show k ≤ 3 by omega)]
      simp
    rw [e]
    clear e
    have w1 : decide ((d.size : Int) ≤ 400) = decide (d.size ≤ 400) := by
      by_cases h : d.size ≤ 400
      · rw [decide_eq_true h, decide_eq_true (show (d.size : Int) ≤ 400 by omega)]
      · rw [decide_eq_false h, decide_eq_false (show ¬ (d.size : Int) ≤ 400 by omega)]
    have w2 : (x == 0) = decide (x = 0) := by by_cases h : x = 0 <;> simp [h]
    have w3 : (y == 0) = decide (y = 0) := by by_cases h : y = 0 <;> simp [h]
    generalize decide (d.size ≤ 400) = b1 at *
    generalize decide (x = 0) = b2 at *
    generalize decide (y = 0) = b3 at *
    rcases h4 with rfl | rfl | rfl <;> cases b1 <;> cases b2 <;> cases b3 <;>
    · go_enter Tryd.func38, Tryd.ntmps38
      go_wp2
      go_ret
      exact ⟨rfl, HB.out⟩
  · have e : right ⟨t, k, d, x, y⟩ = false := by
      unfold right
      simp only [if_neg h3]
      by_cases h5 : 0 ≤ k
      · rw [decide_eq_false (show ¬ k ≤ 3 by omega)]; simp
      · rw [decide_eq_false (show ¬ 0 ≤ k by omega)]; simp
    rw [e]
    clear e
    have k0 : (k == 0) = false := beq_eq_false_iff_ne.2 (by omega)
    have k1 : (k == 1) = false := beq_eq_false_iff_ne.2 (by omega)
    have k2 : (k == 2) = false := beq_eq_false_iff_ne.2 (by omega)
    have k3 : (k == 3) = false := beq_eq_false_iff_ne.2 (by omega)
    go_enter Tryd.func38, Tryd.ntmps38
    go_wp2
    go_ret
    exact ⟨rfl, HB.out⟩
end Go.Proofs.YtciogdhapogolaaDoor
