/-
  Layer 8 (cell): a style behind one parameter: changeOne, and the reference's Change. (Written by wip/mk/kchange.py.)
-/
import Derived.Test.YtalngmegenlfgaaDoorKStyle
namespace Go.Proofs.YtalngmegenlfgaaDoor
open Go.RowKit Go.Lib KM

set_option maxRecDepth 100000 in
set_option maxHeartbeats 1000000 in
theorem changeOne_ok (w : World) (s : Sty) (p : Int) (hp : -9223372036854775808 ≤ p ∧ p ≤ 9223372036854775807) : Calls Tryd.prog 32 #[styV s, .int .i64 p] w fun e w' => e = .returned (styV (chg s p)) ∧ Below w.heap.size w w' := by
  obtain ⟨b, u, t, f, k⟩ := s
  have hz := fun w => build_zero w
  rcases (by omega : p = 0 ∨ p = 1 ∨ p = 22 ∨ p = 4 ∨ p = 24 ∨ p = 7 ∨ p = 27 ∨ p = 39 ∨ p = 49 ∨ (30 ≤ p ∧ p ≤ 37) ∨ (40 ≤ p ∧ p ≤ 47) ∨ (p ≠ 0 ∧ p ≠ 1 ∧ p ≠ 22 ∧ p ≠ 4 ∧ p ≠ 24 ∧ p ≠ 7 ∧ p ≠ 27 ∧ p ≠ 39 ∧ p ≠ 49 ∧ (p < 30 ∨ 37 < p) ∧ (p < 40 ∨ 47 < p))) with h | h | h | h | h | h | h | h | h | h | h | h
  · subst h
    have hc : chg ⟨b, u, t, f, k⟩ 0 = ⟨false, false, false, 0, 0⟩ := rfl
    rw [hc]
    clear hc hp
    simp only [styV]
    go_enter Tryd.func32, Tryd.ntmps32
    go_wp2
    exact bodyPost_ret (v := .agg #[.bool false, .bool false, .bool false, .int .i64 0, .int .i64 0]) (by simp [results, Tryd.results32, go_sem]) rfl ⟨rfl, ((Below.refl _ _).alloc (Nat.le_refl _) _).alloc (by simp) _⟩
  · subst h
    have hc : chg ⟨b, u, t, f, k⟩ 1 = ⟨true, u, t, f, k⟩ := rfl
    rw [hc]
    clear hc hp
    simp only [styV]
    go_enter Tryd.func32, Tryd.ntmps32
    go_wp2
    exact bodyPost_ret (v := .agg #[.bool true, .bool u, .bool t, .int .i64 f, .int .i64 k]) (by simp [results, Tryd.results32, go_sem]) rfl ⟨rfl, ((Below.refl _ _).alloc (Nat.le_refl _) _).alloc (by simp) _⟩
  · subst h
    have hc : chg ⟨b, u, t, f, k⟩ 22 = ⟨false, u, t, f, k⟩ := rfl
    rw [hc]
    clear hc hp
    simp only [styV]
    go_enter Tryd.func32, Tryd.ntmps32
    go_wp2
    exact bodyPost_ret (v := .agg #[.bool false, .bool u, .bool t, .int .i64 f, .int .i64 k]) (by simp [results, Tryd.results32, go_sem]) rfl ⟨rfl, ((Below.refl _ _).alloc (Nat.le_refl _) _).alloc (by simp) _⟩
  · subst h
    have hc : chg ⟨b, u, t, f, k⟩ 4 = ⟨b, true, t, f, k⟩ := rfl
    rw [hc]
    clear hc hp
    simp only [styV]
    go_enter Tryd.func32, Tryd.ntmps32
    go_wp2
    exact bodyPost_ret (v := .agg #[.bool b, .bool true, .bool t, .int .i64 f, .int .i64 k]) (by simp [results, Tryd.results32, go_sem]) rfl ⟨rfl, ((Below.refl _ _).alloc (Nat.le_refl _) _).alloc (by simp) _⟩
  · subst h
    have hc : chg ⟨b, u, t, f, k⟩ 24 = ⟨b, false, t, f, k⟩ := rfl
    rw [hc]
    clear hc hp
    simp only [styV]
    go_enter Tryd.func32, Tryd.ntmps32
    go_wp2
    exact bodyPost_ret (v := .agg #[.bool b, .bool false, .bool t, .int .i64 f, .int .i64 k]) (by simp [results, Tryd.results32, go_sem]) rfl ⟨rfl, ((Below.refl _ _).alloc (Nat.le_refl _) _).alloc (by simp) _⟩
  · subst h
    have hc : chg ⟨b, u, t, f, k⟩ 7 = ⟨b, u, true, f, k⟩ := rfl
    rw [hc]
    clear hc hp
    simp only [styV]
    go_enter Tryd.func32, Tryd.ntmps32
    go_wp2
    exact bodyPost_ret (v := .agg #[.bool b, .bool u, .bool true, .int .i64 f, .int .i64 k]) (by simp [results, Tryd.results32, go_sem]) rfl ⟨rfl, ((Below.refl _ _).alloc (Nat.le_refl _) _).alloc (by simp) _⟩
  · subst h
    have hc : chg ⟨b, u, t, f, k⟩ 27 = ⟨b, u, false, f, k⟩ := rfl
    rw [hc]
    clear hc hp
    simp only [styV]
    go_enter Tryd.func32, Tryd.ntmps32
    go_wp2
    exact bodyPost_ret (v := .agg #[.bool b, .bool u, .bool false, .int .i64 f, .int .i64 k]) (by simp [results, Tryd.results32, go_sem]) rfl ⟨rfl, ((Below.refl _ _).alloc (Nat.le_refl _) _).alloc (by simp) _⟩
  · subst h
    have hc : chg ⟨b, u, t, f, k⟩ 39 = ⟨b, u, t, 0, k⟩ := rfl
    rw [hc]
    clear hc hp
    simp only [styV]
    go_enter Tryd.func32, Tryd.ntmps32
    go_wp2
    exact bodyPost_ret (v := .agg #[.bool b, .bool u, .bool t, .int .i64 0, .int .i64 k]) (by simp [results, Tryd.results32, go_sem]) rfl ⟨rfl, ((Below.refl _ _).alloc (Nat.le_refl _) _).alloc (by simp) _⟩
  · subst h
    have hc : chg ⟨b, u, t, f, k⟩ 49 = ⟨b, u, t, f, 0⟩ := rfl
    rw [hc]
    clear hc hp
    simp only [styV]
    go_enter Tryd.func32, Tryd.ntmps32
    go_wp2
    exact bodyPost_ret (v := .agg #[.bool b, .bool u, .bool t, .int .i64 f, .int .i64 0]) (by simp [results, Tryd.results32, go_sem]) rfl ⟨rfl, ((Below.refl _ _).alloc (Nat.le_refl _) _).alloc (by simp) _⟩
  · have hc : chg ⟨b, u, t, f, k⟩ p = ⟨b, u, t, (p - 29), k⟩ := by unfold chg; rw [if_neg (by omega)]; rw [if_neg (by omega)]; rw [if_neg (by omega)]; rw [if_neg (by omega)]; rw [if_neg (by omega)]; rw [if_neg (by omega)]; rw [if_neg (by omega)]; rw [if_pos (by omega)]
    rw [hc]
    clear hc
    simp only [styV]
    have g0 : (p == 0) = false := by simp; omega
    have g1 : (p == 1) = false := by simp; omega
    have g22 : (p == 22) = false := by simp; omega
    have g4 : (p == 4) = false := by simp; omega
    have g24 : (p == 24) = false := by simp; omega
    have g7 : (p == 7) = false := by simp; omega
    have g27 : (p == 27) = false := by simp; omega
    have g39 : (p == 39) = false := by simp; omega
    have g49 : (p == 49) = false := by simp; omega
    have r30 : decide ((30 : Int) ≤ p) = true := by simp; omega
    have r37 : decide (p ≤ (37 : Int)) = true := by simp; omega
    have r40 : decide ((40 : Int) ≤ p) = false := by simp; omega
    have hw : IntKind.i64.wrap (p - 29) = p - 29 := by rw [IntKind.wrap_i64]; omega
    go_enter Tryd.func32, Tryd.ntmps32
    go_wp2
    exact bodyPost_ret (v := .agg #[.bool b, .bool u, .bool t, .int .i64 (p - 29), .int .i64 k]) (by simp [results, Tryd.results32, go_sem]) rfl ⟨rfl, ((Below.refl _ _).alloc (Nat.le_refl _) _).alloc (by simp) _⟩
  · have hc : chg ⟨b, u, t, f, k⟩ p = ⟨b, u, t, f, (p - 39)⟩ := by unfold chg; rw [if_neg (by omega)]; rw [if_neg (by omega)]; rw [if_neg (by omega)]; rw [if_neg (by omega)]; rw [if_neg (by omega)]; rw [if_neg (by omega)]; rw [if_neg (by omega)]; rw [if_neg (by omega)]; rw [if_neg (by omega)]; rw [if_pos (by omega)]
    rw [hc]
    clear hc
    simp only [styV]
    have g0 : (p == 0) = false := by simp; omega
    have g1 : (p == 1) = false := by simp; omega
    have g22 : (p == 22) = false := by simp; omega
    have g4 : (p == 4) = false := by simp; omega
    have g24 : (p == 24) = false := by simp; omega
    have g7 : (p == 7) = false := by simp; omega
    have g27 : (p == 27) = false := by simp; omega
    have g39 : (p == 39) = false := by simp; omega
    have g49 : (p == 49) = false := by simp; omega
    have r30 : decide ((30 : Int) ≤ p) = true := by simp; omega
    have r37 : decide (p ≤ (37 : Int)) = false := by simp; omega
    have r40 : decide ((40 : Int) ≤ p) = true := by simp; omega
    have r47 : decide (p ≤ (47 : Int)) = true := by simp; omega
    have hw : IntKind.i64.wrap (p - 39) = p - 39 := by rw [IntKind.wrap_i64]; omega
    go_enter Tryd.func32, Tryd.ntmps32
    go_wp2
    exact bodyPost_ret (v := .agg #[.bool b, .bool u, .bool t, .int .i64 f, .int .i64 (p - 39)]) (by simp [results, Tryd.results32, go_sem]) rfl ⟨rfl, ((Below.refl _ _).alloc (Nat.le_refl _) _).alloc (by simp) _⟩
  · have hc : chg ⟨b, u, t, f, k⟩ p = ⟨b, u, t, f, k⟩ := by unfold chg; rw [if_neg (by omega)]; rw [if_neg (by omega)]; rw [if_neg (by omega)]; rw [if_neg (by omega)]; rw [if_neg (by omega)]; rw [if_neg (by omega)]; rw [if_neg (by omega)]; rw [if_neg (by omega)]; rw [if_neg (by omega)]; rw [if_neg (by omega)]; rw [if_neg (by omega)]
    rw [hc]
    clear hc
    simp only [styV]
    have g0 : (p == 0) = false := by simp; omega
    have g1 : (p == 1) = false := by simp; omega
    have g22 : (p == 22) = false := by simp; omega
    have g4 : (p == 4) = false := by simp; omega
    have g24 : (p == 24) = false := by simp; omega
    have g7 : (p == 7) = false := by simp; omega
    have g27 : (p == 27) = false := by simp; omega
    have g39 : (p == 39) = false := by simp; omega
    have g49 : (p == 49) = false := by simp; omega
    rcases r30 : decide ((30 : Int) ≤ p) with _ | _
    · have h30 := of_decide_eq_false r30
      have r40 : decide ((40 : Int) ≤ p) = false := by simp; omega
      go_enter Tryd.func32, Tryd.ntmps32
      go_wp2
      exact bodyPost_ret (v := .agg #[.bool b, .bool u, .bool t, .int .i64 f, .int .i64 k]) (by simp [results, Tryd.results32, go_sem]) rfl ⟨rfl, ((Below.refl _ _).alloc (Nat.le_refl _) _).alloc (by simp) _⟩
    · have h30 := of_decide_eq_true r30
      have r37 : decide (p ≤ (37 : Int)) = false := by simp; omega
      rcases r40 : decide ((40 : Int) ≤ p) with _ | _
      · skip
        go_enter Tryd.func32, Tryd.ntmps32
        go_wp2
        exact bodyPost_ret (v := .agg #[.bool b, .bool u, .bool t, .int .i64 f, .int .i64 k]) (by simp [results, Tryd.results32, go_sem]) rfl ⟨rfl, ((Below.refl _ _).alloc (Nat.le_refl _) _).alloc (by simp) _⟩
      · have h40 := of_decide_eq_true r40
        have r47 : decide (p ≤ (47 : Int)) = false := by simp; omega
        go_enter Tryd.func32, Tryd.ntmps32
        go_wp2
        exact bodyPost_ret (v := .agg #[.bool b, .bool u, .bool t, .int .i64 f, .int .i64 k]) (by simp [results, Tryd.results32, go_sem]) rfl ⟨rfl, ((Below.refl _ _).alloc (Nat.le_refl _) _).alloc (by simp) _⟩

set_option maxRecDepth 100000 in
set_option maxHeartbeats 1000000 in
theorem rchange_ok (w : World) (s : Sty) (p : Int) (hp : -9223372036854775808 ≤ p ∧ p ≤ 9223372036854775807) : Calls Tryd.prog 13 #[styV s, .int .i64 p] w fun e w' => e = .returned (styV (chg s p)) ∧ Below w.heap.size w w' := by
  obtain ⟨b, u, t, f, k⟩ := s
  have hz := fun w => build_zero w
  rcases (by omega : p = 0 ∨ p = 1 ∨ p = 22 ∨ p = 4 ∨ p = 24 ∨ p = 7 ∨ p = 27 ∨ p = 39 ∨ p = 49 ∨ (30 ≤ p ∧ p ≤ 37) ∨ (40 ≤ p ∧ p ≤ 47) ∨ (p ≠ 0 ∧ p ≠ 1 ∧ p ≠ 22 ∧ p ≠ 4 ∧ p ≠ 24 ∧ p ≠ 7 ∧ p ≠ 27 ∧ p ≠ 39 ∧ p ≠ 49 ∧ (p < 30 ∨ 37 < p) ∧ (p < 40 ∨ 47 < p))) with h | h | h | h | h | h | h | h | h | h | h | h
  · subst h
    have hc : chg ⟨b, u, t, f, k⟩ 0 = ⟨false, false, false, 0, 0⟩ := rfl
    rw [hc]
    clear hc hp
    simp only [styV]
    go_enter Tryd.func13, Tryd.ntmps13
    go_wp2
    exact bodyPost_ret (v := .agg #[.bool false, .bool false, .bool false, .int .i64 0, .int .i64 0]) (by simp [results, Tryd.results13, go_sem]) rfl ⟨rfl, ((Below.refl _ _).alloc (Nat.le_refl _) _).alloc (by simp) _⟩
  · subst h
    have hc : chg ⟨b, u, t, f, k⟩ 1 = ⟨true, u, t, f, k⟩ := rfl
    rw [hc]
    clear hc hp
    simp only [styV]
    go_enter Tryd.func13, Tryd.ntmps13
    go_wp2
    exact bodyPost_ret (v := .agg #[.bool true, .bool u, .bool t, .int .i64 f, .int .i64 k]) (by simp [results, Tryd.results13, go_sem]) rfl ⟨rfl, ((Below.refl _ _).alloc (Nat.le_refl _) _).alloc (by simp) _⟩
  · subst h
    have hc : chg ⟨b, u, t, f, k⟩ 22 = ⟨false, u, t, f, k⟩ := rfl
    rw [hc]
    clear hc hp
    simp only [styV]
    go_enter Tryd.func13, Tryd.ntmps13
    go_wp2
    exact bodyPost_ret (v := .agg #[.bool false, .bool u, .bool t, .int .i64 f, .int .i64 k]) (by simp [results, Tryd.results13, go_sem]) rfl ⟨rfl, ((Below.refl _ _).alloc (Nat.le_refl _) _).alloc (by simp) _⟩
  · subst h
    have hc : chg ⟨b, u, t, f, k⟩ 4 = ⟨b, true, t, f, k⟩ := rfl
    rw [hc]
    clear hc hp
    simp only [styV]
    go_enter Tryd.func13, Tryd.ntmps13
    go_wp2
    exact bodyPost_ret (v := .agg #[.bool b, .bool true, .bool t, .int .i64 f, .int .i64 k]) (by simp [results, Tryd.results13, go_sem]) rfl ⟨rfl, ((Below.refl _ _).alloc (Nat.le_refl _) _).alloc (by simp) _⟩
  · subst h
    have hc : chg ⟨b, u, t, f, k⟩ 24 = ⟨b, false, t, f, k⟩ := rfl
    rw [hc]
    clear hc hp
    simp only [styV]
    go_enter Tryd.func13, Tryd.ntmps13
    go_wp2
    exact bodyPost_ret (v := .agg #[.bool b, .bool false, .bool t, .int .i64 f, .int .i64 k]) (by simp [results, Tryd.results13, go_sem]) rfl ⟨rfl, ((Below.refl _ _).alloc (Nat.le_refl _) _).alloc (by simp) _⟩
  · subst h
    have hc : chg ⟨b, u, t, f, k⟩ 7 = ⟨b, u, true, f, k⟩ := rfl
    rw [hc]
    clear hc hp
    simp only [styV]
    go_enter Tryd.func13, Tryd.ntmps13
    go_wp2
    exact bodyPost_ret (v := .agg #[.bool b, .bool u, .bool true, .int .i64 f, .int .i64 k]) (by simp [results, Tryd.results13, go_sem]) rfl ⟨rfl, ((Below.refl _ _).alloc (Nat.le_refl _) _).alloc (by simp) _⟩
  · subst h
    have hc : chg ⟨b, u, t, f, k⟩ 27 = ⟨b, u, false, f, k⟩ := rfl
    rw [hc]
    clear hc hp
    simp only [styV]
    go_enter Tryd.func13, Tryd.ntmps13
    go_wp2
    exact bodyPost_ret (v := .agg #[.bool b, .bool u, .bool false, .int .i64 f, .int .i64 k]) (by simp [results, Tryd.results13, go_sem]) rfl ⟨rfl, ((Below.refl _ _).alloc (Nat.le_refl _) _).alloc (by simp) _⟩
  · subst h
    have hc : chg ⟨b, u, t, f, k⟩ 39 = ⟨b, u, t, 0, k⟩ := rfl
    rw [hc]
    clear hc hp
    simp only [styV]
    go_enter Tryd.func13, Tryd.ntmps13
    go_wp2
    exact bodyPost_ret (v := .agg #[.bool b, .bool u, .bool t, .int .i64 0, .int .i64 k]) (by simp [results, Tryd.results13, go_sem]) rfl ⟨rfl, ((Below.refl _ _).alloc (Nat.le_refl _) _).alloc (by simp) _⟩
  · subst h
    have hc : chg ⟨b, u, t, f, k⟩ 49 = ⟨b, u, t, f, 0⟩ := rfl
    rw [hc]
    clear hc hp
    simp only [styV]
    go_enter Tryd.func13, Tryd.ntmps13
    go_wp2
    exact bodyPost_ret (v := .agg #[.bool b, .bool u, .bool t, .int .i64 f, .int .i64 0]) (by simp [results, Tryd.results13, go_sem]) rfl ⟨rfl, ((Below.refl _ _).alloc (Nat.le_refl _) _).alloc (by simp) _⟩
  · have hc : chg ⟨b, u, t, f, k⟩ p = ⟨b, u, t, (p - 29), k⟩ := by unfold chg; rw [if_neg (by omega)]; rw [if_neg (by omega)]; rw [if_neg (by omega)]; rw [if_neg (by omega)]; rw [if_neg (by omega)]; rw [if_neg (by omega)]; rw [if_neg (by omega)]; rw [if_pos (by omega)]
    rw [hc]
    clear hc
    simp only [styV]
    have g0 : (p == 0) = false := by simp; omega
    have g1 : (p == 1) = false := by simp; omega
    have g22 : (p == 22) = false := by simp; omega
    have g4 : (p == 4) = false := by simp; omega
    have g24 : (p == 24) = false := by simp; omega
    have g7 : (p == 7) = false := by simp; omega
    have g27 : (p == 27) = false := by simp; omega
    have g39 : (p == 39) = false := by simp; omega
    have g49 : (p == 49) = false := by simp; omega
    have r30 : decide ((30 : Int) ≤ p) = true := by simp; omega
    have r37 : decide (p ≤ (37 : Int)) = true := by simp; omega
    have r40 : decide ((40 : Int) ≤ p) = false := by simp; omega
    have hw : IntKind.i64.wrap (p - 29) = p - 29 := by rw [IntKind.wrap_i64]; omega
    go_enter Tryd.func13, Tryd.ntmps13
    go_wp2
    exact bodyPost_ret (v := .agg #[.bool b, .bool u, .bool t, .int .i64 (p - 29), .int .i64 k]) (by simp [results, Tryd.results13, go_sem]) rfl ⟨rfl, ((Below.refl _ _).alloc (Nat.le_refl _) _).alloc (by simp) _⟩
  · have hc : chg ⟨b, u, t, f, k⟩ p = ⟨b, u, t, f, (p - 39)⟩ := by unfold chg; rw [if_neg (by omega)]; rw [if_neg (by omega)]; rw [if_neg (by omega)]; rw [if_neg (by omega)]; rw [if_neg (by omega)]; rw [if_neg (by omega)]; rw [if_neg (by omega)]; rw [if_neg (by omega)]; rw [if_neg (by omega)]; rw [if_pos (by omega)]
    rw [hc]
    clear hc
    simp only [styV]
    have g0 : (p == 0) = false := by simp; omega
    have g1 : (p == 1) = false := by simp; omega
    have g22 : (p == 22) = false := by simp; omega
    have g4 : (p == 4) = false := by simp; omega
    have g24 : (p == 24) = false := by simp; omega
    have g7 : (p == 7) = false := by simp; omega
    have g27 : (p == 27) = false := by simp; omega
    have g39 : (p == 39) = false := by simp; omega
    have g49 : (p == 49) = false := by simp; omega
    have r30 : decide ((30 : Int) ≤ p) = true := by simp; omega
    have r37 : decide (p ≤ (37 : Int)) = false := by simp; omega
    have r40 : decide ((40 : Int) ≤ p) = true := by simp; omega
    have r47 : decide (p ≤ (47 : Int)) = true := by simp; omega
    have hw : IntKind.i64.wrap (p - 39) = p - 39 := by rw [IntKind.wrap_i64]; omega
    go_enter Tryd.func13, Tryd.ntmps13
    go_wp2
    exact bodyPost_ret (v := .agg #[.bool b, .bool u, .bool t, .int .i64 f, .int .i64 (p - 39)]) (by simp [results, Tryd.results13, go_sem]) rfl ⟨rfl, ((Below.refl _ _).alloc (Nat.le_refl _) _).alloc (by simp) _⟩
  · have hc : chg ⟨b, u, t, f, k⟩ p = ⟨b, u, t, f, k⟩ := by unfold chg; rw [if_neg (by omega)]; rw [if_neg (by omega)]; rw [if_neg (by omega)]; rw [if_neg (by omega)]; rw [if_neg (by omega)]; rw [if_neg (by omega)]; rw [if_neg (by omega)]; rw [if_neg (by omega)]; rw [if_neg (by omega)]; rw [if_neg (by omega)]; rw [if_neg (by omega)]
    rw [hc]
    clear hc
    simp only [styV]
    have g0 : (p == 0) = false := by simp; omega
    have g1 : (p == 1) = false := by simp; omega
    have g22 : (p == 22) = false := by simp; omega
    have g4 : (p == 4) = false := by simp; omega
    have g24 : (p == 24) = false := by simp; omega
    have g7 : (p == 7) = false := by simp; omega
    have g27 : (p == 27) = false := by simp; omega
    have g39 : (p == 39) = false := by simp; omega
    have g49 : (p == 49) = false := by simp; omega
    rcases r30 : decide ((30 : Int) ≤ p) with _ | _
    · have h30 := of_decide_eq_false r30
      have r40 : decide ((40 : Int) ≤ p) = false := by simp; omega
      go_enter Tryd.func13, Tryd.ntmps13
      go_wp2
      exact bodyPost_ret (v := .agg #[.bool b, .bool u, .bool t, .int .i64 f, .int .i64 k]) (by simp [results, Tryd.results13, go_sem]) rfl ⟨rfl, ((Below.refl _ _).alloc (Nat.le_refl _) _).alloc (by simp) _⟩
    · have h30 := of_decide_eq_true r30
      have r37 : decide (p ≤ (37 : Int)) = false := by simp; omega
      rcases r40 : decide ((40 : Int) ≤ p) with _ | _
      · skip
        go_enter Tryd.func13, Tryd.ntmps13
        go_wp2
        exact bodyPost_ret (v := .agg #[.bool b, .bool u, .bool t, .int .i64 f, .int .i64 k]) (by simp [results, Tryd.results13, go_sem]) rfl ⟨rfl, ((Below.refl _ _).alloc (Nat.le_refl _) _).alloc (by simp) _⟩
      · have h40 := of_decide_eq_true r40
        have r47 : decide (p ≤ (47 : Int)) = false := by simp; omega
        go_enter Tryd.func13, Tryd.ntmps13
        go_wp2
        exact bodyPost_ret (v := .agg #[.bool b, .bool u, .bool t, .int .i64 f, .int .i64 k]) (by simp [results, Tryd.results13, go_sem]) rfl ⟨rfl, ((Below.refl _ _).alloc (Nat.le_refl _) _).alloc (by simp) _⟩
end Go.Proofs.YtalngmegenlfgaaDoor
