/-
  Layer 8 (cell): colour, Style, Right, Blank; the reference's Style.
-/
import Derived.Test.YtbpkklcegiiheaaDoorKVal
namespace Go.Proofs.YtbpkklcegiiheaaDoor
open Go.RowKit Go.Lib KM

set_option maxRecDepth 100000 in
theorem colour_ok (w : World) (n : Int) : Calls Tryd.prog 72 #[.int .i64 n] w fun e w' => e = .returned (.bool (colour n)) ∧ w' = w := by
  unfold colour
  by_cases h : 0 ≤ n
  · have g : decide ((0 : Int) ≤ n) = true := by simp; omega
    go_enter Tryd.func72, Tryd.ntmps72
    go_wp2
    go_ret
    exact ⟨by simp only [g, Bool.true_and]; rfl, rfl⟩
  · have g : decide ((0 : Int) ≤ n) = false := by simp; omega
    go_enter Tryd.func72, Tryd.ntmps72
    go_wp2
    go_ret
    exact ⟨rfl, rfl⟩

set_option maxRecDepth 100000 in
theorem style_ok (w : World) (s : Sty) : Calls Tryd.prog 58 #[styV s] w fun e w' => e = .returned (.bool (sright s)) ∧ Below w.heap.size w w' := by
  obtain ⟨b, u, t, f, k⟩ := s
  simp only [styV, sright]
  rcases hf : colour f with _ | _
  · have F := Lib.hid hf
    clear hf
    go_enter Tryd.func58, Tryd.ntmps58
    go_wp2_with fail
    refine (colour_ok _ f).mono ?_
    rw [F.out]
    rintro e w1 ⟨rfl, rfl⟩
    go_wp2_with fail
    go_ret
    exact ⟨rfl, (Below.refl _ _).alloc (Nat.le_refl _) _⟩
  · have F := Lib.hid hf
    clear hf
    go_enter Tryd.func58, Tryd.ntmps58
    go_wp2_with fail
    refine (colour_ok _ f).mono ?_
    rw [F.out]
    rintro e w1 ⟨rfl, rfl⟩
    go_wp2_with fail
    refine (colour_ok _ k).mono ?_
    rintro e w2 ⟨rfl, rfl⟩
    go_wp2_with fail
    go_ret
    exact ⟨rfl, (Below.refl _ _).alloc (Nat.le_refl _) _⟩

set_option maxRecDepth 100000 in
theorem rstyle_ok (w : World) (s : Sty) : Calls Tryd.prog 52 #[styV s] w fun e w' => e = .returned (.bool (sright s)) ∧ Below w.heap.size w w' := by
  obtain ⟨b, u, t, f, k⟩ := s
  simp only [styV, sright, colour]
  rcases g1 : decide ((0 : Int) ≤ f) with _ | _
  · go_enter Tryd.func52, Tryd.ntmps52
    go_wp2
    go_ret
    exact ⟨rfl, (Below.refl _ _).alloc (Nat.le_refl _) _⟩
  · rcases g2 : decide (f ≤ (8 : Int)) with _ | _
    · go_enter Tryd.func52, Tryd.ntmps52
      go_wp2
      go_ret
      exact ⟨rfl, (Below.refl _ _).alloc (Nat.le_refl _) _⟩
    · rcases g3 : decide ((0 : Int) ≤ k) with _ | _
      · go_enter Tryd.func52, Tryd.ntmps52
        go_wp2
        go_ret
        exact ⟨rfl, (Below.refl _ _).alloc (Nat.le_refl _) _⟩
      · go_enter Tryd.func52, Tryd.ntmps52
        go_wp2
        go_ret
        exact ⟨rfl, (Below.refl _ _).alloc (Nat.le_refl _) _⟩

set_option maxRecDepth 100000 in
theorem cright_ok (w : World) (c : Cel) : Calls Tryd.prog 31 #[celV c] w fun e w' => e = .returned (.bool (cright c)) ∧ Below w.heap.size w w' := by
  obtain ⟨r, ⟨b, u, t, f, k⟩⟩ := c
  simp only [celV, cright]
  have HS := Lib.hid (fun w => style_ok w ⟨b, u, t, f, k⟩)
  rcases hf : GM.right r with _ | _
  · have F := Lib.hid hf
    clear hf
    go_enter Tryd.func31, Tryd.ntmps31
    go_wp2_with fail
    refine (right_ok _ r).mono ?_
    rw [F.out]
    rintro e w1 ⟨rfl, rfl⟩
    go_wp2_with fail
    go_ret
    exact ⟨rfl, (Below.refl _ _).alloc (Nat.le_refl _) _⟩
  · have F := Lib.hid hf
    clear hf
    go_enter Tryd.func31, Tryd.ntmps31
    go_wp2_with fail
    refine (right_ok _ r).mono ?_
    rw [F.out]
    rintro e w1 ⟨rfl, rfl⟩
    go_wp2_with fail
    refine (HS.out _).mono ?_
    rintro e w2 ⟨rfl, hb2⟩
    have HB := Lib.hid hb2
    clear hb2
    go_wp2_with fail
    go_ret
    exact ⟨rfl, below_next ((Below.refl _ _).alloc (Nat.le_refl _) _) HB.out⟩

set_option maxRecDepth 100000 in
theorem blank_ok (w : World) (s : Sty) : Calls Tryd.prog 70 #[styV s] w fun e w' => e = .returned (celV ⟨32, ⟨false, false, false, 0, s.back⟩⟩) ∧ Below w.heap.size w w' := by
  obtain ⟨b, u, t, f, k⟩ := s
  simp only [styV, celV]
  have hb1 := fun w => build_back w k
  have hb2 := fun w => build_cell w 32 false false false 0 k
  go_enter Tryd.func70, Tryd.ntmps70
  go_wp2
  exact bodyPost_ret (v := .agg #[.int .i32 32, .bool false, .bool false, .bool false, .int .i64 0, .int .i64 k]) (by simp [results, Tryd.results70, go_sem]) rfl ⟨rfl, ((Below.refl _ _).alloc (Nat.le_refl _) _).alloc (by simp) _⟩
end Go.Proofs.YtbpkklcegiiheaaDoor
