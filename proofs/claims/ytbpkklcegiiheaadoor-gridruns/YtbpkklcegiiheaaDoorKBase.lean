/-
  Layer 7 (glyph), for layer 8: what the table of wide runes holds, and that it lasts over whatever is made anew; Right, has, among.
-/
import Derived.Test.YtbpkklcegiiheaaDoorRows
import Derived.Test.YtbpkklcegiiheaaDoorGMath
import Derived.Test.YtbpkklcegiiheaaDoorVMem
import Derived.Lib.Hide
import Derived.Laws.Unary
import Derived.BigQuiet
import Derived.Deep.QuietTactic
import Derived.Deep.MidRow
namespace Go.Proofs.YtbpkklcegiiheaaDoor
open Go.RowKit Go.Lib

/-- A list of runes as cells. -/
def runesV (l : List Int) : List Value := l.map (Value.int .i32)
/-- What the package's table holds. -/
structure Tabs (w : World) : Prop where
  wide : w.rangeAt 0 0 (runesV GM.wideT)
  room : 0 < w.heap.size
theorem Tabs.on {w w' : World} {B : Nat} (h : Tabs w) (b : Below B w w') (hB : 1 ≤ B) : Tabs w' := by
  obtain ⟨h1, h3⟩ := h
  refine ⟨fun j v hv => ?_, Nat.lt_of_lt_of_le h3 b.size⟩
  rw [b.cell (by show 0 < _; omega)]; exact h1 j v hv
theorem below_next {w w1 w2 : World} (h : Below w.heap.size w w1) (k : Below w1.heap.size w1 w2) : Below w.heap.size w w2 := h.trans (k.mono h.size)

set_option maxRecDepth 100000 in
set_option maxHeartbeats 400000 in
theorem right_ok (w : World) (r : Int) : Calls Tryd.prog 57 #[.int .i32 r] w fun e w' => e = .returned (.bool (GM.right r)) ∧ w' = w := by
  rcases (by omega : r < 32 ∨ (32 ≤ r ∧ r < 127) ∨ r = 127 ∨ (127 < r ∧ r < 55296) ∨ (55296 ≤ r ∧ r ≤ 57343) ∨ (57343 < r ∧ r ≤ 1114111) ∨ 1114111 < r) with h | h | h | h | h | h | h
  · have hr : GM.right r = false := by rw [← Bool.not_eq_true, GM.right_iff]; omega
    have g1 : decide ((55296 : Int) ≤ r) = false := by simp; omega
    have g3 : decide ((32 : Int) ≤ r) = false := by simp; omega
    rw [hr]
    clear hr h
    go_enter Tryd.func57, Tryd.ntmps57
    go_wp2
    go_ret
    exact ⟨rfl, rfl⟩
  · have hr : GM.right r = true := by rw [GM.right_iff]; omega
    have g1 : decide ((55296 : Int) ≤ r) = false := by simp; omega
    have g3 : decide ((32 : Int) ≤ r) = true := by simp; omega
    have g4 : decide (r ≤ (1114111 : Int)) = true := by simp; omega
    have g5 : (r != 127) = true := by simp; omega
    rw [hr]
    clear hr h
    go_enter Tryd.func57, Tryd.ntmps57
    go_wp2
    go_ret
    exact ⟨rfl, rfl⟩
  · subst h
    go_enter Tryd.func57, Tryd.ntmps57
    go_wp2
    go_ret
    exact ⟨rfl, rfl⟩
  · have hr : GM.right r = true := by rw [GM.right_iff]; omega
    have g1 : decide ((55296 : Int) ≤ r) = false := by simp; omega
    have g3 : decide ((32 : Int) ≤ r) = true := by simp; omega
    have g4 : decide (r ≤ (1114111 : Int)) = true := by simp; omega
    have g5 : (r != 127) = true := by simp; omega
    rw [hr]
    clear hr h
    go_enter Tryd.func57, Tryd.ntmps57
    go_wp2
    go_ret
    exact ⟨rfl, rfl⟩
  · have hr : GM.right r = false := by rw [← Bool.not_eq_true, GM.right_iff]; omega
    have g1 : decide ((55296 : Int) ≤ r) = true := by simp; omega
    have g2 : decide (r ≤ (57343 : Int)) = true := by simp; omega
    have g3 : decide ((32 : Int) ≤ r) = true := by simp; omega
    have g4 : decide (r ≤ (1114111 : Int)) = true := by simp; omega
    have g5 : (r != 127) = true := by simp; omega
    rw [hr]
    clear hr h
    go_enter Tryd.func57, Tryd.ntmps57
    go_wp2
    go_ret
    exact ⟨rfl, rfl⟩
  · have hr : GM.right r = true := by rw [GM.right_iff]; omega
    have g1 : decide ((55296 : Int) ≤ r) = true := by simp; omega
    have g2 : decide (r ≤ (57343 : Int)) = false := by simp; omega
    have g3 : decide ((32 : Int) ≤ r) = true := by simp; omega
    have g4 : decide (r ≤ (1114111 : Int)) = true := by simp; omega
    have g5 : (r != 127) = true := by simp; omega
    rw [hr]
    clear hr h
    go_enter Tryd.func57, Tryd.ntmps57
    go_wp2
    go_ret
    exact ⟨rfl, rfl⟩
  · have hr : GM.right r = false := by rw [← Bool.not_eq_true, GM.right_iff]; omega
    have g1 : decide ((55296 : Int) ≤ r) = true := by simp; omega
    have g2 : decide (r ≤ (57343 : Int)) = false := by simp; omega
    have g3 : decide ((32 : Int) ≤ r) = true := by simp; omega
    have g4 : decide (r ≤ (1114111 : Int)) = false := by simp; omega
    rw [hr]
    clear hr h
    go_enter Tryd.func57, Tryd.ntmps57
    go_wp2
    go_ret
    exact ⟨rfl, rfl⟩

set_option maxRecDepth 100000 in
theorem among_ok (w : World) (r a b : Int) : Calls Tryd.prog 59 #[.int .i32 r, .int .i32 a, .int .i32 b] w fun e w' => e = .returned (.bool (GM.amo r a b)) ∧ w' = w := by
  unfold GM.amo
  by_cases h : a ≤ r
  · have g : decide (a ≤ r) = true := by simp; omega
    go_enter Tryd.func59, Tryd.ntmps59
    go_wp2
    go_ret
    exact ⟨by simp only [g, Bool.true_and]; rfl, rfl⟩
  · have g : decide (a ≤ r) = false := by simp; omega
    go_enter Tryd.func59, Tryd.ntmps59
    go_wp2
    go_ret
    exact ⟨rfl, rfl⟩

set_option maxRecDepth 100000 in
theorem has_ok (w : World) (r a b : Int) : Calls Tryd.prog 71 #[.agg #[.int .i32 a, .int .i32 b], .int .i32 r] w fun e w' => e = .returned (.bool (GM.amo r a b)) ∧ Below w.heap.size w w' := by
  unfold GM.amo
  by_cases h : a ≤ r
  · have g : decide (a ≤ r) = true := by simp; omega
    go_enter Tryd.func71, Tryd.ntmps71
    go_wp2
    go_ret
    exact ⟨by simp only [g, Bool.true_and]; rfl, (Below.refl _ _).alloc (Nat.le_refl _) _⟩
  · have g : decide (a ≤ r) = false := by simp; omega
    go_enter Tryd.func71, Tryd.ntmps71
    go_wp2
    go_ret
    exact ⟨rfl, (Below.refl _ _).alloc (Nat.le_refl _) _⟩
end Go.Proofs.YtbpkklcegiiheaaDoor
