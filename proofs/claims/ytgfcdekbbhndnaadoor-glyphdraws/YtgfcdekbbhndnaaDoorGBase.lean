/-
  Layer 7 (glyph): what the two tables hold, and that it lasts over whatever is made anew; Right, has, among.
-/
import Derived.Test.YtgfcdekbbhndnaaDoorRows
import Derived.Test.YtgfcdekbbhndnaaDoorGMath
import Derived.Test.YtgfcdekbbhndnaaDoorVMem
import Derived.Lib.Hide
import Derived.Laws.Unary
import Derived.BigQuiet
import Derived.Deep.QuietTactic
import Derived.Deep.MidRow
namespace Go.Proofs.YtgfcdekbbhndnaaDoor
open Go.RowKit Go.Lib

/-- A list of runes as cells. -/
def runesV (l : List Int) : List Value := l.map (Value.int .i32)
/-- What the package's two tables hold. -/
structure Tabs (w : World) : Prop where
  wide : w.rangeAt 0 0 (runesV GM.wideT)
  signs : w.rangeAt 1 0 (runesV GM.signT)
  room : 1 < w.heap.size
theorem Tabs.on {w w' : World} {B : Nat} (h : Tabs w) (b : Below B w w') (hB : 2 ≤ B) : Tabs w' := by
  obtain ⟨h1, h2, h3⟩ := h
  refine ⟨fun j v hv => ?_, fun j v hv => ?_, Nat.lt_of_lt_of_le h3 b.size⟩
  · rw [b.cell (by show 0 < _; omega)]; exact h1 j v hv
  · rw [b.cell (by show 1 < _; omega)]; exact h2 j v hv
theorem below_next {w w1 w2 : World} (h : Below w.heap.size w w1) (k : Below w1.heap.size w1 w2) : Below w.heap.size w w2 := h.trans (k.mono h.size)

set_option maxRecDepth 100000 in
set_option maxHeartbeats 400000 in
theorem right_ok (w : World) (r : Int) : Calls Tryd.prog 9 #[.int .i32 r] w fun e w' => e = .returned (.bool (GM.right r)) ∧ w' = w := by
  rcases (by omega : r < 32 ∨ (32 ≤ r ∧ r < 127) ∨ r = 127 ∨ (127 < r ∧ r < 55296) ∨ (55296 ≤ r ∧ r ≤ 57343) ∨ (57343 < r ∧ r ≤ 1114111) ∨ 1114111 < r) with h | h | h | h | h | h | h
  · have hr : GM.right r = false := by rw [← Bool.not_eq_true, GM.right_iff]; omega
    have g1 : decide ((55296 : Int) ≤ r) = false := by simp; omega
    have g3 : decide ((32 : Int) ≤ r) = false := by simp; omega
    rw [hr]
    clear hr h
    go_enter Tryd.func9, Tryd.ntmps9
    go_wp2
    go_ret
    exact ⟨rfl, rfl⟩
  · have hr : GM.right r = true := by rw [GM.right_iff]; omega
    have g1 : decide ((55296 : Int) ≤ r) = false := by simp; omega
    have g3 : decide ((32 : Int) ≤ r) = true := by simp; omega
    have g4 : decide (r ≤ (1114111 : Int)) = true := by simp; omega
    have g5 : (r != 127) = true := by simp; omega
    rw [hr]
    clear hr h
    go_enter Tryd.func9, Tryd.ntmps9
    go_wp2
    go_ret
    exact ⟨rfl, rfl⟩
  · subst h
    go_enter Tryd.func9, Tryd.ntmps9
    go_wp2
    go_ret
    exact ⟨rfl, rfl⟩
  · have hr : GM.right r = true := by rw [GM.right_iff]; omega
    have g1 : decide ((55296 : Int) ≤ r) = false := by simp; omega
    have g3 : decide ((32 : Int) ≤ r) = true := by simp; omega
    have g4 : decide (r ≤ (1114111 : Int)) = true := by simp; omega
    have g5 : (r != 127) = true := by simp; omega
    rw [hr]
    clear hr h
    go_enter Tryd.func9, Tryd.ntmps9
    go_wp2
    go_ret
    exact ⟨rfl, rfl⟩
  · have hr : GM.right r = false := by rw [← Bool.not_eq_true, GM.right_iff]; omega
    have g1 : decide ((55296 : Int) ≤ r) = true := by simp; omega
    have g2 : decide (r ≤ (57343 : Int)) = true := by simp; omega
    have g3 : decide ((32 : Int) ≤ r) = true := by simp; omega
    have g4 : decide (r ≤ (1114111 : Int)) = true := by simp; omega
    have g5 : (r != 127) = true := by simp; omega
    rw [hr]
    clear hr h
    go_enter Tryd.func9, Tryd.ntmps9
    go_wp2
    go_ret
    exact ⟨rfl, rfl⟩
  · have hr : GM.right r = true := by rw [GM.right_iff]; omega
    have g1 : decide ((55296 : Int) ≤ r) = true := by simp; omega
    have g2 : decide (r ≤ (57343 : Int)) = false := by simp; omega
    have g3 : decide ((32 : Int) ≤ r) = true := by simp; omega
    have g4 : decide (r ≤ (1114111 : Int)) = true := by simp; omega
    have g5 : (r != 127) = true := by simp; omega
    rw [hr]
    clear hr h
    go_enter Tryd.func9, Tryd.ntmps9
    go_wp2
    go_ret
    exact ⟨rfl, rfl⟩
  · have hr : GM.right r = false := by rw [← Bool.not_eq_true, GM.right_iff]; omega
    have g1 : decide ((55296 : Int) ≤ r) = true := by simp; omega
    have g2 : decide (r ≤ (57343 : Int)) = false := by simp; omega
    have g3 : decide ((32 : Int) ≤ r) = true := by simp; omega
    have g4 : decide (r ≤ (1114111 : Int)) = false := by simp; omega
    rw [hr]
    clear hr h
    go_enter Tryd.func9, Tryd.ntmps9
    go_wp2
    go_ret
    exact ⟨rfl, rfl⟩

set_option maxRecDepth 100000 in
theorem lamong_ok (w : World) (r a b : Int) : Calls Tryd.prog 16 #[.int .i32 r, .int .i32 a, .int .i32 b] w fun e w' => e = .returned (.bool (GM.amo r a b)) ∧ w' = w := by
  unfold GM.amo
  by_cases h : a ≤ r
  · have g : decide (a ≤ r) = true := by simp; omega
    go_enter Tryd.func16, Tryd.ntmps16
    go_wp2
    go_ret
    exact ⟨by simp only [g, Bool.true_and]; rfl, rfl⟩
  · have g : decide (a ≤ r) = false := by simp; omega
    go_enter Tryd.func16, Tryd.ntmps16
    go_wp2
    go_ret
    exact ⟨rfl, rfl⟩

set_option maxRecDepth 100000 in
theorem among_ok (w : World) (r a b : Int) : Calls Tryd.prog 17 #[.int .i32 r, .int .i32 a, .int .i32 b] w fun e w' => e = .returned (.bool (GM.amo r a b)) ∧ w' = w := by
  unfold GM.amo
  by_cases h : a ≤ r
  · have g : decide (a ≤ r) = true := by simp; omega
    go_enter Tryd.func17, Tryd.ntmps17
    go_wp2
    go_ret
    exact ⟨by simp only [g, Bool.true_and]; rfl, rfl⟩
  · have g : decide (a ≤ r) = false := by simp; omega
    go_enter Tryd.func17, Tryd.ntmps17
    go_wp2
    go_ret
    exact ⟨rfl, rfl⟩

set_option maxRecDepth 100000 in
theorem has_ok (w : World) (r a b : Int) : Calls Tryd.prog 18 #[.agg #[.int .i32 a, .int .i32 b], .int .i32 r] w fun e w' => e = .returned (.bool (GM.amo r a b)) ∧ Below w.heap.size w w' := by
  unfold GM.amo
  by_cases h : a ≤ r
  · have g : decide (a ≤ r) = true := by simp; omega
    go_enter Tryd.func18, Tryd.ntmps18
    go_wp2
    go_ret
    exact ⟨by simp only [g, Bool.true_and]; rfl, (Below.refl _ _).alloc (Nat.le_refl _) _⟩
  · have g : decide (a ≤ r) = false := by simp; omega
    go_enter Tryd.func18, Tryd.ntmps18
    go_wp2
    go_ret
    exact ⟨rfl, (Below.refl _ _).alloc (Nat.le_refl _) _⟩
end Go.Proofs.YtgfcdekbbhndnaaDoor
