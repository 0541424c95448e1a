/-
  Layer 7 (glyph): the laws' anchor; and from the condition on the two listed tables to what the walks ask, with a start that meets it.
-/
import Derived.Test.YtgfcdekbbhndnaaDoorGWide
import Derived.Test.YtgfcdekbbhndnaaDoorGDraw
namespace Go.Proofs.YtgfcdekbbhndnaaDoor
open Go.RowKit Go.Lib

set_option maxRecDepth 100000 in
theorem fit_ok (w : World) (hT : Tabs w) : Calls Tryd.prog 8 #[] w fun e w' => e = .returned (.bool true) ∧ Below w.heap.size w w' := by
  have HT := Lib.hid hT
  have e1 : GM.drawn 113 = 9472 := by decide +kernel
  have e2 : GM.wide 20013 = true := by decide +kernel
  have e3 : GM.right 97 = true := by decide +kernel
  clear hT
  go_enter Tryd.func8, Tryd.ntmps8
  go_wp2_with fail
  refine (drawn_ok _ HT.out 113 (by omega)).mono ?_
  rintro e w1 ⟨rfl, hw⟩
  rw [hw]
  clear hw w1
  go_wp2_with fail
  refine (wide_ok _ HT.out 20013).mono ?_
  rintro e w1 ⟨rfl, hb1⟩
  have HB1 := Lib.hid hb1
  clear hb1
  go_wp2_with fail
  refine (right_ok _ 97).mono ?_
  rintro e w2 ⟨rfl, hw⟩
  rw [hw]
  clear hw w2
  go_wp2_with fail
  go_ret
  exact ⟨rfl, HB1.out⟩
end Go.Proofs.YtgfcdekbbhndnaaDoor
