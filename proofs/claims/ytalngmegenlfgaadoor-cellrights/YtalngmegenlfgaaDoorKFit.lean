/-
  Layer 8's laws: the anchor 'fit' answers true.
-/
import Derived.Test.YtalngmegenlfgaaDoorKRMend
import Derived.Test.YtalngmegenlfgaaDoorKCh2
namespace Go.Proofs.YtalngmegenlfgaaDoor
open Go.RowKit Go.Lib KM

theorem El.row_lit {α : Type} {E : El α} (w : World) (L : List α) (arr : Array Value) (t : TypeId) (h : arr.toList = E.cells L) : E.Row (w.alloc (.cells arr t)) (w.heap.size + 1) (some ⟨w.heap.size, 0, none⟩) L := fun _ => by
  refine ⟨w.heap.size, 0, rfl, by omega, fun j hj => ?_⟩
  rw [← h]
  simp

set_option maxRecDepth 100000 in
set_option maxHeartbeats 1000000 in
theorem fit_ok (w : World) (hT : Tabs w) : Calls Tryd.prog 10 #[] w fun e w' => e = .returned (.bool true) ∧ Below w.heap.size w w' := by
  have hz := fun w => build_zero w
  have hbr := fun w => build_rune w 97
  have HT := Lib.hid hT
  clear hT
  have HCH := Lib.hid (change_ok (w.alloc (.cells #[.int .i64 1, .int .i64 31] 3)) zero [1, 31] (some ⟨w.heap.size, 0, none⟩) 2 (w.heap.size + 1) (El.row_lit w [1, 31] #[.int .i64 1, .int .i64 31] _ rfl) (by simp) (by simp) (by simp))
  have e : chgA zero [1, 31] = ⟨true, false, false, 2, 0⟩ := by decide
  rw [e] at HCH
  clear e
  simp only [styV, zero] at HCH
  go_enter Tryd.func10, Tryd.ntmps10
  go_wp2_with fail
  refine HCH.out.mono ?_
  rintro e w1 ⟨rfl, hb1⟩
  have hb : Below w.heap.size w w1 := below_next ((Below.refl _ _).alloc (Nat.le_refl _) _) hb1
  have HB1 := Lib.hid hb
  have hz1 := hb.size
  clear hb hb1
  go_upto_region 2 with fail
  obtain ⟨w2, hw2⟩ : ∃ w2, w2 = w1.alloc (.cells #[.bool true, .bool false, .bool false, .int .i64 2, .int .i64 0] 23) := ⟨_, rfl⟩
  rw [← hw2]
  have hb2 : Below w.heap.size w w2 := by rw [hw2]; exact HB1.out.alloc hz1 _
  have hs2 : StyAt w2 w1.heap.size ⟨true, false, false, 2, 0⟩ := by rw [hw2]; exact heap_alloc_new w1 _
  obtain ⟨d0, d1, d2, d3, d4, _, _, _, _, _⟩ := hs2.cells
  simp only at d0 d1 d2 d3 d4
  have HB2 := Lib.hid hb2
  have hz2 := hb2.size
  have HBL := Lib.hid (blank_ok w2 ⟨true, false, false, 2, 0⟩)
  simp only [styV, celV] at HBL
  clear hw2 hb2 hs2
  go_wp2_with fail
  refine HBL.out.mono ?_
  rintro e w3 ⟨rfl, hb3⟩
  have HB3 := Lib.hid (below_next HB2.out hb3)
  have HCR := Lib.hid (cright_ok w3 ⟨32, ⟨false, false, false, 0, 0⟩⟩)
  have e : cright ⟨32, ⟨false, false, false, 0, 0⟩⟩ = true := by decide
  rw [e] at HCR
  simp only [celV] at HCR
  clear hb3 e
  go_wp2_with fail
  refine HCR.out.mono ?_
  rintro e w4 ⟨rfl, hb4⟩
  have hb4' := below_next HB3.out hb4
  have HB4 := Lib.hid hb4'
  have hz4 := hb4'.size
  have hb5 : Below w.heap.size w (w4.alloc (.cells #[.int .i32 97, .bool false, .bool false, .bool false, .int .i64 0, .int .i64 0] 33)) := hb4'.alloc hz4 _
  have HM := Lib.hid (mend_ok (w4.alloc (.cells #[.int .i32 97, .bool false, .bool false, .bool false, .int .i64 0, .int .i64 0] 33)) (HT.out.on hb5 HT.out.room) [⟨97, zero⟩] (some ⟨w4.heap.size, 0, none⟩) 1 (w4.heap.size + 1) (El.row_lit (E := celE) w4 [⟨97, zero⟩] _ _ rfl) (by simp) (by simp) (by simp))
  have HB5 := Lib.hid hb5
  clear hb4 hb4' hb5
  go_wp2_with fail
  refine HM.out.mono ?_
  rintro e w5 ⟨v, rfl, ho, hb6⟩
  have HB6 := Lib.hid (below_next HB5.out hb6)
  obtain ⟨A, c, hv, _, _, _, _⟩ := ho.row
  rw [mend_len] at hv
  subst hv
  clear ho hb6
  simp only [List.length_singleton]
  go_wp2_with fail
  go_ret
  exact ⟨rfl, HB6.out⟩
end Go.Proofs.YtalngmegenlfgaaDoor
