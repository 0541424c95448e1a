/-
  CellStyles, where one of the two styles is not right.
-/
import Derived.Test.YtalngmegenlfgaaDoorKFit
import Derived.Test.YtalngmegenlfgaaDoorKOpen
import Derived.Deep.RegionHeld3
import Derived.OpenShut
import Derived.HandedFrom
import Derived.ChangeSame
import Derived.ChangeVars
import Derived.JoinedOf
import Derived.JoinedAt
namespace Go.Proofs.YtalngmegenlfgaaDoor.cellStyles
open Go.ChangeShapes Go.WideShapes Go.ChangeAt Go.RowKit Go.Lib KM

set_option maxRecDepth 100000 in
set_option maxHeartbeats 4000000 in
theorem core00 (a b : Sty) (n : Int) (w : World) (hp : sright a = false) (hq : sright b = false) (hT : Tabs w) :
    Calls Tryd.prog 3 #[styV a, styV b, .int .i64 n] w fun e w' => e = .returned (.bool true) ∧ Below w.heap.size w w' := by
  have HPA := Lib.hid (fun w => style_ok w a)
  have HRA := Lib.hid (fun w => rstyle_ok w a)
  have HPB := Lib.hid (fun w => style_ok w b)
  have HRB := Lib.hid (fun w => rstyle_ok w b)
  obtain ⟨b1, u1, t1, f1, k1⟩ := a
  obtain ⟨b2, u2, t2, f2, k2⟩ := b
  simp only [styV] at *
  obtain ⟨w1, hw1⟩ : ∃ w1, w1 = (w.alloc (.cells #[.bool b1, .bool u1, .bool t1, .int .i64 f1, .int .i64 k1] 23)).alloc (.cells #[.bool b2, .bool u2, .bool t2, .int .i64 f2, .int .i64 k2] 23) := ⟨_, rfl⟩
  have hb1 : Below w.heap.size w w1 := by rw [hw1]; exact ((Below.refl _ _).alloc (Nat.le_refl _) _).alloc (by simp) _
  have h1 : StyAt w1 w.heap.size ⟨b1, u1, t1, f1, k1⟩ := by
    unfold StyAt
    rw [hw1, heap_alloc_old _ _ (by simp)]; exact heap_alloc_new w _
  have h2 : StyAt w1 (w.heap.size + 1) ⟨b2, u2, t2, f2, k2⟩ := by
    unfold StyAt
    rw [hw1]; exact heap_alloc2_new w _ _
  have W1 := Lib.hid hw1
  have HB1 := Lib.hid hb1
  have HT1 := Lib.hid (hT.on hb1 hT.room)
  have HA1 := Lib.hid h1
  have HC1 := Lib.hid h2
  clear hw1 hb1 h1 h2 hT
  rw [hp] at HPA HRA
  rw [hq] at HPB HRB
  clear hp hq
  go_enter Tryd.func3, Tryd.ntmps3
  go_wp2_with fail
  rw [← W1.out]
  refine (fit_ok w1 HT1.out).mono ?_
  rintro e w2 ⟨rfl, b2⟩
  have HB2 := Lib.hid (below_next HB1.out b2)
  have HA2 := Lib.hid (HA1.out.below b2 HA1.out.lt)
  have HC2 := Lib.hid (HC1.out.below b2 HC1.out.lt)
  clear b2
  obtain ⟨x0, x1, x2, x3, x4, _, _, _, _, _⟩ := HA2.out.cells
  simp only at x0 x1 x2 x3 x4
  go_wp2_with fail
  refine (HRA.out w2).mono ?_
  rintro e w3 ⟨rfl, b3⟩
  have HB3 := Lib.hid (below_next HB2.out b3)
  have HA3 := Lib.hid (HA2.out.below b3 HA2.out.lt)
  have HC3 := Lib.hid (HC2.out.below b3 HC2.out.lt)
  clear b3 x0 x1 x2 x3 x4
  go_wp2_with fail
  refine wp_region_noPanic ?_
  refine wp_region_held_drew (S := fun v => Below w3.heap.size w3 v) (by kernel_rfl) (Below.refl _ _).drew (fun hHeld => ?_)
  have HSd := Lib.hid hHeld
  refine wpAnyH_take (i := 0) (v := ?va0) rfl (by kernel_rfl) (by kernel_rfl) (by kernel_rfl) (fun _ _ _ h => h) (Or.inl ⟨by rfl, ?ha0⟩) (by assumption) ?_
  case ha0 => intro w hSw; (try dsimp only at hSw); obtain ⟨x0, x1, x2, x3, x4, _, _, _, _, _⟩ := (HA3.out.below hSw HA3.out.lt).cells; obtain ⟨y0, y1, y2, y3, y4, _, _, _, _, _⟩ := (HC3.out.below hSw HC3.out.lt).cells; simp only at x0 x1 x2 x3 x4 y0 y1 y2 y3 y4; go_simp; try with_reducible rfl
  simp only [List.getElem_toArray, List.getElem_cons_zero, Act.put, List.setIfInBounds_toArray, List.set_cons_zero, List.set_cons_succ]
  refine wpAnyH_take (i := 2) (v := ?va2) rfl (by kernel_rfl) (by kernel_rfl) (by kernel_rfl) (fun _ _ _ h => h) (Or.inl ⟨by rfl, ?ha2⟩) (by assumption) ?_
  case ha2 => intro w hSw; (try dsimp only at hSw); obtain ⟨x0, x1, x2, x3, x4, _, _, _, _, _⟩ := (HA3.out.below hSw HA3.out.lt).cells; obtain ⟨y0, y1, y2, y3, y4, _, _, _, _, _⟩ := (HC3.out.below hSw HC3.out.lt).cells; simp only at x0 x1 x2 x3 x4 y0 y1 y2 y3 y4; go_simp; try with_reducible rfl
  simp only [List.getElem_toArray, List.getElem_cons_succ, List.getElem_cons_zero, Act.put, List.setIfInBounds_toArray, List.set_cons_zero, List.set_cons_succ]
  refine wpAnyH_ready (rs := [1]) (by kernel_rfl) (by simp) ?_
  refine AllReadyH.cons rfl (fun K hK => ?_) AllReadyH.nil
  go_simp
  refine (HPA.out _).mono ?_
  rintro e v1 ⟨rfl, hbx⟩
  have HSv1 := Lib.hid (below_next HSd.out hbx)
  clear hbx
  dsimp only
  refine hK.out _ _ ?_ (fun hHeld => ?_)
  · exact HSv1.out
  clear hK K
  refine wpAnyH_ready (rs := [3]) (by kernel_rfl) (by simp) ?_
  refine AllReadyH.cons rfl (fun K hK => ?_) AllReadyH.nil
  go_simp
  refine (HRA.out _).mono ?_
  rintro e v2 ⟨rfl, hbx⟩
  have HSv2 := Lib.hid (below_next HSv1.out hbx)
  clear hbx
  dsimp only
  refine hK.out _ _ ?_ (fun hHeld => ?_)
  · exact HSv2.out
  clear hK K
  refine wpAnyH_take (i := 4) (v := ?vb4) rfl (by kernel_rfl) (by kernel_rfl) (by kernel_rfl) (fun _ _ _ h => h) (Or.inl ⟨by rfl, ?hb4⟩) (by assumption) ?_
  case hb4 => intro w hSw; (try dsimp only at hSw); obtain ⟨x0, x1, x2, x3, x4, _, _, _, _, _⟩ := (HA3.out.below hSw HA3.out.lt).cells; obtain ⟨y0, y1, y2, y3, y4, _, _, _, _, _⟩ := (HC3.out.below hSw HC3.out.lt).cells; simp only at x0 x1 x2 x3 x4 y0 y1 y2 y3 y4; go_simp; try with_reducible rfl
  simp only [List.getElem_toArray, List.getElem_cons_succ, List.getElem_cons_zero, Act.put, List.setIfInBounds_toArray, List.set_cons_zero, List.set_cons_succ]
  refine wpAnyH_take (i := 5) (v := ?vb5) rfl (by kernel_rfl) (by kernel_rfl) (by kernel_rfl) (fun _ _ _ h => h) (Or.inl ⟨by rfl, ?hb5⟩) (by assumption) ?_
  case hb5 => intro w hSw; (try dsimp only at hSw); obtain ⟨x0, x1, x2, x3, x4, _, _, _, _, _⟩ := (HA3.out.below hSw HA3.out.lt).cells; obtain ⟨y0, y1, y2, y3, y4, _, _, _, _, _⟩ := (HC3.out.below hSw HC3.out.lt).cells; simp only at x0 x1 x2 x3 x4 y0 y1 y2 y3 y4; go_simp; try with_reducible rfl
  simp only [List.getElem_toArray, List.getElem_cons_succ, List.getElem_cons_zero, Act.put, List.setIfInBounds_toArray, List.set_cons_zero, List.set_cons_succ]
  refine wpAnyH_take (i := 6) (v := ?vb6) rfl (by kernel_rfl) (by kernel_rfl) (by kernel_rfl) (fun _ _ _ h => h) (Or.inl ⟨by rfl, ?hb6⟩) (by assumption) ?_
  case hb6 => intro w hSw; (try dsimp only at hSw); obtain ⟨x0, x1, x2, x3, x4, _, _, _, _, _⟩ := (HA3.out.below hSw HA3.out.lt).cells; obtain ⟨y0, y1, y2, y3, y4, _, _, _, _, _⟩ := (HC3.out.below hSw HC3.out.lt).cells; simp only at x0 x1 x2 x3 x4 y0 y1 y2 y3 y4; go_simp; try with_reducible rfl
  simp only [List.getElem_toArray, List.getElem_cons_succ, List.getElem_cons_zero, Act.put, List.setIfInBounds_toArray, List.set_cons_zero, List.set_cons_succ]
  refine wpAnyH_take (i := 8) (v := ?vb8) rfl (by kernel_rfl) (by kernel_rfl) (by kernel_rfl) (fun _ _ _ h => h) (Or.inl ⟨by rfl, ?hb8⟩) (by assumption) ?_
  case hb8 => intro w hSw; (try dsimp only at hSw); obtain ⟨x0, x1, x2, x3, x4, _, _, _, _, _⟩ := (HA3.out.below hSw HA3.out.lt).cells; obtain ⟨y0, y1, y2, y3, y4, _, _, _, _, _⟩ := (HC3.out.below hSw HC3.out.lt).cells; simp only at x0 x1 x2 x3 x4 y0 y1 y2 y3 y4; go_simp; try with_reducible rfl
  simp only [List.getElem_toArray, List.getElem_cons_succ, List.getElem_cons_zero, Act.put, List.setIfInBounds_toArray, List.set_cons_zero, List.set_cons_succ]
  refine wpAnyH_ready (rs := [7]) (by kernel_rfl) (by simp) ?_
  refine AllReadyH.cons rfl (fun K hK => ?_) AllReadyH.nil
  go_simp
  refine (HPB.out _).mono ?_
  rintro e v3 ⟨rfl, hbx⟩
  have HSv3 := Lib.hid (below_next HSv2.out hbx)
  clear hbx
  dsimp only
  refine hK.out _ _ ?_ (fun hHeld => ?_)
  · exact HSv3.out
  clear hK K
  refine wpAnyH_ready (rs := [9]) (by kernel_rfl) (by simp) ?_
  refine AllReadyH.cons rfl (fun K hK => ?_) AllReadyH.nil
  go_simp
  refine (HRB.out _).mono ?_
  rintro e v4 ⟨rfl, hbx⟩
  have HSv4 := Lib.hid (below_next HSv3.out hbx)
  clear hbx
  dsimp only
  refine hK.out _ _ ?_ (fun hHeld => ?_)
  · exact HSv4.out
  clear hK K
  refine wpAnyH_take (i := 10) (v := ?vc10) rfl (by kernel_rfl) (by kernel_rfl) (by kernel_rfl) (fun _ _ _ h => h) (Or.inl ⟨by rfl, ?hc10⟩) (by assumption) ?_
  case hc10 => intro w hSw; (try dsimp only at hSw); go_simp; try with_reducible rfl
  simp only [List.getElem_toArray, List.getElem_cons_succ, List.getElem_cons_zero, Act.put, List.setIfInBounds_toArray, List.set_cons_zero, List.set_cons_succ]
  refine wpAnyH_take (i := 11) (v := ?vc11) rfl (by kernel_rfl) (by kernel_rfl) (by kernel_rfl) (fun _ _ _ h => h) (Or.inl ⟨by rfl, ?hc11⟩) (by assumption) ?_
  case hc11 => intro w hSw; (try dsimp only at hSw); go_simp; try with_reducible rfl
  simp only [List.getElem_toArray, List.getElem_cons_succ, List.getElem_cons_zero, Act.put, List.setIfInBounds_toArray, List.set_cons_zero, List.set_cons_succ]
  refine wpAnyH_take (i := 12) (v := ?vc12) rfl (by kernel_rfl) (by kernel_rfl) (by kernel_rfl) (fun _ _ _ h => h) (Or.inl ⟨by rfl, ?hc12⟩) (by assumption) ?_
  case hc12 => intro w hSw; (try dsimp only at hSw); go_simp; try with_reducible rfl
  simp only [List.getElem_toArray, List.getElem_cons_succ, List.getElem_cons_zero, Act.put, List.setIfInBounds_toArray, List.set_cons_zero, List.set_cons_succ]
  refine wpAnyH_done (by kernel_rfl) ?_ _
  refine NoPanic.normal ?_
  go_wp2_with fail
  go_ret
  exact ⟨rfl, HB3.out.trans (HSv4.out.mono HB3.out.size)⟩
set_option maxRecDepth 100000 in
set_option maxHeartbeats 4000000 in
theorem core01 (a b : Sty) (n : Int) (w : World) (hp : sright a = false) (hq : sright b = true) (hT : Tabs w) :
    Calls Tryd.prog 3 #[styV a, styV b, .int .i64 n] w fun e w' => e = .returned (.bool true) ∧ Below w.heap.size w w' := by
  have HPA := Lib.hid (fun w => style_ok w a)
  have HRA := Lib.hid (fun w => rstyle_ok w a)
  have HPB := Lib.hid (fun w => style_ok w b)
  have HRB := Lib.hid (fun w => rstyle_ok w b)
  obtain ⟨b1, u1, t1, f1, k1⟩ := a
  obtain ⟨b2, u2, t2, f2, k2⟩ := b
  simp only [styV] at *
  obtain ⟨w1, hw1⟩ : ∃ w1, w1 = (w.alloc (.cells #[.bool b1, .bool u1, .bool t1, .int .i64 f1, .int .i64 k1] 23)).alloc (.cells #[.bool b2, .bool u2, .bool t2, .int .i64 f2, .int .i64 k2] 23) := ⟨_, rfl⟩
  have hb1 : Below w.heap.size w w1 := by rw [hw1]; exact ((Below.refl _ _).alloc (Nat.le_refl _) _).alloc (by simp) _
  have h1 : StyAt w1 w.heap.size ⟨b1, u1, t1, f1, k1⟩ := by
    unfold StyAt
    rw [hw1, heap_alloc_old _ _ (by simp)]; exact heap_alloc_new w _
  have h2 : StyAt w1 (w.heap.size + 1) ⟨b2, u2, t2, f2, k2⟩ := by
    unfold StyAt
    rw [hw1]; exact heap_alloc2_new w _ _
  have W1 := Lib.hid hw1
  have HB1 := Lib.hid hb1
  have HT1 := Lib.hid (hT.on hb1 hT.room)
  have HA1 := Lib.hid h1
  have HC1 := Lib.hid h2
  clear hw1 hb1 h1 h2 hT
  rw [hp] at HPA HRA
  rw [hq] at HPB HRB
  clear hp hq
  go_enter Tryd.func3, Tryd.ntmps3
  go_wp2_with fail
  rw [← W1.out]
  refine (fit_ok w1 HT1.out).mono ?_
  rintro e w2 ⟨rfl, b2⟩
  have HB2 := Lib.hid (below_next HB1.out b2)
  have HA2 := Lib.hid (HA1.out.below b2 HA1.out.lt)
  have HC2 := Lib.hid (HC1.out.below b2 HC1.out.lt)
  clear b2
  obtain ⟨x0, x1, x2, x3, x4, _, _, _, _, _⟩ := HA2.out.cells
  simp only at x0 x1 x2 x3 x4
  go_wp2_with fail
  refine (HRA.out w2).mono ?_
  rintro e w3 ⟨rfl, b3⟩
  have HB3 := Lib.hid (below_next HB2.out b3)
  have HA3 := Lib.hid (HA2.out.below b3 HA2.out.lt)
  have HC3 := Lib.hid (HC2.out.below b3 HC2.out.lt)
  clear b3 x0 x1 x2 x3 x4
  go_wp2_with fail
  refine wp_region_noPanic ?_
  refine wp_region_held_drew (S := fun v => Below w3.heap.size w3 v) (by kernel_rfl) (Below.refl _ _).drew (fun hHeld => ?_)
  have HSd := Lib.hid hHeld
  refine wpAnyH_take (i := 0) (v := ?va0) rfl (by kernel_rfl) (by kernel_rfl) (by kernel_rfl) (fun _ _ _ h => h) (Or.inl ⟨by rfl, ?ha0⟩) (by assumption) ?_
  case ha0 => intro w hSw; (try dsimp only at hSw); obtain ⟨x0, x1, x2, x3, x4, _, _, _, _, _⟩ := (HA3.out.below hSw HA3.out.lt).cells; obtain ⟨y0, y1, y2, y3, y4, _, _, _, _, _⟩ := (HC3.out.below hSw HC3.out.lt).cells; simp only at x0 x1 x2 x3 x4 y0 y1 y2 y3 y4; go_simp; try with_reducible rfl
  simp only [List.getElem_toArray, List.getElem_cons_zero, Act.put, List.setIfInBounds_toArray, List.set_cons_zero, List.set_cons_succ]
  refine wpAnyH_take (i := 2) (v := ?va2) rfl (by kernel_rfl) (by kernel_rfl) (by kernel_rfl) (fun _ _ _ h => h) (Or.inl ⟨by rfl, ?ha2⟩) (by assumption) ?_
  case ha2 => intro w hSw; (try dsimp only at hSw); obtain ⟨x0, x1, x2, x3, x4, _, _, _, _, _⟩ := (HA3.out.below hSw HA3.out.lt).cells; obtain ⟨y0, y1, y2, y3, y4, _, _, _, _, _⟩ := (HC3.out.below hSw HC3.out.lt).cells; simp only at x0 x1 x2 x3 x4 y0 y1 y2 y3 y4; go_simp; try with_reducible rfl
  simp only [List.getElem_toArray, List.getElem_cons_succ, List.getElem_cons_zero, Act.put, List.setIfInBounds_toArray, List.set_cons_zero, List.set_cons_succ]
  refine wpAnyH_ready (rs := [1]) (by kernel_rfl) (by simp) ?_
  refine AllReadyH.cons rfl (fun K hK => ?_) AllReadyH.nil
  go_simp
  refine (HPA.out _).mono ?_
  rintro e v1 ⟨rfl, hbx⟩
  have HSv1 := Lib.hid (below_next HSd.out hbx)
  clear hbx
  dsimp only
  refine hK.out _ _ ?_ (fun hHeld => ?_)
  · exact HSv1.out
  clear hK K
  refine wpAnyH_ready (rs := [3]) (by kernel_rfl) (by simp) ?_
  refine AllReadyH.cons rfl (fun K hK => ?_) AllReadyH.nil
  go_simp
  refine (HRA.out _).mono ?_
  rintro e v2 ⟨rfl, hbx⟩
  have HSv2 := Lib.hid (below_next HSv1.out hbx)
  clear hbx
  dsimp only
  refine hK.out _ _ ?_ (fun hHeld => ?_)
  · exact HSv2.out
  clear hK K
  refine wpAnyH_take (i := 4) (v := ?vb4) rfl (by kernel_rfl) (by kernel_rfl) (by kernel_rfl) (fun _ _ _ h => h) (Or.inl ⟨by rfl, ?hb4⟩) (by assumption) ?_
  case hb4 => intro w hSw; (try dsimp only at hSw); obtain ⟨x0, x1, x2, x3, x4, _, _, _, _, _⟩ := (HA3.out.below hSw HA3.out.lt).cells; obtain ⟨y0, y1, y2, y3, y4, _, _, _, _, _⟩ := (HC3.out.below hSw HC3.out.lt).cells; simp only at x0 x1 x2 x3 x4 y0 y1 y2 y3 y4; go_simp; try with_reducible rfl
  simp only [List.getElem_toArray, List.getElem_cons_succ, List.getElem_cons_zero, Act.put, List.setIfInBounds_toArray, List.set_cons_zero, List.set_cons_succ]
  refine wpAnyH_take (i := 5) (v := ?vb5) rfl (by kernel_rfl) (by kernel_rfl) (by kernel_rfl) (fun _ _ _ h => h) (Or.inl ⟨by rfl, ?hb5⟩) (by assumption) ?_
  case hb5 => intro w hSw; (try dsimp only at hSw); obtain ⟨x0, x1, x2, x3, x4, _, _, _, _, _⟩ := (HA3.out.below hSw HA3.out.lt).cells; obtain ⟨y0, y1, y2, y3, y4, _, _, _, _, _⟩ := (HC3.out.below hSw HC3.out.lt).cells; simp only at x0 x1 x2 x3 x4 y0 y1 y2 y3 y4; go_simp; try with_reducible rfl
  simp only [List.getElem_toArray, List.getElem_cons_succ, List.getElem_cons_zero, Act.put, List.setIfInBounds_toArray, List.set_cons_zero, List.set_cons_succ]
  refine wpAnyH_take (i := 6) (v := ?vb6) rfl (by kernel_rfl) (by kernel_rfl) (by kernel_rfl) (fun _ _ _ h => h) (Or.inl ⟨by rfl, ?hb6⟩) (by assumption) ?_
  case hb6 => intro w hSw; (try dsimp only at hSw); obtain ⟨x0, x1, x2, x3, x4, _, _, _, _, _⟩ := (HA3.out.below hSw HA3.out.lt).cells; obtain ⟨y0, y1, y2, y3, y4, _, _, _, _, _⟩ := (HC3.out.below hSw HC3.out.lt).cells; simp only at x0 x1 x2 x3 x4 y0 y1 y2 y3 y4; go_simp; try with_reducible rfl
  simp only [List.getElem_toArray, List.getElem_cons_succ, List.getElem_cons_zero, Act.put, List.setIfInBounds_toArray, List.set_cons_zero, List.set_cons_succ]
  refine wpAnyH_take (i := 8) (v := ?vb8) rfl (by kernel_rfl) (by kernel_rfl) (by kernel_rfl) (fun _ _ _ h => h) (Or.inl ⟨by rfl, ?hb8⟩) (by assumption) ?_
  case hb8 => intro w hSw; (try dsimp only at hSw); obtain ⟨x0, x1, x2, x3, x4, _, _, _, _, _⟩ := (HA3.out.below hSw HA3.out.lt).cells; obtain ⟨y0, y1, y2, y3, y4, _, _, _, _, _⟩ := (HC3.out.below hSw HC3.out.lt).cells; simp only at x0 x1 x2 x3 x4 y0 y1 y2 y3 y4; go_simp; try with_reducible rfl
  simp only [List.getElem_toArray, List.getElem_cons_succ, List.getElem_cons_zero, Act.put, List.setIfInBounds_toArray, List.set_cons_zero, List.set_cons_succ]
  refine wpAnyH_ready (rs := [7]) (by kernel_rfl) (by simp) ?_
  refine AllReadyH.cons rfl (fun K hK => ?_) AllReadyH.nil
  go_simp
  refine (HPB.out _).mono ?_
  rintro e v3 ⟨rfl, hbx⟩
  have HSv3 := Lib.hid (below_next HSv2.out hbx)
  clear hbx
  dsimp only
  refine hK.out _ _ ?_ (fun hHeld => ?_)
  · exact HSv3.out
  clear hK K
  refine wpAnyH_ready (rs := [9]) (by kernel_rfl) (by simp) ?_
  refine AllReadyH.cons rfl (fun K hK => ?_) AllReadyH.nil
  go_simp
  refine (HRB.out _).mono ?_
  rintro e v4 ⟨rfl, hbx⟩
  have HSv4 := Lib.hid (below_next HSv3.out hbx)
  clear hbx
  dsimp only
  refine hK.out _ _ ?_ (fun hHeld => ?_)
  · exact HSv4.out
  clear hK K
  refine wpAnyH_take (i := 10) (v := ?vc10) rfl (by kernel_rfl) (by kernel_rfl) (by kernel_rfl) (fun _ _ _ h => h) (Or.inl ⟨by rfl, ?hc10⟩) (by assumption) ?_
  case hc10 => intro w hSw; (try dsimp only at hSw); go_simp; try with_reducible rfl
  simp only [List.getElem_toArray, List.getElem_cons_succ, List.getElem_cons_zero, Act.put, List.setIfInBounds_toArray, List.set_cons_zero, List.set_cons_succ]
  refine wpAnyH_take (i := 11) (v := ?vc11) rfl (by kernel_rfl) (by kernel_rfl) (by kernel_rfl) (fun _ _ _ h => h) (Or.inl ⟨by rfl, ?hc11⟩) (by assumption) ?_
  case hc11 => intro w hSw; (try dsimp only at hSw); go_simp; try with_reducible rfl
  simp only [List.getElem_toArray, List.getElem_cons_succ, List.getElem_cons_zero, Act.put, List.setIfInBounds_toArray, List.set_cons_zero, List.set_cons_succ]
  refine wpAnyH_take (i := 12) (v := ?vc12) rfl (by kernel_rfl) (by kernel_rfl) (by kernel_rfl) (fun _ _ _ h => h) (Or.inl ⟨by rfl, ?hc12⟩) (by assumption) ?_
  case hc12 => intro w hSw; (try dsimp only at hSw); go_simp; try with_reducible rfl
  simp only [List.getElem_toArray, List.getElem_cons_succ, List.getElem_cons_zero, Act.put, List.setIfInBounds_toArray, List.set_cons_zero, List.set_cons_succ]
  refine wpAnyH_done (by kernel_rfl) ?_ _
  refine NoPanic.normal ?_
  go_wp2_with fail
  go_ret
  exact ⟨rfl, HB3.out.trans (HSv4.out.mono HB3.out.size)⟩
set_option maxRecDepth 100000 in
set_option maxHeartbeats 4000000 in
theorem core10 (a b : Sty) (n : Int) (w : World) (hp : sright a = true) (hq : sright b = false) (hT : Tabs w) :
    Calls Tryd.prog 3 #[styV a, styV b, .int .i64 n] w fun e w' => e = .returned (.bool true) ∧ Below w.heap.size w w' := by
  have HPA := Lib.hid (fun w => style_ok w a)
  have HRA := Lib.hid (fun w => rstyle_ok w a)
  have HPB := Lib.hid (fun w => style_ok w b)
  have HRB := Lib.hid (fun w => rstyle_ok w b)
  obtain ⟨b1, u1, t1, f1, k1⟩ := a
  obtain ⟨b2, u2, t2, f2, k2⟩ := b
  simp only [styV] at *
  obtain ⟨w1, hw1⟩ : ∃ w1, w1 = (w.alloc (.cells #[.bool b1, .bool u1, .bool t1, .int .i64 f1, .int .i64 k1] 23)).alloc (.cells #[.bool b2, .bool u2, .bool t2, .int .i64 f2, .int .i64 k2] 23) := ⟨_, rfl⟩
  have hb1 : Below w.heap.size w w1 := by rw [hw1]; exact ((Below.refl _ _).alloc (Nat.le_refl _) _).alloc (by simp) _
  have h1 : StyAt w1 w.heap.size ⟨b1, u1, t1, f1, k1⟩ := by
    unfold StyAt
    rw [hw1, heap_alloc_old _ _ (by simp)]; exact heap_alloc_new w _
  have h2 : StyAt w1 (w.heap.size + 1) ⟨b2, u2, t2, f2, k2⟩ := by
    unfold StyAt
    rw [hw1]; exact heap_alloc2_new w _ _
  have W1 := Lib.hid hw1
  have HB1 := Lib.hid hb1
  have HT1 := Lib.hid (hT.on hb1 hT.room)
  have HA1 := Lib.hid h1
  have HC1 := Lib.hid h2
  clear hw1 hb1 h1 h2 hT
  rw [hp] at HPA HRA
  rw [hq] at HPB HRB
  clear hp hq
  go_enter Tryd.func3, Tryd.ntmps3
  go_wp2_with fail
  rw [← W1.out]
  refine (fit_ok w1 HT1.out).mono ?_
  rintro e w2 ⟨rfl, b2⟩
  have HB2 := Lib.hid (below_next HB1.out b2)
  have HA2 := Lib.hid (HA1.out.below b2 HA1.out.lt)
  have HC2 := Lib.hid (HC1.out.below b2 HC1.out.lt)
  clear b2
  obtain ⟨x0, x1, x2, x3, x4, _, _, _, _, _⟩ := HA2.out.cells
  simp only at x0 x1 x2 x3 x4
  go_wp2_with fail
  refine (HRA.out w2).mono ?_
  rintro e w3 ⟨rfl, b3⟩
  have HB3 := Lib.hid (below_next HB2.out b3)
  have HA3 := Lib.hid (HA2.out.below b3 HA2.out.lt)
  have HC3 := Lib.hid (HC2.out.below b3 HC2.out.lt)
  clear b3 x0 x1 x2 x3 x4
  obtain ⟨x0, x1, x2, x3, x4, _, _, _, _, _⟩ := HC3.out.cells
  simp only at x0 x1 x2 x3 x4
  go_wp2_with fail
  refine (HRB.out w3).mono ?_
  rintro e w4 ⟨rfl, b4⟩
  have HB4 := Lib.hid (below_next HB3.out b4)
  have HA4 := Lib.hid (HA3.out.below b4 HA3.out.lt)
  have HC4 := Lib.hid (HC3.out.below b4 HC3.out.lt)
  clear b4 x0 x1 x2 x3 x4
  go_wp2_with fail
  refine wp_region_noPanic ?_
  refine wp_region_held_drew (S := fun v => Below w4.heap.size w4 v) (by kernel_rfl) (Below.refl _ _).drew (fun hHeld => ?_)
  have HSd := Lib.hid hHeld
  refine wpAnyH_take (i := 0) (v := ?va0) rfl (by kernel_rfl) (by kernel_rfl) (by kernel_rfl) (fun _ _ _ h => h) (Or.inl ⟨by rfl, ?ha0⟩) (by assumption) ?_
  case ha0 => intro w hSw; (try dsimp only at hSw); obtain ⟨x0, x1, x2, x3, x4, _, _, _, _, _⟩ := (HA4.out.below hSw HA4.out.lt).cells; obtain ⟨y0, y1, y2, y3, y4, _, _, _, _, _⟩ := (HC4.out.below hSw HC4.out.lt).cells; simp only at x0 x1 x2 x3 x4 y0 y1 y2 y3 y4; go_simp; try with_reducible rfl
  simp only [List.getElem_toArray, List.getElem_cons_zero, Act.put, List.setIfInBounds_toArray, List.set_cons_zero, List.set_cons_succ]
  refine wpAnyH_take (i := 2) (v := ?va2) rfl (by kernel_rfl) (by kernel_rfl) (by kernel_rfl) (fun _ _ _ h => h) (Or.inl ⟨by rfl, ?ha2⟩) (by assumption) ?_
  case ha2 => intro w hSw; (try dsimp only at hSw); obtain ⟨x0, x1, x2, x3, x4, _, _, _, _, _⟩ := (HA4.out.below hSw HA4.out.lt).cells; obtain ⟨y0, y1, y2, y3, y4, _, _, _, _, _⟩ := (HC4.out.below hSw HC4.out.lt).cells; simp only at x0 x1 x2 x3 x4 y0 y1 y2 y3 y4; go_simp; try with_reducible rfl
  simp only [List.getElem_toArray, List.getElem_cons_succ, List.getElem_cons_zero, Act.put, List.setIfInBounds_toArray, List.set_cons_zero, List.set_cons_succ]
  refine wpAnyH_ready (rs := [1]) (by kernel_rfl) (by simp) ?_
  refine AllReadyH.cons rfl (fun K hK => ?_) AllReadyH.nil
  go_simp
  refine (HPA.out _).mono ?_
  rintro e v1 ⟨rfl, hbx⟩
  have HSv1 := Lib.hid (below_next HSd.out hbx)
  clear hbx
  dsimp only
  refine hK.out _ _ ?_ (fun hHeld => ?_)
  · exact HSv1.out
  clear hK K
  refine wpAnyH_ready (rs := [3]) (by kernel_rfl) (by simp) ?_
  refine AllReadyH.cons rfl (fun K hK => ?_) AllReadyH.nil
  go_simp
  refine (HRA.out _).mono ?_
  rintro e v2 ⟨rfl, hbx⟩
  have HSv2 := Lib.hid (below_next HSv1.out hbx)
  clear hbx
  dsimp only
  refine hK.out _ _ ?_ (fun hHeld => ?_)
  · exact HSv2.out
  clear hK K
  refine wpAnyH_take (i := 4) (v := ?vb4) rfl (by kernel_rfl) (by kernel_rfl) (by kernel_rfl) (fun _ _ _ h => h) (Or.inl ⟨by rfl, ?hb4⟩) (by assumption) ?_
  case hb4 => intro w hSw; (try dsimp only at hSw); obtain ⟨x0, x1, x2, x3, x4, _, _, _, _, _⟩ := (HA4.out.below hSw HA4.out.lt).cells; obtain ⟨y0, y1, y2, y3, y4, _, _, _, _, _⟩ := (HC4.out.below hSw HC4.out.lt).cells; simp only at x0 x1 x2 x3 x4 y0 y1 y2 y3 y4; go_simp; try with_reducible rfl
  simp only [List.getElem_toArray, List.getElem_cons_succ, List.getElem_cons_zero, Act.put, List.setIfInBounds_toArray, List.set_cons_zero, List.set_cons_succ]
  refine wpAnyH_take (i := 5) (v := ?vb5) rfl (by kernel_rfl) (by kernel_rfl) (by kernel_rfl) (fun _ _ _ h => h) (Or.inl ⟨by rfl, ?hb5⟩) (by assumption) ?_
  case hb5 => intro w hSw; (try dsimp only at hSw); obtain ⟨x0, x1, x2, x3, x4, _, _, _, _, _⟩ := (HA4.out.below hSw HA4.out.lt).cells; obtain ⟨y0, y1, y2, y3, y4, _, _, _, _, _⟩ := (HC4.out.below hSw HC4.out.lt).cells; simp only at x0 x1 x2 x3 x4 y0 y1 y2 y3 y4; go_simp; try with_reducible rfl
  simp only [List.getElem_toArray, List.getElem_cons_succ, List.getElem_cons_zero, Act.put, List.setIfInBounds_toArray, List.set_cons_zero, List.set_cons_succ]
  refine wpAnyH_take (i := 6) (v := ?vb6) rfl (by kernel_rfl) (by kernel_rfl) (by kernel_rfl) (fun _ _ _ h => h) (Or.inl ⟨by rfl, ?hb6⟩) (by assumption) ?_
  case hb6 => intro w hSw; (try dsimp only at hSw); obtain ⟨x0, x1, x2, x3, x4, _, _, _, _, _⟩ := (HA4.out.below hSw HA4.out.lt).cells; obtain ⟨y0, y1, y2, y3, y4, _, _, _, _, _⟩ := (HC4.out.below hSw HC4.out.lt).cells; simp only at x0 x1 x2 x3 x4 y0 y1 y2 y3 y4; go_simp; try with_reducible rfl
  simp only [List.getElem_toArray, List.getElem_cons_succ, List.getElem_cons_zero, Act.put, List.setIfInBounds_toArray, List.set_cons_zero, List.set_cons_succ]
  refine wpAnyH_take (i := 8) (v := ?vb8) rfl (by kernel_rfl) (by kernel_rfl) (by kernel_rfl) (fun _ _ _ h => h) (Or.inl ⟨by rfl, ?hb8⟩) (by assumption) ?_
  case hb8 => intro w hSw; (try dsimp only at hSw); obtain ⟨x0, x1, x2, x3, x4, _, _, _, _, _⟩ := (HA4.out.below hSw HA4.out.lt).cells; obtain ⟨y0, y1, y2, y3, y4, _, _, _, _, _⟩ := (HC4.out.below hSw HC4.out.lt).cells; simp only at x0 x1 x2 x3 x4 y0 y1 y2 y3 y4; go_simp; try with_reducible rfl
  simp only [List.getElem_toArray, List.getElem_cons_succ, List.getElem_cons_zero, Act.put, List.setIfInBounds_toArray, List.set_cons_zero, List.set_cons_succ]
  refine wpAnyH_ready (rs := [7]) (by kernel_rfl) (by simp) ?_
  refine AllReadyH.cons rfl (fun K hK => ?_) AllReadyH.nil
  go_simp
  refine (HPB.out _).mono ?_
  rintro e v3 ⟨rfl, hbx⟩
  have HSv3 := Lib.hid (below_next HSv2.out hbx)
  clear hbx
  dsimp only
  refine hK.out _ _ ?_ (fun hHeld => ?_)
  · exact HSv3.out
  clear hK K
  refine wpAnyH_ready (rs := [9]) (by kernel_rfl) (by simp) ?_
  refine AllReadyH.cons rfl (fun K hK => ?_) AllReadyH.nil
  go_simp
  refine (HRB.out _).mono ?_
  rintro e v4 ⟨rfl, hbx⟩
  have HSv4 := Lib.hid (below_next HSv3.out hbx)
  clear hbx
  dsimp only
  refine hK.out _ _ ?_ (fun hHeld => ?_)
  · exact HSv4.out
  clear hK K
  refine wpAnyH_take (i := 10) (v := ?vc10) rfl (by kernel_rfl) (by kernel_rfl) (by kernel_rfl) (fun _ _ _ h => h) (Or.inl ⟨by rfl, ?hc10⟩) (by assumption) ?_
  case hc10 => intro w hSw; (try dsimp only at hSw); go_simp; try with_reducible rfl
  simp only [List.getElem_toArray, List.getElem_cons_succ, List.getElem_cons_zero, Act.put, List.setIfInBounds_toArray, List.set_cons_zero, List.set_cons_succ]
  refine wpAnyH_take (i := 11) (v := ?vc11) rfl (by kernel_rfl) (by kernel_rfl) (by kernel_rfl) (fun _ _ _ h => h) (Or.inl ⟨by rfl, ?hc11⟩) (by assumption) ?_
  case hc11 => intro w hSw; (try dsimp only at hSw); go_simp; try with_reducible rfl
  simp only [List.getElem_toArray, List.getElem_cons_succ, List.getElem_cons_zero, Act.put, List.setIfInBounds_toArray, List.set_cons_zero, List.set_cons_succ]
  refine wpAnyH_take (i := 12) (v := ?vc12) rfl (by kernel_rfl) (by kernel_rfl) (by kernel_rfl) (fun _ _ _ h => h) (Or.inl ⟨by rfl, ?hc12⟩) (by assumption) ?_
  case hc12 => intro w hSw; (try dsimp only at hSw); go_simp; try with_reducible rfl
  simp only [List.getElem_toArray, List.getElem_cons_succ, List.getElem_cons_zero, Act.put, List.setIfInBounds_toArray, List.set_cons_zero, List.set_cons_succ]
  refine wpAnyH_done (by kernel_rfl) ?_ _
  refine NoPanic.normal ?_
  go_wp2_with fail
  go_ret
  exact ⟨rfl, HB4.out.trans (HSv4.out.mono HB4.out.size)⟩
end Go.Proofs.YtalngmegenlfgaaDoor.cellStyles
