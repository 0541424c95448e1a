/-
  CellStyles: each parameter changes a style as the document says; each style is made of any one by its own parameters. For all styles and every parameter; the package's table of wide runes as the program's text lays it.
-/
import Derived.Test.YtalngmegenlfgaaDoorKStyW
import Derived.Test.YtalngmegenlfgaaDoorKFit
import Derived.Test.YtalngmegenlfgaaDoorKOpen
import Derived.Test.YtalngmegenlfgaaDoorKCond
import Derived.Test.YtalngmegenlfgaaDoorCards
import Derived.Test.YtalngmegenlfgaaDoorTie
import Derived.Deep.RegionHeld3
import Derived.OpenShut
import Derived.HandedFrom
import Derived.ChangeSame
import Derived.ChangeVars
import Derived.JoinedOf
import Derived.JoinedAt
namespace Go.Proofs.YtalngmegenlfgaaDoor.cellStyles
open Go.ChangeShapes Go.WideShapes Go.ChangeAt Go.RowKit Go.Lib KM

theorem params_bound (s : Sty) (h : sright s = true) : ∀ z ∈ params s, -9223372036854775808 ≤ z ∧ z ≤ 9223372036854775807 := by
  rw [sright_iff] at h
  intro z hz
  have : z = 0 ∨ z = 1 ∨ z = 4 ∨ z = 7 ∨ z = 29 + s.fore ∨ z = 39 + s.back := by
    unfold params at hz
    simp only [List.mem_append] at hz
    rcases hz with ((((hz | hz) | hz) | hz) | hz) | hz
    · simp at hz; omega
    all_goals
      split at hz
      · simp at hz; omega
      · simp at hz
  omega

set_option maxRecDepth 100000 in
set_option maxHeartbeats 4000000 in
theorem core11 (a b : Sty) (n : Int) (w : World) (hp : sright a = true) (hq : sright b = true) (hn : -9223372036854775808 ≤ n ∧ n ≤ 9223372036854775807) (hT : Tabs w) :
    Calls Tryd.prog 3 #[styV a, styV b, .int .i64 n] w fun e w' => e = .returned (.bool true) ∧ Below w.heap.size w w' := by
  have HPA := Lib.hid (fun w => style_ok w a)
  have HRA := Lib.hid (fun w => rstyle_ok w a)
  have HPB := Lib.hid (fun w => style_ok w b)
  have HRB := Lib.hid (fun w => rstyle_ok w b)
  have HRC := Lib.hid (fun w => rchange_ok w a n hn)
  have HCH := Lib.hid (chg_right a n)
  obtain ⟨b1, u1, t1, f1, k1⟩ := a
  obtain ⟨b2, u2, t2, f2, k2⟩ := b
  simp only [styV] at *
  obtain ⟨w1, hw1⟩ : ∃ w1, w1 = (w.alloc (.cells #[.bool b1, .bool u1, .bool t1, .int .i64 f1, .int .i64 k1] 23)).alloc (.cells #[.bool b2, .bool u2, .bool t2, .int .i64 f2, .int .i64 k2] 23) := ⟨_, rfl⟩
  have hb1 : Below w.heap.size w w1 := by rw [hw1]; exact ((Below.refl _ _).alloc (Nat.le_refl _) _).alloc (by simp) _
  have h1 : StyAt w1 w.heap.size ⟨b1, u1, t1, f1, k1⟩ := by
    unfold StyAt
    rw [hw1, heap_alloc_old _ _ (by simp)]; exact heap_alloc_new w _
  have h2 : StyAt w1 (w.heap.size + 1) ⟨b2, u2, t2, f2, k2⟩ := by
    unfold StyAt
    rw [hw1]; exact heap_alloc2_new w _ _
  have W1 := Lib.hid hw1
  have HB1 := Lib.hid hb1
  have HT1 := Lib.hid (hT.on hb1 hT.room)
  have HA1 := Lib.hid h1
  have HC1 := Lib.hid h2
  clear hw1 hb1 h1 h2 hT
  rw [hp] at HPA HRA
  rw [hq] at HPB HRB
  have hch := HCH.out hp
  have HPM := Lib.hid (fun v => params_ok v ⟨b2, u2, t2, f2, k2⟩ hq)
  have HCP := Lib.hid (chg_params ⟨b1, u1, t1, f1, k1⟩ ⟨b2, u2, t2, f2, k2⟩ hq)
  have HPN := Lib.hid (params_ne ⟨b2, u2, t2, f2, k2⟩)
  have hpl := params_len ⟨b2, u2, t2, f2, k2⟩
  have HPI := Lib.hid (params_bound ⟨b2, u2, t2, f2, k2⟩ hq)
  have hz := fun w => build_zero w
  generalize params ⟨b2, u2, t2, f2, k2⟩ = P at *
  clear hp hq
  generalize hwt : chg ⟨b1, u1, t1, f1, k1⟩ n = wt at *
  have HWT := Lib.hid hwt
  obtain ⟨b3, u3, t3, f3, k3⟩ := wt
  have HPW := Lib.hid (fun w => style_ok w ⟨b3, u3, t3, f3, k3⟩)
  rw [hch] at HPW
  clear hwt hch
  have eqW := fun w => run_eqS' w ⟨b3, u3, t3, f3, k3⟩ ⟨b3, u3, t3, f3, k3⟩
  have eqB := fun w => run_eqS' w ⟨b2, u2, t2, f2, k2⟩ ⟨b2, u2, t2, f2, k2⟩
  have eqZ := fun w => run_eqS' w KM.zero KM.zero
  simp only [styV, KM.zero, decide_true] at *
  go_enter Tryd.func3, Tryd.ntmps3
  go_wp2_with fail
  rw [← W1.out]
  refine (fit_ok w1 HT1.out).mono ?_
  rintro e w2 ⟨rfl, b2⟩
  have HB2 := Lib.hid (below_next HB1.out b2)
  have HA2 := Lib.hid (HA1.out.below b2 HA1.out.lt)
  have HC2 := Lib.hid (HC1.out.below b2 HC1.out.lt)
  clear b2
  obtain ⟨x0, x1, x2, x3, x4, _, _, _, _, _⟩ := HA2.out.cells
  simp only at x0 x1 x2 x3 x4
  go_wp2_with fail
  refine (HRA.out w2).mono ?_
  rintro e w3 ⟨rfl, b3⟩
  have HB3 := Lib.hid (below_next HB2.out b3)
  have HA3 := Lib.hid (HA2.out.below b3 HA2.out.lt)
  have HC3 := Lib.hid (HC2.out.below b3 HC2.out.lt)
  clear b3 x0 x1 x2 x3 x4
  obtain ⟨x0, x1, x2, x3, x4, _, _, _, _, _⟩ := HC3.out.cells
  simp only at x0 x1 x2 x3 x4
  go_wp2_with fail
  refine (HRB.out w3).mono ?_
  rintro e w4 ⟨rfl, b4⟩
  have HB4 := Lib.hid (below_next HB3.out b4)
  have HA4 := Lib.hid (HA3.out.below b4 HA3.out.lt)
  have HC4 := Lib.hid (HC3.out.below b4 HC3.out.lt)
  clear b4 x0 x1 x2 x3 x4
  obtain ⟨x0, x1, x2, x3, x4, _, _, _, _, _⟩ := HA4.out.cells
  simp only at x0 x1 x2 x3 x4
  go_wp2_with fail
  refine (HRC.out w4).mono ?_
  rintro e w5 ⟨rfl, b5⟩
  have HB5 := Lib.hid (below_next HB4.out b5)
  have HA5 := Lib.hid (HA4.out.below b5 HA4.out.lt)
  have HC5 := Lib.hid (HC4.out.below b5 HC4.out.lt)
  clear b5 x0 x1 x2 x3 x4
  go_upto_region 6 with fail
  obtain ⟨w6, hw6⟩ : ∃ w6, w6 = w5.alloc (.cells #[.bool b3, .bool u3, .bool t3, .int .i64 f3, .int .i64 k3] 23) := ⟨_, rfl⟩
  rw [← hw6]
  have b6 : Below w5.heap.size w5 w6 := by rw [hw6]; exact (Below.refl _ _).alloc (Nat.le_refl _) _
  have HW6 := Lib.hid (show StyAt w6 w5.heap.size ⟨b3, u3, t3, f3, k3⟩ by rw [hw6]; exact heap_alloc_new w5 _)
  have HB6 := Lib.hid (below_next HB5.out b6)
  have HA6 := Lib.hid (HA5.out.below b6 HA5.out.lt)
  have HC6 := Lib.hid (HC5.out.below b6 HC5.out.lt)
  clear b6 hw6
  go_wp2_with fail
  refine wp_region_noPanic ?_
  refine wp_region_held_drew (S := fun v => Below w6.heap.size w6 v) (by kernel_rfl) (Below.refl _ _).drew (fun hHeld => ?_)
  have HSd := Lib.hid hHeld
  refine wpAnyH_take (i := 0) (v := ?va0) rfl (by kernel_rfl) (by kernel_rfl) (by kernel_rfl) (fun _ _ _ h => h) (Or.inl ⟨by rfl, ?ha0⟩) (by assumption) ?_
  case ha0 => intro w hSw; (try dsimp only at hSw); obtain ⟨x0, x1, x2, x3, x4, _, _, _, _, _⟩ := (HA6.out.below hSw HA6.out.lt).cells; obtain ⟨y0, y1, y2, y3, y4, _, _, _, _, _⟩ := (HC6.out.below hSw HC6.out.lt).cells; simp only at x0 x1 x2 x3 x4 y0 y1 y2 y3 y4; obtain ⟨z0, z1, z2, z3, z4, _, _, _, _, _⟩ := (HW6.out.below hSw HW6.out.lt).cells; simp only at z0 z1 z2 z3 z4; go_simp; try with_reducible rfl
  simp only [List.getElem_toArray, List.getElem_cons_zero, Act.put, List.setIfInBounds_toArray, List.set_cons_zero, List.set_cons_succ]
  refine wpAnyH_take (i := 1) (v := ?va1) rfl (by kernel_rfl) (by kernel_rfl) (by kernel_rfl) (fun _ _ _ h => h) (Or.inl ⟨by rfl, ?ha1⟩) (by assumption) ?_
  case ha1 => intro w hSw; (try dsimp only at hSw); obtain ⟨x0, x1, x2, x3, x4, _, _, _, _, _⟩ := (HA6.out.below hSw HA6.out.lt).cells; obtain ⟨y0, y1, y2, y3, y4, _, _, _, _, _⟩ := (HC6.out.below hSw HC6.out.lt).cells; simp only at x0 x1 x2 x3 x4 y0 y1 y2 y3 y4; obtain ⟨z0, z1, z2, z3, z4, _, _, _, _, _⟩ := (HW6.out.below hSw HW6.out.lt).cells; simp only at z0 z1 z2 z3 z4; go_simp; try with_reducible rfl
  simp only [List.getElem_toArray, List.getElem_cons_succ, List.getElem_cons_zero, Act.put, List.setIfInBounds_toArray, List.set_cons_zero, List.set_cons_succ]
  refine wpAnyH_take (i := 4) (v := ?va4) rfl (by kernel_rfl) (by kernel_rfl) (by kernel_rfl) (fun _ _ _ h => h) (Or.inl ⟨by rfl, ?ha4⟩) (by assumption) ?_
  case ha4 => intro w hSw; (try dsimp only at hSw); obtain ⟨x0, x1, x2, x3, x4, _, _, _, _, _⟩ := (HA6.out.below hSw HA6.out.lt).cells; obtain ⟨y0, y1, y2, y3, y4, _, _, _, _, _⟩ := (HC6.out.below hSw HC6.out.lt).cells; simp only at x0 x1 x2 x3 x4 y0 y1 y2 y3 y4; obtain ⟨z0, z1, z2, z3, z4, _, _, _, _, _⟩ := (HW6.out.below hSw HW6.out.lt).cells; simp only at z0 z1 z2 z3 z4; go_simp; try with_reducible rfl
  simp only [List.getElem_toArray, List.getElem_cons_succ, List.getElem_cons_zero, Act.put, List.setIfInBounds_toArray, List.set_cons_zero, List.set_cons_succ]
  refine wpAnyH_ready (rs := [2]) (by kernel_rfl) (by simp) ?_
  refine AllReadyH.cons rfl (fun K hK => ?_) AllReadyH.nil
  go_simp
  try dsimp only
  refine hK.out _ _ ?_ (fun hHeld => ?_)
  · exact HSd.out.alloc HSd.out.size _
  clear hK K
  have HSv0 := Lib.hid hHeld
  refine wpAnyH_ready (rs := [3]) (by kernel_rfl) (by simp) ?_
  refine AllReadyH.cons rfl (fun K hK => ?_) AllReadyH.nil
  go_simp
  refine (change_ok _ ⟨b1, u1, t1, f1, k1⟩ [n] (some ⟨w6.drew.heap.size, 0, none⟩) 1 (w6.drew.heap.size + 1) (El.row_lit _ [n] _ _ rfl) (by simp) (by simp) (by simpa using hn)).mono ?_
  rw [show chgA ⟨b1, u1, t1, f1, k1⟩ [n] = ⟨b3, u3, t3, f3, k3⟩ from HWT.out]
  rintro e v1 ⟨rfl, hbx⟩
  have HSv1 := Lib.hid (below_next HSv0.out hbx)
  clear hbx
  dsimp only [styV]
  refine hK.out _ _ ?_ (fun hHeld => ?_)
  · exact HSv1.out
  clear hK K
  refine wpAnyH_take (i := 5) (v := ?vb5) rfl (by kernel_rfl) (by kernel_rfl) (by kernel_rfl) (fun _ _ _ h => h) (Or.inl ⟨by rfl, ?hb5⟩) (by assumption) ?_
  case hb5 => intro w hSw; (try dsimp only at hSw); obtain ⟨x0, x1, x2, x3, x4, _, _, _, _, _⟩ := (HA6.out.below hSw HA6.out.lt).cells; obtain ⟨y0, y1, y2, y3, y4, _, _, _, _, _⟩ := (HC6.out.below hSw HC6.out.lt).cells; simp only at x0 x1 x2 x3 x4 y0 y1 y2 y3 y4; obtain ⟨z0, z1, z2, z3, z4, _, _, _, _, _⟩ := (HW6.out.below hSw HW6.out.lt).cells; simp only at z0 z1 z2 z3 z4; go_simp; try with_reducible rfl
  simp only [List.getElem_toArray, List.getElem_cons_succ, List.getElem_cons_zero, Act.put, List.setIfInBounds_toArray, List.set_cons_zero, List.set_cons_succ]
  refine wpAnyH_take (i := 6) (v := ?vb6) rfl (by kernel_rfl) (by kernel_rfl) (by kernel_rfl) (fun _ _ _ h => h) (Or.inl ⟨by rfl, ?hb6⟩) (by assumption) ?_
  case hb6 => intro w hSw; (try dsimp only at hSw); obtain ⟨x0, x1, x2, x3, x4, _, _, _, _, _⟩ := (HA6.out.below hSw HA6.out.lt).cells; obtain ⟨y0, y1, y2, y3, y4, _, _, _, _, _⟩ := (HC6.out.below hSw HC6.out.lt).cells; simp only at x0 x1 x2 x3 x4 y0 y1 y2 y3 y4; obtain ⟨z0, z1, z2, z3, z4, _, _, _, _, _⟩ := (HW6.out.below hSw HW6.out.lt).cells; simp only at z0 z1 z2 z3 z4; go_simp; try with_reducible rfl
  simp only [List.getElem_toArray, List.getElem_cons_succ, List.getElem_cons_zero, Act.put, List.setIfInBounds_toArray, List.set_cons_zero, List.set_cons_succ]
  refine wpAnyH_take (i := 7) (v := ?vb7) rfl (by kernel_rfl) (by kernel_rfl) (by kernel_rfl) (fun _ _ _ h => h) (Or.inl ⟨by rfl, ?hb7⟩) (by assumption) ?_
  case hb7 => intro w hSw; (try dsimp only at hSw); obtain ⟨x0, x1, x2, x3, x4, _, _, _, _, _⟩ := (HA6.out.below hSw HA6.out.lt).cells; obtain ⟨y0, y1, y2, y3, y4, _, _, _, _, _⟩ := (HC6.out.below hSw HC6.out.lt).cells; simp only at x0 x1 x2 x3 x4 y0 y1 y2 y3 y4; obtain ⟨z0, z1, z2, z3, z4, _, _, _, _, _⟩ := (HW6.out.below hSw HW6.out.lt).cells; simp only at z0 z1 z2 z3 z4; go_simp; try with_reducible rfl
  simp only [List.getElem_toArray, List.getElem_cons_succ, List.getElem_cons_zero, Act.put, List.setIfInBounds_toArray, List.set_cons_zero, List.set_cons_succ]
  refine wpAnyH_take (i := 8) (v := ?vb8) rfl (by kernel_rfl) (by kernel_rfl) (by kernel_rfl) (fun _ _ _ h => h) (Or.inl ⟨by rfl, ?hb8⟩) (by assumption) ?_
  case hb8 => intro w hSw; (try dsimp only at hSw); obtain ⟨x0, x1, x2, x3, x4, _, _, _, _, _⟩ := (HA6.out.below hSw HA6.out.lt).cells; obtain ⟨y0, y1, y2, y3, y4, _, _, _, _, _⟩ := (HC6.out.below hSw HC6.out.lt).cells; simp only at x0 x1 x2 x3 x4 y0 y1 y2 y3 y4; obtain ⟨z0, z1, z2, z3, z4, _, _, _, _, _⟩ := (HW6.out.below hSw HW6.out.lt).cells; simp only at z0 z1 z2 z3 z4; go_simp; try with_reducible rfl
  simp only [List.getElem_toArray, List.getElem_cons_succ, List.getElem_cons_zero, Act.put, List.setIfInBounds_toArray, List.set_cons_zero, List.set_cons_succ]
  refine wpAnyH_take (i := 11) (v := ?vb11) rfl (by kernel_rfl) (by kernel_rfl) (by kernel_rfl) (fun _ _ _ h => h) (Or.inl ⟨by rfl, ?hb11⟩) (by assumption) ?_
  case hb11 => intro w hSw; (try dsimp only at hSw); obtain ⟨x0, x1, x2, x3, x4, _, _, _, _, _⟩ := (HA6.out.below hSw HA6.out.lt).cells; obtain ⟨y0, y1, y2, y3, y4, _, _, _, _, _⟩ := (HC6.out.below hSw HC6.out.lt).cells; simp only at x0 x1 x2 x3 x4 y0 y1 y2 y3 y4; obtain ⟨z0, z1, z2, z3, z4, _, _, _, _, _⟩ := (HW6.out.below hSw HW6.out.lt).cells; simp only at z0 z1 z2 z3 z4; go_simp; try with_reducible rfl
  simp only [List.getElem_toArray, List.getElem_cons_succ, List.getElem_cons_zero, Act.put, List.setIfInBounds_toArray, List.set_cons_zero, List.set_cons_succ]
  refine wpAnyH_ready (rs := [9]) (by kernel_rfl) (by simp) ?_
  refine AllReadyH.cons rfl (fun K hK => ?_) AllReadyH.nil
  go_simp
  refine (HPM.out _).mono ?_
  rintro e v2 ⟨AP, cP, rfl, hrP, hbx⟩
  have HSv2 := Lib.hid (below_next HSv1.out hbx)
  have HRP := Lib.hid hrP
  clear hbx hrP
  dsimp only
  refine hK.out _ _ ?_ (fun hHeld => ?_)
  · exact HSv2.out
  clear hK K
  refine wpAnyH_ready (rs := [10]) (by kernel_rfl) (by simp) ?_
  refine AllReadyH.cons rfl (fun K hK => ?_) AllReadyH.nil
  go_simp
  refine (change_ok _ ⟨b1, u1, t1, f1, k1⟩ P AP cP v2.heap.size HRP.out (Nat.le_refl _) (by omega) HPI.out).mono ?_
  rw [show chgA ⟨b1, u1, t1, f1, k1⟩ P = ⟨b2, u2, t2, f2, k2⟩ by unfold chgA; rw [if_neg HPN.out]; exact HCP.out]
  rintro e v3 ⟨rfl, hbx⟩
  have HSv3 := Lib.hid (below_next HSv2.out hbx)
  clear hbx
  dsimp only [styV]
  refine hK.out _ _ ?_ (fun hHeld => ?_)
  · exact HSv3.out
  clear hK K
  refine wpAnyH_take (i := 12) (v := ?vc12) rfl (by kernel_rfl) (by kernel_rfl) (by kernel_rfl) (fun _ _ _ h => h) (Or.inl ⟨by rfl, ?hc12⟩) (by assumption) ?_
  case hc12 => intro w hSw; (try dsimp only at hSw); obtain ⟨x0, x1, x2, x3, x4, _, _, _, _, _⟩ := (HA6.out.below hSw HA6.out.lt).cells; obtain ⟨y0, y1, y2, y3, y4, _, _, _, _, _⟩ := (HC6.out.below hSw HC6.out.lt).cells; simp only at x0 x1 x2 x3 x4 y0 y1 y2 y3 y4; obtain ⟨z0, z1, z2, z3, z4, _, _, _, _, _⟩ := (HW6.out.below hSw HW6.out.lt).cells; simp only at z0 z1 z2 z3 z4; go_simp; try with_reducible rfl
  simp only [List.getElem_toArray, List.getElem_cons_succ, List.getElem_cons_zero, Act.put, List.setIfInBounds_toArray, List.set_cons_zero, List.set_cons_succ]
  refine wpAnyH_take (i := 13) (v := ?vc13) rfl (by kernel_rfl) (by kernel_rfl) (by kernel_rfl) (fun _ _ _ h => h) (Or.inl ⟨by rfl, ?hc13⟩) (by assumption) ?_
  case hc13 => intro w hSw; (try dsimp only at hSw); obtain ⟨x0, x1, x2, x3, x4, _, _, _, _, _⟩ := (HA6.out.below hSw HA6.out.lt).cells; obtain ⟨y0, y1, y2, y3, y4, _, _, _, _, _⟩ := (HC6.out.below hSw HC6.out.lt).cells; simp only at x0 x1 x2 x3 x4 y0 y1 y2 y3 y4; obtain ⟨z0, z1, z2, z3, z4, _, _, _, _, _⟩ := (HW6.out.below hSw HW6.out.lt).cells; simp only at z0 z1 z2 z3 z4; go_simp; try with_reducible rfl
  simp only [List.getElem_toArray, List.getElem_cons_succ, List.getElem_cons_zero, Act.put, List.setIfInBounds_toArray, List.set_cons_zero, List.set_cons_succ]
  refine wpAnyH_take (i := 14) (v := ?vc14) rfl (by kernel_rfl) (by kernel_rfl) (by kernel_rfl) (fun _ _ _ h => h) (Or.inl ⟨by rfl, ?hc14⟩) (by assumption) ?_
  case hc14 => intro w hSw; (try dsimp only at hSw); obtain ⟨x0, x1, x2, x3, x4, _, _, _, _, _⟩ := (HA6.out.below hSw HA6.out.lt).cells; obtain ⟨y0, y1, y2, y3, y4, _, _, _, _, _⟩ := (HC6.out.below hSw HC6.out.lt).cells; simp only at x0 x1 x2 x3 x4 y0 y1 y2 y3 y4; obtain ⟨z0, z1, z2, z3, z4, _, _, _, _, _⟩ := (HW6.out.below hSw HW6.out.lt).cells; simp only at z0 z1 z2 z3 z4; go_simp; try with_reducible rfl
  simp only [List.getElem_toArray, List.getElem_cons_succ, List.getElem_cons_zero, Act.put, List.setIfInBounds_toArray, List.set_cons_zero, List.set_cons_succ]
  refine wpAnyH_take (i := 15) (v := ?vc15) rfl (by kernel_rfl) (by kernel_rfl) (by kernel_rfl) (fun _ _ _ h => h) (Or.inl ⟨by rfl, ?hc15⟩) (by assumption) ?_
  case hc15 => intro w hSw; (try dsimp only at hSw); obtain ⟨x0, x1, x2, x3, x4, _, _, _, _, _⟩ := (HA6.out.below hSw HA6.out.lt).cells; obtain ⟨y0, y1, y2, y3, y4, _, _, _, _, _⟩ := (HC6.out.below hSw HC6.out.lt).cells; simp only at x0 x1 x2 x3 x4 y0 y1 y2 y3 y4; obtain ⟨z0, z1, z2, z3, z4, _, _, _, _, _⟩ := (HW6.out.below hSw HW6.out.lt).cells; simp only at z0 z1 z2 z3 z4; go_simp; try with_reducible rfl
  simp only [List.getElem_toArray, List.getElem_cons_succ, List.getElem_cons_zero, Act.put, List.setIfInBounds_toArray, List.set_cons_zero, List.set_cons_succ]
  refine wpAnyH_take (i := 17) (v := ?vc17) rfl (by kernel_rfl) (by kernel_rfl) (by kernel_rfl) (fun _ _ _ h => h) (Or.inl ⟨by rfl, ?hc17⟩) (by assumption) ?_
  case hc17 => intro w hSw; (try dsimp only at hSw); obtain ⟨x0, x1, x2, x3, x4, _, _, _, _, _⟩ := (HA6.out.below hSw HA6.out.lt).cells; obtain ⟨y0, y1, y2, y3, y4, _, _, _, _, _⟩ := (HC6.out.below hSw HC6.out.lt).cells; simp only at x0 x1 x2 x3 x4 y0 y1 y2 y3 y4; obtain ⟨z0, z1, z2, z3, z4, _, _, _, _, _⟩ := (HW6.out.below hSw HW6.out.lt).cells; simp only at z0 z1 z2 z3 z4; go_simp; try with_reducible rfl
  simp only [List.getElem_toArray, List.getElem_cons_succ, List.getElem_cons_zero, Act.put, List.setIfInBounds_toArray, List.set_cons_zero, List.set_cons_succ]
  refine wpAnyH_ready (rs := [16]) (by kernel_rfl) (by simp) ?_
  refine AllReadyH.cons rfl (fun K hK => ?_) AllReadyH.nil
  go_simp
  refine (change_ok _ ⟨b1, u1, t1, f1, k1⟩ [] none 0 0 El.Row.nil (Nat.zero_le _) (by simp) (by simp)).mono ?_
  rw [show chgA ⟨b1, u1, t1, f1, k1⟩ [] = ⟨false, false, false, 0, 0⟩ from rfl]
  rintro e v4 ⟨rfl, hbx⟩
  have HSv4 := Lib.hid (below_next HSv3.out hbx)
  clear hbx
  dsimp only [styV]
  refine hK.out _ _ ?_ (fun hHeld => ?_)
  · exact HSv4.out
  clear hK K
  refine wpAnyH_take (i := 18) (v := ?vd18) rfl (by kernel_rfl) (by kernel_rfl) (by kernel_rfl) (fun _ _ _ h => h) (Or.inl ⟨by rfl, ?hd18⟩) (by assumption) ?_
  case hd18 => intro w hSw; (try dsimp only at hSw); obtain ⟨x0, x1, x2, x3, x4, _, _, _, _, _⟩ := (HA6.out.below hSw HA6.out.lt).cells; obtain ⟨y0, y1, y2, y3, y4, _, _, _, _, _⟩ := (HC6.out.below hSw HC6.out.lt).cells; simp only at x0 x1 x2 x3 x4 y0 y1 y2 y3 y4; obtain ⟨z0, z1, z2, z3, z4, _, _, _, _, _⟩ := (HW6.out.below hSw HW6.out.lt).cells; simp only at z0 z1 z2 z3 z4; go_simp; try with_reducible rfl
  simp only [List.getElem_toArray, List.getElem_cons_succ, List.getElem_cons_zero, Act.put, List.setIfInBounds_toArray, List.set_cons_zero, List.set_cons_succ]
  refine wpAnyH_take (i := 19) (v := ?vd19) rfl (by kernel_rfl) (by kernel_rfl) (by kernel_rfl) (fun _ _ _ h => h) (Or.inl ⟨by rfl, ?hd19⟩) (by assumption) ?_
  case hd19 => intro w hSw; (try dsimp only at hSw); obtain ⟨x0, x1, x2, x3, x4, _, _, _, _, _⟩ := (HA6.out.below hSw HA6.out.lt).cells; obtain ⟨y0, y1, y2, y3, y4, _, _, _, _, _⟩ := (HC6.out.below hSw HC6.out.lt).cells; simp only at x0 x1 x2 x3 x4 y0 y1 y2 y3 y4; obtain ⟨z0, z1, z2, z3, z4, _, _, _, _, _⟩ := (HW6.out.below hSw HW6.out.lt).cells; simp only at z0 z1 z2 z3 z4; go_simp; try with_reducible rfl
  simp only [List.getElem_toArray, List.getElem_cons_succ, List.getElem_cons_zero, Act.put, List.setIfInBounds_toArray, List.set_cons_zero, List.set_cons_succ]
  refine wpAnyH_take (i := 20) (v := ?vd20) rfl (by kernel_rfl) (by kernel_rfl) (by kernel_rfl) (fun _ _ _ h => h) (Or.inl ⟨by rfl, ?hd20⟩) (by assumption) ?_
  case hd20 => intro w hSw; (try dsimp only at hSw); obtain ⟨x0, x1, x2, x3, x4, _, _, _, _, _⟩ := (HA6.out.below hSw HA6.out.lt).cells; obtain ⟨y0, y1, y2, y3, y4, _, _, _, _, _⟩ := (HC6.out.below hSw HC6.out.lt).cells; simp only at x0 x1 x2 x3 x4 y0 y1 y2 y3 y4; obtain ⟨z0, z1, z2, z3, z4, _, _, _, _, _⟩ := (HW6.out.below hSw HW6.out.lt).cells; simp only at z0 z1 z2 z3 z4; go_simp; try with_reducible rfl
  simp only [List.getElem_toArray, List.getElem_cons_succ, List.getElem_cons_zero, Act.put, List.setIfInBounds_toArray, List.set_cons_zero, List.set_cons_succ]
  refine wpAnyH_take (i := 21) (v := ?vd21) rfl (by kernel_rfl) (by kernel_rfl) (by kernel_rfl) (fun _ _ _ h => h) (Or.inl ⟨by rfl, ?hd21⟩) (by assumption) ?_
  case hd21 => intro w hSw; (try dsimp only at hSw); obtain ⟨x0, x1, x2, x3, x4, _, _, _, _, _⟩ := (HA6.out.below hSw HA6.out.lt).cells; obtain ⟨y0, y1, y2, y3, y4, _, _, _, _, _⟩ := (HC6.out.below hSw HC6.out.lt).cells; simp only at x0 x1 x2 x3 x4 y0 y1 y2 y3 y4; obtain ⟨z0, z1, z2, z3, z4, _, _, _, _, _⟩ := (HW6.out.below hSw HW6.out.lt).cells; simp only at z0 z1 z2 z3 z4; go_simp; try with_reducible rfl
  simp only [List.getElem_toArray, List.getElem_cons_succ, List.getElem_cons_zero, Act.put, List.setIfInBounds_toArray, List.set_cons_zero, List.set_cons_succ]
  refine wpAnyH_ready (rs := [22]) (by kernel_rfl) (by simp) ?_
  refine AllReadyH.cons rfl (fun K hK => ?_) AllReadyH.nil
  go_simp
  refine (HPW.out _).mono ?_
  rintro e v5 ⟨rfl, hbx⟩
  have HSv5 := Lib.hid (below_next HSv4.out hbx)
  clear hbx
  dsimp only
  refine hK.out _ _ ?_ (fun hHeld => ?_)
  · exact HSv5.out
  clear hK K
  refine wpAnyH_take (i := 23) (v := ?ve23) rfl (by kernel_rfl) (by kernel_rfl) (by kernel_rfl) (fun _ _ _ h => h) (Or.inl ⟨by rfl, ?he23⟩) (by assumption) ?_
  case he23 => intro w hSw; (try dsimp only at hSw); go_simp; try with_reducible rfl
  simp only [List.getElem_toArray, List.getElem_cons_succ, List.getElem_cons_zero, Act.put, List.setIfInBounds_toArray, List.set_cons_zero, List.set_cons_succ]
  refine wpAnyH_take (i := 24) (v := ?ve24) rfl (by kernel_rfl) (by kernel_rfl) (by kernel_rfl) (fun _ _ _ h => h) (Or.inl ⟨by rfl, ?he24⟩) (by assumption) ?_
  case he24 => intro w hSw; (try dsimp only at hSw); go_simp; try with_reducible rfl
  simp only [List.getElem_toArray, List.getElem_cons_succ, List.getElem_cons_zero, Act.put, List.setIfInBounds_toArray, List.set_cons_zero, List.set_cons_succ]
  refine wpAnyH_done (by kernel_rfl) ?_ _
  refine NoPanic.normal ?_
  go_wp2_with fail
  go_ret
  exact ⟨rfl, HB6.out.trans (HSv5.out.mono HB6.out.size)⟩
theorem core (a b : Sty) (n : Int) (w : World) (hn : -9223372036854775808 ≤ n ∧ n ≤ 9223372036854775807) (hT : Tabs w) :
    Calls Tryd.prog 3 #[styV a, styV b, .int .i64 n] w fun e w' => e = .returned (.bool true) ∧ Below w.heap.size w w' := by
  rcases hp : sright a with _ | _ <;> rcases hq : sright b with _ | _
  · exact core00 a b n w hp hq hT
  · exact core01 a b n w hp hq hT
  · exact core10 a b n w hp hq hT
  · exact core11 a b n w hp hq hn hT
theorem walk (a b : Sty) (n : Int) (w : World) (hn : (Lit.int .i64 n).wf = true) (hT : Tabs w) :
    Calls Tryd.prog 3 #[styV a, styV b, .int .i64 n] w fun e w' => e = .returned (.bool true) ∧ Below w.heap.size w w' := by
  refine core a b n w ?_ hT
  have h := bounds_i64 hn
  omega

theorem own : ownKnob Tryd.prog.godebug = none := by kernel_rfl
theorem laidOut : laidOutB Tryd.prog = true := by kernel_rfl

set_option maxRecDepth 100000 in
theorem lifted (os : Os) (started : os.Started) (H : Type) (enc : TypeId × Value → H) :
    ReturnsInHanded {} Tryd.checked os 3 .any (fun w args => (Rows.cellStylesSpec.pre enc Tryd.prog Tryd.f3 Rows.cellStylesRow.domain false w args ∧ laidMetH Tryd.prog Rows.cellStylesRow.laid w) ∧ sizedMet enc Tryd.prog Tryd.f3 (OpenSpec.ofChange Rows.cellStylesSpec) false w args)
      (Rows.cellStylesSpec.post enc Tryd.prog Tryd.f3 false true false false) := by
  refine returnsInHanded_of_change_and (C := Tryd.checked) (X := fun w _ => laidMetH Tryd.prog Rows.cellStylesRow.laid w) (fun _ _ _ hh h => h.of_heap hh) own started (by kernel_rfl) Tryd.func3
    (ChangeSpec.witness_shaped (enc := enc) (C := Tryd.checked) (os := os) (X := fun w _ => laidMetH Tryd.prog Rows.cellStylesRow.laid w) false (start8 os) #[.agg #[.bool false, .bool false, .bool false, .int .i64 0, .int .i64 0], .agg #[.bool false, .bool false, .bool false, .int .i64 0, .int .i64 0], .int .i64 0] 8 rfl (World.shaped_of_RefB (by kernel_rfl) (by kernel_rfl)) (by kernel_rfl) (by kernel_rfl) (by kernel_rfl) (met_cellStyles os _)) ?_
  intro W base args ds gs before hval0 hW _ _ hL _
  have hval : ∀ (j : Nat) t v, Tryd.f3.params[j]? = some t → args[j]? = some v → Value.okWide Tryd.prog W .any base t v := hval0
  have hW' := hW
  obtain ⟨p, q, hA0, hV, rfl, hfz, hnd⟩ := hW
  have hA : DataW.TrodAll enc Tryd.prog W 0 (fun _ => true) true Tryd.f3.params.toList args.toList ds p := hA0
  rw [Tryd.params3] at hA hval
  obtain ⟨v0, vs0, d0, ds0, p0, q0, hargs, rfl, rfl, h0, r0⟩ := trodAll_cons hA
  obtain ⟨v1, vs1, d1, ds1, p1, q1, rfl, rfl, rfl, h1, r1⟩ := trodAll_cons r0
  obtain ⟨v2, vs2, d2, ds2, p2, q2, rfl, rfl, rfl, h2, r2⟩ := trodAll_cons r1
  obtain ⟨rfl, rfl, rfl⟩ := trodAll_nil r2
  obtain rfl : args = #[v0, v1, v2] := by cases args; simp_all
  obtain ⟨rfl, rfl⟩ := trodVars_none hV
  have k0 := h0
  have lt0 : ∀ x ∈ p0, x.block < W.heap.size := by obtain ⟨m, hm⟩ := k0; exact DataW.trod_lt m _ _ _ hm
  obtain ⟨a0, rfl⟩ := open_style (hval 0 23 v0 rfl rfl) h0
  have k1 := h1
  have lt1 : ∀ x ∈ p1, x.block < W.heap.size := by obtain ⟨m, hm⟩ := k1; exact DataW.trod_lt m _ _ _ hm
  obtain ⟨a1, rfl⟩ := open_style (hval 1 23 v1 rfl rfl) h1
  obtain ⟨a2, rfl, rfl, rfl, w2⟩ := open_int Tryd.underlying3 (hval 2 3 v2 rfl rfl) h2
  clear hA0 hval0
  refine (walk a0 a1 a2 W w2 (tabs_cellStyles hL)).mono fun e W' ⟨he, bel⟩ => ?_
  subst he
  exact ⟨_, rfl, _, _, _, [], _, [], hW', trodAll_mk1 (shut_bool Tryd.underlying4 _), (trodAll_cons_mk (Below.trod laidOut (by kernel_rfl) (of_decide_eq_true (by kernel_rfl)) k0 bel lt0) (trodAll_cons_mk (Below.trod laidOut (by kernel_rfl) (of_decide_eq_true (by kernel_rfl)) k1 bel lt1) (trodAll_cons_mk (shut_int Tryd.underlying3 w2) trodAll_mk0))), rfl, bel.frame _, fun h => by cases h⟩

theorem over : Rows.cellStylesRow.holds Tryd.pinned (OpenSpec.ofChange Rows.cellStylesSpec) :=
  OpenClaim.holds_of_wide 3 Tryd.f3 rfl rfl rfl rfl rfl rfl rfl ⟨rfl, rfl, rfl, rfl, rfl⟩ rfl rfl rfl rfl rfl (by kernel_rfl) Tryd.func3 (by kernel_rfl)
    (of_decide_eq_true (by kernel_rfl)) (by unfold Func.isWrapper; first | (rw [if_pos (by decide +kernel)]; kernel_rfl) | (rw [if_neg (by decide +kernel)]; exact ⟨rfl, rfl⟩))
    (fun os started H enc _ => lifted os started H enc)

theorem cardOver : Rows.CellStylesCardSaid :=
  Claim7.holds_tied_plain_at .later [] [.data] true (true, "4f396e1d14b963e642369da60c586bea4ab32b1863cbf0082d54e6225053dd77") false
    over (fun _ h => by cases h) (by kernel_rfl) (fun _ h => by cases h) cellStyles_row_tie rfl ⟨rfl, rfl⟩ (by kernel_rfl) rfl
    (fun f fn hf hfn => by
      obtain rfl : f = 3 := Option.some.inj ((show Tryd.prog.funcNamed Rows.cellStylesRow.func = some 3 by kernel_rfl).symm.trans hf) |>.symm
      obtain rfl : fn = Tryd.f3 := (Option.some.inj (Tryd.func3.symm.trans hfn)).symm
      exact ⟨by kernel_rfl, fun j t ht => by
        rw [Tryd.params3] at ht
        have hm : t ∈ [23, 23, 3] := by simpa using Array.mem_of_getElem? ht
        have hall : ([23, 23, 3].all fun u => !Tryd.prog.wantsStandIn u) = true := by kernel_rfl
        exact (show Tryd.prog.wantsStandIn t = false by simpa using List.all_eq_true.1 hall t hm)⟩)
    (by kernel_rfl)

end Go.Proofs.YtalngmegenlfgaaDoor.cellStyles
namespace Go.Proofs.YtalngmegenlfgaaDoor
theorem cellStyles_holds : Rows.CellStylesCardSaid := cellStyles.cardOver
end Go.Proofs.YtalngmegenlfgaaDoor
