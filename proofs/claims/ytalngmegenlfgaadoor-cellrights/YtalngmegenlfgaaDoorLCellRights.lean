/-
  CellRights: a cell, and a style, may be just as the document says; styles come back from their bytes. For every cell and all bytes; the package's table of wide runes as the program's text lays it.
-/
import Derived.Test.YtalngmegenlfgaaDoorKPut
import Derived.Test.YtalngmegenlfgaaDoorKFit
import Derived.Test.YtalngmegenlfgaaDoorKOpen
import Derived.Test.YtalngmegenlfgaaDoorKCond
import Derived.Test.YtalngmegenlfgaaDoorCards
import Derived.Test.YtalngmegenlfgaaDoorTie
import Derived.Deep.RegionHeld3
import Derived.OpenShut
import Derived.HandedFrom
import Derived.ChangeSame
import Derived.ChangeVars
import Derived.JoinedOf
import Derived.JoinedAt
namespace Go.Proofs.YtalngmegenlfgaaDoor.cellRights
open Go.ChangeShapes Go.WideShapes Go.ChangeAt Go.RowKit Go.Lib KM

theorem takeS_enc (s : Sty) (h : sright s = true) (rest : List Nat) : takeS (VM.enc (snum s) ++ rest) false = (some s, rest, false) := by
  have hs := snum_lt s h
  have n3 : ¬ 2048 ≤ snum s := by omega
  unfold takeS
  rw [numOf_enc (snum s) _ _ _ (by omega), if_neg n3]
  simp only [styOf_snum s h, h]
  simp
theorem takeS_right (l : List Nat) (bad : Bool) (x : Sty) (h : (takeS l bad).1 = some x) : sright x = true := by
  unfold takeS at h
  simp only at h
  split at h
  · rename_i hh
    simp only [Option.some.injEq] at h
    rw [← h]
    exact hh.2
  · cases h

set_option maxRecDepth 100000 in
set_option maxHeartbeats 1000000 in
theorem core0 (c : Cel) (A : Option Addr) (n cap : Nat) (w : World) (h : 100 < n) (hT : Tabs w) :
    Calls Tryd.prog 5 #[celV c, .slice A n cap] w fun e w' => e = .returned (.bool true) ∧ Below w.heap.size w w' := by
  obtain ⟨r, ⟨b, u, t, f, k⟩⟩ := c
  simp only [celV]
  obtain ⟨w1, hw1⟩ : ∃ w1, w1 = w.alloc (.cells #[.int .i32 r, .bool b, .bool u, .bool t, .int .i64 f, .int .i64 k] 33) := ⟨_, rfl⟩
  have hb1 : Below w.heap.size w w1 := by rw [hw1]; exact (Below.refl _ _).alloc (Nat.le_refl _) _
  have W1 := Lib.hid hw1
  have HB1 := Lib.hid hb1
  have HT1 := Lib.hid (hT.on hb1 hT.room)
  clear hw1 hb1 hT
  have g1 : decide ((100 : Int) < (n : Int)) = true := by simp; omega
  go_enter Tryd.func5, Tryd.ntmps5
  go_wp2_with fail
  rw [← W1.out]
  refine (fit_ok w1 HT1.out).mono ?_
  rintro e w2 ⟨rfl, b2⟩
  have HB2 := Lib.hid (below_next HB1.out b2)
  clear b2
  go_wp2_with fail
  go_ret
  exact ⟨rfl, HB2.out⟩

set_option maxRecDepth 100000 in
set_option maxHeartbeats 2000000 in
theorem core1 (c : Cel) (A : Option Addr) (l : List Nat) (cap : Nat) (w : World) (hq : sright c.sty = false) (h : l.length ≤ 100) (hT : Tabs w) :
    Calls Tryd.prog 5 #[celV c, .slice A l.length cap] w fun e w' => e = .returned (.bool true) ∧ Below w.heap.size w w' := by
  have HPS := Lib.hid (fun v => style_ok v c.sty)
  have HRS := Lib.hid (fun v => rstyle_ok v c.sty)
  have HCR := Lib.hid (fun v => cright_ok v c)
  have ecr : cright c = false := by unfold cright; rw [hq]; simp
  rw [hq] at HPS HRS
  rw [ecr] at HCR
  obtain ⟨r, ⟨b, u, t, f, k⟩⟩ := c
  simp only [celV, styV] at *
  clear hq ecr
  obtain ⟨w1, hw1⟩ : ∃ w1, w1 = w.alloc (.cells #[.int .i32 r, .bool b, .bool u, .bool t, .int .i64 f, .int .i64 k] 33) := ⟨_, rfl⟩
  have hb1 : Below w.heap.size w w1 := by rw [hw1]; exact (Below.refl _ _).alloc (Nat.le_refl _) _
  have hc1 : CelAt w1 w.heap.size ⟨r, ⟨b, u, t, f, k⟩⟩ := by rw [hw1]; exact heap_alloc_new w _
  have W1 := Lib.hid hw1
  have HB1 := Lib.hid hb1
  have HC1 := Lib.hid hc1
  have HT1 := Lib.hid (hT.on hb1 hT.room)
  clear hw1 hb1 hT hc1
  have g1 : decide ((100 : Int) < (l.length : Int)) = false := by simp; omega
  go_enter Tryd.func5, Tryd.ntmps5
  go_wp2_with fail
  rw [← W1.out]
  refine (fit_ok w1 HT1.out).mono ?_
  rintro e w2 ⟨rfl, b2⟩
  have HB2 := Lib.hid (below_next HB1.out b2)
  have HC2 := Lib.hid (HC1.out.below b2 HC1.out.lt)
  clear b2
  obtain ⟨x0, x1, x2, x3, x4, x5⟩ := HC2.out.cells
  simp only at x0 x1 x2 x3 x4 x5
  go_upto_region 6 with fail
  obtain ⟨w3, hw3⟩ : ∃ w3, w3 = w2.alloc (.cells #[.bool b, .bool u, .bool t, .int .i64 f, .int .i64 k] 23) := ⟨_, rfl⟩
  rw [← hw3]
  have b3 : Below w2.heap.size w2 w3 := by rw [hw3]; exact (Below.refl _ _).alloc (Nat.le_refl _) _
  have HS3 := Lib.hid (show StyAt w3 w2.heap.size ⟨b, u, t, f, k⟩ by rw [hw3]; exact heap_alloc_new w2 _)
  have HC3 := Lib.hid (HC2.out.below b3 HC2.out.lt)
  have HB3 := Lib.hid (below_next HB2.out b3)
  clear b3 hw3 x0 x1 x2 x3 x4 x5
  refine wp_region_noPanic ?_
  refine wp_region_held_drew (S := fun v => Below w3.heap.size w3 v) (by kernel_rfl) (Below.refl _ _).drew (fun hHeld => ?_)
  have HSd := Lib.hid hHeld
  refine wpAnyH_take (i := 0) (v := ?va0) rfl (by kernel_rfl) (by kernel_rfl) (by kernel_rfl) (fun _ _ _ h => h) (Or.inl ⟨by rfl, ?ha0⟩) (by assumption) ?_
  case ha0 => intro w hSw; (try dsimp only at hSw); obtain ⟨x0, x1, x2, x3, x4, _, _, _, _, _⟩ := (HS3.out.below hSw HS3.out.lt).cells; simp only at x0 x1 x2 x3 x4; go_simp; try with_reducible rfl
  simp only [List.getElem_toArray, List.getElem_cons_zero, Act.put, List.setIfInBounds_toArray, List.set_cons_zero, List.set_cons_succ]
  refine wpAnyH_take (i := 2) (v := ?va2) rfl (by kernel_rfl) (by kernel_rfl) (by kernel_rfl) (fun _ _ _ h => h) (Or.inl ⟨by rfl, ?ha2⟩) (by assumption) ?_
  case ha2 => intro w hSw; (try dsimp only at hSw); obtain ⟨x0, x1, x2, x3, x4, _, _, _, _, _⟩ := (HS3.out.below hSw HS3.out.lt).cells; simp only at x0 x1 x2 x3 x4; go_simp; try with_reducible rfl
  simp only [List.getElem_toArray, List.getElem_cons_succ, List.getElem_cons_zero, Act.put, List.setIfInBounds_toArray, List.set_cons_zero, List.set_cons_succ]
  refine wpAnyH_ready (rs := [1]) (by kernel_rfl) (by simp) ?_
  refine AllReadyH.cons rfl (fun K hK => ?_) AllReadyH.nil
  go_simp
  refine (HPS.out _).mono ?_
  rintro e v1 ⟨rfl, hbx⟩
  have HSv1 := Lib.hid (below_next HSd.out hbx)
  clear hbx
  dsimp only
  refine hK.out _ _ ?_ (fun hHeld => ?_)
  · exact HSv1.out
  clear hK K
  refine wpAnyH_ready (rs := [3]) (by kernel_rfl) (by simp) ?_
  refine AllReadyH.cons rfl (fun K hK => ?_) AllReadyH.nil
  go_simp
  refine (HRS.out _).mono ?_
  rintro e v2 ⟨rfl, hbx⟩
  have HSv2 := Lib.hid (below_next HSv1.out hbx)
  clear hbx
  dsimp only
  refine hK.out _ _ ?_ (fun hHeld => ?_)
  · exact HSv2.out
  clear hK K
  refine wpAnyH_take (i := 4) (v := ?vb4) rfl (by kernel_rfl) (by kernel_rfl) (by kernel_rfl) (fun _ _ _ h => h) (Or.inl ⟨by rfl, ?hb4⟩) (by assumption) ?_
  case hb4 => intro w hSw; (try dsimp only at hSw); obtain ⟨x0, x1, x2, x3, x4, _, _, _, _, _⟩ := (HS3.out.below hSw HS3.out.lt).cells; simp only at x0 x1 x2 x3 x4; obtain ⟨y0, y1, y2, y3, y4, y5⟩ := (HC3.out.below hSw HC3.out.lt).cells; simp only at y0 y1 y2 y3 y4 y5; go_simp; try with_reducible rfl
  simp only [List.getElem_toArray, List.getElem_cons_succ, List.getElem_cons_zero, Act.put, List.setIfInBounds_toArray, List.set_cons_zero, List.set_cons_succ]
  refine wpAnyH_take (i := 5) (v := ?vb5) rfl (by kernel_rfl) (by kernel_rfl) (by kernel_rfl) (fun _ _ _ h => h) (Or.inl ⟨by rfl, ?hb5⟩) (by assumption) ?_
  case hb5 => intro w hSw; (try dsimp only at hSw); obtain ⟨x0, x1, x2, x3, x4, _, _, _, _, _⟩ := (HS3.out.below hSw HS3.out.lt).cells; simp only at x0 x1 x2 x3 x4; obtain ⟨y0, y1, y2, y3, y4, y5⟩ := (HC3.out.below hSw HC3.out.lt).cells; simp only at y0 y1 y2 y3 y4 y5; go_simp; try with_reducible rfl
  simp only [List.getElem_toArray, List.getElem_cons_succ, List.getElem_cons_zero, Act.put, List.setIfInBounds_toArray, List.set_cons_zero, List.set_cons_succ]
  refine wpAnyH_take (i := 6) (v := ?vb6) rfl (by kernel_rfl) (by kernel_rfl) (by kernel_rfl) (fun _ _ _ h => h) (Or.inl ⟨by rfl, ?hb6⟩) (by assumption) ?_
  case hb6 => intro w hSw; (try dsimp only at hSw); obtain ⟨x0, x1, x2, x3, x4, _, _, _, _, _⟩ := (HS3.out.below hSw HS3.out.lt).cells; simp only at x0 x1 x2 x3 x4; obtain ⟨y0, y1, y2, y3, y4, y5⟩ := (HC3.out.below hSw HC3.out.lt).cells; simp only at y0 y1 y2 y3 y4 y5; go_simp; try with_reducible rfl
  simp only [List.getElem_toArray, List.getElem_cons_succ, List.getElem_cons_zero, Act.put, List.setIfInBounds_toArray, List.set_cons_zero, List.set_cons_succ]
  refine wpAnyH_take (i := 8) (v := ?vb8) rfl (by kernel_rfl) (by kernel_rfl) (by kernel_rfl) (fun _ _ _ h => h) (Or.inl ⟨by rfl, ?hb8⟩) (by assumption) ?_
  case hb8 => intro w hSw; (try dsimp only at hSw); obtain ⟨x0, x1, x2, x3, x4, _, _, _, _, _⟩ := (HS3.out.below hSw HS3.out.lt).cells; simp only at x0 x1 x2 x3 x4; obtain ⟨y0, y1, y2, y3, y4, y5⟩ := (HC3.out.below hSw HC3.out.lt).cells; simp only at y0 y1 y2 y3 y4 y5; go_simp; try with_reducible rfl
  simp only [List.getElem_toArray, List.getElem_cons_succ, List.getElem_cons_zero, Act.put, List.setIfInBounds_toArray, List.set_cons_zero, List.set_cons_succ]
  refine wpAnyH_ready (rs := [7]) (by kernel_rfl) (by simp) ?_
  refine AllReadyH.cons rfl (fun K hK => ?_) AllReadyH.nil
  go_simp
  refine (HCR.out _).mono ?_
  rintro e v3 ⟨rfl, hbx⟩
  have HSv3 := Lib.hid (below_next HSv2.out hbx)
  clear hbx
  dsimp only
  refine hK.out _ _ ?_ (fun hHeld => ?_)
  · exact HSv3.out
  clear hK K
  refine wpAnyH_ready (rs := [9]) (by kernel_rfl) (by simp) ?_
  refine AllReadyH.cons rfl (fun K hK => ?_) AllReadyH.nil
  go_simp
  refine (HRS.out _).mono ?_
  rintro e v4 ⟨rfl, hbx⟩
  have HSv4 := Lib.hid (below_next HSv3.out hbx)
  clear hbx
  dsimp only
  refine hK.out _ _ ?_ (fun hHeld => ?_)
  · exact HSv4.out
  clear hK K
  refine wpAnyH_take (i := 10) (v := ?vc10) rfl (by kernel_rfl) (by kernel_rfl) (by kernel_rfl) (fun _ _ _ h => h) (Or.inl ⟨by rfl, ?hc10⟩) (by assumption) ?_
  case hc10 => intro w hSw; (try dsimp only at hSw); go_simp; try with_reducible rfl
  simp only [List.getElem_toArray, List.getElem_cons_succ, List.getElem_cons_zero, Act.put, List.setIfInBounds_toArray, List.set_cons_zero, List.set_cons_succ]
  refine wpAnyH_take (i := 11) (v := undef) rfl (by kernel_rfl) (by kernel_rfl) (by kernel_rfl) (fun _ _ _ h => h) (Or.inr ⟨by rfl, rfl⟩) (by assumption) ?_
  simp only [List.getElem_toArray, List.getElem_cons_succ, List.getElem_cons_zero, Act.put, List.setIfInBounds_toArray, List.set_cons_zero, List.set_cons_succ]
  refine wpAnyH_take (i := 12) (v := undef) rfl (by kernel_rfl) (by kernel_rfl) (by kernel_rfl) (fun _ _ _ h => h) (Or.inr ⟨by rfl, rfl⟩) (by assumption) ?_
  simp only [List.getElem_toArray, List.getElem_cons_succ, List.getElem_cons_zero, Act.put, List.setIfInBounds_toArray, List.set_cons_zero, List.set_cons_succ]
  refine wpAnyH_take (i := 13) (v := undef) rfl (by kernel_rfl) (by kernel_rfl) (by kernel_rfl) (fun _ _ _ h => h) (Or.inr ⟨by rfl, rfl⟩) (by assumption) ?_
  simp only [List.getElem_toArray, List.getElem_cons_succ, List.getElem_cons_zero, Act.put, List.setIfInBounds_toArray, List.set_cons_zero, List.set_cons_succ]
  refine wpAnyH_take (i := 14) (v := ?vd14) rfl (by kernel_rfl) (by kernel_rfl) (by kernel_rfl) (fun _ _ _ h => h) (Or.inl ⟨by rfl, ?hd14⟩) (by assumption) ?_
  case hd14 => intro w hSw; (try dsimp only at hSw); go_simp; try with_reducible rfl
  simp only [List.getElem_toArray, List.getElem_cons_succ, List.getElem_cons_zero, Act.put, List.setIfInBounds_toArray, List.set_cons_zero, List.set_cons_succ]
  refine wpAnyH_take (i := 15) (v := ?vd15) rfl (by kernel_rfl) (by kernel_rfl) (by kernel_rfl) (fun _ _ _ h => h) (Or.inl ⟨by rfl, ?hd15⟩) (by assumption) ?_
  case hd15 => intro w hSw; (try dsimp only at hSw); go_simp; try with_reducible rfl
  simp only [List.getElem_toArray, List.getElem_cons_succ, List.getElem_cons_zero, Act.put, List.setIfInBounds_toArray, List.set_cons_zero, List.set_cons_succ]
  refine wpAnyH_take (i := 16) (v := ?vd16) rfl (by kernel_rfl) (by kernel_rfl) (by kernel_rfl) (fun _ _ _ h => h) (Or.inl ⟨by rfl, ?hd16⟩) (by assumption) ?_
  case hd16 => intro w hSw; (try dsimp only at hSw); go_simp; try with_reducible rfl
  simp only [List.getElem_toArray, List.getElem_cons_succ, List.getElem_cons_zero, Act.put, List.setIfInBounds_toArray, List.set_cons_zero, List.set_cons_succ]
  refine wpAnyH_done (by kernel_rfl) ?_ _
  refine NoPanic.normal ?_
  obtain ⟨x0, x1, x2, x3, x4, _, _, _, _, _⟩ := (HS3.out.below HSv4.out HS3.out.lt).cells
  simp only at x0 x1 x2 x3 x4
  go_wp2_with fail
  refine (HRS.out v4).mono ?_
  rintro e v5 ⟨rfl, hbx⟩
  have HSv5 := Lib.hid (below_next HSv4.out hbx)
  clear hbx
  go_wp2_with fail
  go_ret
  exact ⟨rfl, HB3.out.trans (HSv5.out.mono HB3.out.size)⟩

set_option maxRecDepth 100000 in
set_option maxHeartbeats 4000000 in
theorem core2 (c : Cel) (A : Option Addr) (l : List Nat) (cap : Nat) (w : World) (hq : sright c.sty = true) (h : l.length ≤ 100) (hA : A = none → cap = 0) (hr : Row w w.heap.size .u8 A l) (hby : ∀ x ∈ l, x < 256) (hT : Tabs w) :
    Calls Tryd.prog 5 #[celV c, .slice A l.length cap] w fun e w' => e = .returned (.bool true) ∧ Below w.heap.size w w' := by
  have HPS := Lib.hid (fun v => style_ok v c.sty)
  have HRS := Lib.hid (fun v => rstyle_ok v c.sty)
  have HCR := Lib.hid (fun v => cright_ok v c)
  have HRR := Lib.hid (fun v => rright_ok v c.rune)
  have HBL := Lib.hid (fun v => blank_ok v c.sty)
  have ecr : cright c = GM.right c.rune := by unfold cright; rw [hq]; simp
  have HPT := Lib.hid (fun (v : World) => putStyle_ok (.slice none 0 0) [] c.sty v v.heap.size hq (by simp) (Own.nil _ _) (Nat.le_refl _))
  have HTE := Lib.hid (takeS_enc c.sty hq l)
  have HTR := Lib.hid (takeS_right l false)
  have hsl : (VM.enc (snum c.sty)).length ≤ 10 := VM.enc_len64 (by have := snum_lt c.sty hq; omega)
  have HEB := Lib.hid (VM.enc_byte (snum c.sty))
  rw [hq] at HPS HRS
  rw [ecr] at HCR
  have HA := Lib.hid hA
  have HR := Lib.hid hr
  have HBY := Lib.hid hby
  obtain ⟨r, ⟨b, u, t, f, k⟩⟩ := c
  have eqS := fun v => run_eqS' v ⟨b, u, t, f, k⟩ ⟨b, u, t, f, k⟩
  have eqB := fun v => run_eqS' v ⟨false, false, false, 0, k⟩ ⟨false, false, false, 0, k⟩
  have eqZ := fun v => run_eqS' v KM.zero KM.zero
  have hbb := fun v => build_back v k
  have hbz := fun v => build_zero v
  simp only [celV, styV, KM.zero, decide_true, List.nil_append] at *
  generalize VM.enc (snum ⟨b, u, t, f, k⟩) = E at *
  generalize GM.right r = rb at *
  clear hq ecr hA hr hby
  obtain ⟨w1, hw1⟩ : ∃ w1, w1 = w.alloc (.cells #[.int .i32 r, .bool b, .bool u, .bool t, .int .i64 f, .int .i64 k] 33) := ⟨_, rfl⟩
  have hb1 : Below w.heap.size w w1 := by rw [hw1]; exact (Below.refl _ _).alloc (Nat.le_refl _) _
  have hc1 : CelAt w1 w.heap.size ⟨r, ⟨b, u, t, f, k⟩⟩ := by rw [hw1]; exact heap_alloc_new w _
  have W1 := Lib.hid hw1
  have HB1 := Lib.hid hb1
  have HC1 := Lib.hid hc1
  have HT1 := Lib.hid (hT.on hb1 hT.room)
  clear hw1 hb1 hT hc1
  have g1 : decide ((100 : Int) < (l.length : Int)) = false := by simp; omega
  go_enter Tryd.func5, Tryd.ntmps5
  go_wp2_with fail
  rw [← W1.out]
  refine (fit_ok w1 HT1.out).mono ?_
  rintro e w2 ⟨rfl, b2⟩
  have HB2 := Lib.hid (below_next HB1.out b2)
  have HC2 := Lib.hid (HC1.out.below b2 HC1.out.lt)
  clear b2
  obtain ⟨x0, x1, x2, x3, x4, x5⟩ := HC2.out.cells
  simp only at x0 x1 x2 x3 x4 x5
  go_upto_region 6 with fail
  obtain ⟨w3, hw3⟩ : ∃ w3, w3 = w2.alloc (.cells #[.bool b, .bool u, .bool t, .int .i64 f, .int .i64 k] 23) := ⟨_, rfl⟩
  rw [← hw3]
  have b3 : Below w2.heap.size w2 w3 := by rw [hw3]; exact (Below.refl _ _).alloc (Nat.le_refl _) _
  have HS3 := Lib.hid (show StyAt w3 w2.heap.size ⟨b, u, t, f, k⟩ by rw [hw3]; exact heap_alloc_new w2 _)
  have HC3 := Lib.hid (HC2.out.below b3 HC2.out.lt)
  have HB3 := Lib.hid (below_next HB2.out b3)
  have z3 := HB3.out.size
  clear b3 hw3 x0 x1 x2 x3 x4 x5
  refine wp_region_noPanic ?_
  refine wp_region_held_drew (S := fun v => Below w3.heap.size w3 v) (by kernel_rfl) (Below.refl _ _).drew (fun hHeld => ?_)
  have HSd := Lib.hid hHeld
  refine wpAnyH_take (i := 0) (v := ?va0) rfl (by kernel_rfl) (by kernel_rfl) (by kernel_rfl) (fun _ _ _ h => h) (Or.inl ⟨by rfl, ?ha0⟩) (by assumption) ?_
  case ha0 => intro w hSw; (try dsimp only at hSw); obtain ⟨x0, x1, x2, x3, x4, _, _, _, _, _⟩ := (HS3.out.below hSw HS3.out.lt).cells; simp only at x0 x1 x2 x3 x4; go_simp; try with_reducible rfl
  simp only [List.getElem_toArray, List.getElem_cons_zero, Act.put, List.setIfInBounds_toArray, List.set_cons_zero, List.set_cons_succ]
  refine wpAnyH_take (i := 2) (v := ?va2) rfl (by kernel_rfl) (by kernel_rfl) (by kernel_rfl) (fun _ _ _ h => h) (Or.inl ⟨by rfl, ?ha2⟩) (by assumption) ?_
  case ha2 => intro w hSw; (try dsimp only at hSw); obtain ⟨x0, x1, x2, x3, x4, _, _, _, _, _⟩ := (HS3.out.below hSw HS3.out.lt).cells; simp only at x0 x1 x2 x3 x4; go_simp; try with_reducible rfl
  simp only [List.getElem_toArray, List.getElem_cons_succ, List.getElem_cons_zero, Act.put, List.setIfInBounds_toArray, List.set_cons_zero, List.set_cons_succ]
  refine wpAnyH_ready (rs := [1]) (by kernel_rfl) (by simp) ?_
  refine AllReadyH.cons rfl (fun K hK => ?_) AllReadyH.nil
  go_simp
  refine (HPS.out _).mono ?_
  rintro e v1 ⟨rfl, hbx⟩
  have HSv1 := Lib.hid (below_next HSd.out hbx)
  clear hbx
  dsimp only
  refine hK.out _ _ ?_ (fun hHeld => ?_)
  · exact HSv1.out
  clear hK K
  refine wpAnyH_ready (rs := [3]) (by kernel_rfl) (by simp) ?_
  refine AllReadyH.cons rfl (fun K hK => ?_) AllReadyH.nil
  go_simp
  refine (HRS.out _).mono ?_
  rintro e v2 ⟨rfl, hbx⟩
  have HSv2 := Lib.hid (below_next HSv1.out hbx)
  clear hbx
  dsimp only
  refine hK.out _ _ ?_ (fun hHeld => ?_)
  · exact HSv2.out
  clear hK K
  refine wpAnyH_take (i := 4) (v := ?vb4) rfl (by kernel_rfl) (by kernel_rfl) (by kernel_rfl) (fun _ _ _ h => h) (Or.inl ⟨by rfl, ?hb4⟩) (by assumption) ?_
  case hb4 => intro w hSw; (try dsimp only at hSw); obtain ⟨x0, x1, x2, x3, x4, _, _, _, _, _⟩ := (HS3.out.below hSw HS3.out.lt).cells; simp only at x0 x1 x2 x3 x4; obtain ⟨y0, y1, y2, y3, y4, y5⟩ := (HC3.out.below hSw HC3.out.lt).cells; simp only at y0 y1 y2 y3 y4 y5; go_simp; try with_reducible rfl
  simp only [List.getElem_toArray, List.getElem_cons_succ, List.getElem_cons_zero, Act.put, List.setIfInBounds_toArray, List.set_cons_zero, List.set_cons_succ]
  refine wpAnyH_take (i := 5) (v := ?vb5) rfl (by kernel_rfl) (by kernel_rfl) (by kernel_rfl) (fun _ _ _ h => h) (Or.inl ⟨by rfl, ?hb5⟩) (by assumption) ?_
  case hb5 => intro w hSw; (try dsimp only at hSw); obtain ⟨x0, x1, x2, x3, x4, _, _, _, _, _⟩ := (HS3.out.below hSw HS3.out.lt).cells; simp only at x0 x1 x2 x3 x4; obtain ⟨y0, y1, y2, y3, y4, y5⟩ := (HC3.out.below hSw HC3.out.lt).cells; simp only at y0 y1 y2 y3 y4 y5; go_simp; try with_reducible rfl
  simp only [List.getElem_toArray, List.getElem_cons_succ, List.getElem_cons_zero, Act.put, List.setIfInBounds_toArray, List.set_cons_zero, List.set_cons_succ]
  refine wpAnyH_take (i := 6) (v := ?vb6) rfl (by kernel_rfl) (by kernel_rfl) (by kernel_rfl) (fun _ _ _ h => h) (Or.inl ⟨by rfl, ?hb6⟩) (by assumption) ?_
  case hb6 => intro w hSw; (try dsimp only at hSw); obtain ⟨x0, x1, x2, x3, x4, _, _, _, _, _⟩ := (HS3.out.below hSw HS3.out.lt).cells; simp only at x0 x1 x2 x3 x4; obtain ⟨y0, y1, y2, y3, y4, y5⟩ := (HC3.out.below hSw HC3.out.lt).cells; simp only at y0 y1 y2 y3 y4 y5; go_simp; try with_reducible rfl
  simp only [List.getElem_toArray, List.getElem_cons_succ, List.getElem_cons_zero, Act.put, List.setIfInBounds_toArray, List.set_cons_zero, List.set_cons_succ]
  refine wpAnyH_take (i := 8) (v := ?vb8) rfl (by kernel_rfl) (by kernel_rfl) (by kernel_rfl) (fun _ _ _ h => h) (Or.inl ⟨by rfl, ?hb8⟩) (by assumption) ?_
  case hb8 => intro w hSw; (try dsimp only at hSw); obtain ⟨x0, x1, x2, x3, x4, _, _, _, _, _⟩ := (HS3.out.below hSw HS3.out.lt).cells; simp only at x0 x1 x2 x3 x4; obtain ⟨y0, y1, y2, y3, y4, y5⟩ := (HC3.out.below hSw HC3.out.lt).cells; simp only at y0 y1 y2 y3 y4 y5; go_simp; try with_reducible rfl
  simp only [List.getElem_toArray, List.getElem_cons_succ, List.getElem_cons_zero, Act.put, List.setIfInBounds_toArray, List.set_cons_zero, List.set_cons_succ]
  refine wpAnyH_ready (rs := [7]) (by kernel_rfl) (by simp) ?_
  refine AllReadyH.cons rfl (fun K hK => ?_) AllReadyH.nil
  go_simp
  refine (HCR.out _).mono ?_
  rintro e v3 ⟨rfl, hbx⟩
  have HSv3 := Lib.hid (below_next HSv2.out hbx)
  clear hbx
  dsimp only
  refine hK.out _ _ ?_ (fun hHeld => ?_)
  · exact HSv3.out
  clear hK K
  refine wpAnyH_ready (rs := [9]) (by kernel_rfl) (by simp) ?_
  refine AllReadyH.cons rfl (fun K hK => ?_) AllReadyH.nil
  go_simp
  refine (HRS.out _).mono ?_
  rintro e v4 ⟨rfl, hbx⟩
  have HSv4 := Lib.hid (below_next HSv3.out hbx)
  clear hbx
  dsimp only
  refine hK.out _ _ ?_ (fun hHeld => ?_)
  · exact HSv4.out
  clear hK K
  refine wpAnyH_take (i := 10) (v := ?vc10) rfl (by kernel_rfl) (by kernel_rfl) (by kernel_rfl) (fun _ _ _ h => h) (Or.inl ⟨by rfl, ?hc10⟩) (by assumption) ?_
  case hc10 => intro w hSw; (try dsimp only at hSw); obtain ⟨y0, y1, y2, y3, y4, y5⟩ := (HC3.out.below hSw HC3.out.lt).cells; simp only at y0 y1 y2 y3 y4 y5; go_simp; try with_reducible rfl
  simp only [List.getElem_toArray, List.getElem_cons_succ, List.getElem_cons_zero, Act.put, List.setIfInBounds_toArray, List.set_cons_zero, List.set_cons_succ]
  refine wpAnyH_take (i := 11) (v := ?vc11) rfl (by kernel_rfl) (by kernel_rfl) (by kernel_rfl) (fun _ _ _ h => h) (Or.inl ⟨by rfl, ?hc11⟩) (by assumption) ?_
  case hc11 => intro w hSw; (try dsimp only at hSw); obtain ⟨y0, y1, y2, y3, y4, y5⟩ := (HC3.out.below hSw HC3.out.lt).cells; simp only at y0 y1 y2 y3 y4 y5; go_simp; try with_reducible rfl
  simp only [List.getElem_toArray, List.getElem_cons_succ, List.getElem_cons_zero, Act.put, List.setIfInBounds_toArray, List.set_cons_zero, List.set_cons_succ]
  refine wpAnyH_take (i := 12) (v := ?vc12) rfl (by kernel_rfl) (by kernel_rfl) (by kernel_rfl) (fun _ _ _ h => h) (Or.inl ⟨by rfl, ?hc12⟩) (by assumption) ?_
  case hc12 => intro w hSw; (try dsimp only at hSw); obtain ⟨y0, y1, y2, y3, y4, y5⟩ := (HC3.out.below hSw HC3.out.lt).cells; simp only at y0 y1 y2 y3 y4 y5; go_simp; try with_reducible rfl
  simp only [List.getElem_toArray, List.getElem_cons_succ, List.getElem_cons_zero, Act.put, List.setIfInBounds_toArray, List.set_cons_zero, List.set_cons_succ]
  refine wpAnyH_ready (rs := [13]) (by kernel_rfl) (by simp) ?_
  refine AllReadyH.cons rfl (fun K hK => ?_) AllReadyH.nil
  go_simp
  refine (HRR.out _).mono ?_
  rintro e v5 ⟨rfl, hbx⟩
  have HSv5 := Lib.hid (show Below w3.heap.size w3 v5 by rw [hbx]; exact HSv4.out)
  clear hbx
  dsimp only
  refine hK.out _ _ ?_ (fun hHeld => ?_)
  · exact HSv5.out
  clear hK K
  refine wpAnyH_take (i := 14) (v := ?vd14) rfl (by kernel_rfl) (by kernel_rfl) (by kernel_rfl) (fun _ _ _ h => h) (Or.inl ⟨by rfl, ?hd14⟩) (by assumption) ?_
  case hd14 => intro w hSw; (try dsimp only at hSw); go_simp; try with_reducible rfl
  simp only [List.getElem_toArray, List.getElem_cons_succ, List.getElem_cons_zero, Act.put, List.setIfInBounds_toArray, List.set_cons_zero, List.set_cons_succ]
  refine wpAnyH_take (i := 15) (v := ?vd15) rfl (by kernel_rfl) (by kernel_rfl) (by kernel_rfl) (fun _ _ _ h => h) (Or.inl ⟨by rfl, ?hd15⟩) (by assumption) ?_
  case hd15 => intro w hSw; (try dsimp only at hSw); go_simp; try with_reducible rfl
  simp only [List.getElem_toArray, List.getElem_cons_succ, List.getElem_cons_zero, Act.put, List.setIfInBounds_toArray, List.set_cons_zero, List.set_cons_succ]
  refine wpAnyH_take (i := 16) (v := ?vd16) rfl (by kernel_rfl) (by kernel_rfl) (by kernel_rfl) (fun _ _ _ h => h) (Or.inl ⟨by rfl, ?hd16⟩) (by assumption) ?_
  case hd16 => intro w hSw; (try dsimp only at hSw); go_simp; try with_reducible rfl
  simp only [List.getElem_toArray, List.getElem_cons_succ, List.getElem_cons_zero, Act.put, List.setIfInBounds_toArray, List.set_cons_zero, List.set_cons_succ]
  refine wpAnyH_done (by kernel_rfl) ?_ _
  refine NoPanic.normal ?_
  obtain ⟨x0, x1, x2, x3, x4, _, _, _, _, _⟩ := (HS3.out.below HSv5.out HS3.out.lt).cells
  simp only at x0 x1 x2 x3 x4
  go_wp2_with fail
  refine (HRS.out v5).mono ?_
  rintro e w6 ⟨rfl, hbx⟩
  have hX6 := below_next HSv5.out hbx
  have HX6 := Lib.hid hX6
  have zs6 := hX6.size
  clear hbx x0 x1 x2 x3 x4
  obtain ⟨x0, x1, x2, x3, x4, _, _, _, _, _⟩ := (HS3.out.below hX6 HS3.out.lt).cells
  simp only at x0 x1 x2 x3 x4
  clear hX6 HSv1 HSv2 HSv3 HSv4 HSv5 HSd hHeld HPS HCR HRR
  go_wp2_with fail
  refine (HPT.out w6).mono ?_
  rintro e w7 ⟨v7, rfl, o7, g7⟩
  have b7 : Below w6.heap.size w6 w7 := (Below.refl _ _).grown g7.grown (Nat.le_refl _) (Own.nil w6 _).lt
  have HX7 := Lib.hid (below_next HX6.out b7)
  have z7 := b7.size
  have HO7 := Lib.hid o7
  have HR7 := Lib.hid (HR.out.below (HB3.out.trans (HX7.out.mono z3)))
  clear g7 b7 o7 x0 x1 x2 x3 x4
  go_wp2_with (at_builtin; refine wpList_append_g rfl (.tmp 40) (.tmp 41) rfl w6.heap.size v7 E rfl HO7.out A l l.length cap w.heap.size rfl rfl HR7.out HA.out (by omega) z7 ?_)
  intro v8 w8 o8 g8
  have b8 : Below w6.heap.size w7 w8 := (Below.refl _ _).grown g8.grown z7 HO7.out.lt
  have HX8 := Lib.hid (HX7.out.trans (b8.mono zs6))
  have z8 := HX8.out.size
  obtain ⟨A8, c8, rfl, _, _, hA8, r8⟩ := o8.form
  have HOF := Lib.hid (of_any w8 A8 (E ++ l) c8 w8.heap.size r8 hA8 (by rw [List.length_append]; omega) (fun x hx => by rcases List.mem_append.1 hx with h | h; exact HEB.out x h; exact HBY.out x h))
  generalize (E ++ l).length = n8 at *
  clear o8 g8 b8 r8 hA8
  go_wp2_with fail
  refine HOF.out.mono ?_
  rintro e w9 ⟨gr, rfl, hgr, hrd, b9⟩
  have HX9 := Lib.hid (HX8.out.trans (b9.mono z8))
  have z9 := b9.size
  have HTS := Lib.hid (takeStyle_ok w9 gr (E ++ l) false hrd)
  rw [HTE.out] at HTS
  clear b9 hrd HOF
  go_wp2_with fail
  refine HTS.out.mono ?_
  rintro e w10 ⟨rfl, _, hg10⟩
  have b10 : Below w8.heap.size w9 w10 := only_below hg10 hgr z9
  have HX10 := Lib.hid (HX9.out.trans (b10.mono z8))
  have z10 := HX10.out.size
  clear hg10 b10 HTS
  simp only [Option.getD_some, Option.isSome_some, styV]
  go_upto_region 12 with fail
  obtain ⟨w11, hw11⟩ : ∃ w11, w11 = w10.alloc (.cells #[.bool b, .bool u, .bool t, .int .i64 f, .int .i64 k] 23) := ⟨_, rfl⟩
  rw [← hw11]
  have b11 : Below w10.heap.size w10 w11 := by rw [hw11]; exact (Below.refl _ _).alloc (Nat.le_refl _) _
  have HS11 := Lib.hid (show StyAt w11 w10.heap.size ⟨b, u, t, f, k⟩ by rw [hw11]; exact heap_alloc_new w10 _)
  have hX11 := below_next HX10.out b11
  have HX11 := Lib.hid hX11
  have z11 := hX11.size
  obtain ⟨x0, x1, x2, x3, x4, _, _, _, _, _⟩ := (HS3.out.below hX11 HS3.out.lt).cells
  simp only at x0 x1 x2 x3 x4
  clear b11 hw11 hX11
  go_wp2_with fail
  refine (HBL.out w11).mono ?_
  rintro e w12 ⟨rfl, b12⟩
  have HX12 := Lib.hid (below_next HX11.out b12)
  have HS12 := Lib.hid (HS11.out.below b12 HS11.out.lt)
  have z12 := b12.size
  clear b12 x0 x1 x2 x3 x4
  go_upto_region 13 with fail
  obtain ⟨w13, hw13⟩ : ∃ w13, w13 = w12.alloc (.cells #[.int .i32 32, .bool false, .bool false, .bool false, .int .i64 0, .int .i64 k] 33) := ⟨_, rfl⟩
  rw [← hw13]
  have b13 : Below w12.heap.size w12 w13 := by rw [hw13]; exact (Below.refl _ _).alloc (Nat.le_refl _) _
  have HC13 := Lib.hid (show CelAt w13 w12.heap.size ⟨32, ⟨false, false, false, 0, k⟩⟩ by rw [hw13]; exact heap_alloc_new w12 _)
  have HS13 := Lib.hid (HS12.out.below b13 HS12.out.lt)
  have HX13 := Lib.hid (below_next HX12.out b13)
  have z13 := HX13.out.size
  clear b13 hw13
  go_wp2_with fail
  refine (of_any w13 A l cap w.heap.size (HR.out.below (HB3.out.trans (HX13.out.mono z3))) HA.out (by omega) HBY.out).mono ?_
  rintro e w14 ⟨g2, rfl, hg2, hrd, b14⟩
  have z14 := b14.size
  have HTS := Lib.hid (takeStyle_ok w14 g2 l false hrd)
  have HB14 := Lib.hid b14
  clear b14 hrd
  generalize takeS l false = T at *
  obtain ⟨o, l2, bad2⟩ := T
  simp only at HTR HTS
  rcases o with _ | x
  · go_wp2_with fail
    refine HTS.out.mono ?_
    rintro e w15 ⟨rfl, _, hg15⟩
    have HB15 := Lib.hid (HB14.out.trans (only_below hg15 hg2 z14))
    have z15 := HB15.out.size
    clear hg15 HTS
    simp only [Option.getD_none, Option.isSome_none, styV, KM.zero]
    go_upto_region 14 with fail
    obtain ⟨w16, hw16⟩ : ∃ w16, w16 = w15.alloc (.cells #[.bool false, .bool false, .bool false, .int .i64 0, .int .i64 0] 23) := ⟨_, rfl⟩
    rw [← hw16]
    have b16 : Below w15.heap.size w15 w16 := by rw [hw16]; exact (Below.refl _ _).alloc (Nat.le_refl _) _
    have h16 : StyAt w16 w15.heap.size ⟨false, false, false, 0, 0⟩ := by rw [hw16]; exact heap_alloc_new w15 _
    have b16' := below_next HB15.out b16
    have HB16 := Lib.hid b16'
    obtain ⟨x0, x1, x2, x3, x4, _, _, _, _, _⟩ := (HS3.out.below (HX13.out.trans (b16'.mono z13)) HS3.out.lt).cells
    obtain ⟨y0, y1, y2, y3, y4, _, _, _, _, _⟩ := (HS13.out.below b16' HS13.out.lt).cells
    obtain ⟨q0, q1, q2, q3, q4, q5⟩ := (HC13.out.below b16' HC13.out.lt).cells
    obtain ⟨p0, p1, p2, p3, p4, _, _, _, _, _⟩ := h16.cells
    simp only at x0 x1 x2 x3 x4 y0 y1 y2 y3 y4 q0 q1 q2 q3 q4 q5 p0 p1 p2 p3 p4
    clear b16 hw16 h16 b16'
    go_wp2_with fail
    go_ret
    exact ⟨rfl, HB3.out.trans ((HX13.out.trans (HB16.out.mono z13)).mono z3)⟩
  · have hxr := HTR.out x rfl
    have HRX := Lib.hid (fun v => rstyle_ok v x)
    rw [hxr] at HRX
    clear hxr
    obtain ⟨b5, u5, t5, f5, k5⟩ := x
    simp only [styV] at HRX
    go_wp2_with fail
    refine HTS.out.mono ?_
    rintro e w15 ⟨rfl, _, hg15⟩
    have HB15 := Lib.hid (HB14.out.trans (only_below hg15 hg2 z14))
    have z15 := HB15.out.size
    clear hg15 HTS
    simp only [Option.getD_some, Option.isSome_some, styV]
    go_upto_region 14 with fail
    obtain ⟨w16, hw16⟩ : ∃ w16, w16 = w15.alloc (.cells #[.bool b5, .bool u5, .bool t5, .int .i64 f5, .int .i64 k5] 23) := ⟨_, rfl⟩
    rw [← hw16]
    have b16 : Below w15.heap.size w15 w16 := by rw [hw16]; exact (Below.refl _ _).alloc (Nat.le_refl _) _
    have h16 : StyAt w16 w15.heap.size ⟨b5, u5, t5, f5, k5⟩ := by rw [hw16]; exact heap_alloc_new w15 _
    have b16' := below_next HB15.out b16
    have HB16 := Lib.hid b16'
    obtain ⟨x0, x1, x2, x3, x4, _, _, _, _, _⟩ := (HS3.out.below (HX13.out.trans (b16'.mono z13)) HS3.out.lt).cells
    obtain ⟨y0, y1, y2, y3, y4, _, _, _, _, _⟩ := (HS13.out.below b16' HS13.out.lt).cells
    obtain ⟨q0, q1, q2, q3, q4, q5⟩ := (HC13.out.below b16' HC13.out.lt).cells
    obtain ⟨p0, p1, p2, p3, p4, _, _, _, _, _⟩ := h16.cells
    simp only at x0 x1 x2 x3 x4 y0 y1 y2 y3 y4 q0 q1 q2 q3 q4 q5 p0 p1 p2 p3 p4
    clear b16 hw16 h16 b16'
    go_wp2_with fail
    refine (HRX.out w16).mono ?_
    rintro e w17 ⟨rfl, b17⟩
    have HB17 := Lib.hid (below_next HB16.out b17)
    clear b17
    go_wp2_with fail
    go_ret
    exact ⟨rfl, HB3.out.trans ((HX13.out.trans (HB17.out.mono z13)).mono z3)⟩
theorem walk (c : Cel) (A : Option Addr) (len cap : Nat) (zs : List Int) (w : World) (hw : IsRow .u8 w A len cap zs) (hT : Tabs w) :
    Calls Tryd.prog 5 #[celV c, .slice A len cap] w fun e w' => e = .returned (.bool true) ∧ Below w.heap.size w w' := by
  obtain ⟨l, rfl, _, h2, h3, h4, h5⟩ := came hw top_u8
  by_cases h : 100 < l.length
  · exact core0 c A l.length cap w h hT
  · rcases hq : sright c.sty with _ | _
    · exact core1 c A l cap w hq (by omega) hT
    · exact core2 c A l cap w hq (by omega) h3 h4 h5 hT

theorem own : ownKnob Tryd.prog.godebug = none := by kernel_rfl
theorem laidOut : laidOutB Tryd.prog = true := by kernel_rfl

set_option maxRecDepth 100000 in
theorem lifted (os : Os) (started : os.Started) (H : Type) (enc : TypeId × Value → H) :
    ReturnsInHanded {} Tryd.checked os 5 .any (fun w args => (Rows.cellRightsSpec.pre enc Tryd.prog Tryd.f5 Rows.cellRightsRow.domain false w args ∧ laidMetH Tryd.prog Rows.cellRightsRow.laid w) ∧ sizedMet enc Tryd.prog Tryd.f5 (OpenSpec.ofChange Rows.cellRightsSpec) false w args)
      (Rows.cellRightsSpec.post enc Tryd.prog Tryd.f5 false true false false) := by
  refine returnsInHanded_of_change_and (C := Tryd.checked) (X := fun w _ => laidMetH Tryd.prog Rows.cellRightsRow.laid w) (fun _ _ _ hh h => h.of_heap hh) own started (by kernel_rfl) Tryd.func5
    (ChangeSpec.witness_shaped (enc := enc) (C := Tryd.checked) (os := os) (X := fun w _ => laidMetH Tryd.prog Rows.cellRightsRow.laid w) false (start8 os) #[.agg #[.int .i32 0, .bool false, .bool false, .bool false, .int .i64 0, .int .i64 0], .slice none 0 0] 8 rfl (World.shaped_of_RefB (by kernel_rfl) (by kernel_rfl)) (by kernel_rfl) (by kernel_rfl) (by kernel_rfl) (met_cellRights os _)) ?_
  intro W base args ds gs before hval0 hW _ _ hL _
  have hval : ∀ (j : Nat) t v, Tryd.f5.params[j]? = some t → args[j]? = some v → Value.okWide Tryd.prog W .any base t v := hval0
  have hW' := hW
  obtain ⟨p, q, hA0, hV, rfl, hfz, hnd⟩ := hW
  have hA : DataW.TrodAll enc Tryd.prog W 0 (fun _ => true) true Tryd.f5.params.toList args.toList ds p := hA0
  rw [Tryd.params5] at hA hval
  obtain ⟨v0, vs0, d0, ds0, p0, q0, hargs, rfl, rfl, h0, r0⟩ := trodAll_cons hA
  obtain ⟨v1, vs1, d1, ds1, p1, q1, rfl, rfl, rfl, h1, r1⟩ := trodAll_cons r0
  obtain ⟨rfl, rfl, rfl⟩ := trodAll_nil r1
  obtain rfl : args = #[v0, v1] := by cases args; simp_all
  obtain ⟨rfl, rfl⟩ := trodVars_none hV
  have k0 := h0
  have lt0 : ∀ x ∈ p0, x.block < W.heap.size := by obtain ⟨m, hm⟩ := k0; exact DataW.trod_lt m _ _ _ hm
  obtain ⟨a0, rfl⟩ := open_cell (hval 0 33 v0 rfl rfl) h0
  obtain ⟨a1, len1, cap1, rfl⟩ := okWide_slice Tryd.underlying34 (hval 1 34 v1 rfl rfl)
  have k1 := h1
  have lt1 : ∀ x ∈ p1, x.block < W.heap.size := by obtain ⟨m, hm⟩ := k1; exact DataW.trod_lt m _ _ _ hm
  obtain ⟨z1, w1⟩ : ∃ zs, IsRow .u8 W a1 len1 cap1 zs := by
    obtain ⟨fuel, hf⟩ := h1
    rcases open_ints Tryd.underlying34 Tryd.underlying5 (by kernel_rfl) hf with ⟨hcs, _⟩ | ⟨x, l, c, zs, hcs, _, hl, hm, hz, _, hcell, hwz⟩
    · simp [Value.cells] at hcs
      obtain ⟨rfl, rfl, rfl⟩ := hcs
      exact ⟨[], .inl ⟨rfl, rfl, rfl, rfl⟩⟩
    · simp [Value.cells] at hcs
      obtain ⟨rfl, rfl, rfl⟩ := hcs
      exact ⟨zs, .inr ⟨_, rfl, hl, hm, by simpa using hz, hcell, hwz⟩⟩
  clear hA0 hval0
  refine (walk a0 a1 len1 cap1 z1 W w1 (tabs_cellRights hL)).mono fun e W' ⟨he, bel⟩ => ?_
  subst he
  exact ⟨_, rfl, _, _, _, [], _, [], hW', trodAll_mk1 (shut_bool Tryd.underlying4 _), (trodAll_cons_mk (Below.trod laidOut (by kernel_rfl) (of_decide_eq_true (by kernel_rfl)) k0 bel lt0) (trodAll_cons_mk (Below.trod laidOut (by kernel_rfl) (of_decide_eq_true (by kernel_rfl)) k1 bel lt1) trodAll_mk0)), rfl, bel.frame _, fun h => by cases h⟩

theorem over : Rows.cellRightsRow.holds Tryd.pinned (OpenSpec.ofChange Rows.cellRightsSpec) :=
  OpenClaim.holds_of_wide 5 Tryd.f5 rfl rfl rfl rfl rfl rfl rfl ⟨rfl, rfl, rfl, rfl, rfl⟩ rfl rfl rfl rfl rfl (by kernel_rfl) Tryd.func5 (by kernel_rfl)
    (of_decide_eq_true (by kernel_rfl)) (by unfold Func.isWrapper; first | (rw [if_pos (by decide +kernel)]; kernel_rfl) | (rw [if_neg (by decide +kernel)]; exact ⟨rfl, rfl⟩))
    (fun os started H enc _ => lifted os started H enc)

theorem cardOver : Rows.CellRightsCardSaid :=
  Claim7.holds_tied_plain_at .later [] [.data] true (true, "4f396e1d14b963e642369da60c586bea4ab32b1863cbf0082d54e6225053dd77") false
    over (fun _ h => by cases h) (by kernel_rfl) (fun _ h => by cases h) cellRights_row_tie rfl ⟨rfl, rfl⟩ (by kernel_rfl) rfl
    (fun f fn hf hfn => by
      obtain rfl : f = 5 := Option.some.inj ((show Tryd.prog.funcNamed Rows.cellRightsRow.func = some 5 by kernel_rfl).symm.trans hf) |>.symm
      obtain rfl : fn = Tryd.f5 := (Option.some.inj (Tryd.func5.symm.trans hfn)).symm
      exact ⟨by kernel_rfl, fun j t ht => by
        rw [Tryd.params5] at ht
        have hm : t ∈ [33, 34] := by simpa using Array.mem_of_getElem? ht
        have hall : ([33, 34].all fun u => !Tryd.prog.wantsStandIn u) = true := by kernel_rfl
        exact (show Tryd.prog.wantsStandIn t = false by simpa using List.all_eq_true.1 hall t hm)⟩)
    (by kernel_rfl)

end Go.Proofs.YtalngmegenlfgaaDoor.cellRights
namespace Go.Proofs.YtalngmegenlfgaaDoor
theorem cellRights_holds : Rows.CellRightsCardSaid := cellRights.cardOver
end Go.Proofs.YtalngmegenlfgaaDoor
