/-
  Layer 9's laws: the model's do, of other sides, and of one line.
-/
import Derived.Test.YtbpkklcegiiheaaDoorDModL
import Derived.Test.YtbpkklcegiiheaaDoorDModM
import Derived.Test.YtbpkklcegiiheaaDoorDDo
import Derived.Test.YtbpkklcegiiheaaDoorDOpenA
import Derived.Deep.QuietTactic
import Derived.BigQuiet
import Derived.Deep.CutRange
import Derived.Deep.CutBlock
import Derived.Test.YtbpkklcegiiheaaDoorKRMend
namespace Go.Proofs.YtbpkklcegiiheaaDoor
open Go.RowKit Go.Lib KM

set_option maxRecDepth 100000 in
set_option maxHeartbeats 4000000 in
theorem mdo_ok6 (w : World) {N : Nat → Prop} {A : Option Addr} {g : Gr} (hok : g.Ok) (h : LinesAt w N A g.ls) (c : Nat) (hcap : g.ls.length ≤ c) (d : De) (hk : d.k = 6) :
    Calls Tryd.prog 14 #[.slice A g.ls.length c, deV d] w (ModPost w N (gresize g d.a d.b d.c).1 (gresize g d.a d.b d.c).2) := by
  obtain ⟨w1, hw1⟩ : ∃ w1, w1 = w.alloc (.cells #[.int .i64 d.kind, .int .i64 d.a, .int .i64 d.b, .int .i64 d.c, .int .i32 d.cel.rune, .bool d.cel.sty.bold, .bool d.cel.sty.under, .bool d.cel.sty.turned, .int .i64 d.cel.sty.fore, .int .i64 d.cel.sty.back] 39) := ⟨_, rfl⟩
  have hb1 : Below w.heap.size w w1 := by rw [hw1]; exact (Below.refl _ _).alloc (Nat.le_refl _) _
  have hd1 : DeIn w1 w.heap.size d := by rw [hw1]; exact DeIn.fresh w d
  have HD1 := Lib.hid hd1
  have HB1 := Lib.hid hb1
  have W1 := Lib.hid hw1
  have hlen := hok.len
  have hgh := hok.h2
  have hgw := hok.w2
  have hgw1 := hok.w1
  have hh1 := hok.h1
  have hl0 := hok.line (y := 0) (by omega)
  have hln0 : g.ls[0]'(by omega) = g.line 0 := by
    have := line_get hok (y := 0) (by omega)
    rw [List.getElem?_eq_getElem (by omega)] at this
    exact Option.some.inj this
  have HREAD := Lib.hid (fun (v : World) (hv : Below w.heap.size w v) (x y : Int) (s : Sty) => read_ok v (h.below hv) c x y s)
  have HLI := Lib.hid h
  obtain ⟨b, off, A0, c0, hA, hbl, dh0, -, -⟩ := h.at_ (j := 0) (by omega)
  rw [hln0, hl0.len] at dh0
  have HTM := Lib.hid (fun v => ltame_ok v d.cel.sty)
  have HKD : Hid (∀ v, Calls Tryd.prog 35 #[deV d] v fun e w' => e = .returned (.int .i64 6) ∧ Below v.heap.size v w') := Lib.hid (fun v => by
    have := kind_ok v d
    rw [hk] at this
    exact this)
  have HDH := Lib.hid (fun (v : World) (hv : Below w.heap.size w v) => show v.cell? ⟨b, off, none⟩ = some (.slice A0 g.w c0) from (hv.cell (p := ⟨b, off, none⟩) hbl).trans dh0)
  obtain ⟨N0, hN0⟩ := Int.eq_ofNat_of_zero_le (show 0 ≤ min (max d.c 0) (g.h : Int) by omega)
  obtain ⟨HH, hHH⟩ := Int.eq_ofNat_of_zero_le (show 0 ≤ min (max d.b 1) 60 by omega)
  obtain ⟨WW, hWV⟩ := Int.eq_ofNat_of_zero_le (show 0 ≤ min (max d.a 1) 60 by omega)
  have hN0h : N0 ≤ g.h := by omega
  have hHH60 : HH ≤ 60 := by omega
  have hWW60 : WW ≤ 60 := by omega
  have hN0c : N0 ≤ c := by omega
  have HWA : Hid (∀ v, Calls Tryd.prog 18 #[.int .i64 d.c, .int .i64 0, .int .i64 (g.ls.length : Int)] v fun e w' => e = .returned (.int .i64 (N0 : Int)) ∧ w' = v) := Lib.hid (fun v => by have := within_ok v d.c 0 g.ls.length; rw [hlen] at this ⊢; rwa [hN0] at this)
  have HWB : Hid (∀ v, Calls Tryd.prog 18 #[.int .i64 d.b, .int .i64 1, .int .i64 60] v fun e w' => e = .returned (.int .i64 (HH : Int)) ∧ w' = v) := Lib.hid (fun v => by have := within_ok v d.b 1 60; rwa [hHH] at this)
  have HWC : Hid (∀ v, Calls Tryd.prog 18 #[.int .i64 d.a, .int .i64 1, .int .i64 60] v fun e w' => e = .returned (.int .i64 (WW : Int)) ∧ w' = v) := Lib.hid (fun v => by have := within_ok v d.a 1 60; rwa [hWV] at this)
  have hmr := mresize_eq hok d.a d.b d.c hWV hHH hN0
  obtain ⟨G, hG⟩ : ∃ G, G = (gresize g d.a d.b d.c).1 := ⟨_, rfl⟩
  obtain ⟨O, hO⟩ : ∃ O : List (List Cel), O = (gresize g d.a d.b d.c).2 := ⟨_, rfl⟩
  rw [← hG, ← hO]
  have HG : Hid (G.ls = (List.range HH).map (fun y => mend (mfit g WW N0 y))) := Lib.hid (by rw [hG, hmr.1])
  have HO : Hid (O = g.ls.take N0) := Lib.hid (by rw [hO, hmr.2])
  have hbz := fun v => build_zstyle v

  have h0I : 0 < g.ls.length := by omega
  have HK := Lib.hid hk
  have HOK := Lib.hid hok
  clear hw1 hb1 hd1 hl0 hln0 dh0 h hk hok hlen hN0 hHH hWV hmr hG hO hcap
  obtain ⟨kd, a, bb, cc, ⟨r, ⟨bo, u, t, f, ba⟩⟩⟩ := d
  simp only [deV, styV] at *
  generalize hst : stame ⟨bo, u, t, f, ba⟩ = s' at *
  obtain ⟨sb, su, st, sf, sk⟩ := s'
  have HST := Lib.hid hst
  clear hst
  simp only at *
  subst hA
  generalize hglH : g.ls.length = gl at *
  have HGL := Lib.hid hglH
  have HHG : Hid (g.h = gl) := Lib.hid (HOK.out.len.symm.trans hglH)
  clear hglH
  obtain ⟨W, hWW⟩ : ∃ W, W = g.w := ⟨_, rfl⟩
  have HWW := Lib.hid hWW
  rw [← hWW] at hgw hgw1 HDH
  clear hWW
  go_enter Tryd.func14, Tryd.ntmps14
  go_upto_region 1 with fail
  rw [← W1.out]
  go_cut [6, 7, 8] from 25 (fun o6 o7 o8 wc => ∃ q, o6 = .int .i64 (W : Int) ∧ o7 = .int .i64 (gl : Int) ∧ o8 = .pointer (some ⟨q, 0, none⟩) ∧ w1.heap.size ≤ q ∧ StyIn wc q ⟨sb, su, st, sf, sk⟩ ∧ Below w1.heap.size w1 wc)
  case first =>
    refine wp_region_noPanic ?_
    refine wp_region_held_drew (S := fun v => Below w1.heap.size w1 v) (by kernel_rfl) (Below.refl _ _).drew (fun hHeld => ?_)
    have HSd := Lib.hid hHeld
    refine wpAnyH_take (i := 0) (v := ?vr0) rfl (by kernel_rfl) (by kernel_rfl) (by kernel_rfl) (fun _ _ _ h => h) (Or.inl ⟨by rfl, ?hr0⟩) (by assumption) ?_
    case hr0 => intro w hSw; (try dsimp only at hSw); obtain ⟨x0, x1, x2, x3, x4, x5, x6, x7, x8, x9⟩ := (HD1.out.below hSw).cells; simp only at x0 x1 x2 x3 x4 x5 x6 x7 x8 x9; have y0 := HDH.out _ (below_next HB1.out hSw); go_simp; try with_reducible rfl
    simp only [List.getElem_toArray, List.getElem_cons_zero, Act.put, List.setIfInBounds_toArray, List.set_cons_zero, List.set_cons_succ]
    refine wpAnyH_take (i := 1) (v := ?vr1) rfl (by kernel_rfl) (by kernel_rfl) (by kernel_rfl) (fun _ _ _ h => h) (Or.inl ⟨by rfl, ?hr1⟩) (by assumption) ?_
    case hr1 => intro w hSw; (try dsimp only at hSw); obtain ⟨x0, x1, x2, x3, x4, x5, x6, x7, x8, x9⟩ := (HD1.out.below hSw).cells; simp only at x0 x1 x2 x3 x4 x5 x6 x7 x8 x9; have y0 := HDH.out _ (below_next HB1.out hSw); go_simp; try with_reducible rfl
    simp only [List.getElem_toArray, List.getElem_cons_succ, List.getElem_cons_zero, Act.put, List.setIfInBounds_toArray, List.set_cons_zero, List.set_cons_succ]
    refine wpAnyH_take (i := 2) (v := ?vr2) rfl (by kernel_rfl) (by kernel_rfl) (by kernel_rfl) (fun _ _ _ h => h) (Or.inl ⟨by rfl, ?hr2⟩) (by assumption) ?_
    case hr2 => intro w hSw; (try dsimp only at hSw); obtain ⟨x0, x1, x2, x3, x4, x5, x6, x7, x8, x9⟩ := (HD1.out.below hSw).cells; simp only at x0 x1 x2 x3 x4 x5 x6 x7 x8 x9; have y0 := HDH.out _ (below_next HB1.out hSw); go_simp; try with_reducible rfl
    simp only [List.getElem_toArray, List.getElem_cons_succ, List.getElem_cons_zero, Act.put, List.setIfInBounds_toArray, List.set_cons_zero, List.set_cons_succ]
    refine wpAnyH_take (i := 3) (v := ?vr3) rfl (by kernel_rfl) (by kernel_rfl) (by kernel_rfl) (fun _ _ _ h => h) (Or.inl ⟨by rfl, ?hr3⟩) (by assumption) ?_
    case hr3 => intro w hSw; (try dsimp only at hSw); obtain ⟨x0, x1, x2, x3, x4, x5, x6, x7, x8, x9⟩ := (HD1.out.below hSw).cells; simp only at x0 x1 x2 x3 x4 x5 x6 x7 x8 x9; have y0 := HDH.out _ (below_next HB1.out hSw); go_simp; try with_reducible rfl
    simp only [List.getElem_toArray, List.getElem_cons_succ, List.getElem_cons_zero, Act.put, List.setIfInBounds_toArray, List.set_cons_zero, List.set_cons_succ]
    refine wpAnyH_take (i := 4) (v := ?vr4) rfl (by kernel_rfl) (by kernel_rfl) (by kernel_rfl) (fun _ _ _ h => h) (Or.inl ⟨by rfl, ?hr4⟩) (by assumption) ?_
    case hr4 => intro w hSw; (try dsimp only at hSw); obtain ⟨x0, x1, x2, x3, x4, x5, x6, x7, x8, x9⟩ := (HD1.out.below hSw).cells; simp only at x0 x1 x2 x3 x4 x5 x6 x7 x8 x9; have y0 := HDH.out _ (below_next HB1.out hSw); go_simp; try with_reducible rfl
    simp only [List.getElem_toArray, List.getElem_cons_succ, List.getElem_cons_zero, Act.put, List.setIfInBounds_toArray, List.set_cons_zero, List.set_cons_succ]
    refine wpAnyH_take (i := 5) (v := ?vr5) rfl (by kernel_rfl) (by kernel_rfl) (by kernel_rfl) (fun _ _ _ h => h) (Or.inl ⟨by rfl, ?hr5⟩) (by assumption) ?_
    case hr5 => intro w hSw; (try dsimp only at hSw); obtain ⟨x0, x1, x2, x3, x4, x5, x6, x7, x8, x9⟩ := (HD1.out.below hSw).cells; simp only at x0 x1 x2 x3 x4 x5 x6 x7 x8 x9; have y0 := HDH.out _ (below_next HB1.out hSw); go_simp; try with_reducible rfl
    simp only [List.getElem_toArray, List.getElem_cons_succ, List.getElem_cons_zero, Act.put, List.setIfInBounds_toArray, List.set_cons_zero, List.set_cons_succ]
    refine wpAnyH_take (i := 6) (v := ?vr6) rfl (by kernel_rfl) (by kernel_rfl) (by kernel_rfl) (fun _ _ _ h => h) (Or.inl ⟨by rfl, ?hr6⟩) (by assumption) ?_
    case hr6 => intro w hSw; (try dsimp only at hSw); obtain ⟨x0, x1, x2, x3, x4, x5, x6, x7, x8, x9⟩ := (HD1.out.below hSw).cells; simp only at x0 x1 x2 x3 x4 x5 x6 x7 x8 x9; have y0 := HDH.out _ (below_next HB1.out hSw); go_simp; try with_reducible rfl
    simp only [List.getElem_toArray, List.getElem_cons_succ, List.getElem_cons_zero, Act.put, List.setIfInBounds_toArray, List.set_cons_zero, List.set_cons_succ]
    refine wpAnyH_take (i := 7) (v := ?vr7) rfl (by kernel_rfl) (by kernel_rfl) (by kernel_rfl) (fun _ _ _ h => h) (Or.inl ⟨by rfl, ?hr7⟩) (by assumption) ?_
    case hr7 => intro w hSw; (try dsimp only at hSw); obtain ⟨x0, x1, x2, x3, x4, x5, x6, x7, x8, x9⟩ := (HD1.out.below hSw).cells; simp only at x0 x1 x2 x3 x4 x5 x6 x7 x8 x9; have y0 := HDH.out _ (below_next HB1.out hSw); go_simp; try with_reducible rfl
    simp only [List.getElem_toArray, List.getElem_cons_succ, List.getElem_cons_zero, Act.put, List.setIfInBounds_toArray, List.set_cons_zero, List.set_cons_succ]
    refine wpAnyH_take (i := 8) (v := ?vr8) rfl (by kernel_rfl) (by kernel_rfl) (by kernel_rfl) (fun _ _ _ h => h) (Or.inl ⟨by rfl, ?hr8⟩) (by assumption) ?_
    case hr8 => intro w hSw; (try dsimp only at hSw); obtain ⟨x0, x1, x2, x3, x4, x5, x6, x7, x8, x9⟩ := (HD1.out.below hSw).cells; simp only at x0 x1 x2 x3 x4 x5 x6 x7 x8 x9; have y0 := HDH.out _ (below_next HB1.out hSw); go_simp; try with_reducible rfl
    simp only [List.getElem_toArray, List.getElem_cons_succ, List.getElem_cons_zero, Act.put, List.setIfInBounds_toArray, List.set_cons_zero, List.set_cons_succ]
    refine wpAnyH_ready (rs := [9, 10]) (by kernel_rfl) (by simp) ?_
    refine AllReadyH.cons rfl (fun K hK => ?_) (AllReadyH.cons rfl (fun K hK => ?_) AllReadyH.nil)
    · go_simp
      refine (HTM.out w1.drew).mono ?_
      rintro e v1 ⟨rfl, hbx⟩
      have HS1 := Lib.hid (below_next HSd.out hbx)
      have hz1' := HS1.out.size
      clear hbx
      dsimp only
      refine hK.out _ _ ?_ (fun hHeld => ?_)
      · exact HS1.out
      clear hK K
      refine wpAnyH_ready (rs := [10]) (by kernel_rfl) (by simp) ?_
      refine AllReadyH.cons rfl (fun K hK => ?_) AllReadyH.nil
      go_simp
      try dsimp only
      have hy := heap_alloc_new v1 (.cells #[.bool false, .bool false, .bool false, .int .i64 0, .int .i64 0] 35)
      have HS2 := Lib.hid (HS1.out.alloc (HS1.out.size) (.cells #[.bool false, .bool false, .bool false, .int .i64 0, .int .i64 0] 35))
      refine hK.out _ _ ?_ (fun hHeld => ?_)
      · exact HS2.out
      clear hK K
      generalize v1.alloc (.cells #[.bool false, .bool false, .bool false, .int .i64 0, .int .i64 0] 35) = v2 at *
      have HY := Lib.hid (show StyIn v2 v1.heap.size KM.zero from hy)
      have n0 := HY.out.thaw 0; have n1 := HY.out.thaw 1; have n2 := HY.out.thaw 2; have n3 := HY.out.thaw 3; have n4 := HY.out.thaw 4
      obtain ⟨z0, z1, z2, z3, z4⟩ := HY.out.cells
      simp only [KM.zero] at z0 z1 z2 z3 z4
      clear hy
      refine wpAnyH_ready (rs := [11]) (by kernel_rfl) (by simp) ?_
      refine AllReadyH.cons rfl (fun K hK => ?_) AllReadyH.nil
      go_simp
      refine hK.out _ _ ?_ (fun hHeld => ?_)
      · exact HS2.out
      clear hK K
      refine wpAnyH_ready (rs := [12]) (by kernel_rfl) (by simp) ?_
      refine AllReadyH.cons rfl (fun K hK => ?_) AllReadyH.nil
      go_simp
      refine hK.out _ _ ?_ (fun hHeld => ?_)
      · exact HS2.out
      clear hK K
      refine wpAnyH_ready (rs := [13]) (by kernel_rfl) (by simp) ?_
      refine AllReadyH.cons rfl (fun K hK => ?_) AllReadyH.nil
      go_simp
      refine hK.out _ _ ?_ (fun hHeld => ?_)
      · exact setSty_below HS2.out hz1' ⟨sb, su, st, sf, sk⟩
      clear hK K
      refine wpAnyH_done (by kernel_rfl) ?_ _
      refine NoPanic.normal ?_
      go_wp2_with fail
      go_meet
      case rel => exact ⟨v1.heap.size, rfl, rfl, rfl, hz1', setSty_at HY.out ⟨sb, su, st, sf, sk⟩, setSty_below HS2.out hz1' ⟨sb, su, st, sf, sk⟩⟩
    · go_simp
      try dsimp only
      obtain ⟨v1, hv1⟩ : ∃ v1, v1 = (w1.alloc (.cells #[.bool false, .bool false, .bool false, .int .i64 0, .int .i64 0] 35)).drew := ⟨_, rfl⟩
      rw [← hv1]
      have HS1 := Lib.hid (show Below w1.heap.size w1 v1 by rw [hv1]; exact ((Below.refl _ _).alloc (Nat.le_refl _) _).drew)
      have hy : StyIn v1 w1.heap.size KM.zero := by rw [hv1]; exact heap_alloc_new w1 _
      clear hv1
      refine hK.out _ _ ?_ (fun hHeld => ?_)
      · exact HS1.out
      clear hK K
      have HY := Lib.hid hy
      clear hy
      refine wpAnyH_ready (rs := [9]) (by kernel_rfl) (by simp) ?_
      refine AllReadyH.cons rfl (fun K hK => ?_) AllReadyH.nil
      go_simp
      refine (HTM.out v1).mono ?_
      rintro e v2 ⟨rfl, hbx⟩
      have HS2 := Lib.hid (below_next HS1.out hbx)
      have HY2 := Lib.hid (HY.out.below hbx)
      have n0 := HY2.out.thaw 0; have n1 := HY2.out.thaw 1; have n2 := HY2.out.thaw 2; have n3 := HY2.out.thaw 3; have n4 := HY2.out.thaw 4
      obtain ⟨z0, z1, z2, z3, z4⟩ := HY2.out.cells
      simp only [KM.zero] at z0 z1 z2 z3 z4
      clear hbx
      dsimp only
      refine hK.out _ _ ?_ (fun hHeld => ?_)
      · exact HS2.out
      clear hK K
      refine wpAnyH_ready (rs := [11]) (by kernel_rfl) (by simp) ?_
      refine AllReadyH.cons rfl (fun K hK => ?_) AllReadyH.nil
      go_simp
      refine hK.out _ _ ?_ (fun hHeld => ?_)
      · exact HS2.out
      clear hK K
      refine wpAnyH_ready (rs := [12]) (by kernel_rfl) (by simp) ?_
      refine AllReadyH.cons rfl (fun K hK => ?_) AllReadyH.nil
      go_simp
      refine hK.out _ _ ?_ (fun hHeld => ?_)
      · exact HS2.out
      clear hK K
      refine wpAnyH_ready (rs := [13]) (by kernel_rfl) (by simp) ?_
      refine AllReadyH.cons rfl (fun K hK => ?_) AllReadyH.nil
      go_simp
      refine hK.out _ _ ?_ (fun hHeld => ?_)
      · exact setSty_below HS2.out (Nat.le_refl _) ⟨sb, su, st, sf, sk⟩
      clear hK K
      refine wpAnyH_done (by kernel_rfl) ?_ _
      refine NoPanic.normal ?_
      go_wp2_with fail
      go_meet
      case rel => exact ⟨w1.heap.size, rfl, rfl, rfl, Nat.le_refl _, setSty_at HY2.out ⟨sb, su, st, sf, sk⟩, setSty_below HS2.out (Nat.le_refl _) ⟨sb, su, st, sf, sk⟩⟩
  case rest =>
    obtain ⟨q, rfl, rfl, rfl, hq1, hst, hbc⟩ := hcut
    rename World => w2
    have HB2 := Lib.hid (below_next HB1.out hbc)
    have HD2 := Lib.hid (HD1.out.below hbc)
    have HS2 := Lib.hid hst
    have z12 := hbc.size
    have z02 := HB2.out.size
    obtain ⟨x0, x1, x2, x3, x4, x5, x6, x7, x8, x9⟩ := HD2.out.cells
    simp only at x0 x1 x2 x3 x4 x5 x6 x7 x8 x9
    clear hst hbc hq1
    go_wp2_with fail
    refine (HKD.out w2).mono ?_
    rintro e w3 ⟨rfl, hb3⟩
    have HB3 := Lib.hid (below_next HB2.out hb3)
    have HD3 := Lib.hid (HD2.out.below hb3)
    have HS3 := Lib.hid (HS2.out.below hb3)
    have z23 := hb3.size
    clear x0 x1 x2 x3 x4 x5 x6 x7 x8 x9 hb3
    obtain ⟨x0, x1, x2, x3, x4, x5, x6, x7, x8, x9⟩ := HD3.out.cells
    simp only at x0 x1 x2 x3 x4 x5 x6 x7 x8 x9
    have hsl : ∀ V, (Instr.slice 30 (.slice (some ⟨b, off, none⟩) gl c) none (some (.int .i64 (N0 : Int))) none).run Tryd.prog V = .ok (.slice (some ⟨b, off, none⟩) N0 c) V := fun V => linM.run_head _ _ _ _ V (by omega)
    rw [HHG.out] at hN0h hgh hh1
    go_wp2_with fail
    refine (HWA.out w3).mono ?_
    rintro e w4 ⟨rfl, hw4⟩
    rw [hw4]
    clear hw4 w4
    go_wp2_with fail
    refine (HWB.out w3).mono ?_
    rintro e w4 ⟨rfl, hw4⟩
    rw [hw4]
    clear hw4 w4 x0 x1 x2 x3 x4 x5 x6 x7 x8 x9
    go_wp2_with fail
    go_loopw [10, 135] (fun vn i wr => ∃ y : Nat, y ≤ HH ∧ i = .int .i64 (y : Int) ∧ Below w3.heap.size w3 wr ∧ NextAt wr w3.heap.size vn (fun _ => False) ((List.range y).map (fun y => mend (mfit g WW N0 y)))) (fun _ i _ => HH - (RowKit.intOf i).toNat)
    case atStart => exact ⟨0, Nat.zero_le _, rfl, Below.refl _ _, NextAt.nil _ _ _⟩
    case round =>
      obtain ⟨y, hy, rfl, hbr, hnx⟩ := hrel
      have HBR := Lib.hid hbr
      have HNX := Lib.hid hnx
      have zr := hbr.size
      clear hbr hnx
      by_cases hlt : y < HH
      · have gk : decide ((y : Int) < (HH : Int)) = true := by simp; omega
        have gn : decide (y < HH) = true := by simp; omega
        have HSUC := Lib.hid (map_range_succ (fun y => mend (mfit g WW N0 y)) y)
        obtain ⟨RW, hRW⟩ : ∃ RW, RW = (List.range y).map (fun y => mend (mfit g WW N0 y)) := ⟨_, rfl⟩
        rw [← hRW] at HSUC
        have HNX' : Hid (NextAt wr w3.heap.size u10 (fun _ => False) RW) := Lib.hid (by rw [hRW]; exact HNX.out)
        have hRl : RW.length = y := by rw [hRW]; simp
        clear HNX hRW
        obtain ⟨x0, x1, x2, x3, x4, x5, x6, x7, x8, x9⟩ := (HD3.out.below HBR.out).cells
        simp only at x0 x1 x2 x3 x4 x5 x6 x7 x8 x9
        obtain ⟨F, hF⟩ : ∃ F : Nat, F = y + N0 := ⟨_, rfl⟩
        have hwF : IntKind.i64.wrap ((y : Int) + (N0 : Int)) = (F : Int) := by rw [IntKind.wrap_i64]; omega
        have HFT : Hid (mfit g WW N0 y = (List.range WW).map (fun x : Nat => mread g.ls (x : Int) (F : Int) KM.zero)) := Lib.hid (by rw [hF]; rfl)
        clear hF
        go_wp2_with fail
        refine (HWC.out wr).mono ?_
        rintro e w4 ⟨rfl, hw4⟩
        rw [hw4]
        clear hw4 w4 x0 x1 x2 x3 x4 x5 x6 x7 x8 x9
        obtain ⟨wy, hwy⟩ : ∃ wy, wy = wr := ⟨_, rfl⟩
        go_wp2_with fail
        go_loopw [21, 141] (fun vl i ws => ∃ x : Nat, x ≤ WW ∧ i = .int .i64 (x : Int) ∧ Below wy.heap.size wy ws ∧ celE.Own ws wy.heap.size vl ((List.range x).map (fun x : Nat => mread g.ls (x : Int) (F : Int) KM.zero))) (fun _ i _ => WW - (RowKit.intOf i).toNat)
        case atStart => exact ⟨0, Nat.zero_le _, rfl, by rw [hwy]; exact Below.refl _ _, El.Own.nil _ _⟩
        case round =>
          obtain ⟨x, hx, rfl, hbs, hol⟩ := hrel
          have hby : Below w3.heap.size w3 wy := by rw [hwy]; exact HBR.out
          have HBY := Lib.hid hby
          have HNY : Hid (NextAt wy w3.heap.size u10 (fun _ => False) RW) := Lib.hid (by rw [hwy]; exact HNX'.out)
          clear hwy hby
          have HBS := Lib.hid hbs
          have HOL := Lib.hid hol
          have zs := hbs.size
          have zy := HBY.out.size
          have HB3s := Lib.hid (HBY.out.trans (hbs.mono HBY.out.size))
          clear hbs hol
          by_cases hlt2 : x < WW
          · have g2 : decide ((x : Int) < (WW : Int)) = true := by simp; omega
            have g2n : decide (x < WW) = true := by simp; omega
            have hrd := HREAD.out wr (HB3.out.trans (HB3s.out.mono HB3.out.size)) (x : Int) (F : Int) KM.zero
            have HSX := Lib.hid (map_range_succ (fun x : Nat => mread g.ls (x : Int) (F : Int) KM.zero) x)
            have hLl : ((List.range x).map (fun x : Nat => mread g.ls (x : Int) (F : Int) KM.zero)).length ≤ 60 := by rw [List.length_map, List.length_range]; omega
            generalize (List.range x).map (fun x : Nat => mread g.ls (x : Int) (F : Int) KM.zero) = L at *
            generalize mread g.ls (x : Int) (F : Int) KM.zero = mc at *
            obtain ⟨mr, ⟨m0, m1, m2, m3, m4⟩⟩ := mc
            simp only [celV, KM.zero] at hrd
            have HRD := Lib.hid hrd
            clear hrd
            go_wp2_with fail
            refine HRD.out.mono ?_
            rintro e v6 ⟨rfl, hb6⟩
            have HB6 := Lib.hid (HBS.out.trans (hb6.mono zs))
            have HO6 := Lib.hid (HOL.out.below hb6)
            have z6 := hb6.size
            clear hb6
            go_wp2_with (at_builtin; refine celE.wp_append1 rfl (.tmp 144) (.tmp 152) rfl wy.heap.size _ L rfl HO6.out ⟨mr, ⟨m0, m1, m2, m3, m4⟩⟩ #[.int .i32 mr, .bool m0, .bool m1, .bool m2, .int .i64 m3, .int .i64 m4] 37 rfl rfl ?c1 ?c2 (by omega) ?_)
            case c1 => simp only [celE]; omega
            case c2 => unfold maxLen; omega
            intro vq y7 hoq hgq
            have HO7 := Lib.hid hoq
            have HB7 := Lib.hid (HB6.out.trans (HO6.out.grow_below hgq (by omega)))
            clear hoq hgq
            go_wp2_with fail
            go_roundw
            case rel => exact ⟨x + 1, by omega, by simp, HB7.out, by rw [HSX.out]; exact HO7.out⟩
            case measure => simp [RowKit.intOf]; omega
          · have g2 : decide ((x : Int) < (WW : Int)) = false := by simp; omega
            have g2n : decide (x < WW) = false := by simp; omega
            obtain rfl : x = WW := by omega
            have hol := HOL.out
            rw [← HFT.out] at hol
            obtain ⟨Al, cl, hvl, -, -, hAl, hrl⟩ := hol.row
            have hml : (mfit g x N0 y).length = x := by rw [HFT.out, List.length_map, List.length_range]
            have HRM := Lib.hid (rmend_ok wr (mfit g x N0 y) Al cl wr.heap.size hrl hAl (by omega))
            rw [hml] at hvl HRM
            subst hvl
            generalize hRF : mend (mfit g x N0 y) = RF at *
            have hRFl : RF.length = x := by rw [← hRF, mend_len, hml]
            have HRFL := Lib.hid hRFl
            clear hol hrl HOL hml hRF hRFl
            go_wp2_with fail
            refine HRM.out.mono ?_
            rintro e w6 ⟨v6, rfl, ho6, hb6⟩
            obtain ⟨A6, c6, hv6, -, -, hA6, hr6⟩ := ho6.row
            have HNS := Lib.hid ((HNY.out.below HBS.out).below hb6)
            have HB36 := Lib.hid (HB3s.out.trans (hb6.mono HB3s.out.size))
            have z6 := hb6.size
            obtain ⟨SL, hSL1, hSL2, hSL3⟩ := HNS.out
            have HLO : Hid (SlOk w6 (fun k => w3.heap.size ≤ k ∧ u10.ownBlock ≠ some k ∧ ¬ False) ⟨A6, RF.length, c6⟩ RF) := Lib.hid ⟨rfl, hr6, fun hp a ha => by
              obtain ⟨gg, cc', hv', hge, -, -, -, -, -⟩ := ho6.place hp
              rw [hv6] at hv'
              simp only [Value.slice.injEq] at hv'
              have ha : A6 = some a := ha
              have hab : a.block = gg := by
                have := hv'.1
                rw [ha] at this
                simp only [Option.some.injEq] at this
                rw [this]
              rw [hab]
              refine ⟨by omega, fun e => ?_, fun e => e⟩
              have := (HNY.out.lt _ e).2; omega, hA6⟩
            rw [HRFL.out] at hv6 HLO
            subst hv6
            have HSL1 := Lib.hid hSL1
            have HSL := Lib.hid (And.intro hSL1 (And.intro hSL2 hSL3))
            have hSLl : SL.length = y := by rw [hSL2.len, hRl]
            clear hSL1 hSL2 hSL3 ho6 hb6 hr6 hA6
            go_wp2_with (at_builtin; refine linM.wp_append1 rfl (.tmp 155) (.tmp 158) rfl w3.heap.size _ SL rfl HSL1.out ⟨A6, x, c6⟩ #[.slice A6 x c6] 23 rfl rfl ?c1 ?c2 (by omega) ?_)
            case c1 => simp only [linM]; omega
            case c2 => unfold maxLen; omega
            intro vn w7 hon hgn
            have hnx7 := NextAt.snoc HSL.out HLO.out hon hgn (fun k hk => fun e => e)
            have HB7 := Lib.hid (HB36.out.trans (HSL1.out.grow_below hgn (by omega)))
            rw [← HSUC.out] at hnx7
            have HN7 := Lib.hid hnx7
            clear hnx7 hon hgn HSL HSL1 HLO
            go_wp2_with fail
            go_roundw
            case rel => exact ⟨y + 1, by omega, by simp, HB7.out, HN7.out⟩
            case measure => simp [RowKit.intOf]; omega
      · have gk : decide ((y : Int) < (HH : Int)) = false := by simp; omega
        have gn : decide (y < HH) = false := by simp; omega
        obtain rfl : y = HH := by omega
        have hnx := HNX.out
        rw [← HG.out] at hnx
        obtain ⟨An, cn, hvn, hcn, hln⟩ := hnx.lines
        have HB9 := Lib.hid (HB3.out.trans (HBR.out.mono HB3.out.size))
        have z03 := HB3.out.size
        have hou : LinesAt wr (fun k => N k ∨ w.heap.size ≤ k) (some ⟨b, off, none⟩) O := by
          rw [HO.out]
          exact ((HLI.out.below HB9.out).mono (fun k _ hn => Or.inl hn)).take N0
        have hOl : O.length = N0 := by rw [HO.out, List.length_take, HGL.out]; omega
        have HLN := Lib.hid (hln.mono (N' := fun k => N k ∨ w.heap.size ≤ k) (fun k _ hn => Or.inr (by omega)))
        have HOU := Lib.hid hou
        have HOL := Lib.hid hOl
        subst hvn
        have HCN := Lib.hid hcn
        clear hnx hln hou hcn hOl
        generalize hGl : G.ls.length = Gl at *
        go_upto_region 43 with fail
        go_quiet (fail)
        go_wp2_with fail
        go_ret2
        refine ⟨An, cn, some ⟨b, off, none⟩, c, by rw [hGl, HOL.out]; rfl, by rw [hGl]; exact HCN.out, (HLN.out.below (below_drewN (Below.refl _ _) _)), (HOU.out.below (below_drewN (Below.refl _ _) _)), below_drewN HB9.out _⟩

set_option maxRecDepth 100000 in
set_option maxHeartbeats 4000000 in
theorem mdo_ok0 (w : World) {N : Nat → Prop} {A : Option Addr} {g : Gr} (hok : g.Ok) (h : LinesAt w N A g.ls) (c : Nat) (hcap : g.ls.length ≤ c) (d : De) (hk : d.k = 0) :
    Calls Tryd.prog 14 #[.slice A g.ls.length c, deV d] w (ModPost w N (gdo g d).1 (gdo g d).2) := by
  obtain ⟨w1, hw1⟩ : ∃ w1, w1 = w.alloc (.cells #[.int .i64 d.kind, .int .i64 d.a, .int .i64 d.b, .int .i64 d.c, .int .i32 d.cel.rune, .bool d.cel.sty.bold, .bool d.cel.sty.under, .bool d.cel.sty.turned, .int .i64 d.cel.sty.fore, .int .i64 d.cel.sty.back] 39) := ⟨_, rfl⟩
  have hb1 : Below w.heap.size w w1 := by rw [hw1]; exact (Below.refl _ _).alloc (Nat.le_refl _) _
  have hd1 : DeIn w1 w.heap.size d := by rw [hw1]; exact DeIn.fresh w d
  have HD1 := Lib.hid hd1
  have HB1 := Lib.hid hb1
  have W1 := Lib.hid hw1
  have hlen := hok.len
  have hgh := hok.h2
  have hgw := hok.w2
  have hgw1 := hok.w1
  have hh1 := hok.h1
  have hl0 := hok.line (y := 0) (by omega)
  have hln0 : g.ls[0]'(by omega) = g.line 0 := by
    have := line_get hok (y := 0) (by omega)
    rw [List.getElem?_eq_getElem (by omega)] at this
    exact Option.some.inj this
  have HREAD := Lib.hid (fun (v : World) (hv : Below w.heap.size w v) (x y : Int) (s : Sty) => read_ok v (h.below hv) c x y s)
  have HLI := Lib.hid h
  obtain ⟨b, off, A0, c0, hA, hbl, dh0, -, -⟩ := h.at_ (j := 0) (by omega)
  rw [hln0, hl0.len] at dh0
  have HTM := Lib.hid (fun v => ltame_ok v d.cel.sty)
  have HKD : Hid (∀ v, Calls Tryd.prog 35 #[deV d] v fun e w' => e = .returned (.int .i64 0) ∧ Below v.heap.size v w') := Lib.hid (fun v => by
    have := kind_ok v d
    rw [hk] at this
    exact this)
  have HDH := Lib.hid (fun (v : World) (hv : Below w.heap.size w v) => show v.cell? ⟨b, off, none⟩ = some (.slice A0 g.w c0) from (hv.cell (p := ⟨b, off, none⟩) hbl).trans dh0)
  obtain ⟨n, hn⟩ := Int.eq_ofNat_of_zero_le (show 0 ≤ min (max d.c 0) (g.w : Int) by omega)
  have hX : mX d = d.a := by unfold mX; rw [if_neg (by omega)]
  have hY : mY d = d.b := by unfold mY; rw [if_neg (by omega)]
  have hms := mstep_eq hok d (by omega) hn
  rw [hX, hY] at hms
  obtain ⟨G, hG⟩ : ∃ G, G = (gdo g d).1 := ⟨_, rfl⟩
  obtain ⟨O, hO⟩ : ∃ O : List (List Cel), O = (gdo g d).2 := ⟨_, rfl⟩
  rw [← hG, ← hO]
  have HOO : Hid (O = []) := Lib.hid (by rw [hO, hms])
  have HYES : Hid (g.there (d.a) (d.b) = true → cright d.cel = true → G = g.setL (d.b).toNat (mend (mline d (g.line (d.b).toNat) n))) := Lib.hid (fun h1 h2 => by rw [hG, hms, if_pos ⟨h1, fun _ => h2⟩])
  have HNO : Hid (¬ (g.there (d.a) (d.b) = true ∧ cright d.cel = true) → G = g) := Lib.hid (fun h1 => by rw [hG, hms, if_neg (fun h2 => h1 ⟨h2.1, h2.2 hk⟩)])
  have HTI := Lib.hid (g.there_iff (d.a) (d.b))
  have HLINE := Lib.hid (fun (v : World) (hv : Below w.heap.size w v) (Y : Nat) (hY : Y < g.h) (ha : 0 ≤ d.a) => line_ok0 v hok (h.below hv) c d hY hn ha hk)
  have HRT := Lib.hid (fun v => cright_ok v d.cel)
  obtain ⟨MS, hMS, hMR, hMN⟩ := h.heads
  have HMS := Lib.hid hMS
  have HMR := Lib.hid hMR

  have h0I : 0 < g.ls.length := by omega
  have HK := Lib.hid hk
  have HOK := Lib.hid hok
  clear hw1 hb1 hd1 hl0 hln0 dh0 h hk hok hlen hn hX hY hms hG hO hMS hMR hMN
  obtain ⟨kd, a, bb, cc, ⟨r, ⟨bo, u, t, f, ba⟩⟩⟩ := d
  simp only [deV, styV] at *
  generalize hst : stame ⟨bo, u, t, f, ba⟩ = s' at *
  obtain ⟨sb, su, st, sf, sk⟩ := s'
  have HST := Lib.hid hst
  clear hst
  simp only at *
  subst hA
  generalize hglH : g.ls.length = gl at *
  have HGL := Lib.hid hglH
  have HHG : Hid (g.h = gl) := Lib.hid (HOK.out.len.symm.trans hglH)
  clear hglH
  obtain ⟨W, hWW⟩ : ∃ W, W = g.w := ⟨_, rfl⟩
  have HWW := Lib.hid hWW
  rw [← hWW] at hgw hgw1 HDH
  clear hWW
  go_enter Tryd.func14, Tryd.ntmps14
  go_upto_region 1 with fail
  rw [← W1.out]
  go_cut [6, 7, 8] from 25 (fun o6 o7 o8 wc => ∃ q, o6 = .int .i64 (W : Int) ∧ o7 = .int .i64 (gl : Int) ∧ o8 = .pointer (some ⟨q, 0, none⟩) ∧ w1.heap.size ≤ q ∧ StyIn wc q ⟨sb, su, st, sf, sk⟩ ∧ Below w1.heap.size w1 wc)
  case first =>
    refine wp_region_noPanic ?_
    refine wp_region_held_drew (S := fun v => Below w1.heap.size w1 v) (by kernel_rfl) (Below.refl _ _).drew (fun hHeld => ?_)
    have HSd := Lib.hid hHeld
    refine wpAnyH_take (i := 0) (v := ?vr0) rfl (by kernel_rfl) (by kernel_rfl) (by kernel_rfl) (fun _ _ _ h => h) (Or.inl ⟨by rfl, ?hr0⟩) (by assumption) ?_
    case hr0 => intro w hSw; (try dsimp only at hSw); obtain ⟨x0, x1, x2, x3, x4, x5, x6, x7, x8, x9⟩ := (HD1.out.below hSw).cells; simp only at x0 x1 x2 x3 x4 x5 x6 x7 x8 x9; have y0 := HDH.out _ (below_next HB1.out hSw); go_simp; try with_reducible rfl
    simp only [List.getElem_toArray, List.getElem_cons_zero, Act.put, List.setIfInBounds_toArray, List.set_cons_zero, List.set_cons_succ]
    refine wpAnyH_take (i := 1) (v := ?vr1) rfl (by kernel_rfl) (by kernel_rfl) (by kernel_rfl) (fun _ _ _ h => h) (Or.inl ⟨by rfl, ?hr1⟩) (by assumption) ?_
    case hr1 => intro w hSw; (try dsimp only at hSw); obtain ⟨x0, x1, x2, x3, x4, x5, x6, x7, x8, x9⟩ := (HD1.out.below hSw).cells; simp only at x0 x1 x2 x3 x4 x5 x6 x7 x8 x9; have y0 := HDH.out _ (below_next HB1.out hSw); go_simp; try with_reducible rfl
    simp only [List.getElem_toArray, List.getElem_cons_succ, List.getElem_cons_zero, Act.put, List.setIfInBounds_toArray, List.set_cons_zero, List.set_cons_succ]
    refine wpAnyH_take (i := 2) (v := ?vr2) rfl (by kernel_rfl) (by kernel_rfl) (by kernel_rfl) (fun _ _ _ h => h) (Or.inl ⟨by rfl, ?hr2⟩) (by assumption) ?_
    case hr2 => intro w hSw; (try dsimp only at hSw); obtain ⟨x0, x1, x2, x3, x4, x5, x6, x7, x8, x9⟩ := (HD1.out.below hSw).cells; simp only at x0 x1 x2 x3 x4 x5 x6 x7 x8 x9; have y0 := HDH.out _ (below_next HB1.out hSw); go_simp; try with_reducible rfl
    simp only [List.getElem_toArray, List.getElem_cons_succ, List.getElem_cons_zero, Act.put, List.setIfInBounds_toArray, List.set_cons_zero, List.set_cons_succ]
    refine wpAnyH_take (i := 3) (v := ?vr3) rfl (by kernel_rfl) (by kernel_rfl) (by kernel_rfl) (fun _ _ _ h => h) (Or.inl ⟨by rfl, ?hr3⟩) (by assumption) ?_
    case hr3 => intro w hSw; (try dsimp only at hSw); obtain ⟨x0, x1, x2, x3, x4, x5, x6, x7, x8, x9⟩ := (HD1.out.below hSw).cells; simp only at x0 x1 x2 x3 x4 x5 x6 x7 x8 x9; have y0 := HDH.out _ (below_next HB1.out hSw); go_simp; try with_reducible rfl
    simp only [List.getElem_toArray, List.getElem_cons_succ, List.getElem_cons_zero, Act.put, List.setIfInBounds_toArray, List.set_cons_zero, List.set_cons_succ]
    refine wpAnyH_take (i := 4) (v := ?vr4) rfl (by kernel_rfl) (by kernel_rfl) (by kernel_rfl) (fun _ _ _ h => h) (Or.inl ⟨by rfl, ?hr4⟩) (by assumption) ?_
    case hr4 => intro w hSw; (try dsimp only at hSw); obtain ⟨x0, x1, x2, x3, x4, x5, x6, x7, x8, x9⟩ := (HD1.out.below hSw).cells; simp only at x0 x1 x2 x3 x4 x5 x6 x7 x8 x9; have y0 := HDH.out _ (below_next HB1.out hSw); go_simp; try with_reducible rfl
    simp only [List.getElem_toArray, List.getElem_cons_succ, List.getElem_cons_zero, Act.put, List.setIfInBounds_toArray, List.set_cons_zero, List.set_cons_succ]
    refine wpAnyH_take (i := 5) (v := ?vr5) rfl (by kernel_rfl) (by kernel_rfl) (by kernel_rfl) (fun _ _ _ h => h) (Or.inl ⟨by rfl, ?hr5⟩) (by assumption) ?_
    case hr5 => intro w hSw; (try dsimp only at hSw); obtain ⟨x0, x1, x2, x3, x4, x5, x6, x7, x8, x9⟩ := (HD1.out.below hSw).cells; simp only at x0 x1 x2 x3 x4 x5 x6 x7 x8 x9; have y0 := HDH.out _ (below_next HB1.out hSw); go_simp; try with_reducible rfl
    simp only [List.getElem_toArray, List.getElem_cons_succ, List.getElem_cons_zero, Act.put, List.setIfInBounds_toArray, List.set_cons_zero, List.set_cons_succ]
    refine wpAnyH_take (i := 6) (v := ?vr6) rfl (by kernel_rfl) (by kernel_rfl) (by kernel_rfl) (fun _ _ _ h => h) (Or.inl ⟨by rfl, ?hr6⟩) (by assumption) ?_
    case hr6 => intro w hSw; (try dsimp only at hSw); obtain ⟨x0, x1, x2, x3, x4, x5, x6, x7, x8, x9⟩ := (HD1.out.below hSw).cells; simp only at x0 x1 x2 x3 x4 x5 x6 x7 x8 x9; have y0 := HDH.out _ (below_next HB1.out hSw); go_simp; try with_reducible rfl
    simp only [List.getElem_toArray, List.getElem_cons_succ, List.getElem_cons_zero, Act.put, List.setIfInBounds_toArray, List.set_cons_zero, List.set_cons_succ]
    refine wpAnyH_take (i := 7) (v := ?vr7) rfl (by kernel_rfl) (by kernel_rfl) (by kernel_rfl) (fun _ _ _ h => h) (Or.inl ⟨by rfl, ?hr7⟩) (by assumption) ?_
    case hr7 => intro w hSw; (try dsimp only at hSw); obtain ⟨x0, x1, x2, x3, x4, x5, x6, x7, x8, x9⟩ := (HD1.out.below hSw).cells; simp only at x0 x1 x2 x3 x4 x5 x6 x7 x8 x9; have y0 := HDH.out _ (below_next HB1.out hSw); go_simp; try with_reducible rfl
    simp only [List.getElem_toArray, List.getElem_cons_succ, List.getElem_cons_zero, Act.put, List.setIfInBounds_toArray, List.set_cons_zero, List.set_cons_succ]
    refine wpAnyH_take (i := 8) (v := ?vr8) rfl (by kernel_rfl) (by kernel_rfl) (by kernel_rfl) (fun _ _ _ h => h) (Or.inl ⟨by rfl, ?hr8⟩) (by assumption) ?_
    case hr8 => intro w hSw; (try dsimp only at hSw); obtain ⟨x0, x1, x2, x3, x4, x5, x6, x7, x8, x9⟩ := (HD1.out.below hSw).cells; simp only at x0 x1 x2 x3 x4 x5 x6 x7 x8 x9; have y0 := HDH.out _ (below_next HB1.out hSw); go_simp; try with_reducible rfl
    simp only [List.getElem_toArray, List.getElem_cons_succ, List.getElem_cons_zero, Act.put, List.setIfInBounds_toArray, List.set_cons_zero, List.set_cons_succ]
    refine wpAnyH_ready (rs := [9, 10]) (by kernel_rfl) (by simp) ?_
    refine AllReadyH.cons rfl (fun K hK => ?_) (AllReadyH.cons rfl (fun K hK => ?_) AllReadyH.nil)
    · go_simp
      refine (HTM.out w1.drew).mono ?_
      rintro e v1 ⟨rfl, hbx⟩
      have HS1 := Lib.hid (below_next HSd.out hbx)
      have hz1' := HS1.out.size
      clear hbx
      dsimp only
      refine hK.out _ _ ?_ (fun hHeld => ?_)
      · exact HS1.out
      clear hK K
      refine wpAnyH_ready (rs := [10]) (by kernel_rfl) (by simp) ?_
      refine AllReadyH.cons rfl (fun K hK => ?_) AllReadyH.nil
      go_simp
      try dsimp only
      have hy := heap_alloc_new v1 (.cells #[.bool false, .bool false, .bool false, .int .i64 0, .int .i64 0] 35)
      have HS2 := Lib.hid (HS1.out.alloc (HS1.out.size) (.cells #[.bool false, .bool false, .bool false, .int .i64 0, .int .i64 0] 35))
      refine hK.out _ _ ?_ (fun hHeld => ?_)
      · exact HS2.out
      clear hK K
      generalize v1.alloc (.cells #[.bool false, .bool false, .bool false, .int .i64 0, .int .i64 0] 35) = v2 at *
      have HY := Lib.hid (show StyIn v2 v1.heap.size KM.zero from hy)
      have n0 := HY.out.thaw 0; have n1 := HY.out.thaw 1; have n2 := HY.out.thaw 2; have n3 := HY.out.thaw 3; have n4 := HY.out.thaw 4
      obtain ⟨z0, z1, z2, z3, z4⟩ := HY.out.cells
      simp only [KM.zero] at z0 z1 z2 z3 z4
      clear hy
      refine wpAnyH_ready (rs := [11]) (by kernel_rfl) (by simp) ?_
      refine AllReadyH.cons rfl (fun K hK => ?_) AllReadyH.nil
      go_simp
      refine hK.out _ _ ?_ (fun hHeld => ?_)
      · exact HS2.out
      clear hK K
      refine wpAnyH_ready (rs := [12]) (by kernel_rfl) (by simp) ?_
      refine AllReadyH.cons rfl (fun K hK => ?_) AllReadyH.nil
      go_simp
      refine hK.out _ _ ?_ (fun hHeld => ?_)
      · exact HS2.out
      clear hK K
      refine wpAnyH_ready (rs := [13]) (by kernel_rfl) (by simp) ?_
      refine AllReadyH.cons rfl (fun K hK => ?_) AllReadyH.nil
      go_simp
      refine hK.out _ _ ?_ (fun hHeld => ?_)
      · exact setSty_below HS2.out hz1' ⟨sb, su, st, sf, sk⟩
      clear hK K
      refine wpAnyH_done (by kernel_rfl) ?_ _
      refine NoPanic.normal ?_
      go_wp2_with fail
      go_meet
      case rel => exact ⟨v1.heap.size, rfl, rfl, rfl, hz1', setSty_at HY.out ⟨sb, su, st, sf, sk⟩, setSty_below HS2.out hz1' ⟨sb, su, st, sf, sk⟩⟩
    · go_simp
      try dsimp only
      obtain ⟨v1, hv1⟩ : ∃ v1, v1 = (w1.alloc (.cells #[.bool false, .bool false, .bool false, .int .i64 0, .int .i64 0] 35)).drew := ⟨_, rfl⟩
      rw [← hv1]
      have HS1 := Lib.hid (show Below w1.heap.size w1 v1 by rw [hv1]; exact ((Below.refl _ _).alloc (Nat.le_refl _) _).drew)
      have hy : StyIn v1 w1.heap.size KM.zero := by rw [hv1]; exact heap_alloc_new w1 _
      clear hv1
      refine hK.out _ _ ?_ (fun hHeld => ?_)
      · exact HS1.out
      clear hK K
      have HY := Lib.hid hy
      clear hy
      refine wpAnyH_ready (rs := [9]) (by kernel_rfl) (by simp) ?_
      refine AllReadyH.cons rfl (fun K hK => ?_) AllReadyH.nil
      go_simp
      refine (HTM.out v1).mono ?_
      rintro e v2 ⟨rfl, hbx⟩
      have HS2 := Lib.hid (below_next HS1.out hbx)
      have HY2 := Lib.hid (HY.out.below hbx)
      have n0 := HY2.out.thaw 0; have n1 := HY2.out.thaw 1; have n2 := HY2.out.thaw 2; have n3 := HY2.out.thaw 3; have n4 := HY2.out.thaw 4
      obtain ⟨z0, z1, z2, z3, z4⟩ := HY2.out.cells
      simp only [KM.zero] at z0 z1 z2 z3 z4
      clear hbx
      dsimp only
      refine hK.out _ _ ?_ (fun hHeld => ?_)
      · exact HS2.out
      clear hK K
      refine wpAnyH_ready (rs := [11]) (by kernel_rfl) (by simp) ?_
      refine AllReadyH.cons rfl (fun K hK => ?_) AllReadyH.nil
      go_simp
      refine hK.out _ _ ?_ (fun hHeld => ?_)
      · exact HS2.out
      clear hK K
      refine wpAnyH_ready (rs := [12]) (by kernel_rfl) (by simp) ?_
      refine AllReadyH.cons rfl (fun K hK => ?_) AllReadyH.nil
      go_simp
      refine hK.out _ _ ?_ (fun hHeld => ?_)
      · exact HS2.out
      clear hK K
      refine wpAnyH_ready (rs := [13]) (by kernel_rfl) (by simp) ?_
      refine AllReadyH.cons rfl (fun K hK => ?_) AllReadyH.nil
      go_simp
      refine hK.out _ _ ?_ (fun hHeld => ?_)
      · exact setSty_below HS2.out (Nat.le_refl _) ⟨sb, su, st, sf, sk⟩
      clear hK K
      refine wpAnyH_done (by kernel_rfl) ?_ _
      refine NoPanic.normal ?_
      go_wp2_with fail
      go_meet
      case rel => exact ⟨w1.heap.size, rfl, rfl, rfl, Nat.le_refl _, setSty_at HY2.out ⟨sb, su, st, sf, sk⟩, setSty_below HS2.out (Nat.le_refl _) ⟨sb, su, st, sf, sk⟩⟩
  case rest =>
    obtain ⟨q, rfl, rfl, rfl, hq1, hst, hbc⟩ := hcut
    rename World => w2
    have HB2 := Lib.hid (below_next HB1.out hbc)
    have HD2 := Lib.hid (HD1.out.below hbc)
    have HS2 := Lib.hid hst
    have z12 := hbc.size
    have z02 := HB2.out.size
    obtain ⟨x0, x1, x2, x3, x4, x5, x6, x7, x8, x9⟩ := HD2.out.cells
    simp only at x0 x1 x2 x3 x4 x5 x6 x7 x8 x9
    clear hst hbc hq1
    go_wp2_with fail
    refine (HKD.out w2).mono ?_
    rintro e w3 ⟨rfl, hb3⟩
    have HB3 := Lib.hid (below_next HB2.out hb3)
    have HD3 := Lib.hid (HD2.out.below hb3)
    have HS3 := Lib.hid (HS2.out.below hb3)
    have z23 := hb3.size
    clear x0 x1 x2 x3 x4 x5 x6 x7 x8 x9 hb3
    obtain ⟨x0, x1, x2, x3, x4, x5, x6, x7, x8, x9⟩ := HD3.out.cells
    simp only at x0 x1 x2 x3 x4 x5 x6 x7 x8 x9
    have hrt : ∃ rt, rt = cright ⟨r, ⟨bo, u, t, f, ba⟩⟩ := ⟨_, rfl⟩
    obtain ⟨rt, hrt⟩ := hrt
    rw [← hrt] at HYES HNO HRT
    simp only [celV] at HRT
    clear hrt
    obtain ⟨th, hth⟩ : ∃ th, th = g.there (a) (bb) := ⟨_, rfl⟩
    rw [← hth] at HYES HNO HTI
    have HTI2 : Hid (th = true ↔ (0 ≤ (a : Int) ∧ (a : Int) < (W : Int)) ∧ 0 ≤ bb ∧ bb < (gl : Int)) := Lib.hid (by rw [HWW.out, ← HHG.out]; exact HTI.out)
    clear hth HTI
    go_wp2_with fail
    refine (HKD.out w3).mono ?_
    rintro e w4 ⟨rfl, hb⟩
    have HB4 := Lib.hid (below_next HB3.out hb)
    have HD4 := Lib.hid (HD3.out.below hb)
    clear hb x0 x1 x2 x3 x4 x5 x6 x7 x8 x9
    obtain ⟨x0, x1, x2, x3, x4, x5, x6, x7, x8, x9⟩ := HD4.out.cells
    simp only at x0 x1 x2 x3 x4 x5 x6 x7 x8 x9
    go_wp2_with fail
    refine (HKD.out w4).mono ?_
    rintro e w5 ⟨rfl, hb⟩
    have HB5 := Lib.hid (below_next HB4.out hb)
    have HD5 := Lib.hid (HD4.out.below hb)
    clear hb x0 x1 x2 x3 x4 x5 x6 x7 x8 x9
    obtain ⟨x0, x1, x2, x3, x4, x5, x6, x7, x8, x9⟩ := HD5.out.cells
    simp only at x0 x1 x2 x3 x4 x5 x6 x7 x8 x9
    go_upto_region 50 with fail
    obtain ⟨w6, hw6⟩ : ∃ w6, w6 = w5 := ⟨_, rfl⟩
    go_cut [203] from 177 (fun o wc => o = .bool (!(th && rt)) ∧ Below w5.heap.size w5 wc)
    case first =>
      by_cases hx0 : a < 0
      · have t1 : decide (a < 0) = true := by simp; omega
        go_wp2_with fail
        go_meet
        case rel => exact ⟨congrArg Value.bool (by rw [show th = false from Bool.eq_false_iff.2 (fun h => by have := HTI2.out.1 h; omega)]; simp), Below.refl _ _⟩
      have t1 : decide (a < 0) = false := by simp; omega
      by_cases hy0 : bb < 0
      · have t2 : decide (bb < 0) = true := by simp; omega
        go_wp2_with fail
        go_meet
        case rel => exact ⟨congrArg Value.bool (by rw [show th = false from Bool.eq_false_iff.2 (fun h => by have := HTI2.out.1 h; omega)]; simp), Below.refl _ _⟩
      have t2 : decide (bb < 0) = false := by simp; omega
      by_cases hx1 : (W : Int) ≤ a
      · have t3 : decide ((W : Int) ≤ a) = true := by simp; omega
        go_wp2_with fail
        go_meet
        case rel => exact ⟨congrArg Value.bool (by rw [show th = false from Bool.eq_false_iff.2 (fun h => by have := HTI2.out.1 h; omega)]; simp), Below.refl _ _⟩
      have t3 : decide ((W : Int) ≤ a) = false := by simp; omega
      by_cases hy1 : (gl : Int) ≤ bb
      · have t4 : decide ((gl : Int) ≤ bb) = true := by simp; omega
        go_wp2_with fail
        go_meet
        case rel => exact ⟨congrArg Value.bool (by rw [show th = false from Bool.eq_false_iff.2 (fun h => by have := HTI2.out.1 h; omega)]; simp), Below.refl _ _⟩
      have t4 : decide ((gl : Int) ≤ bb) = false := by simp; omega
      have hth : th = true := HTI2.out.2 ⟨⟨by omega, by omega⟩, by omega, by omega⟩
      go_wp2_with fail
      refine (HKD.out w5).mono ?_
      rintro e w7 ⟨rfl, hb7⟩
      have HB57 := Lib.hid hb7
      have HD7 := Lib.hid (HD5.out.below hb7)
      clear hb7 x0 x1 x2 x3 x4 x5 x6 x7 x8 x9
      obtain ⟨x0, x1, x2, x3, x4, x5, x6, x7, x8, x9⟩ := HD7.out.cells
      simp only at x0 x1 x2 x3 x4 x5 x6 x7 x8 x9
      go_wp2_with fail
      refine (HRT.out w7).mono ?_
      rintro e w8 ⟨rfl, hb8⟩
      have HB58 := Lib.hid (below_next HB57.out hb8)
      clear hb8 x0 x1 x2 x3 x4 x5 x6 x7 x8 x9
      subst hth
      rcases rt with _ | _
      · go_wp2_with fail
        go_meet
        case rel => exact ⟨by simp, HB58.out⟩
      · go_wp2_with fail
        go_meet
        case rel => exact ⟨by simp, HB58.out⟩
    case rest =>
      obtain ⟨ho, hbc⟩ := hcut
      rename World => w7
      rw [ho]
      have HB7 := Lib.hid (below_next HB5.out hbc)
      have HD7 := Lib.hid (HD5.out.below hbc)
      clear ho hbc hw6 w6 x0 x1 x2 x3 x4 x5 x6 x7 x8 x9
      obtain ⟨x0, x1, x2, x3, x4, x5, x6, x7, x8, x9⟩ := HD7.out.cells
      simp only at x0 x1 x2 x3 x4 x5 x6 x7 x8 x9
      obtain ⟨B, hB⟩ : ∃ B, B = (th && rt) := ⟨_, rfl⟩
      rw [← hB]
      rcases B with _ | _
      · obtain rfl : G = g := HNO.out (fun h => by rw [h.1, h.2] at hB; simp at hB)
        have hbf : (!false) = true := rfl
        clear hB
        rw [hbf]
        have HLN := Lib.hid ((HLI.out.below HB7.out).mono (N' := fun k => N k ∨ w.heap.size ≤ k) (fun k _ hn => Or.inl hn))
        go_wp2_with fail
        go_ret2
        refine ⟨some ⟨b, off, none⟩, c, none, 0, by rw [HGL.out, HOO.out]; rfl, by rw [HGL.out]; exact hcap, HLN.out, by rw [HOO.out]; exact LinesAt.nil, HB7.out⟩
      · have hbt : (!true) = false := rfl
        rw [hbt]
        have hth : th = true := by
          rcases th with _ | _
          · simp at hB
          · rfl
        have hthi := HTI2.out.1 hth
        have hG := HYES.out hth (by rw [hth] at hB; simpa using hB.symm)
        have hgl : gl ≤ 60 := by rw [← HHG.out]; exact hgh
        obtain ⟨YN, hYN⟩ := Int.eq_ofNat_of_zero_le hthi.2.1
        have ha0 : 0 ≤ a := hthi.1.1
        have hYg : YN < gl := by omega
        subst hYN
        rw [Int.toNat_natCast] at hG
        have hMl : MS.length = gl := by rw [HMS.out.len, HGL.out]
        have HML := Lib.hid hMl
        have HLINE' := Lib.hid (fun (v : World) (hv : Below w.heap.size w v) => HLINE.out v hv YN (by rw [HHG.out]; exact hYg) ha0)
        obtain ⟨RL, hRL⟩ : ∃ RL, RL = mend (mline ⟨kd, a, (YN : Int), cc, ⟨r, ⟨bo, u, t, f, ba⟩⟩⟩ (g.line YN) n) := ⟨_, rfl⟩
        rw [← hRL] at HLINE' hG
        have HGG := Lib.hid hG
        have hYI : (YN : Int) < (gl : Int) := by omega
        have z7 := HB7.out.size
        clear hB hG hRL hMl hthi HLINE ha0
        go_wp2_with (at_builtin; refine linM.wp_append rfl (.tmp 205) (.tmp 206) rfl w7.heap.size _ [] rfl (El.Own.nil _ _) (some ⟨b, off, none⟩) MS gl c w.heap.size HML.out.symm rfl (HMR.out.below HB7.out) (by simp) ?c1 ?c2 (Nat.le_refl _) ?_)
        case c1 => rw [HML.out]; simp only [linM, List.length_nil]; omega
        case c2 => rw [HML.out]; simp only [List.length_nil]; unfold maxLen; omega
        intro vn w8 hon hgn
        have hb78 := (El.Own.nil (E := linM) w7 w7.heap.size).grow_below hgn (Nat.le_refl _)
        have HB8 := Lib.hid (below_next HB7.out hb78)
        have HD8 := Lib.hid (HD7.out.below hb78)
        obtain ⟨nb, cn, hvn, hge, hnl, hlc, -, hfz, hcl⟩ := hon.place (by rw [HML.out]; omega)
        have HON := Lib.hid hon
        have HGE := Lib.hid hge
        have HNL := Lib.hid hnl
        have HC8 : Hid (w8.cell? ⟨nb, YN, none⟩ = some (MS[YN]'(by rw [HML.out]; exact hYg)).v) := Lib.hid (by
          have := hcl YN (by rw [HML.out]; exact hYg) 0 (by decide)
          simpa [linM] using this)
        have HF8 := Lib.hid (hfz YN)
        rw [HML.out] at hvn hlc
        subst hvn
        have HLC := Lib.hid hlc
        clear hon hgn hb78 hge hnl hlc hfz hcl x0 x1 x2 x3 x4 x5 x6 x7 x8 x9
        obtain ⟨x0, x1, x2, x3, x4, x5, x6, x7, x8, x9⟩ := HD8.out.cells
        simp only at x0 x1 x2 x3 x4 x5 x6 x7 x8 x9
        go_wp2_with fail
        refine (HLINE'.out w8 HB8.out).mono ?_
        rintro e w9 ⟨v9, rfl, ho9, hb9⟩
        obtain ⟨A9, c9, hv9, -, -, hA9, hr9⟩ := ho9.row
        have HSO : Hid (SlOk w9 (fun k => w8.heap.size ≤ k) ⟨A9, RL.length, c9⟩ RL) := Lib.hid ⟨rfl, hr9, fun hp a' ha' => by
          obtain ⟨gg, cc', hv', hge, -, -, -, -, -⟩ := ho9.place hp
          rw [hv9] at hv'
          simp only [Value.slice.injEq] at hv'
          have ha' : A9 = some a' := ha'
          have hab : a'.block = gg := by
            have := hv'.1
            rw [ha'] at this
            simp only [Option.some.injEq] at this
            rw [this]
          rw [hab]
          exact hge, hA9⟩
        have HB9 := Lib.hid (below_next HB8.out hb9)
        have HON9 := Lib.hid (HON.out.below hb9)
        have hc9 := (hb9.cell (p := ⟨nb, YN, none⟩) HNL.out).trans HC8.out
        have hf9 := (hb9.frozen (p := ⟨nb, YN, none⟩) HNL.out).trans HF8.out
        subst hv9
        generalize hrl : RL.length = rl at *
        clear ho9 hr9 hA9 hb9 x0 x1 x2 x3 x4 x5 x6 x7 x8 x9
        generalize (MS[YN]'(by rw [HML.out]; exact hYg)).v = old at *
        go_wp2_with fail
        go_ret2
        have hset := HON9.out.set (g := nb) (c := cn) (i := YN) (j := 0) (a' := ⟨A9, rl, c9⟩) (u := .slice A9 rl c9) (by rw [HML.out]) (by rw [HML.out]; exact hYg) (by decide) (by simp [linM, Sl.v])
        have hset' : linM.Own (w9.setCell ⟨nb, YN, none⟩ (.slice A9 rl c9)) w7.heap.size (.slice (some ⟨nb, 0, none⟩) gl cn) (MS.set YN ⟨A9, rl, c9⟩) := by simpa [linM] using hset
        have hwn : w.heap.size ≤ nb := Nat.le_trans z7 HGE.out
        have hBz : Below w.heap.size w (w9.setCell ⟨nb, YN, none⟩ (.slice A9 rl c9)) := HB9.out.setCell (p := ⟨nb, YN, none⟩) hwn _
        have hSz := HSO.out.keep (w' := w9.setCell ⟨nb, YN, none⟩ (.slice A9 rl c9)) (fun k _ hn => Below.heap_setCell _ _ _ _ (fun e => by have := HNL.out; simp only at e; omega)) (by simp)
        have hGls : G.ls = g.ls.set YN RL := by rw [HGG.out]; rfl
        have hGl : G.ls.length = gl := by rw [hGls, List.length_set, HGL.out]
        have z8 := HB8.out.size
        refine ⟨some ⟨nb, 0, none⟩, cn, none, 0, by rw [hGl, HOO.out]; rfl, by rw [hGl]; exact HLC.out, ?_, by rw [HOO.out]; exact LinesAt.nil, hBz⟩
        rw [hGls]
        refine LinesAt.of_heads (SL := MS.set YN ⟨A9, rl, c9⟩) (((HMS.out.below hBz).mono (fun k _ hn => Or.inl hn)).set (hSz.mono (fun k _ hn => Or.inr (by omega))) YN) (El.Row.of_own (c := cn) (base := w7.heap.size) (by rw [List.length_set, HML.out]; exact hset')) (fun _ a' ha' => ?_)
        injection ha' with ha'
        subst ha'
        exact Or.inr hwn

set_option maxRecDepth 100000 in
set_option maxHeartbeats 4000000 in
theorem mdo_ok1 (w : World) {N : Nat → Prop} {A : Option Addr} {g : Gr} (hok : g.Ok) (h : LinesAt w N A g.ls) (c : Nat) (hcap : g.ls.length ≤ c) (d : De) (hk : d.k = 1) :
    Calls Tryd.prog 14 #[.slice A g.ls.length c, deV d] w (ModPost w N (gdo g d).1 (gdo g d).2) := by
  obtain ⟨w1, hw1⟩ : ∃ w1, w1 = w.alloc (.cells #[.int .i64 d.kind, .int .i64 d.a, .int .i64 d.b, .int .i64 d.c, .int .i32 d.cel.rune, .bool d.cel.sty.bold, .bool d.cel.sty.under, .bool d.cel.sty.turned, .int .i64 d.cel.sty.fore, .int .i64 d.cel.sty.back] 39) := ⟨_, rfl⟩
  have hb1 : Below w.heap.size w w1 := by rw [hw1]; exact (Below.refl _ _).alloc (Nat.le_refl _) _
  have hd1 : DeIn w1 w.heap.size d := by rw [hw1]; exact DeIn.fresh w d
  have HD1 := Lib.hid hd1
  have HB1 := Lib.hid hb1
  have W1 := Lib.hid hw1
  have hlen := hok.len
  have hgh := hok.h2
  have hgw := hok.w2
  have hgw1 := hok.w1
  have hh1 := hok.h1
  have hl0 := hok.line (y := 0) (by omega)
  have hln0 : g.ls[0]'(by omega) = g.line 0 := by
    have := line_get hok (y := 0) (by omega)
    rw [List.getElem?_eq_getElem (by omega)] at this
    exact Option.some.inj this
  have HREAD := Lib.hid (fun (v : World) (hv : Below w.heap.size w v) (x y : Int) (s : Sty) => read_ok v (h.below hv) c x y s)
  have HLI := Lib.hid h
  obtain ⟨b, off, A0, c0, hA, hbl, dh0, -, -⟩ := h.at_ (j := 0) (by omega)
  rw [hln0, hl0.len] at dh0
  have HTM := Lib.hid (fun v => ltame_ok v d.cel.sty)
  have HKD : Hid (∀ v, Calls Tryd.prog 35 #[deV d] v fun e w' => e = .returned (.int .i64 1) ∧ Below v.heap.size v w') := Lib.hid (fun v => by
    have := kind_ok v d
    rw [hk] at this
    exact this)
  have HDH := Lib.hid (fun (v : World) (hv : Below w.heap.size w v) => show v.cell? ⟨b, off, none⟩ = some (.slice A0 g.w c0) from (hv.cell (p := ⟨b, off, none⟩) hbl).trans dh0)
  obtain ⟨n, hn⟩ := Int.eq_ofNat_of_zero_le (show 0 ≤ min (max d.c 0) (g.w : Int) by omega)
  have hX : mX d = 0 := by unfold mX; rw [if_pos hk]
  have hY : mY d = d.a := by unfold mY; rw [if_pos hk]
  have hms := mstep_eq hok d (by omega) hn
  rw [hX, hY] at hms
  obtain ⟨G, hG⟩ : ∃ G, G = (gdo g d).1 := ⟨_, rfl⟩
  obtain ⟨O, hO⟩ : ∃ O : List (List Cel), O = (gdo g d).2 := ⟨_, rfl⟩
  rw [← hG, ← hO]
  have HOO : Hid (O = []) := Lib.hid (by rw [hO, hms])
  have HYES : Hid (g.there (0) (d.a) = true → G = g.setL (d.a).toNat (mend (mline d (g.line (d.a).toNat) n))) := Lib.hid (fun h1  => by rw [hG, hms, if_pos ⟨h1, fun _ => by omega⟩])
  have HNO : Hid (¬ g.there (0) (d.a) = true → G = g) := Lib.hid (fun h1 => by rw [hG, hms, if_neg (fun h2 => h1 h2.1)])
  have HTI := Lib.hid (g.there_iff (0) (d.a))
  have HLINE := Lib.hid (fun (v : World) (hv : Below w.heap.size w v) (Y : Nat) (hY : Y < g.h) (ha : 0 ≤ d.a) => line_ok1 v hok (h.below hv) c d hY hn ha hk)
  have HRT := Lib.hid (fun v => cright_ok v d.cel)
  obtain ⟨MS, hMS, hMR, hMN⟩ := h.heads
  have HMS := Lib.hid hMS
  have HMR := Lib.hid hMR

  have h0I : 0 < g.ls.length := by omega
  have HK := Lib.hid hk
  have HOK := Lib.hid hok
  clear hw1 hb1 hd1 hl0 hln0 dh0 h hk hok hlen hn hX hY hms hG hO hMS hMR hMN
  obtain ⟨kd, a, bb, cc, ⟨r, ⟨bo, u, t, f, ba⟩⟩⟩ := d
  simp only [deV, styV] at *
  generalize hst : stame ⟨bo, u, t, f, ba⟩ = s' at *
  obtain ⟨sb, su, st, sf, sk⟩ := s'
  have HST := Lib.hid hst
  clear hst
  simp only at *
  subst hA
  generalize hglH : g.ls.length = gl at *
  have HGL := Lib.hid hglH
  have HHG : Hid (g.h = gl) := Lib.hid (HOK.out.len.symm.trans hglH)
  clear hglH
  obtain ⟨W, hWW⟩ : ∃ W, W = g.w := ⟨_, rfl⟩
  have HWW := Lib.hid hWW
  rw [← hWW] at hgw hgw1 HDH
  clear hWW
  go_enter Tryd.func14, Tryd.ntmps14
  go_upto_region 1 with fail
  rw [← W1.out]
  go_cut [6, 7, 8] from 25 (fun o6 o7 o8 wc => ∃ q, o6 = .int .i64 (W : Int) ∧ o7 = .int .i64 (gl : Int) ∧ o8 = .pointer (some ⟨q, 0, none⟩) ∧ w1.heap.size ≤ q ∧ StyIn wc q ⟨sb, su, st, sf, sk⟩ ∧ Below w1.heap.size w1 wc)
  case first =>
    refine wp_region_noPanic ?_
    refine wp_region_held_drew (S := fun v => Below w1.heap.size w1 v) (by kernel_rfl) (Below.refl _ _).drew (fun hHeld => ?_)
    have HSd := Lib.hid hHeld
    refine wpAnyH_take (i := 0) (v := ?vr0) rfl (by kernel_rfl) (by kernel_rfl) (by kernel_rfl) (fun _ _ _ h => h) (Or.inl ⟨by rfl, ?hr0⟩) (by assumption) ?_
    case hr0 => intro w hSw; (try dsimp only at hSw); obtain ⟨x0, x1, x2, x3, x4, x5, x6, x7, x8, x9⟩ := (HD1.out.below hSw).cells; simp only at x0 x1 x2 x3 x4 x5 x6 x7 x8 x9; have y0 := HDH.out _ (below_next HB1.out hSw); go_simp; try with_reducible rfl
    simp only [List.getElem_toArray, List.getElem_cons_zero, Act.put, List.setIfInBounds_toArray, List.set_cons_zero, List.set_cons_succ]
    refine wpAnyH_take (i := 1) (v := ?vr1) rfl (by kernel_rfl) (by kernel_rfl) (by kernel_rfl) (fun _ _ _ h => h) (Or.inl ⟨by rfl, ?hr1⟩) (by assumption) ?_
    case hr1 => intro w hSw; (try dsimp only at hSw); obtain ⟨x0, x1, x2, x3, x4, x5, x6, x7, x8, x9⟩ := (HD1.out.below hSw).cells; simp only at x0 x1 x2 x3 x4 x5 x6 x7 x8 x9; have y0 := HDH.out _ (below_next HB1.out hSw); go_simp; try with_reducible rfl
    simp only [List.getElem_toArray, List.getElem_cons_succ, List.getElem_cons_zero, Act.put, List.setIfInBounds_toArray, List.set_cons_zero, List.set_cons_succ]
    refine wpAnyH_take (i := 2) (v := ?vr2) rfl (by kernel_rfl) (by kernel_rfl) (by kernel_rfl) (fun _ _ _ h => h) (Or.inl ⟨by rfl, ?hr2⟩) (by assumption) ?_
    case hr2 => intro w hSw; (try dsimp only at hSw); obtain ⟨x0, x1, x2, x3, x4, x5, x6, x7, x8, x9⟩ := (HD1.out.below hSw).cells; simp only at x0 x1 x2 x3 x4 x5 x6 x7 x8 x9; have y0 := HDH.out _ (below_next HB1.out hSw); go_simp; try with_reducible rfl
    simp only [List.getElem_toArray, List.getElem_cons_succ, List.getElem_cons_zero, Act.put, List.setIfInBounds_toArray, List.set_cons_zero, List.set_cons_succ]
    refine wpAnyH_take (i := 3) (v := ?vr3) rfl (by kernel_rfl) (by kernel_rfl) (by kernel_rfl) (fun _ _ _ h => h) (Or.inl ⟨by rfl, ?hr3⟩) (by assumption) ?_
    case hr3 => intro w hSw; (try dsimp only at hSw); obtain ⟨x0, x1, x2, x3, x4, x5, x6, x7, x8, x9⟩ := (HD1.out.below hSw).cells; simp only at x0 x1 x2 x3 x4 x5 x6 x7 x8 x9; have y0 := HDH.out _ (below_next HB1.out hSw); go_simp; try with_reducible rfl
    simp only [List.getElem_toArray, List.getElem_cons_succ, List.getElem_cons_zero, Act.put, List.setIfInBounds_toArray, List.set_cons_zero, List.set_cons_succ]
    refine wpAnyH_take (i := 4) (v := ?vr4) rfl (by kernel_rfl) (by kernel_rfl) (by kernel_rfl) (fun _ _ _ h => h) (Or.inl ⟨by rfl, ?hr4⟩) (by assumption) ?_
    case hr4 => intro w hSw; (try dsimp only at hSw); obtain ⟨x0, x1, x2, x3, x4, x5, x6, x7, x8, x9⟩ := (HD1.out.below hSw).cells; simp only at x0 x1 x2 x3 x4 x5 x6 x7 x8 x9; have y0 := HDH.out _ (below_next HB1.out hSw); go_simp; try with_reducible rfl
    simp only [List.getElem_toArray, List.getElem_cons_succ, List.getElem_cons_zero, Act.put, List.setIfInBounds_toArray, List.set_cons_zero, List.set_cons_succ]
    refine wpAnyH_take (i := 5) (v := ?vr5) rfl (by kernel_rfl) (by kernel_rfl) (by kernel_rfl) (fun _ _ _ h => h) (Or.inl ⟨by rfl, ?hr5⟩) (by assumption) ?_
    case hr5 => intro w hSw; (try dsimp only at hSw); obtain ⟨x0, x1, x2, x3, x4, x5, x6, x7, x8, x9⟩ := (HD1.out.below hSw).cells; simp only at x0 x1 x2 x3 x4 x5 x6 x7 x8 x9; have y0 := HDH.out _ (below_next HB1.out hSw); go_simp; try with_reducible rfl
    simp only [List.getElem_toArray, List.getElem_cons_succ, List.getElem_cons_zero, Act.put, List.setIfInBounds_toArray, List.set_cons_zero, List.set_cons_succ]
    refine wpAnyH_take (i := 6) (v := ?vr6) rfl (by kernel_rfl) (by kernel_rfl) (by kernel_rfl) (fun _ _ _ h => h) (Or.inl ⟨by rfl, ?hr6⟩) (by assumption) ?_
    case hr6 => intro w hSw; (try dsimp only at hSw); obtain ⟨x0, x1, x2, x3, x4, x5, x6, x7, x8, x9⟩ := (HD1.out.below hSw).cells; simp only at x0 x1 x2 x3 x4 x5 x6 x7 x8 x9; have y0 := HDH.out _ (below_next HB1.out hSw); go_simp; try with_reducible rfl
    simp only [List.getElem_toArray, List.getElem_cons_succ, List.getElem_cons_zero, Act.put, List.setIfInBounds_toArray, List.set_cons_zero, List.set_cons_succ]
    refine wpAnyH_take (i := 7) (v := ?vr7) rfl (by kernel_rfl) (by kernel_rfl) (by kernel_rfl) (fun _ _ _ h => h) (Or.inl ⟨by rfl, ?hr7⟩) (by assumption) ?_
    case hr7 => intro w hSw; (try dsimp only at hSw); obtain ⟨x0, x1, x2, x3, x4, x5, x6, x7, x8, x9⟩ := (HD1.out.below hSw).cells; simp only at x0 x1 x2 x3 x4 x5 x6 x7 x8 x9; have y0 := HDH.out _ (below_next HB1.out hSw); go_simp; try with_reducible rfl
    simp only [List.getElem_toArray, List.getElem_cons_succ, List.getElem_cons_zero, Act.put, List.setIfInBounds_toArray, List.set_cons_zero, List.set_cons_succ]
    refine wpAnyH_take (i := 8) (v := ?vr8) rfl (by kernel_rfl) (by kernel_rfl) (by kernel_rfl) (fun _ _ _ h => h) (Or.inl ⟨by rfl, ?hr8⟩) (by assumption) ?_
    case hr8 => intro w hSw; (try dsimp only at hSw); obtain ⟨x0, x1, x2, x3, x4, x5, x6, x7, x8, x9⟩ := (HD1.out.below hSw).cells; simp only at x0 x1 x2 x3 x4 x5 x6 x7 x8 x9; have y0 := HDH.out _ (below_next HB1.out hSw); go_simp; try with_reducible rfl
    simp only [List.getElem_toArray, List.getElem_cons_succ, List.getElem_cons_zero, Act.put, List.setIfInBounds_toArray, List.set_cons_zero, List.set_cons_succ]
    refine wpAnyH_ready (rs := [9, 10]) (by kernel_rfl) (by simp) ?_
    refine AllReadyH.cons rfl (fun K hK => ?_) (AllReadyH.cons rfl (fun K hK => ?_) AllReadyH.nil)
    · go_simp
      refine (HTM.out w1.drew).mono ?_
      rintro e v1 ⟨rfl, hbx⟩
      have HS1 := Lib.hid (below_next HSd.out hbx)
      have hz1' := HS1.out.size
      clear hbx
      dsimp only
      refine hK.out _ _ ?_ (fun hHeld => ?_)
      · exact HS1.out
      clear hK K
      refine wpAnyH_ready (rs := [10]) (by kernel_rfl) (by simp) ?_
      refine AllReadyH.cons rfl (fun K hK => ?_) AllReadyH.nil
      go_simp
      try dsimp only
      have hy := heap_alloc_new v1 (.cells #[.bool false, .bool false, .bool false, .int .i64 0, .int .i64 0] 35)
      have HS2 := Lib.hid (HS1.out.alloc (HS1.out.size) (.cells #[.bool false, .bool false, .bool false, .int .i64 0, .int .i64 0] 35))
      refine hK.out _ _ ?_ (fun hHeld => ?_)
      · exact HS2.out
      clear hK K
      generalize v1.alloc (.cells #[.bool false, .bool false, .bool false, .int .i64 0, .int .i64 0] 35) = v2 at *
      have HY := Lib.hid (show StyIn v2 v1.heap.size KM.zero from hy)
      have n0 := HY.out.thaw 0; have n1 := HY.out.thaw 1; have n2 := HY.out.thaw 2; have n3 := HY.out.thaw 3; have n4 := HY.out.thaw 4
      obtain ⟨z0, z1, z2, z3, z4⟩ := HY.out.cells
      simp only [KM.zero] at z0 z1 z2 z3 z4
      clear hy
      refine wpAnyH_ready (rs := [11]) (by kernel_rfl) (by simp) ?_
      refine AllReadyH.cons rfl (fun K hK => ?_) AllReadyH.nil
      go_simp
      refine hK.out _ _ ?_ (fun hHeld => ?_)
      · exact HS2.out
      clear hK K
      refine wpAnyH_ready (rs := [12]) (by kernel_rfl) (by simp) ?_
      refine AllReadyH.cons rfl (fun K hK => ?_) AllReadyH.nil
      go_simp
      refine hK.out _ _ ?_ (fun hHeld => ?_)
      · exact HS2.out
      clear hK K
      refine wpAnyH_ready (rs := [13]) (by kernel_rfl) (by simp) ?_
      refine AllReadyH.cons rfl (fun K hK => ?_) AllReadyH.nil
      go_simp
      refine hK.out _ _ ?_ (fun hHeld => ?_)
      · exact setSty_below HS2.out hz1' ⟨sb, su, st, sf, sk⟩
      clear hK K
      refine wpAnyH_done (by kernel_rfl) ?_ _
      refine NoPanic.normal ?_
      go_wp2_with fail
      go_meet
      case rel => exact ⟨v1.heap.size, rfl, rfl, rfl, hz1', setSty_at HY.out ⟨sb, su, st, sf, sk⟩, setSty_below HS2.out hz1' ⟨sb, su, st, sf, sk⟩⟩
    · go_simp
      try dsimp only
      obtain ⟨v1, hv1⟩ : ∃ v1, v1 = (w1.alloc (.cells #[.bool false, .bool false, .bool false, .int .i64 0, .int .i64 0] 35)).drew := ⟨_, rfl⟩
      rw [← hv1]
      have HS1 := Lib.hid (show Below w1.heap.size w1 v1 by rw [hv1]; exact ((Below.refl _ _).alloc (Nat.le_refl _) _).drew)
      have hy : StyIn v1 w1.heap.size KM.zero := by rw [hv1]; exact heap_alloc_new w1 _
      clear hv1
      refine hK.out _ _ ?_ (fun hHeld => ?_)
      · exact HS1.out
      clear hK K
      have HY := Lib.hid hy
      clear hy
      refine wpAnyH_ready (rs := [9]) (by kernel_rfl) (by simp) ?_
      refine AllReadyH.cons rfl (fun K hK => ?_) AllReadyH.nil
      go_simp
      refine (HTM.out v1).mono ?_
      rintro e v2 ⟨rfl, hbx⟩
      have HS2 := Lib.hid (below_next HS1.out hbx)
      have HY2 := Lib.hid (HY.out.below hbx)
      have n0 := HY2.out.thaw 0; have n1 := HY2.out.thaw 1; have n2 := HY2.out.thaw 2; have n3 := HY2.out.thaw 3; have n4 := HY2.out.thaw 4
      obtain ⟨z0, z1, z2, z3, z4⟩ := HY2.out.cells
      simp only [KM.zero] at z0 z1 z2 z3 z4
      clear hbx
      dsimp only
      refine hK.out _ _ ?_ (fun hHeld => ?_)
      · exact HS2.out
      clear hK K
      refine wpAnyH_ready (rs := [11]) (by kernel_rfl) (by simp) ?_
      refine AllReadyH.cons rfl (fun K hK => ?_) AllReadyH.nil
      go_simp
      refine hK.out _ _ ?_ (fun hHeld => ?_)
      · exact HS2.out
      clear hK K
      refine wpAnyH_ready (rs := [12]) (by kernel_rfl) (by simp) ?_
      refine AllReadyH.cons rfl (fun K hK => ?_) AllReadyH.nil
      go_simp
      refine hK.out _ _ ?_ (fun hHeld => ?_)
      · exact HS2.out
      clear hK K
      refine wpAnyH_ready (rs := [13]) (by kernel_rfl) (by simp) ?_
      refine AllReadyH.cons rfl (fun K hK => ?_) AllReadyH.nil
      go_simp
      refine hK.out _ _ ?_ (fun hHeld => ?_)
      · exact setSty_below HS2.out (Nat.le_refl _) ⟨sb, su, st, sf, sk⟩
      clear hK K
      refine wpAnyH_done (by kernel_rfl) ?_ _
      refine NoPanic.normal ?_
      go_wp2_with fail
      go_meet
      case rel => exact ⟨w1.heap.size, rfl, rfl, rfl, Nat.le_refl _, setSty_at HY2.out ⟨sb, su, st, sf, sk⟩, setSty_below HS2.out (Nat.le_refl _) ⟨sb, su, st, sf, sk⟩⟩
  case rest =>
    obtain ⟨q, rfl, rfl, rfl, hq1, hst, hbc⟩ := hcut
    rename World => w2
    have HB2 := Lib.hid (below_next HB1.out hbc)
    have HD2 := Lib.hid (HD1.out.below hbc)
    have HS2 := Lib.hid hst
    have z12 := hbc.size
    have z02 := HB2.out.size
    obtain ⟨x0, x1, x2, x3, x4, x5, x6, x7, x8, x9⟩ := HD2.out.cells
    simp only at x0 x1 x2 x3 x4 x5 x6 x7 x8 x9
    clear hst hbc hq1
    go_wp2_with fail
    refine (HKD.out w2).mono ?_
    rintro e w3 ⟨rfl, hb3⟩
    have HB3 := Lib.hid (below_next HB2.out hb3)
    have HD3 := Lib.hid (HD2.out.below hb3)
    have HS3 := Lib.hid (HS2.out.below hb3)
    have z23 := hb3.size
    clear x0 x1 x2 x3 x4 x5 x6 x7 x8 x9 hb3
    obtain ⟨x0, x1, x2, x3, x4, x5, x6, x7, x8, x9⟩ := HD3.out.cells
    simp only at x0 x1 x2 x3 x4 x5 x6 x7 x8 x9
    clear HRT
    obtain ⟨th, hth⟩ : ∃ th, th = g.there (0) (a) := ⟨_, rfl⟩
    rw [← hth] at HYES HNO HTI
    have HTI2 : Hid (th = true ↔ (0 ≤ (0 : Int) ∧ (0 : Int) < (W : Int)) ∧ 0 ≤ a ∧ a < (gl : Int)) := Lib.hid (by rw [HWW.out, ← HHG.out]; exact HTI.out)
    clear hth HTI
    go_wp2_with fail
    refine (HKD.out w3).mono ?_
    rintro e w4 ⟨rfl, hb⟩
    have HB4 := Lib.hid (below_next HB3.out hb)
    have HD4 := Lib.hid (HD3.out.below hb)
    clear hb x0 x1 x2 x3 x4 x5 x6 x7 x8 x9
    obtain ⟨x0, x1, x2, x3, x4, x5, x6, x7, x8, x9⟩ := HD4.out.cells
    simp only at x0 x1 x2 x3 x4 x5 x6 x7 x8 x9
    go_wp2_with fail
    refine (HKD.out w4).mono ?_
    rintro e w5 ⟨rfl, hb⟩
    have HB5 := Lib.hid (below_next HB4.out hb)
    have HD5 := Lib.hid (HD4.out.below hb)
    clear hb x0 x1 x2 x3 x4 x5 x6 x7 x8 x9
    obtain ⟨x0, x1, x2, x3, x4, x5, x6, x7, x8, x9⟩ := HD5.out.cells
    simp only at x0 x1 x2 x3 x4 x5 x6 x7 x8 x9
    go_upto_region 50 with fail
    obtain ⟨w6, hw6⟩ : ∃ w6, w6 = w5 := ⟨_, rfl⟩
    go_cut [203] from 177 (fun o wc => o = .bool (!(th && true)) ∧ Below w5.heap.size w5 wc)
    case first =>
      by_cases hy0 : a < 0
      · have t2 : decide (a < 0) = true := by simp; omega
        go_wp2_with fail
        go_meet
        case rel => exact ⟨congrArg Value.bool (by rw [show th = false from Bool.eq_false_iff.2 (fun h => by have := HTI2.out.1 h; omega)]; simp), Below.refl _ _⟩
      have t2 : decide (a < 0) = false := by simp; omega
      have t3 : decide ((W : Int) ≤ 0) = false := by simp; omega
      have t3n : decide (W ≤ 0) = false := by simp; omega
      have t3b : decide (W = 0) = false := by simp; omega
      by_cases hy1 : (gl : Int) ≤ a
      · have t4 : decide ((gl : Int) ≤ a) = true := by simp; omega
        go_wp2_with fail
        go_meet
        case rel => exact ⟨congrArg Value.bool (by rw [show th = false from Bool.eq_false_iff.2 (fun h => by have := HTI2.out.1 h; omega)]; simp), Below.refl _ _⟩
      have t4 : decide ((gl : Int) ≤ a) = false := by simp; omega
      have hth : th = true := HTI2.out.2 ⟨⟨by omega, by omega⟩, by omega, by omega⟩
      go_wp2_with fail
      refine (HKD.out w5).mono ?_
      rintro e w7 ⟨rfl, hb7⟩
      have HB57 := Lib.hid hb7
      have HD7 := Lib.hid (HD5.out.below hb7)
      clear hb7 x0 x1 x2 x3 x4 x5 x6 x7 x8 x9
      obtain ⟨x0, x1, x2, x3, x4, x5, x6, x7, x8, x9⟩ := HD7.out.cells
      simp only at x0 x1 x2 x3 x4 x5 x6 x7 x8 x9
      subst hth
      go_wp2_with fail
      go_meet
      case rel => exact ⟨by simp, HB57.out⟩
    case rest =>
      obtain ⟨ho, hbc⟩ := hcut
      rename World => w7
      rw [ho]
      have HB7 := Lib.hid (below_next HB5.out hbc)
      have HD7 := Lib.hid (HD5.out.below hbc)
      clear ho hbc hw6 w6 x0 x1 x2 x3 x4 x5 x6 x7 x8 x9
      obtain ⟨x0, x1, x2, x3, x4, x5, x6, x7, x8, x9⟩ := HD7.out.cells
      simp only at x0 x1 x2 x3 x4 x5 x6 x7 x8 x9
      obtain ⟨B, hB⟩ : ∃ B, B = (th && true) := ⟨_, rfl⟩
      rw [← hB]
      rcases B with _ | _
      · obtain rfl : G = g := HNO.out (fun h => by rw [h] at hB; simp at hB)
        have hbf : (!false) = true := rfl
        clear hB
        rw [hbf]
        have HLN := Lib.hid ((HLI.out.below HB7.out).mono (N' := fun k => N k ∨ w.heap.size ≤ k) (fun k _ hn => Or.inl hn))
        go_wp2_with fail
        go_ret2
        refine ⟨some ⟨b, off, none⟩, c, none, 0, by rw [HGL.out, HOO.out]; rfl, by rw [HGL.out]; exact hcap, HLN.out, by rw [HOO.out]; exact LinesAt.nil, HB7.out⟩
      · have hbt : (!true) = false := rfl
        rw [hbt]
        have hth : th = true := by
          rcases th with _ | _
          · simp at hB
          · rfl
        have hthi := HTI2.out.1 hth
        have hG := HYES.out hth
        have hgl : gl ≤ 60 := by rw [← HHG.out]; exact hgh
        obtain ⟨YN, hYN⟩ := Int.eq_ofNat_of_zero_le hthi.2.1
        have ha0 : 0 ≤ a := by omega
        have hYg : YN < gl := by omega
        subst hYN
        rw [Int.toNat_natCast] at hG
        have hMl : MS.length = gl := by rw [HMS.out.len, HGL.out]
        have HML := Lib.hid hMl
        have HLINE' := Lib.hid (fun (v : World) (hv : Below w.heap.size w v) => HLINE.out v hv YN (by rw [HHG.out]; exact hYg) ha0)
        obtain ⟨RL, hRL⟩ : ∃ RL, RL = mend (mline ⟨kd, (YN : Int), bb, cc, ⟨r, ⟨bo, u, t, f, ba⟩⟩⟩ (g.line YN) n) := ⟨_, rfl⟩
        rw [← hRL] at HLINE' hG
        have HGG := Lib.hid hG
        have hYI : (YN : Int) < (gl : Int) := by omega
        have z7 := HB7.out.size
        clear hB hG hRL hMl hthi HLINE ha0
        go_wp2_with (at_builtin; refine linM.wp_append rfl (.tmp 205) (.tmp 206) rfl w7.heap.size _ [] rfl (El.Own.nil _ _) (some ⟨b, off, none⟩) MS gl c w.heap.size HML.out.symm rfl (HMR.out.below HB7.out) (by simp) ?c1 ?c2 (Nat.le_refl _) ?_)
        case c1 => rw [HML.out]; simp only [linM, List.length_nil]; omega
        case c2 => rw [HML.out]; simp only [List.length_nil]; unfold maxLen; omega
        intro vn w8 hon hgn
        have hb78 := (El.Own.nil (E := linM) w7 w7.heap.size).grow_below hgn (Nat.le_refl _)
        have HB8 := Lib.hid (below_next HB7.out hb78)
        have HD8 := Lib.hid (HD7.out.below hb78)
        obtain ⟨nb, cn, hvn, hge, hnl, hlc, -, hfz, hcl⟩ := hon.place (by rw [HML.out]; omega)
        have HON := Lib.hid hon
        have HGE := Lib.hid hge
        have HNL := Lib.hid hnl
        have HC8 : Hid (w8.cell? ⟨nb, YN, none⟩ = some (MS[YN]'(by rw [HML.out]; exact hYg)).v) := Lib.hid (by
          have := hcl YN (by rw [HML.out]; exact hYg) 0 (by decide)
          simpa [linM] using this)
        have HF8 := Lib.hid (hfz YN)
        rw [HML.out] at hvn hlc
        subst hvn
        have HLC := Lib.hid hlc
        clear hon hgn hb78 hge hnl hlc hfz hcl x0 x1 x2 x3 x4 x5 x6 x7 x8 x9
        obtain ⟨x0, x1, x2, x3, x4, x5, x6, x7, x8, x9⟩ := HD8.out.cells
        simp only at x0 x1 x2 x3 x4 x5 x6 x7 x8 x9
        go_wp2_with fail
        refine (HLINE'.out w8 HB8.out).mono ?_
        rintro e w9 ⟨v9, rfl, ho9, hb9⟩
        obtain ⟨A9, c9, hv9, -, -, hA9, hr9⟩ := ho9.row
        have HSO : Hid (SlOk w9 (fun k => w8.heap.size ≤ k) ⟨A9, RL.length, c9⟩ RL) := Lib.hid ⟨rfl, hr9, fun hp a' ha' => by
          obtain ⟨gg, cc', hv', hge, -, -, -, -, -⟩ := ho9.place hp
          rw [hv9] at hv'
          simp only [Value.slice.injEq] at hv'
          have ha' : A9 = some a' := ha'
          have hab : a'.block = gg := by
            have := hv'.1
            rw [ha'] at this
            simp only [Option.some.injEq] at this
            rw [this]
          rw [hab]
          exact hge, hA9⟩
        have HB9 := Lib.hid (below_next HB8.out hb9)
        have HON9 := Lib.hid (HON.out.below hb9)
        have hc9 := (hb9.cell (p := ⟨nb, YN, none⟩) HNL.out).trans HC8.out
        have hf9 := (hb9.frozen (p := ⟨nb, YN, none⟩) HNL.out).trans HF8.out
        subst hv9
        generalize hrl : RL.length = rl at *
        clear ho9 hr9 hA9 hb9 x0 x1 x2 x3 x4 x5 x6 x7 x8 x9
        generalize (MS[YN]'(by rw [HML.out]; exact hYg)).v = old at *
        go_wp2_with fail
        go_ret2
        have hset := HON9.out.set (g := nb) (c := cn) (i := YN) (j := 0) (a' := ⟨A9, rl, c9⟩) (u := .slice A9 rl c9) (by rw [HML.out]) (by rw [HML.out]; exact hYg) (by decide) (by simp [linM, Sl.v])
        have hset' : linM.Own (w9.setCell ⟨nb, YN, none⟩ (.slice A9 rl c9)) w7.heap.size (.slice (some ⟨nb, 0, none⟩) gl cn) (MS.set YN ⟨A9, rl, c9⟩) := by simpa [linM] using hset
        have hwn : w.heap.size ≤ nb := Nat.le_trans z7 HGE.out
        have hBz : Below w.heap.size w (w9.setCell ⟨nb, YN, none⟩ (.slice A9 rl c9)) := HB9.out.setCell (p := ⟨nb, YN, none⟩) hwn _
        have hSz := HSO.out.keep (w' := w9.setCell ⟨nb, YN, none⟩ (.slice A9 rl c9)) (fun k _ hn => Below.heap_setCell _ _ _ _ (fun e => by have := HNL.out; simp only at e; omega)) (by simp)
        have hGls : G.ls = g.ls.set YN RL := by rw [HGG.out]; rfl
        have hGl : G.ls.length = gl := by rw [hGls, List.length_set, HGL.out]
        have z8 := HB8.out.size
        refine ⟨some ⟨nb, 0, none⟩, cn, none, 0, by rw [hGl, HOO.out]; rfl, by rw [hGl]; exact HLC.out, ?_, by rw [HOO.out]; exact LinesAt.nil, hBz⟩
        rw [hGls]
        refine LinesAt.of_heads (SL := MS.set YN ⟨A9, rl, c9⟩) (((HMS.out.below hBz).mono (fun k _ hn => Or.inl hn)).set (hSz.mono (fun k _ hn => Or.inr (by omega))) YN) (El.Row.of_own (c := cn) (base := w7.heap.size) (by rw [List.length_set, HML.out]; exact hset')) (fun _ a' ha' => ?_)
        injection ha' with ha'
        subst ha'
        exact Or.inr hwn

set_option maxRecDepth 100000 in
set_option maxHeartbeats 4000000 in
theorem mdo_ok4 (w : World) {N : Nat → Prop} {A : Option Addr} {g : Gr} (hok : g.Ok) (h : LinesAt w N A g.ls) (c : Nat) (hcap : g.ls.length ≤ c) (d : De) (hk : d.k = 4) :
    Calls Tryd.prog 14 #[.slice A g.ls.length c, deV d] w (ModPost w N (gdo g d).1 (gdo g d).2) := by
  obtain ⟨w1, hw1⟩ : ∃ w1, w1 = w.alloc (.cells #[.int .i64 d.kind, .int .i64 d.a, .int .i64 d.b, .int .i64 d.c, .int .i32 d.cel.rune, .bool d.cel.sty.bold, .bool d.cel.sty.under, .bool d.cel.sty.turned, .int .i64 d.cel.sty.fore, .int .i64 d.cel.sty.back] 39) := ⟨_, rfl⟩
  have hb1 : Below w.heap.size w w1 := by rw [hw1]; exact (Below.refl _ _).alloc (Nat.le_refl _) _
  have hd1 : DeIn w1 w.heap.size d := by rw [hw1]; exact DeIn.fresh w d
  have HD1 := Lib.hid hd1
  have HB1 := Lib.hid hb1
  have W1 := Lib.hid hw1
  have hlen := hok.len
  have hgh := hok.h2
  have hgw := hok.w2
  have hgw1 := hok.w1
  have hh1 := hok.h1
  have hl0 := hok.line (y := 0) (by omega)
  have hln0 : g.ls[0]'(by omega) = g.line 0 := by
    have := line_get hok (y := 0) (by omega)
    rw [List.getElem?_eq_getElem (by omega)] at this
    exact Option.some.inj this
  have HREAD := Lib.hid (fun (v : World) (hv : Below w.heap.size w v) (x y : Int) (s : Sty) => read_ok v (h.below hv) c x y s)
  have HLI := Lib.hid h
  obtain ⟨b, off, A0, c0, hA, hbl, dh0, -, -⟩ := h.at_ (j := 0) (by omega)
  rw [hln0, hl0.len] at dh0
  have HTM := Lib.hid (fun v => ltame_ok v d.cel.sty)
  have HKD : Hid (∀ v, Calls Tryd.prog 35 #[deV d] v fun e w' => e = .returned (.int .i64 4) ∧ Below v.heap.size v w') := Lib.hid (fun v => by
    have := kind_ok v d
    rw [hk] at this
    exact this)
  have HDH := Lib.hid (fun (v : World) (hv : Below w.heap.size w v) => show v.cell? ⟨b, off, none⟩ = some (.slice A0 g.w c0) from (hv.cell (p := ⟨b, off, none⟩) hbl).trans dh0)
  obtain ⟨n, hn⟩ := Int.eq_ofNat_of_zero_le (show 0 ≤ min (max d.c 0) (g.w : Int) by omega)
  have hX : mX d = d.a := by unfold mX; rw [if_neg (by omega)]
  have hY : mY d = d.b := by unfold mY; rw [if_neg (by omega)]
  have hms := mstep_eq hok d (by omega) hn
  rw [hX, hY] at hms
  obtain ⟨G, hG⟩ : ∃ G, G = (gdo g d).1 := ⟨_, rfl⟩
  obtain ⟨O, hO⟩ : ∃ O : List (List Cel), O = (gdo g d).2 := ⟨_, rfl⟩
  rw [← hG, ← hO]
  have HOO : Hid (O = []) := Lib.hid (by rw [hO, hms])
  have HYES : Hid (g.there (d.a) (d.b) = true → G = g.setL (d.b).toNat (mend (mline d (g.line (d.b).toNat) n))) := Lib.hid (fun h1  => by rw [hG, hms, if_pos ⟨h1, fun _ => by omega⟩])
  have HNO : Hid (¬ g.there (d.a) (d.b) = true → G = g) := Lib.hid (fun h1 => by rw [hG, hms, if_neg (fun h2 => h1 h2.1)])
  have HTI := Lib.hid (g.there_iff (d.a) (d.b))
  have HLINE := Lib.hid (fun (v : World) (hv : Below w.heap.size w v) (Y : Nat) (hY : Y < g.h) (ha : 0 ≤ d.a) => line_ok4 v hok (h.below hv) c d hY hn ha hk)
  have HRT := Lib.hid (fun v => cright_ok v d.cel)
  obtain ⟨MS, hMS, hMR, hMN⟩ := h.heads
  have HMS := Lib.hid hMS
  have HMR := Lib.hid hMR

  have h0I : 0 < g.ls.length := by omega
  have HK := Lib.hid hk
  have HOK := Lib.hid hok
  clear hw1 hb1 hd1 hl0 hln0 dh0 h hk hok hlen hn hX hY hms hG hO hMS hMR hMN
  obtain ⟨kd, a, bb, cc, ⟨r, ⟨bo, u, t, f, ba⟩⟩⟩ := d
  simp only [deV, styV] at *
  generalize hst : stame ⟨bo, u, t, f, ba⟩ = s' at *
  obtain ⟨sb, su, st, sf, sk⟩ := s'
  have HST := Lib.hid hst
  clear hst
  simp only at *
  subst hA
  generalize hglH : g.ls.length = gl at *
  have HGL := Lib.hid hglH
  have HHG : Hid (g.h = gl) := Lib.hid (HOK.out.len.symm.trans hglH)
  clear hglH
  obtain ⟨W, hWW⟩ : ∃ W, W = g.w := ⟨_, rfl⟩
  have HWW := Lib.hid hWW
  rw [← hWW] at hgw hgw1 HDH
  clear hWW
  go_enter Tryd.func14, Tryd.ntmps14
  go_upto_region 1 with fail
  rw [← W1.out]
  go_cut [6, 7, 8] from 25 (fun o6 o7 o8 wc => ∃ q, o6 = .int .i64 (W : Int) ∧ o7 = .int .i64 (gl : Int) ∧ o8 = .pointer (some ⟨q, 0, none⟩) ∧ w1.heap.size ≤ q ∧ StyIn wc q ⟨sb, su, st, sf, sk⟩ ∧ Below w1.heap.size w1 wc)
  case first =>
    refine wp_region_noPanic ?_
    refine wp_region_held_drew (S := fun v => Below w1.heap.size w1 v) (by kernel_rfl) (Below.refl _ _).drew (fun hHeld => ?_)
    have HSd := Lib.hid hHeld
    refine wpAnyH_take (i := 0) (v := ?vr0) rfl (by kernel_rfl) (by kernel_rfl) (by kernel_rfl) (fun _ _ _ h => h) (Or.inl ⟨by rfl, ?hr0⟩) (by assumption) ?_
    case hr0 => intro w hSw; (try dsimp only at hSw); obtain ⟨x0, x1, x2, x3, x4, x5, x6, x7, x8, x9⟩ := (HD1.out.below hSw).cells; simp only at x0 x1 x2 x3 x4 x5 x6 x7 x8 x9; have y0 := HDH.out _ (below_next HB1.out hSw); go_simp; try with_reducible rfl
    simp only [List.getElem_toArray, List.getElem_cons_zero, Act.put, List.setIfInBounds_toArray, List.set_cons_zero, List.set_cons_succ]
    refine wpAnyH_take (i := 1) (v := ?vr1) rfl (by kernel_rfl) (by kernel_rfl) (by kernel_rfl) (fun _ _ _ h => h) (Or.inl ⟨by rfl, ?hr1⟩) (by assumption) ?_
    case hr1 => intro w hSw; (try dsimp only at hSw); obtain ⟨x0, x1, x2, x3, x4, x5, x6, x7, x8, x9⟩ := (HD1.out.below hSw).cells; simp only at x0 x1 x2 x3 x4 x5 x6 x7 x8 x9; have y0 := HDH.out _ (below_next HB1.out hSw); go_simp; try with_reducible rfl
    simp only [List.getElem_toArray, List.getElem_cons_succ, List.getElem_cons_zero, Act.put, List.setIfInBounds_toArray, List.set_cons_zero, List.set_cons_succ]
    refine wpAnyH_take (i := 2) (v := ?vr2) rfl (by kernel_rfl) (by kernel_rfl) (by kernel_rfl) (fun _ _ _ h => h) (Or.inl ⟨by rfl, ?hr2⟩) (by assumption) ?_
    case hr2 => intro w hSw; (try dsimp only at hSw); obtain ⟨x0, x1, x2, x3, x4, x5, x6, x7, x8, x9⟩ := (HD1.out.below hSw).cells; simp only at x0 x1 x2 x3 x4 x5 x6 x7 x8 x9; have y0 := HDH.out _ (below_next HB1.out hSw); go_simp; try with_reducible rfl
    simp only [List.getElem_toArray, List.getElem_cons_succ, List.getElem_cons_zero, Act.put, List.setIfInBounds_toArray, List.set_cons_zero, List.set_cons_succ]
    refine wpAnyH_take (i := 3) (v := ?vr3) rfl (by kernel_rfl) (by kernel_rfl) (by kernel_rfl) (fun _ _ _ h => h) (Or.inl ⟨by rfl, ?hr3⟩) (by assumption) ?_
    case hr3 => intro w hSw; (try dsimp only at hSw); obtain ⟨x0, x1, x2, x3, x4, x5, x6, x7, x8, x9⟩ := (HD1.out.below hSw).cells; simp only at x0 x1 x2 x3 x4 x5 x6 x7 x8 x9; have y0 := HDH.out _ (below_next HB1.out hSw); go_simp; try with_reducible rfl
    simp only [List.getElem_toArray, List.getElem_cons_succ, List.getElem_cons_zero, Act.put, List.setIfInBounds_toArray, List.set_cons_zero, List.set_cons_succ]
    refine wpAnyH_take (i := 4) (v := ?vr4) rfl (by kernel_rfl) (by kernel_rfl) (by kernel_rfl) (fun _ _ _ h => h) (Or.inl ⟨by rfl, ?hr4⟩) (by assumption) ?_
    case hr4 => intro w hSw; (try dsimp only at hSw); obtain ⟨x0, x1, x2, x3, x4, x5, x6, x7, x8, x9⟩ := (HD1.out.below hSw).cells; simp only at x0 x1 x2 x3 x4 x5 x6 x7 x8 x9; have y0 := HDH.out _ (below_next HB1.out hSw); go_simp; try with_reducible rfl
    simp only [List.getElem_toArray, List.getElem_cons_succ, List.getElem_cons_zero, Act.put, List.setIfInBounds_toArray, List.set_cons_zero, List.set_cons_succ]
    refine wpAnyH_take (i := 5) (v := ?vr5) rfl (by kernel_rfl) (by kernel_rfl) (by kernel_rfl) (fun _ _ _ h => h) (Or.inl ⟨by rfl, ?hr5⟩) (by assumption) ?_
    case hr5 => intro w hSw; (try dsimp only at hSw); obtain ⟨x0, x1, x2, x3, x4, x5, x6, x7, x8, x9⟩ := (HD1.out.below hSw).cells; simp only at x0 x1 x2 x3 x4 x5 x6 x7 x8 x9; have y0 := HDH.out _ (below_next HB1.out hSw); go_simp; try with_reducible rfl
    simp only [List.getElem_toArray, List.getElem_cons_succ, List.getElem_cons_zero, Act.put, List.setIfInBounds_toArray, List.set_cons_zero, List.set_cons_succ]
    refine wpAnyH_take (i := 6) (v := ?vr6) rfl (by kernel_rfl) (by kernel_rfl) (by kernel_rfl) (fun _ _ _ h => h) (Or.inl ⟨by rfl, ?hr6⟩) (by assumption) ?_
    case hr6 => intro w hSw; (try dsimp only at hSw); obtain ⟨x0, x1, x2, x3, x4, x5, x6, x7, x8, x9⟩ := (HD1.out.below hSw).cells; simp only at x0 x1 x2 x3 x4 x5 x6 x7 x8 x9; have y0 := HDH.out _ (below_next HB1.out hSw); go_simp; try with_reducible rfl
    simp only [List.getElem_toArray, List.getElem_cons_succ, List.getElem_cons_zero, Act.put, List.setIfInBounds_toArray, List.set_cons_zero, List.set_cons_succ]
    refine wpAnyH_take (i := 7) (v := ?vr7) rfl (by kernel_rfl) (by kernel_rfl) (by kernel_rfl) (fun _ _ _ h => h) (Or.inl ⟨by rfl, ?hr7⟩) (by assumption) ?_
    case hr7 => intro w hSw; (try dsimp only at hSw); obtain ⟨x0, x1, x2, x3, x4, x5, x6, x7, x8, x9⟩ := (HD1.out.below hSw).cells; simp only at x0 x1 x2 x3 x4 x5 x6 x7 x8 x9; have y0 := HDH.out _ (below_next HB1.out hSw); go_simp; try with_reducible rfl
    simp only [List.getElem_toArray, List.getElem_cons_succ, List.getElem_cons_zero, Act.put, List.setIfInBounds_toArray, List.set_cons_zero, List.set_cons_succ]
    refine wpAnyH_take (i := 8) (v := ?vr8) rfl (by kernel_rfl) (by kernel_rfl) (by kernel_rfl) (fun _ _ _ h => h) (Or.inl ⟨by rfl, ?hr8⟩) (by assumption) ?_
    case hr8 => intro w hSw; (try dsimp only at hSw); obtain ⟨x0, x1, x2, x3, x4, x5, x6, x7, x8, x9⟩ := (HD1.out.below hSw).cells; simp only at x0 x1 x2 x3 x4 x5 x6 x7 x8 x9; have y0 := HDH.out _ (below_next HB1.out hSw); go_simp; try with_reducible rfl
    simp only [List.getElem_toArray, List.getElem_cons_succ, List.getElem_cons_zero, Act.put, List.setIfInBounds_toArray, List.set_cons_zero, List.set_cons_succ]
    refine wpAnyH_ready (rs := [9, 10]) (by kernel_rfl) (by simp) ?_
    refine AllReadyH.cons rfl (fun K hK => ?_) (AllReadyH.cons rfl (fun K hK => ?_) AllReadyH.nil)
    · go_simp
      refine (HTM.out w1.drew).mono ?_
      rintro e v1 ⟨rfl, hbx⟩
      have HS1 := Lib.hid (below_next HSd.out hbx)
      have hz1' := HS1.out.size
      clear hbx
      dsimp only
      refine hK.out _ _ ?_ (fun hHeld => ?_)
      · exact HS1.out
      clear hK K
      refine wpAnyH_ready (rs := [10]) (by kernel_rfl) (by simp) ?_
      refine AllReadyH.cons rfl (fun K hK => ?_) AllReadyH.nil
      go_simp
      try dsimp only
      have hy := heap_alloc_new v1 (.cells #[.bool false, .bool false, .bool false, .int .i64 0, .int .i64 0] 35)
      have HS2 := Lib.hid (HS1.out.alloc (HS1.out.size) (.cells #[.bool false, .bool false, .bool false, .int .i64 0, .int .i64 0] 35))
      refine hK.out _ _ ?_ (fun hHeld => ?_)
      · exact HS2.out
      clear hK K
      generalize v1.alloc (.cells #[.bool false, .bool false, .bool false, .int .i64 0, .int .i64 0] 35) = v2 at *
      have HY := Lib.hid (show StyIn v2 v1.heap.size KM.zero from hy)
      have n0 := HY.out.thaw 0; have n1 := HY.out.thaw 1; have n2 := HY.out.thaw 2; have n3 := HY.out.thaw 3; have n4 := HY.out.thaw 4
      obtain ⟨z0, z1, z2, z3, z4⟩ := HY.out.cells
      simp only [KM.zero] at z0 z1 z2 z3 z4
      clear hy
      refine wpAnyH_ready (rs := [11]) (by kernel_rfl) (by simp) ?_
      refine AllReadyH.cons rfl (fun K hK => ?_) AllReadyH.nil
      go_simp
      refine hK.out _ _ ?_ (fun hHeld => ?_)
      · exact HS2.out
      clear hK K
      refine wpAnyH_ready (rs := [12]) (by kernel_rfl) (by simp) ?_
      refine AllReadyH.cons rfl (fun K hK => ?_) AllReadyH.nil
      go_simp
      refine hK.out _ _ ?_ (fun hHeld => ?_)
      · exact HS2.out
      clear hK K
      refine wpAnyH_ready (rs := [13]) (by kernel_rfl) (by simp) ?_
      refine AllReadyH.cons rfl (fun K hK => ?_) AllReadyH.nil
      go_simp
      refine hK.out _ _ ?_ (fun hHeld => ?_)
      · exact setSty_below HS2.out hz1' ⟨sb, su, st, sf, sk⟩
      clear hK K
      refine wpAnyH_done (by kernel_rfl) ?_ _
      refine NoPanic.normal ?_
      go_wp2_with fail
      go_meet
      case rel => exact ⟨v1.heap.size, rfl, rfl, rfl, hz1', setSty_at HY.out ⟨sb, su, st, sf, sk⟩, setSty_below HS2.out hz1' ⟨sb, su, st, sf, sk⟩⟩
    · go_simp
      try dsimp only
      obtain ⟨v1, hv1⟩ : ∃ v1, v1 = (w1.alloc (.cells #[.bool false, .bool false, .bool false, .int .i64 0, .int .i64 0] 35)).drew := ⟨_, rfl⟩
      rw [← hv1]
      have HS1 := Lib.hid (show Below w1.heap.size w1 v1 by rw [hv1]; exact ((Below.refl _ _).alloc (Nat.le_refl _) _).drew)
      have hy : StyIn v1 w1.heap.size KM.zero := by rw [hv1]; exact heap_alloc_new w1 _
      clear hv1
      refine hK.out _ _ ?_ (fun hHeld => ?_)
      · exact HS1.out
      clear hK K
      have HY := Lib.hid hy
      clear hy
      refine wpAnyH_ready (rs := [9]) (by kernel_rfl) (by simp) ?_
      refine AllReadyH.cons rfl (fun K hK => ?_) AllReadyH.nil
      go_simp
      refine (HTM.out v1).mono ?_
      rintro e v2 ⟨rfl, hbx⟩
      have HS2 := Lib.hid (below_next HS1.out hbx)
      have HY2 := Lib.hid (HY.out.below hbx)
      have n0 := HY2.out.thaw 0; have n1 := HY2.out.thaw 1; have n2 := HY2.out.thaw 2; have n3 := HY2.out.thaw 3; have n4 := HY2.out.thaw 4
      obtain ⟨z0, z1, z2, z3, z4⟩ := HY2.out.cells
      simp only [KM.zero] at z0 z1 z2 z3 z4
      clear hbx
      dsimp only
      refine hK.out _ _ ?_ (fun hHeld => ?_)
      · exact HS2.out
      clear hK K
      refine wpAnyH_ready (rs := [11]) (by kernel_rfl) (by simp) ?_
      refine AllReadyH.cons rfl (fun K hK => ?_) AllReadyH.nil
      go_simp
      refine hK.out _ _ ?_ (fun hHeld => ?_)
      · exact HS2.out
      clear hK K
      refine wpAnyH_ready (rs := [12]) (by kernel_rfl) (by simp) ?_
      refine AllReadyH.cons rfl (fun K hK => ?_) AllReadyH.nil
      go_simp
      refine hK.out _ _ ?_ (fun hHeld => ?_)
      · exact HS2.out
      clear hK K
      refine wpAnyH_ready (rs := [13]) (by kernel_rfl) (by simp) ?_
      refine AllReadyH.cons rfl (fun K hK => ?_) AllReadyH.nil
      go_simp
      refine hK.out _ _ ?_ (fun hHeld => ?_)
      · exact setSty_below HS2.out (Nat.le_refl _) ⟨sb, su, st, sf, sk⟩
      clear hK K
      refine wpAnyH_done (by kernel_rfl) ?_ _
      refine NoPanic.normal ?_
      go_wp2_with fail
      go_meet
      case rel => exact ⟨w1.heap.size, rfl, rfl, rfl, Nat.le_refl _, setSty_at HY2.out ⟨sb, su, st, sf, sk⟩, setSty_below HS2.out (Nat.le_refl _) ⟨sb, su, st, sf, sk⟩⟩
  case rest =>
    obtain ⟨q, rfl, rfl, rfl, hq1, hst, hbc⟩ := hcut
    rename World => w2
    have HB2 := Lib.hid (below_next HB1.out hbc)
    have HD2 := Lib.hid (HD1.out.below hbc)
    have HS2 := Lib.hid hst
    have z12 := hbc.size
    have z02 := HB2.out.size
    obtain ⟨x0, x1, x2, x3, x4, x5, x6, x7, x8, x9⟩ := HD2.out.cells
    simp only at x0 x1 x2 x3 x4 x5 x6 x7 x8 x9
    clear hst hbc hq1
    go_wp2_with fail
    refine (HKD.out w2).mono ?_
    rintro e w3 ⟨rfl, hb3⟩
    have HB3 := Lib.hid (below_next HB2.out hb3)
    have HD3 := Lib.hid (HD2.out.below hb3)
    have HS3 := Lib.hid (HS2.out.below hb3)
    have z23 := hb3.size
    clear x0 x1 x2 x3 x4 x5 x6 x7 x8 x9 hb3
    obtain ⟨x0, x1, x2, x3, x4, x5, x6, x7, x8, x9⟩ := HD3.out.cells
    simp only at x0 x1 x2 x3 x4 x5 x6 x7 x8 x9
    clear HRT
    obtain ⟨th, hth⟩ : ∃ th, th = g.there (a) (bb) := ⟨_, rfl⟩
    rw [← hth] at HYES HNO HTI
    have HTI2 : Hid (th = true ↔ (0 ≤ (a : Int) ∧ (a : Int) < (W : Int)) ∧ 0 ≤ bb ∧ bb < (gl : Int)) := Lib.hid (by rw [HWW.out, ← HHG.out]; exact HTI.out)
    clear hth HTI
    go_wp2_with fail
    refine (HKD.out w3).mono ?_
    rintro e w4 ⟨rfl, hb⟩
    have HB4 := Lib.hid (below_next HB3.out hb)
    have HD4 := Lib.hid (HD3.out.below hb)
    clear hb x0 x1 x2 x3 x4 x5 x6 x7 x8 x9
    obtain ⟨x0, x1, x2, x3, x4, x5, x6, x7, x8, x9⟩ := HD4.out.cells
    simp only at x0 x1 x2 x3 x4 x5 x6 x7 x8 x9
    go_wp2_with fail
    refine (HKD.out w4).mono ?_
    rintro e w5 ⟨rfl, hb⟩
    have HB5 := Lib.hid (below_next HB4.out hb)
    have HD5 := Lib.hid (HD4.out.below hb)
    clear hb x0 x1 x2 x3 x4 x5 x6 x7 x8 x9
    obtain ⟨x0, x1, x2, x3, x4, x5, x6, x7, x8, x9⟩ := HD5.out.cells
    simp only at x0 x1 x2 x3 x4 x5 x6 x7 x8 x9
    go_upto_region 50 with fail
    obtain ⟨w6, hw6⟩ : ∃ w6, w6 = w5 := ⟨_, rfl⟩
    go_cut [203] from 177 (fun o wc => o = .bool (!(th && true)) ∧ Below w5.heap.size w5 wc)
    case first =>
      by_cases hx0 : a < 0
      · have t1 : decide (a < 0) = true := by simp; omega
        go_wp2_with fail
        go_meet
        case rel => exact ⟨congrArg Value.bool (by rw [show th = false from Bool.eq_false_iff.2 (fun h => by have := HTI2.out.1 h; omega)]; simp), Below.refl _ _⟩
      have t1 : decide (a < 0) = false := by simp; omega
      by_cases hy0 : bb < 0
      · have t2 : decide (bb < 0) = true := by simp; omega
        go_wp2_with fail
        go_meet
        case rel => exact ⟨congrArg Value.bool (by rw [show th = false from Bool.eq_false_iff.2 (fun h => by have := HTI2.out.1 h; omega)]; simp), Below.refl _ _⟩
      have t2 : decide (bb < 0) = false := by simp; omega
      by_cases hx1 : (W : Int) ≤ a
      · have t3 : decide ((W : Int) ≤ a) = true := by simp; omega
        go_wp2_with fail
        go_meet
        case rel => exact ⟨congrArg Value.bool (by rw [show th = false from Bool.eq_false_iff.2 (fun h => by have := HTI2.out.1 h; omega)]; simp), Below.refl _ _⟩
      have t3 : decide ((W : Int) ≤ a) = false := by simp; omega
      by_cases hy1 : (gl : Int) ≤ bb
      · have t4 : decide ((gl : Int) ≤ bb) = true := by simp; omega
        go_wp2_with fail
        go_meet
        case rel => exact ⟨congrArg Value.bool (by rw [show th = false from Bool.eq_false_iff.2 (fun h => by have := HTI2.out.1 h; omega)]; simp), Below.refl _ _⟩
      have t4 : decide ((gl : Int) ≤ bb) = false := by simp; omega
      have hth : th = true := HTI2.out.2 ⟨⟨by omega, by omega⟩, by omega, by omega⟩
      go_wp2_with fail
      refine (HKD.out w5).mono ?_
      rintro e w7 ⟨rfl, hb7⟩
      have HB57 := Lib.hid hb7
      have HD7 := Lib.hid (HD5.out.below hb7)
      clear hb7 x0 x1 x2 x3 x4 x5 x6 x7 x8 x9
      obtain ⟨x0, x1, x2, x3, x4, x5, x6, x7, x8, x9⟩ := HD7.out.cells
      simp only at x0 x1 x2 x3 x4 x5 x6 x7 x8 x9
      subst hth
      go_wp2_with fail
      go_meet
      case rel => exact ⟨by simp, HB57.out⟩
    case rest =>
      obtain ⟨ho, hbc⟩ := hcut
      rename World => w7
      rw [ho]
      have HB7 := Lib.hid (below_next HB5.out hbc)
      have HD7 := Lib.hid (HD5.out.below hbc)
      clear ho hbc hw6 w6 x0 x1 x2 x3 x4 x5 x6 x7 x8 x9
      obtain ⟨x0, x1, x2, x3, x4, x5, x6, x7, x8, x9⟩ := HD7.out.cells
      simp only at x0 x1 x2 x3 x4 x5 x6 x7 x8 x9
      obtain ⟨B, hB⟩ : ∃ B, B = (th && true) := ⟨_, rfl⟩
      rw [← hB]
      rcases B with _ | _
      · obtain rfl : G = g := HNO.out (fun h => by rw [h] at hB; simp at hB)
        have hbf : (!false) = true := rfl
        clear hB
        rw [hbf]
        have HLN := Lib.hid ((HLI.out.below HB7.out).mono (N' := fun k => N k ∨ w.heap.size ≤ k) (fun k _ hn => Or.inl hn))
        go_wp2_with fail
        go_ret2
        refine ⟨some ⟨b, off, none⟩, c, none, 0, by rw [HGL.out, HOO.out]; rfl, by rw [HGL.out]; exact hcap, HLN.out, by rw [HOO.out]; exact LinesAt.nil, HB7.out⟩
      · have hbt : (!true) = false := rfl
        rw [hbt]
        have hth : th = true := by
          rcases th with _ | _
          · simp at hB
          · rfl
        have hthi := HTI2.out.1 hth
        have hG := HYES.out hth
        have hgl : gl ≤ 60 := by rw [← HHG.out]; exact hgh
        obtain ⟨YN, hYN⟩ := Int.eq_ofNat_of_zero_le hthi.2.1
        have ha0 : 0 ≤ a := hthi.1.1
        have hYg : YN < gl := by omega
        subst hYN
        rw [Int.toNat_natCast] at hG
        have hMl : MS.length = gl := by rw [HMS.out.len, HGL.out]
        have HML := Lib.hid hMl
        have HLINE' := Lib.hid (fun (v : World) (hv : Below w.heap.size w v) => HLINE.out v hv YN (by rw [HHG.out]; exact hYg) ha0)
        obtain ⟨RL, hRL⟩ : ∃ RL, RL = mend (mline ⟨kd, a, (YN : Int), cc, ⟨r, ⟨bo, u, t, f, ba⟩⟩⟩ (g.line YN) n) := ⟨_, rfl⟩
        rw [← hRL] at HLINE' hG
        have HGG := Lib.hid hG
        have hYI : (YN : Int) < (gl : Int) := by omega
        have z7 := HB7.out.size
        clear hB hG hRL hMl hthi HLINE ha0
        go_wp2_with (at_builtin; refine linM.wp_append rfl (.tmp 205) (.tmp 206) rfl w7.heap.size _ [] rfl (El.Own.nil _ _) (some ⟨b, off, none⟩) MS gl c w.heap.size HML.out.symm rfl (HMR.out.below HB7.out) (by simp) ?c1 ?c2 (Nat.le_refl _) ?_)
        case c1 => rw [HML.out]; simp only [linM, List.length_nil]; omega
        case c2 => rw [HML.out]; simp only [List.length_nil]; unfold maxLen; omega
        intro vn w8 hon hgn
        have hb78 := (El.Own.nil (E := linM) w7 w7.heap.size).grow_below hgn (Nat.le_refl _)
        have HB8 := Lib.hid (below_next HB7.out hb78)
        have HD8 := Lib.hid (HD7.out.below hb78)
        obtain ⟨nb, cn, hvn, hge, hnl, hlc, -, hfz, hcl⟩ := hon.place (by rw [HML.out]; omega)
        have HON := Lib.hid hon
        have HGE := Lib.hid hge
        have HNL := Lib.hid hnl
        have HC8 : Hid (w8.cell? ⟨nb, YN, none⟩ = some (MS[YN]'(by rw [HML.out]; exact hYg)).v) := Lib.hid (by
          have := hcl YN (by rw [HML.out]; exact hYg) 0 (by decide)
          simpa [linM] using this)
        have HF8 := Lib.hid (hfz YN)
        rw [HML.out] at hvn hlc
        subst hvn
        have HLC := Lib.hid hlc
        clear hon hgn hb78 hge hnl hlc hfz hcl x0 x1 x2 x3 x4 x5 x6 x7 x8 x9
        obtain ⟨x0, x1, x2, x3, x4, x5, x6, x7, x8, x9⟩ := HD8.out.cells
        simp only at x0 x1 x2 x3 x4 x5 x6 x7 x8 x9
        go_wp2_with fail
        refine (HLINE'.out w8 HB8.out).mono ?_
        rintro e w9 ⟨v9, rfl, ho9, hb9⟩
        obtain ⟨A9, c9, hv9, -, -, hA9, hr9⟩ := ho9.row
        have HSO : Hid (SlOk w9 (fun k => w8.heap.size ≤ k) ⟨A9, RL.length, c9⟩ RL) := Lib.hid ⟨rfl, hr9, fun hp a' ha' => by
          obtain ⟨gg, cc', hv', hge, -, -, -, -, -⟩ := ho9.place hp
          rw [hv9] at hv'
          simp only [Value.slice.injEq] at hv'
          have ha' : A9 = some a' := ha'
          have hab : a'.block = gg := by
            have := hv'.1
            rw [ha'] at this
            simp only [Option.some.injEq] at this
            rw [this]
          rw [hab]
          exact hge, hA9⟩
        have HB9 := Lib.hid (below_next HB8.out hb9)
        have HON9 := Lib.hid (HON.out.below hb9)
        have hc9 := (hb9.cell (p := ⟨nb, YN, none⟩) HNL.out).trans HC8.out
        have hf9 := (hb9.frozen (p := ⟨nb, YN, none⟩) HNL.out).trans HF8.out
        subst hv9
        generalize hrl : RL.length = rl at *
        clear ho9 hr9 hA9 hb9 x0 x1 x2 x3 x4 x5 x6 x7 x8 x9
        generalize (MS[YN]'(by rw [HML.out]; exact hYg)).v = old at *
        go_wp2_with fail
        go_ret2
        have hset := HON9.out.set (g := nb) (c := cn) (i := YN) (j := 0) (a' := ⟨A9, rl, c9⟩) (u := .slice A9 rl c9) (by rw [HML.out]) (by rw [HML.out]; exact hYg) (by decide) (by simp [linM, Sl.v])
        have hset' : linM.Own (w9.setCell ⟨nb, YN, none⟩ (.slice A9 rl c9)) w7.heap.size (.slice (some ⟨nb, 0, none⟩) gl cn) (MS.set YN ⟨A9, rl, c9⟩) := by simpa [linM] using hset
        have hwn : w.heap.size ≤ nb := Nat.le_trans z7 HGE.out
        have hBz : Below w.heap.size w (w9.setCell ⟨nb, YN, none⟩ (.slice A9 rl c9)) := HB9.out.setCell (p := ⟨nb, YN, none⟩) hwn _
        have hSz := HSO.out.keep (w' := w9.setCell ⟨nb, YN, none⟩ (.slice A9 rl c9)) (fun k _ hn => Below.heap_setCell _ _ _ _ (fun e => by have := HNL.out; simp only at e; omega)) (by simp)
        have hGls : G.ls = g.ls.set YN RL := by rw [HGG.out]; rfl
        have hGl : G.ls.length = gl := by rw [hGls, List.length_set, HGL.out]
        have z8 := HB8.out.size
        refine ⟨some ⟨nb, 0, none⟩, cn, none, 0, by rw [hGl, HOO.out]; rfl, by rw [hGl]; exact HLC.out, ?_, by rw [HOO.out]; exact LinesAt.nil, hBz⟩
        rw [hGls]
        refine LinesAt.of_heads (SL := MS.set YN ⟨A9, rl, c9⟩) (((HMS.out.below hBz).mono (fun k _ hn => Or.inl hn)).set (hSz.mono (fun k _ hn => Or.inr (by omega))) YN) (El.Row.of_own (c := cn) (base := w7.heap.size) (by rw [List.length_set, HML.out]; exact hset')) (fun _ a' ha' => ?_)
        injection ha' with ha'
        subst ha'
        exact Or.inr hwn

set_option maxRecDepth 100000 in
set_option maxHeartbeats 4000000 in
theorem mdo_ok5 (w : World) {N : Nat → Prop} {A : Option Addr} {g : Gr} (hok : g.Ok) (h : LinesAt w N A g.ls) (c : Nat) (hcap : g.ls.length ≤ c) (d : De) (hk : d.k = 5) :
    Calls Tryd.prog 14 #[.slice A g.ls.length c, deV d] w (ModPost w N (gdo g d).1 (gdo g d).2) := by
  obtain ⟨w1, hw1⟩ : ∃ w1, w1 = w.alloc (.cells #[.int .i64 d.kind, .int .i64 d.a, .int .i64 d.b, .int .i64 d.c, .int .i32 d.cel.rune, .bool d.cel.sty.bold, .bool d.cel.sty.under, .bool d.cel.sty.turned, .int .i64 d.cel.sty.fore, .int .i64 d.cel.sty.back] 39) := ⟨_, rfl⟩
  have hb1 : Below w.heap.size w w1 := by rw [hw1]; exact (Below.refl _ _).alloc (Nat.le_refl _) _
  have hd1 : DeIn w1 w.heap.size d := by rw [hw1]; exact DeIn.fresh w d
  have HD1 := Lib.hid hd1
  have HB1 := Lib.hid hb1
  have W1 := Lib.hid hw1
  have hlen := hok.len
  have hgh := hok.h2
  have hgw := hok.w2
  have hgw1 := hok.w1
  have hh1 := hok.h1
  have hl0 := hok.line (y := 0) (by omega)
  have hln0 : g.ls[0]'(by omega) = g.line 0 := by
    have := line_get hok (y := 0) (by omega)
    rw [List.getElem?_eq_getElem (by omega)] at this
    exact Option.some.inj this
  have HREAD := Lib.hid (fun (v : World) (hv : Below w.heap.size w v) (x y : Int) (s : Sty) => read_ok v (h.below hv) c x y s)
  have HLI := Lib.hid h
  obtain ⟨b, off, A0, c0, hA, hbl, dh0, -, -⟩ := h.at_ (j := 0) (by omega)
  rw [hln0, hl0.len] at dh0
  have HTM := Lib.hid (fun v => ltame_ok v d.cel.sty)
  have HKD : Hid (∀ v, Calls Tryd.prog 35 #[deV d] v fun e w' => e = .returned (.int .i64 5) ∧ Below v.heap.size v w') := Lib.hid (fun v => by
    have := kind_ok v d
    rw [hk] at this
    exact this)
  have HDH := Lib.hid (fun (v : World) (hv : Below w.heap.size w v) => show v.cell? ⟨b, off, none⟩ = some (.slice A0 g.w c0) from (hv.cell (p := ⟨b, off, none⟩) hbl).trans dh0)
  obtain ⟨n, hn⟩ := Int.eq_ofNat_of_zero_le (show 0 ≤ min (max d.c 0) (g.w : Int) by omega)
  have hX : mX d = d.a := by unfold mX; rw [if_neg (by omega)]
  have hY : mY d = d.b := by unfold mY; rw [if_neg (by omega)]
  have hms := mstep_eq hok d (by omega) hn
  rw [hX, hY] at hms
  obtain ⟨G, hG⟩ : ∃ G, G = (gdo g d).1 := ⟨_, rfl⟩
  obtain ⟨O, hO⟩ : ∃ O : List (List Cel), O = (gdo g d).2 := ⟨_, rfl⟩
  rw [← hG, ← hO]
  have HOO : Hid (O = []) := Lib.hid (by rw [hO, hms])
  have HYES : Hid (g.there (d.a) (d.b) = true → G = g.setL (d.b).toNat (mend (mline d (g.line (d.b).toNat) n))) := Lib.hid (fun h1  => by rw [hG, hms, if_pos ⟨h1, fun _ => by omega⟩])
  have HNO : Hid (¬ g.there (d.a) (d.b) = true → G = g) := Lib.hid (fun h1 => by rw [hG, hms, if_neg (fun h2 => h1 h2.1)])
  have HTI := Lib.hid (g.there_iff (d.a) (d.b))
  have HLINE := Lib.hid (fun (v : World) (hv : Below w.heap.size w v) (Y : Nat) (hY : Y < g.h) (ha : 0 ≤ d.a) => line_ok5 v hok (h.below hv) c d hY hn ha hk)
  have HRT := Lib.hid (fun v => cright_ok v d.cel)
  obtain ⟨MS, hMS, hMR, hMN⟩ := h.heads
  have HMS := Lib.hid hMS
  have HMR := Lib.hid hMR

  have h0I : 0 < g.ls.length := by omega
  have HK := Lib.hid hk
  have HOK := Lib.hid hok
  clear hw1 hb1 hd1 hl0 hln0 dh0 h hk hok hlen hn hX hY hms hG hO hMS hMR hMN
  obtain ⟨kd, a, bb, cc, ⟨r, ⟨bo, u, t, f, ba⟩⟩⟩ := d
  simp only [deV, styV] at *
  generalize hst : stame ⟨bo, u, t, f, ba⟩ = s' at *
  obtain ⟨sb, su, st, sf, sk⟩ := s'
  have HST := Lib.hid hst
  clear hst
  simp only at *
  subst hA
  generalize hglH : g.ls.length = gl at *
  have HGL := Lib.hid hglH
  have HHG : Hid (g.h = gl) := Lib.hid (HOK.out.len.symm.trans hglH)
  clear hglH
  obtain ⟨W, hWW⟩ : ∃ W, W = g.w := ⟨_, rfl⟩
  have HWW := Lib.hid hWW
  rw [← hWW] at hgw hgw1 HDH
  clear hWW
  go_enter Tryd.func14, Tryd.ntmps14
  go_upto_region 1 with fail
  rw [← W1.out]
  go_cut [6, 7, 8] from 25 (fun o6 o7 o8 wc => ∃ q, o6 = .int .i64 (W : Int) ∧ o7 = .int .i64 (gl : Int) ∧ o8 = .pointer (some ⟨q, 0, none⟩) ∧ w1.heap.size ≤ q ∧ StyIn wc q ⟨sb, su, st, sf, sk⟩ ∧ Below w1.heap.size w1 wc)
  case first =>
    refine wp_region_noPanic ?_
    refine wp_region_held_drew (S := fun v => Below w1.heap.size w1 v) (by kernel_rfl) (Below.refl _ _).drew (fun hHeld => ?_)
    have HSd := Lib.hid hHeld
    refine wpAnyH_take (i := 0) (v := ?vr0) rfl (by kernel_rfl) (by kernel_rfl) (by kernel_rfl) (fun _ _ _ h => h) (Or.inl ⟨by rfl, ?hr0⟩) (by assumption) ?_
    case hr0 => intro w hSw; (try dsimp only at hSw); obtain ⟨x0, x1, x2, x3, x4, x5, x6, x7, x8, x9⟩ := (HD1.out.below hSw).cells; simp only at x0 x1 x2 x3 x4 x5 x6 x7 x8 x9; have y0 := HDH.out _ (below_next HB1.out hSw); go_simp; try with_reducible rfl
    simp only [List.getElem_toArray, List.getElem_cons_zero, Act.put, List.setIfInBounds_toArray, List.set_cons_zero, List.set_cons_succ]
    refine wpAnyH_take (i := 1) (v := ?vr1) rfl (by kernel_rfl) (by kernel_rfl) (by kernel_rfl) (fun _ _ _ h => h) (Or.inl ⟨by rfl, ?hr1⟩) (by assumption) ?_
    case hr1 => intro w hSw; (try dsimp only at hSw); obtain ⟨x0, x1, x2, x3, x4, x5, x6, x7, x8, x9⟩ := (HD1.out.below hSw).cells; simp only at x0 x1 x2 x3 x4 x5 x6 x7 x8 x9; have y0 := HDH.out _ (below_next HB1.out hSw); go_simp; try with_reducible rfl
    simp only [List.getElem_toArray, List.getElem_cons_succ, List.getElem_cons_zero, Act.put, List.setIfInBounds_toArray, List.set_cons_zero, List.set_cons_succ]
    refine wpAnyH_take (i := 2) (v := ?vr2) rfl (by kernel_rfl) (by kernel_rfl) (by kernel_rfl) (fun _ _ _ h => h) (Or.inl ⟨by rfl, ?hr2⟩) (by assumption) ?_
    case hr2 => intro w hSw; (try dsimp only at hSw); obtain ⟨x0, x1, x2, x3, x4, x5, x6, x7, x8, x9⟩ := (HD1.out.below hSw).cells; simp only at x0 x1 x2 x3 x4 x5 x6 x7 x8 x9; have y0 := HDH.out _ (below_next HB1.out hSw); go_simp; try with_reducible rfl
    simp only [List.getElem_toArray, List.getElem_cons_succ, List.getElem_cons_zero, Act.put, List.setIfInBounds_toArray, List.set_cons_zero, List.set_cons_succ]
    refine wpAnyH_take (i := 3) (v := ?vr3) rfl (by kernel_rfl) (by kernel_rfl) (by kernel_rfl) (fun _ _ _ h => h) (Or.inl ⟨by rfl, ?hr3⟩) (by assumption) ?_
    case hr3 => intro w hSw; (try dsimp only at hSw); obtain ⟨x0, x1, x2, x3, x4, x5, x6, x7, x8, x9⟩ := (HD1.out.below hSw).cells; simp only at x0 x1 x2 x3 x4 x5 x6 x7 x8 x9; have y0 := HDH.out _ (below_next HB1.out hSw); go_simp; try with_reducible rfl
    simp only [List.getElem_toArray, List.getElem_cons_succ, List.getElem_cons_zero, Act.put, List.setIfInBounds_toArray, List.set_cons_zero, List.set_cons_succ]
    refine wpAnyH_take (i := 4) (v := ?vr4) rfl (by kernel_rfl) (by kernel_rfl) (by kernel_rfl) (fun _ _ _ h => h) (Or.inl ⟨by rfl, ?hr4⟩) (by assumption) ?_
    case hr4 => intro w hSw; (try dsimp only at hSw); obtain ⟨x0, x1, x2, x3, x4, x5, x6, x7, x8, x9⟩ := (HD1.out.below hSw).cells; simp only at x0 x1 x2 x3 x4 x5 x6 x7 x8 x9; have y0 := HDH.out _ (below_next HB1.out hSw); go_simp; try with_reducible rfl
    simp only [List.getElem_toArray, List.getElem_cons_succ, List.getElem_cons_zero, Act.put, List.setIfInBounds_toArray, List.set_cons_zero, List.set_cons_succ]
    refine wpAnyH_take (i := 5) (v := ?vr5) rfl (by kernel_rfl) (by kernel_rfl) (by kernel_rfl) (fun _ _ _ h => h) (Or.inl ⟨by rfl, ?hr5⟩) (by assumption) ?_
    case hr5 => intro w hSw; (try dsimp only at hSw); obtain ⟨x0, x1, x2, x3, x4, x5, x6, x7, x8, x9⟩ := (HD1.out.below hSw).cells; simp only at x0 x1 x2 x3 x4 x5 x6 x7 x8 x9; have y0 := HDH.out _ (below_next HB1.out hSw); go_simp; try with_reducible rfl
    simp only [List.getElem_toArray, List.getElem_cons_succ, List.getElem_cons_zero, Act.put, List.setIfInBounds_toArray, List.set_cons_zero, List.set_cons_succ]
    refine wpAnyH_take (i := 6) (v := ?vr6) rfl (by kernel_rfl) (by kernel_rfl) (by kernel_rfl) (fun _ _ _ h => h) (Or.inl ⟨by rfl, ?hr6⟩) (by assumption) ?_
    case hr6 => intro w hSw; (try dsimp only at hSw); obtain ⟨x0, x1, x2, x3, x4, x5, x6, x7, x8, x9⟩ := (HD1.out.below hSw).cells; simp only at x0 x1 x2 x3 x4 x5 x6 x7 x8 x9; have y0 := HDH.out _ (below_next HB1.out hSw); go_simp; try with_reducible rfl
    simp only [List.getElem_toArray, List.getElem_cons_succ, List.getElem_cons_zero, Act.put, List.setIfInBounds_toArray, List.set_cons_zero, List.set_cons_succ]
    refine wpAnyH_take (i := 7) (v := ?vr7) rfl (by kernel_rfl) (by kernel_rfl) (by kernel_rfl) (fun _ _ _ h => h) (Or.inl ⟨by rfl, ?hr7⟩) (by assumption) ?_
    case hr7 => intro w hSw; (try dsimp only at hSw); obtain ⟨x0, x1, x2, x3, x4, x5, x6, x7, x8, x9⟩ := (HD1.out.below hSw).cells; simp only at x0 x1 x2 x3 x4 x5 x6 x7 x8 x9; have y0 := HDH.out _ (below_next HB1.out hSw); go_simp; try with_reducible rfl
    simp only [List.getElem_toArray, List.getElem_cons_succ, List.getElem_cons_zero, Act.put, List.setIfInBounds_toArray, List.set_cons_zero, List.set_cons_succ]
    refine wpAnyH_take (i := 8) (v := ?vr8) rfl (by kernel_rfl) (by kernel_rfl) (by kernel_rfl) (fun _ _ _ h => h) (Or.inl ⟨by rfl, ?hr8⟩) (by assumption) ?_
    case hr8 => intro w hSw; (try dsimp only at hSw); obtain ⟨x0, x1, x2, x3, x4, x5, x6, x7, x8, x9⟩ := (HD1.out.below hSw).cells; simp only at x0 x1 x2 x3 x4 x5 x6 x7 x8 x9; have y0 := HDH.out _ (below_next HB1.out hSw); go_simp; try with_reducible rfl
    simp only [List.getElem_toArray, List.getElem_cons_succ, List.getElem_cons_zero, Act.put, List.setIfInBounds_toArray, List.set_cons_zero, List.set_cons_succ]
    refine wpAnyH_ready (rs := [9, 10]) (by kernel_rfl) (by simp) ?_
    refine AllReadyH.cons rfl (fun K hK => ?_) (AllReadyH.cons rfl (fun K hK => ?_) AllReadyH.nil)
    · go_simp
      refine (HTM.out w1.drew).mono ?_
      rintro e v1 ⟨rfl, hbx⟩
      have HS1 := Lib.hid (below_next HSd.out hbx)
      have hz1' := HS1.out.size
      clear hbx
      dsimp only
      refine hK.out _ _ ?_ (fun hHeld => ?_)
      · exact HS1.out
      clear hK K
      refine wpAnyH_ready (rs := [10]) (by kernel_rfl) (by simp) ?_
      refine AllReadyH.cons rfl (fun K hK => ?_) AllReadyH.nil
      go_simp
      try dsimp only
      have hy := heap_alloc_new v1 (.cells #[.bool false, .bool false, .bool false, .int .i64 0, .int .i64 0] 35)
      have HS2 := Lib.hid (HS1.out.alloc (HS1.out.size) (.cells #[.bool false, .bool false, .bool false, .int .i64 0, .int .i64 0] 35))
      refine hK.out _ _ ?_ (fun hHeld => ?_)
      · exact HS2.out
      clear hK K
      generalize v1.alloc (.cells #[.bool false, .bool false, .bool false, .int .i64 0, .int .i64 0] 35) = v2 at *
      have HY := Lib.hid (show StyIn v2 v1.heap.size KM.zero from hy)
      have n0 := HY.out.thaw 0; have n1 := HY.out.thaw 1; have n2 := HY.out.thaw 2; have n3 := HY.out.thaw 3; have n4 := HY.out.thaw 4
      obtain ⟨z0, z1, z2, z3, z4⟩ := HY.out.cells
      simp only [KM.zero] at z0 z1 z2 z3 z4
      clear hy
      refine wpAnyH_ready (rs := [11]) (by kernel_rfl) (by simp) ?_
      refine AllReadyH.cons rfl (fun K hK => ?_) AllReadyH.nil
      go_simp
      refine hK.out _ _ ?_ (fun hHeld => ?_)
      · exact HS2.out
      clear hK K
      refine wpAnyH_ready (rs := [12]) (by kernel_rfl) (by simp) ?_
      refine AllReadyH.cons rfl (fun K hK => ?_) AllReadyH.nil
      go_simp
      refine hK.out _ _ ?_ (fun hHeld => ?_)
      · exact HS2.out
      clear hK K
      refine wpAnyH_ready (rs := [13]) (by kernel_rfl) (by simp) ?_
      refine AllReadyH.cons rfl (fun K hK => ?_) AllReadyH.nil
      go_simp
      refine hK.out _ _ ?_ (fun hHeld => ?_)
      · exact setSty_below HS2.out hz1' ⟨sb, su, st, sf, sk⟩
      clear hK K
      refine wpAnyH_done (by kernel_rfl) ?_ _
      refine NoPanic.normal ?_
      go_wp2_with fail
      go_meet
      case rel => exact ⟨v1.heap.size, rfl, rfl, rfl, hz1', setSty_at HY.out ⟨sb, su, st, sf, sk⟩, setSty_below HS2.out hz1' ⟨sb, su, st, sf, sk⟩⟩
    · go_simp
      try dsimp only
      obtain ⟨v1, hv1⟩ : ∃ v1, v1 = (w1.alloc (.cells #[.bool false, .bool false, .bool false, .int .i64 0, .int .i64 0] 35)).drew := ⟨_, rfl⟩
      rw [← hv1]
      have HS1 := Lib.hid (show Below w1.heap.size w1 v1 by rw [hv1]; exact ((Below.refl _ _).alloc (Nat.le_refl _) _).drew)
      have hy : StyIn v1 w1.heap.size KM.zero := by rw [hv1]; exact heap_alloc_new w1 _
      clear hv1
      refine hK.out _ _ ?_ (fun hHeld => ?_)
      · exact HS1.out
      clear hK K
      have HY := Lib.hid hy
      clear hy
      refine wpAnyH_ready (rs := [9]) (by kernel_rfl) (by simp) ?_
      refine AllReadyH.cons rfl (fun K hK => ?_) AllReadyH.nil
      go_simp
      refine (HTM.out v1).mono ?_
      rintro e v2 ⟨rfl, hbx⟩
      have HS2 := Lib.hid (below_next HS1.out hbx)
      have HY2 := Lib.hid (HY.out.below hbx)
      have n0 := HY2.out.thaw 0; have n1 := HY2.out.thaw 1; have n2 := HY2.out.thaw 2; have n3 := HY2.out.thaw 3; have n4 := HY2.out.thaw 4
      obtain ⟨z0, z1, z2, z3, z4⟩ := HY2.out.cells
      simp only [KM.zero] at z0 z1 z2 z3 z4
      clear hbx
      dsimp only
      refine hK.out _ _ ?_ (fun hHeld => ?_)
      · exact HS2.out
      clear hK K
      refine wpAnyH_ready (rs := [11]) (by kernel_rfl) (by simp) ?_
      refine AllReadyH.cons rfl (fun K hK => ?_) AllReadyH.nil
      go_simp
      refine hK.out _ _ ?_ (fun hHeld => ?_)
      · exact HS2.out
      clear hK K
      refine wpAnyH_ready (rs := [12]) (by kernel_rfl) (by simp) ?_
      refine AllReadyH.cons rfl (fun K hK => ?_) AllReadyH.nil
      go_simp
      refine hK.out _ _ ?_ (fun hHeld => ?_)
      · exact HS2.out
      clear hK K
      refine wpAnyH_ready (rs := [13]) (by kernel_rfl) (by simp) ?_
      refine AllReadyH.cons rfl (fun K hK => ?_) AllReadyH.nil
      go_simp
      refine hK.out _ _ ?_ (fun hHeld => ?_)
      · exact setSty_below HS2.out (Nat.le_refl _) ⟨sb, su, st, sf, sk⟩
      clear hK K
      refine wpAnyH_done (by kernel_rfl) ?_ _
      refine NoPanic.normal ?_
      go_wp2_with fail
      go_meet
      case rel => exact ⟨w1.heap.size, rfl, rfl, rfl, Nat.le_refl _, setSty_at HY2.out ⟨sb, su, st, sf, sk⟩, setSty_below HS2.out (Nat.le_refl _) ⟨sb, su, st, sf, sk⟩⟩
  case rest =>
    obtain ⟨q, rfl, rfl, rfl, hq1, hst, hbc⟩ := hcut
    rename World => w2
    have HB2 := Lib.hid (below_next HB1.out hbc)
    have HD2 := Lib.hid (HD1.out.below hbc)
    have HS2 := Lib.hid hst
    have z12 := hbc.size
    have z02 := HB2.out.size
    obtain ⟨x0, x1, x2, x3, x4, x5, x6, x7, x8, x9⟩ := HD2.out.cells
    simp only at x0 x1 x2 x3 x4 x5 x6 x7 x8 x9
    clear hst hbc hq1
    go_wp2_with fail
    refine (HKD.out w2).mono ?_
    rintro e w3 ⟨rfl, hb3⟩
    have HB3 := Lib.hid (below_next HB2.out hb3)
    have HD3 := Lib.hid (HD2.out.below hb3)
    have HS3 := Lib.hid (HS2.out.below hb3)
    have z23 := hb3.size
    clear x0 x1 x2 x3 x4 x5 x6 x7 x8 x9 hb3
    obtain ⟨x0, x1, x2, x3, x4, x5, x6, x7, x8, x9⟩ := HD3.out.cells
    simp only at x0 x1 x2 x3 x4 x5 x6 x7 x8 x9
    clear HRT
    obtain ⟨th, hth⟩ : ∃ th, th = g.there (a) (bb) := ⟨_, rfl⟩
    rw [← hth] at HYES HNO HTI
    have HTI2 : Hid (th = true ↔ (0 ≤ (a : Int) ∧ (a : Int) < (W : Int)) ∧ 0 ≤ bb ∧ bb < (gl : Int)) := Lib.hid (by rw [HWW.out, ← HHG.out]; exact HTI.out)
    clear hth HTI
    go_wp2_with fail
    refine (HKD.out w3).mono ?_
    rintro e w4 ⟨rfl, hb⟩
    have HB4 := Lib.hid (below_next HB3.out hb)
    have HD4 := Lib.hid (HD3.out.below hb)
    clear hb x0 x1 x2 x3 x4 x5 x6 x7 x8 x9
    obtain ⟨x0, x1, x2, x3, x4, x5, x6, x7, x8, x9⟩ := HD4.out.cells
    simp only at x0 x1 x2 x3 x4 x5 x6 x7 x8 x9
    go_wp2_with fail
    refine (HKD.out w4).mono ?_
    rintro e w5 ⟨rfl, hb⟩
    have HB5 := Lib.hid (below_next HB4.out hb)
    have HD5 := Lib.hid (HD4.out.below hb)
    clear hb x0 x1 x2 x3 x4 x5 x6 x7 x8 x9
    obtain ⟨x0, x1, x2, x3, x4, x5, x6, x7, x8, x9⟩ := HD5.out.cells
    simp only at x0 x1 x2 x3 x4 x5 x6 x7 x8 x9
    go_upto_region 50 with fail
    obtain ⟨w6, hw6⟩ : ∃ w6, w6 = w5 := ⟨_, rfl⟩
    go_cut [203] from 177 (fun o wc => o = .bool (!(th && true)) ∧ Below w5.heap.size w5 wc)
    case first =>
      by_cases hx0 : a < 0
      · have t1 : decide (a < 0) = true := by simp; omega
        go_wp2_with fail
        go_meet
        case rel => exact ⟨congrArg Value.bool (by rw [show th = false from Bool.eq_false_iff.2 (fun h => by have := HTI2.out.1 h; omega)]; simp), Below.refl _ _⟩
      have t1 : decide (a < 0) = false := by simp; omega
      by_cases hy0 : bb < 0
      · have t2 : decide (bb < 0) = true := by simp; omega
        go_wp2_with fail
        go_meet
        case rel => exact ⟨congrArg Value.bool (by rw [show th = false from Bool.eq_false_iff.2 (fun h => by have := HTI2.out.1 h; omega)]; simp), Below.refl _ _⟩
      have t2 : decide (bb < 0) = false := by simp; omega
      by_cases hx1 : (W : Int) ≤ a
      · have t3 : decide ((W : Int) ≤ a) = true := by simp; omega
        go_wp2_with fail
        go_meet
        case rel => exact ⟨congrArg Value.bool (by rw [show th = false from Bool.eq_false_iff.2 (fun h => by have := HTI2.out.1 h; omega)]; simp), Below.refl _ _⟩
      have t3 : decide ((W : Int) ≤ a) = false := by simp; omega
      by_cases hy1 : (gl : Int) ≤ bb
      · have t4 : decide ((gl : Int) ≤ bb) = true := by simp; omega
        go_wp2_with fail
        go_meet
        case rel => exact ⟨congrArg Value.bool (by rw [show th = false from Bool.eq_false_iff.2 (fun h => by have := HTI2.out.1 h; omega)]; simp), Below.refl _ _⟩
      have t4 : decide ((gl : Int) ≤ bb) = false := by simp; omega
      have hth : th = true := HTI2.out.2 ⟨⟨by omega, by omega⟩, by omega, by omega⟩
      go_wp2_with fail
      refine (HKD.out w5).mono ?_
      rintro e w7 ⟨rfl, hb7⟩
      have HB57 := Lib.hid hb7
      have HD7 := Lib.hid (HD5.out.below hb7)
      clear hb7 x0 x1 x2 x3 x4 x5 x6 x7 x8 x9
      obtain ⟨x0, x1, x2, x3, x4, x5, x6, x7, x8, x9⟩ := HD7.out.cells
      simp only at x0 x1 x2 x3 x4 x5 x6 x7 x8 x9
      subst hth
      go_wp2_with fail
      go_meet
      case rel => exact ⟨by simp, HB57.out⟩
    case rest =>
      obtain ⟨ho, hbc⟩ := hcut
      rename World => w7
      rw [ho]
      have HB7 := Lib.hid (below_next HB5.out hbc)
      have HD7 := Lib.hid (HD5.out.below hbc)
      clear ho hbc hw6 w6 x0 x1 x2 x3 x4 x5 x6 x7 x8 x9
      obtain ⟨x0, x1, x2, x3, x4, x5, x6, x7, x8, x9⟩ := HD7.out.cells
      simp only at x0 x1 x2 x3 x4 x5 x6 x7 x8 x9
      obtain ⟨B, hB⟩ : ∃ B, B = (th && true) := ⟨_, rfl⟩
      rw [← hB]
      rcases B with _ | _
      · obtain rfl : G = g := HNO.out (fun h => by rw [h] at hB; simp at hB)
        have hbf : (!false) = true := rfl
        clear hB
        rw [hbf]
        have HLN := Lib.hid ((HLI.out.below HB7.out).mono (N' := fun k => N k ∨ w.heap.size ≤ k) (fun k _ hn => Or.inl hn))
        go_wp2_with fail
        go_ret2
        refine ⟨some ⟨b, off, none⟩, c, none, 0, by rw [HGL.out, HOO.out]; rfl, by rw [HGL.out]; exact hcap, HLN.out, by rw [HOO.out]; exact LinesAt.nil, HB7.out⟩
      · have hbt : (!true) = false := rfl
        rw [hbt]
        have hth : th = true := by
          rcases th with _ | _
          · simp at hB
          · rfl
        have hthi := HTI2.out.1 hth
        have hG := HYES.out hth
        have hgl : gl ≤ 60 := by rw [← HHG.out]; exact hgh
        obtain ⟨YN, hYN⟩ := Int.eq_ofNat_of_zero_le hthi.2.1
        have ha0 : 0 ≤ a := hthi.1.1
        have hYg : YN < gl := by omega
        subst hYN
        rw [Int.toNat_natCast] at hG
        have hMl : MS.length = gl := by rw [HMS.out.len, HGL.out]
        have HML := Lib.hid hMl
        have HLINE' := Lib.hid (fun (v : World) (hv : Below w.heap.size w v) => HLINE.out v hv YN (by rw [HHG.out]; exact hYg) ha0)
        obtain ⟨RL, hRL⟩ : ∃ RL, RL = mend (mline ⟨kd, a, (YN : Int), cc, ⟨r, ⟨bo, u, t, f, ba⟩⟩⟩ (g.line YN) n) := ⟨_, rfl⟩
        rw [← hRL] at HLINE' hG
        have HGG := Lib.hid hG
        have hYI : (YN : Int) < (gl : Int) := by omega
        have z7 := HB7.out.size
        clear hB hG hRL hMl hthi HLINE ha0
        go_wp2_with (at_builtin; refine linM.wp_append rfl (.tmp 205) (.tmp 206) rfl w7.heap.size _ [] rfl (El.Own.nil _ _) (some ⟨b, off, none⟩) MS gl c w.heap.size HML.out.symm rfl (HMR.out.below HB7.out) (by simp) ?c1 ?c2 (Nat.le_refl _) ?_)
        case c1 => rw [HML.out]; simp only [linM, List.length_nil]; omega
        case c2 => rw [HML.out]; simp only [List.length_nil]; unfold maxLen; omega
        intro vn w8 hon hgn
        have hb78 := (El.Own.nil (E := linM) w7 w7.heap.size).grow_below hgn (Nat.le_refl _)
        have HB8 := Lib.hid (below_next HB7.out hb78)
        have HD8 := Lib.hid (HD7.out.below hb78)
        obtain ⟨nb, cn, hvn, hge, hnl, hlc, -, hfz, hcl⟩ := hon.place (by rw [HML.out]; omega)
        have HON := Lib.hid hon
        have HGE := Lib.hid hge
        have HNL := Lib.hid hnl
        have HC8 : Hid (w8.cell? ⟨nb, YN, none⟩ = some (MS[YN]'(by rw [HML.out]; exact hYg)).v) := Lib.hid (by
          have := hcl YN (by rw [HML.out]; exact hYg) 0 (by decide)
          simpa [linM] using this)
        have HF8 := Lib.hid (hfz YN)
        rw [HML.out] at hvn hlc
        subst hvn
        have HLC := Lib.hid hlc
        clear hon hgn hb78 hge hnl hlc hfz hcl x0 x1 x2 x3 x4 x5 x6 x7 x8 x9
        obtain ⟨x0, x1, x2, x3, x4, x5, x6, x7, x8, x9⟩ := HD8.out.cells
        simp only at x0 x1 x2 x3 x4 x5 x6 x7 x8 x9
        go_wp2_with fail
        refine (HLINE'.out w8 HB8.out).mono ?_
        rintro e w9 ⟨v9, rfl, ho9, hb9⟩
        obtain ⟨A9, c9, hv9, -, -, hA9, hr9⟩ := ho9.row
        have HSO : Hid (SlOk w9 (fun k => w8.heap.size ≤ k) ⟨A9, RL.length, c9⟩ RL) := Lib.hid ⟨rfl, hr9, fun hp a' ha' => by
          obtain ⟨gg, cc', hv', hge, -, -, -, -, -⟩ := ho9.place hp
          rw [hv9] at hv'
          simp only [Value.slice.injEq] at hv'
          have ha' : A9 = some a' := ha'
          have hab : a'.block = gg := by
            have := hv'.1
            rw [ha'] at this
            simp only [Option.some.injEq] at this
            rw [this]
          rw [hab]
          exact hge, hA9⟩
        have HB9 := Lib.hid (below_next HB8.out hb9)
        have HON9 := Lib.hid (HON.out.below hb9)
        have hc9 := (hb9.cell (p := ⟨nb, YN, none⟩) HNL.out).trans HC8.out
        have hf9 := (hb9.frozen (p := ⟨nb, YN, none⟩) HNL.out).trans HF8.out
        subst hv9
        generalize hrl : RL.length = rl at *
        clear ho9 hr9 hA9 hb9 x0 x1 x2 x3 x4 x5 x6 x7 x8 x9
        generalize (MS[YN]'(by rw [HML.out]; exact hYg)).v = old at *
        go_wp2_with fail
        go_ret2
        have hset := HON9.out.set (g := nb) (c := cn) (i := YN) (j := 0) (a' := ⟨A9, rl, c9⟩) (u := .slice A9 rl c9) (by rw [HML.out]) (by rw [HML.out]; exact hYg) (by decide) (by simp [linM, Sl.v])
        have hset' : linM.Own (w9.setCell ⟨nb, YN, none⟩ (.slice A9 rl c9)) w7.heap.size (.slice (some ⟨nb, 0, none⟩) gl cn) (MS.set YN ⟨A9, rl, c9⟩) := by simpa [linM] using hset
        have hwn : w.heap.size ≤ nb := Nat.le_trans z7 HGE.out
        have hBz : Below w.heap.size w (w9.setCell ⟨nb, YN, none⟩ (.slice A9 rl c9)) := HB9.out.setCell (p := ⟨nb, YN, none⟩) hwn _
        have hSz := HSO.out.keep (w' := w9.setCell ⟨nb, YN, none⟩ (.slice A9 rl c9)) (fun k _ hn => Below.heap_setCell _ _ _ _ (fun e => by have := HNL.out; simp only at e; omega)) (by simp)
        have hGls : G.ls = g.ls.set YN RL := by rw [HGG.out]; rfl
        have hGl : G.ls.length = gl := by rw [hGls, List.length_set, HGL.out]
        have z8 := HB8.out.size
        refine ⟨some ⟨nb, 0, none⟩, cn, none, 0, by rw [hGl, HOO.out]; rfl, by rw [hGl]; exact HLC.out, ?_, by rw [HOO.out]; exact LinesAt.nil, hBz⟩
        rw [hGls]
        refine LinesAt.of_heads (SL := MS.set YN ⟨A9, rl, c9⟩) (((HMS.out.below hBz).mono (fun k _ hn => Or.inl hn)).set (hSz.mono (fun k _ hn => Or.inr (by omega))) YN) (El.Row.of_own (c := cn) (base := w7.heap.size) (by rw [List.length_set, HML.out]; exact hset')) (fun _ a' ha' => ?_)
        injection ha' with ha'
        subst ha'
        exact Or.inr hwn
end Go.Proofs.YtbpkklcegiiheaaDoor
