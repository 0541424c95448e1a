/-
  Layer 9's laws: the model's do, of lines that go up.
-/
import Derived.Test.YtbpkklcegiiheaaDoorDModM
import Derived.Test.YtbpkklcegiiheaaDoorDDo
import Derived.Test.YtbpkklcegiiheaaDoorDOpenA
import Derived.Deep.QuietTactic
import Derived.BigQuiet
import Derived.Deep.CutRange
import Derived.Deep.CutBlock
namespace Go.Proofs.YtbpkklcegiiheaaDoor
open Go.RowKit Go.Lib KM

set_option maxRecDepth 100000 in
set_option maxHeartbeats 4000000 in
theorem mdo_ok2 (w : World) {N : Nat → Prop} {A : Option Addr} {g : Gr} (hok : g.Ok) (h : LinesAt w N A g.ls) (c : Nat) (_hcap : g.ls.length ≤ c) (d : De) (hk : d.k = 2) :
    Calls Tryd.prog 14 #[.slice A g.ls.length c, deV d] w (ModPost w N ((gup g d.a d.b d.c (stame d.cel.sty)).1) ((gup g d.a d.b d.c (stame d.cel.sty)).2)) := by
  obtain ⟨w1, hw1⟩ : ∃ w1, w1 = w.alloc (.cells #[.int .i64 d.kind, .int .i64 d.a, .int .i64 d.b, .int .i64 d.c, .int .i32 d.cel.rune, .bool d.cel.sty.bold, .bool d.cel.sty.under, .bool d.cel.sty.turned, .int .i64 d.cel.sty.fore, .int .i64 d.cel.sty.back] 39) := ⟨_, rfl⟩
  have hb1 : Below w.heap.size w w1 := by rw [hw1]; exact (Below.refl _ _).alloc (Nat.le_refl _) _
  have hd1 : DeIn w1 w.heap.size d := by rw [hw1]; exact DeIn.fresh w d
  have HD1 := Lib.hid hd1
  have HB1 := Lib.hid hb1
  have W1 := Lib.hid hw1
  have hlen := hok.len
  have hgh := hok.h2
  have hgw := hok.w2
  have hgw1 := hok.w1
  have hh1 := hok.h1
  have hl0 := hok.line (y := 0) (by omega)
  have hln0 : g.ls[0]'(by omega) = g.line 0 := by
    have := line_get hok (y := 0) (by omega)
    rw [List.getElem?_eq_getElem (by omega)] at this
    exact Option.some.inj this
  have HREAD := Lib.hid (fun (v : World) (hv : Below w.heap.size w v) (x y : Int) (s : Sty) => read_ok v (h.below hv) c x y s)
  have HLI := Lib.hid h
  obtain ⟨b, off, A0, c0, hA, hbl, dh0, -, -⟩ := h.at_ (j := 0) (by omega)
  rw [hln0, hl0.len] at dh0
  have HTM := Lib.hid (fun v => ltame_ok v d.cel.sty)
  have HKD : Hid (∀ v, Calls Tryd.prog 35 #[deV d] v fun e w' => e = .returned (.int .i64 2) ∧ Below v.heap.size v w') := Lib.hid (fun v => by
    have := kind_ok v d
    rw [hk] at this
    exact this)
  have HDH := Lib.hid (fun (v : World) (hv : Below w.heap.size w v) => show v.cell? ⟨b, off, none⟩ = some (.slice A0 g.w c0) from (hv.cell (p := ⟨b, off, none⟩) hbl).trans dh0)
  obtain ⟨T, hT⟩ := Int.eq_ofNat_of_zero_le (show 0 ≤ min (max d.a 0) (g.h : Int) by omega)
  obtain ⟨E, hE⟩ := Int.eq_ofNat_of_zero_le (show 0 ≤ min (max d.b 0) (g.h : Int) by omega)
  obtain ⟨ET, hET⟩ : ∃ z, z = (E : Int) - (T : Int) := ⟨_, rfl⟩
  obtain ⟨M, hM⟩ := Int.eq_ofNat_of_zero_le (show 0 ≤ min (max d.c 0) (max ET 0) by omega)
  have hTH : T ≤ g.h := by omega
  have hEH : E ≤ g.h := by omega
  have HWA : Hid (∀ v, Calls Tryd.prog 18 #[.int .i64 d.a, .int .i64 0, .int .i64 (g.ls.length : Int)] v fun e w' => e = .returned (.int .i64 (T : Int)) ∧ w' = v) := Lib.hid (fun v => by have := within_ok v d.a 0 g.ls.length; rw [hlen] at this ⊢; rwa [hT] at this)
  have HWB : Hid (∀ v, Calls Tryd.prog 18 #[.int .i64 d.b, .int .i64 0, .int .i64 (g.ls.length : Int)] v fun e w' => e = .returned (.int .i64 (E : Int)) ∧ w' = v) := Lib.hid (fun v => by have := within_ok v d.b 0 g.ls.length; rw [hlen] at this ⊢; rwa [hE] at this)
  have HWC : Hid (∀ v, Calls Tryd.prog 18 #[.int .i64 d.c, .int .i64 0, .int .i64 (max ET 0)] v fun e w' => e = .returned (.int .i64 (M : Int)) ∧ w' = v) := Lib.hid (fun v => by have := within_ok v d.c 0 (max ET 0); rwa [hM] at this)
  have hM' := hM
  rw [hET] at hM'
  have hTM : T + M ≤ g.h := by omega
  have hsub : (E : Int) - (T : Int) = ET := hET.symm
  have hwET : IntKind.i64.wrap ET = ET := by rw [IntKind.wrap_i64]; omega
  obtain ⟨G, hG⟩ : ∃ G, G = (gup g d.a d.b d.c (stame d.cel.sty)).1 := ⟨_, rfl⟩
  obtain ⟨O, hO⟩ : ∃ O : List (List Cel), O = (gup g d.a d.b d.c (stame d.cel.sty)).2 := ⟨_, rfl⟩
  rw [← hG, ← hO]
  have HG : Hid (G.ls = (List.range g.h).map (fun y => mline0 g (stame d.cel.sty) (mfrom false T E M y))) := Lib.hid (by rw [hG]; exact ((mup_eq hok d.a d.b d.c _ hT hE hM').1).symm)
  have HO : Hid (O = (g.ls.drop T).take M) := Lib.hid (by rw [hO]; exact (mup_eq hok d.a d.b d.c (stame d.cel.sty) hT hE hM').2)
  have HROW := Lib.hid (fun f : Int => show (List.range g.w).map (fun x : Nat => mread g.ls (x : Int) f (stame d.cel.sty)) = mline0 g (stame d.cel.sty) f from mrow_eq hok f _)
  obtain ⟨MS, hMS, hMR, hMN⟩ := h.heads
  have HMS := Lib.hid hMS
  have HMR := Lib.hid hMR

  have h0I : 0 < g.ls.length := by omega
  have HK := Lib.hid hk
  have HOK := Lib.hid hok
  clear hw1 hb1 hd1 hl0 hln0 dh0 h hk hok hlen hT hE hET hM hM' hG hO hMS hMR hMN
  obtain ⟨kd, a, bb, cc, ⟨r, ⟨bo, u, t, f, ba⟩⟩⟩ := d
  simp only [deV, styV] at *
  generalize hst : stame ⟨bo, u, t, f, ba⟩ = s' at *
  obtain ⟨sb, su, st, sf, sk⟩ := s'
  have HST := Lib.hid hst
  clear hst
  simp only at *
  subst hA
  generalize hglH : g.ls.length = gl at *
  have HGL := Lib.hid hglH
  have HHG : Hid (g.h = gl) := Lib.hid (HOK.out.len.symm.trans hglH)
  clear hglH
  obtain ⟨W, hWW⟩ : ∃ W, W = g.w := ⟨_, rfl⟩
  have HWW := Lib.hid hWW
  rw [← hWW] at hgw hgw1 HDH
  clear hWW
  go_enter Tryd.func14, Tryd.ntmps14
  go_upto_region 1 with fail
  rw [← W1.out]
  go_cut [6, 7, 8] from 25 (fun o6 o7 o8 wc => ∃ q, o6 = .int .i64 (W : Int) ∧ o7 = .int .i64 (gl : Int) ∧ o8 = .pointer (some ⟨q, 0, none⟩) ∧ w1.heap.size ≤ q ∧ StyIn wc q ⟨sb, su, st, sf, sk⟩ ∧ Below w1.heap.size w1 wc)
  case first =>
    refine wp_region_noPanic ?_
    refine wp_region_held_drew (S := fun v => Below w1.heap.size w1 v) (by kernel_rfl) (Below.refl _ _).drew (fun hHeld => ?_)
    have HSd := Lib.hid hHeld
    refine wpAnyH_take (i := 0) (v := ?vr0) rfl (by kernel_rfl) (by kernel_rfl) (by kernel_rfl) (fun _ _ _ h => h) (Or.inl ⟨by rfl, ?hr0⟩) (by assumption) ?_
    case hr0 => intro w hSw; (try dsimp only at hSw); obtain ⟨x0, x1, x2, x3, x4, x5, x6, x7, x8, x9⟩ := (HD1.out.below hSw).cells; simp only at x0 x1 x2 x3 x4 x5 x6 x7 x8 x9; have y0 := HDH.out _ (below_next HB1.out hSw); go_simp; try with_reducible rfl
    simp only [List.getElem_toArray, List.getElem_cons_zero, Act.put, List.setIfInBounds_toArray, List.set_cons_zero, List.set_cons_succ]
    refine wpAnyH_take (i := 1) (v := ?vr1) rfl (by kernel_rfl) (by kernel_rfl) (by kernel_rfl) (fun _ _ _ h => h) (Or.inl ⟨by rfl, ?hr1⟩) (by assumption) ?_
    case hr1 => intro w hSw; (try dsimp only at hSw); obtain ⟨x0, x1, x2, x3, x4, x5, x6, x7, x8, x9⟩ := (HD1.out.below hSw).cells; simp only at x0 x1 x2 x3 x4 x5 x6 x7 x8 x9; have y0 := HDH.out _ (below_next HB1.out hSw); go_simp; try with_reducible rfl
    simp only [List.getElem_toArray, List.getElem_cons_succ, List.getElem_cons_zero, Act.put, List.setIfInBounds_toArray, List.set_cons_zero, List.set_cons_succ]
    refine wpAnyH_take (i := 2) (v := ?vr2) rfl (by kernel_rfl) (by kernel_rfl) (by kernel_rfl) (fun _ _ _ h => h) (Or.inl ⟨by rfl, ?hr2⟩) (by assumption) ?_
    case hr2 => intro w hSw; (try dsimp only at hSw); obtain ⟨x0, x1, x2, x3, x4, x5, x6, x7, x8, x9⟩ := (HD1.out.below hSw).cells; simp only at x0 x1 x2 x3 x4 x5 x6 x7 x8 x9; have y0 := HDH.out _ (below_next HB1.out hSw); go_simp; try with_reducible rfl
    simp only [List.getElem_toArray, List.getElem_cons_succ, List.getElem_cons_zero, Act.put, List.setIfInBounds_toArray, List.set_cons_zero, List.set_cons_succ]
    refine wpAnyH_take (i := 3) (v := ?vr3) rfl (by kernel_rfl) (by kernel_rfl) (by kernel_rfl) (fun _ _ _ h => h) (Or.inl ⟨by rfl, ?hr3⟩) (by assumption) ?_
    case hr3 => intro w hSw; (try dsimp only at hSw); obtain ⟨x0, x1, x2, x3, x4, x5, x6, x7, x8, x9⟩ := (HD1.out.below hSw).cells; simp only at x0 x1 x2 x3 x4 x5 x6 x7 x8 x9; have y0 := HDH.out _ (below_next HB1.out hSw); go_simp; try with_reducible rfl
    simp only [List.getElem_toArray, List.getElem_cons_succ, List.getElem_cons_zero, Act.put, List.setIfInBounds_toArray, List.set_cons_zero, List.set_cons_succ]
    refine wpAnyH_take (i := 4) (v := ?vr4) rfl (by kernel_rfl) (by kernel_rfl) (by kernel_rfl) (fun _ _ _ h => h) (Or.inl ⟨by rfl, ?hr4⟩) (by assumption) ?_
    case hr4 => intro w hSw; (try dsimp only at hSw); obtain ⟨x0, x1, x2, x3, x4, x5, x6, x7, x8, x9⟩ := (HD1.out.below hSw).cells; simp only at x0 x1 x2 x3 x4 x5 x6 x7 x8 x9; have y0 := HDH.out _ (below_next HB1.out hSw); go_simp; try with_reducible rfl
    simp only [List.getElem_toArray, List.getElem_cons_succ, List.getElem_cons_zero, Act.put, List.setIfInBounds_toArray, List.set_cons_zero, List.set_cons_succ]
    refine wpAnyH_take (i := 5) (v := ?vr5) rfl (by kernel_rfl) (by kernel_rfl) (by kernel_rfl) (fun _ _ _ h => h) (Or.inl ⟨by rfl, ?hr5⟩) (by assumption) ?_
    case hr5 => intro w hSw; (try dsimp only at hSw); obtain ⟨x0, x1, x2, x3, x4, x5, x6, x7, x8, x9⟩ := (HD1.out.below hSw).cells; simp only at x0 x1 x2 x3 x4 x5 x6 x7 x8 x9; have y0 := HDH.out _ (below_next HB1.out hSw); go_simp; try with_reducible rfl
    simp only [List.getElem_toArray, List.getElem_cons_succ, List.getElem_cons_zero, Act.put, List.setIfInBounds_toArray, List.set_cons_zero, List.set_cons_succ]
    refine wpAnyH_take (i := 6) (v := ?vr6) rfl (by kernel_rfl) (by kernel_rfl) (by kernel_rfl) (fun _ _ _ h => h) (Or.inl ⟨by rfl, ?hr6⟩) (by assumption) ?_
    case hr6 => intro w hSw; (try dsimp only at hSw); obtain ⟨x0, x1, x2, x3, x4, x5, x6, x7, x8, x9⟩ := (HD1.out.below hSw).cells; simp only at x0 x1 x2 x3 x4 x5 x6 x7 x8 x9; have y0 := HDH.out _ (below_next HB1.out hSw); go_simp; try with_reducible rfl
    simp only [List.getElem_toArray, List.getElem_cons_succ, List.getElem_cons_zero, Act.put, List.setIfInBounds_toArray, List.set_cons_zero, List.set_cons_succ]
    refine wpAnyH_take (i := 7) (v := ?vr7) rfl (by kernel_rfl) (by kernel_rfl) (by kernel_rfl) (fun _ _ _ h => h) (Or.inl ⟨by rfl, ?hr7⟩) (by assumption) ?_
    case hr7 => intro w hSw; (try dsimp only at hSw); obtain ⟨x0, x1, x2, x3, x4, x5, x6, x7, x8, x9⟩ := (HD1.out.below hSw).cells; simp only at x0 x1 x2 x3 x4 x5 x6 x7 x8 x9; have y0 := HDH.out _ (below_next HB1.out hSw); go_simp; try with_reducible rfl
    simp only [List.getElem_toArray, List.getElem_cons_succ, List.getElem_cons_zero, Act.put, List.setIfInBounds_toArray, List.set_cons_zero, List.set_cons_succ]
    refine wpAnyH_take (i := 8) (v := ?vr8) rfl (by kernel_rfl) (by kernel_rfl) (by kernel_rfl) (fun _ _ _ h => h) (Or.inl ⟨by rfl, ?hr8⟩) (by assumption) ?_
    case hr8 => intro w hSw; (try dsimp only at hSw); obtain ⟨x0, x1, x2, x3, x4, x5, x6, x7, x8, x9⟩ := (HD1.out.below hSw).cells; simp only at x0 x1 x2 x3 x4 x5 x6 x7 x8 x9; have y0 := HDH.out _ (below_next HB1.out hSw); go_simp; try with_reducible rfl
    simp only [List.getElem_toArray, List.getElem_cons_succ, List.getElem_cons_zero, Act.put, List.setIfInBounds_toArray, List.set_cons_zero, List.set_cons_succ]
    refine wpAnyH_ready (rs := [9, 10]) (by kernel_rfl) (by simp) ?_
    refine AllReadyH.cons rfl (fun K hK => ?_) (AllReadyH.cons rfl (fun K hK => ?_) AllReadyH.nil)
    · go_simp
      refine (HTM.out w1.drew).mono ?_
      rintro e v1 ⟨rfl, hbx⟩
      have HS1 := Lib.hid (below_next HSd.out hbx)
      have hz1' := HS1.out.size
      clear hbx
      dsimp only
      refine hK.out _ _ ?_ (fun hHeld => ?_)
      · exact HS1.out
      clear hK K
      refine wpAnyH_ready (rs := [10]) (by kernel_rfl) (by simp) ?_
      refine AllReadyH.cons rfl (fun K hK => ?_) AllReadyH.nil
      go_simp
      try dsimp only
      have hy := heap_alloc_new v1 (.cells #[.bool false, .bool false, .bool false, .int .i64 0, .int .i64 0] 35)
      have HS2 := Lib.hid (HS1.out.alloc (HS1.out.size) (.cells #[.bool false, .bool false, .bool false, .int .i64 0, .int .i64 0] 35))
      refine hK.out _ _ ?_ (fun hHeld => ?_)
      · exact HS2.out
      clear hK K
      generalize v1.alloc (.cells #[.bool false, .bool false, .bool false, .int .i64 0, .int .i64 0] 35) = v2 at *
      have HY := Lib.hid (show StyIn v2 v1.heap.size KM.zero from hy)
      have n0 := HY.out.thaw 0; have n1 := HY.out.thaw 1; have n2 := HY.out.thaw 2; have n3 := HY.out.thaw 3; have n4 := HY.out.thaw 4
      obtain ⟨z0, z1, z2, z3, z4⟩ := HY.out.cells
      simp only [KM.zero] at z0 z1 z2 z3 z4
      clear hy
      refine wpAnyH_ready (rs := [11]) (by kernel_rfl) (by simp) ?_
      refine AllReadyH.cons rfl (fun K hK => ?_) AllReadyH.nil
      go_simp
      refine hK.out _ _ ?_ (fun hHeld => ?_)
      · exact HS2.out
      clear hK K
      refine wpAnyH_ready (rs := [12]) (by kernel_rfl) (by simp) ?_
      refine AllReadyH.cons rfl (fun K hK => ?_) AllReadyH.nil
      go_simp
      refine hK.out _ _ ?_ (fun hHeld => ?_)
      · exact HS2.out
      clear hK K
      refine wpAnyH_ready (rs := [13]) (by kernel_rfl) (by simp) ?_
      refine AllReadyH.cons rfl (fun K hK => ?_) AllReadyH.nil
      go_simp
      refine hK.out _ _ ?_ (fun hHeld => ?_)
      · exact setSty_below HS2.out hz1' ⟨sb, su, st, sf, sk⟩
      clear hK K
      refine wpAnyH_done (by kernel_rfl) ?_ _
      refine NoPanic.normal ?_
      go_wp2_with fail
      go_meet
      case rel => exact ⟨v1.heap.size, rfl, rfl, rfl, hz1', setSty_at HY.out ⟨sb, su, st, sf, sk⟩, setSty_below HS2.out hz1' ⟨sb, su, st, sf, sk⟩⟩
    · go_simp
      try dsimp only
      obtain ⟨v1, hv1⟩ : ∃ v1, v1 = (w1.alloc (.cells #[.bool false, .bool false, .bool false, .int .i64 0, .int .i64 0] 35)).drew := ⟨_, rfl⟩
      rw [← hv1]
      have HS1 := Lib.hid (show Below w1.heap.size w1 v1 by rw [hv1]; exact ((Below.refl _ _).alloc (Nat.le_refl _) _).drew)
      have hy : StyIn v1 w1.heap.size KM.zero := by rw [hv1]; exact heap_alloc_new w1 _
      clear hv1
      refine hK.out _ _ ?_ (fun hHeld => ?_)
      · exact HS1.out
      clear hK K
      have HY := Lib.hid hy
      clear hy
      refine wpAnyH_ready (rs := [9]) (by kernel_rfl) (by simp) ?_
      refine AllReadyH.cons rfl (fun K hK => ?_) AllReadyH.nil
      go_simp
      refine (HTM.out v1).mono ?_
      rintro e v2 ⟨rfl, hbx⟩
      have HS2 := Lib.hid (below_next HS1.out hbx)
      have HY2 := Lib.hid (HY.out.below hbx)
      have n0 := HY2.out.thaw 0; have n1 := HY2.out.thaw 1; have n2 := HY2.out.thaw 2; have n3 := HY2.out.thaw 3; have n4 := HY2.out.thaw 4
      obtain ⟨z0, z1, z2, z3, z4⟩ := HY2.out.cells
      simp only [KM.zero] at z0 z1 z2 z3 z4
      clear hbx
      dsimp only
      refine hK.out _ _ ?_ (fun hHeld => ?_)
      · exact HS2.out
      clear hK K
      refine wpAnyH_ready (rs := [11]) (by kernel_rfl) (by simp) ?_
      refine AllReadyH.cons rfl (fun K hK => ?_) AllReadyH.nil
      go_simp
      refine hK.out _ _ ?_ (fun hHeld => ?_)
      · exact HS2.out
      clear hK K
      refine wpAnyH_ready (rs := [12]) (by kernel_rfl) (by simp) ?_
      refine AllReadyH.cons rfl (fun K hK => ?_) AllReadyH.nil
      go_simp
      refine hK.out _ _ ?_ (fun hHeld => ?_)
      · exact HS2.out
      clear hK K
      refine wpAnyH_ready (rs := [13]) (by kernel_rfl) (by simp) ?_
      refine AllReadyH.cons rfl (fun K hK => ?_) AllReadyH.nil
      go_simp
      refine hK.out _ _ ?_ (fun hHeld => ?_)
      · exact setSty_below HS2.out (Nat.le_refl _) ⟨sb, su, st, sf, sk⟩
      clear hK K
      refine wpAnyH_done (by kernel_rfl) ?_ _
      refine NoPanic.normal ?_
      go_wp2_with fail
      go_meet
      case rel => exact ⟨w1.heap.size, rfl, rfl, rfl, Nat.le_refl _, setSty_at HY2.out ⟨sb, su, st, sf, sk⟩, setSty_below HS2.out (Nat.le_refl _) ⟨sb, su, st, sf, sk⟩⟩
  case rest =>
    obtain ⟨q, rfl, rfl, rfl, hq1, hst, hbc⟩ := hcut
    rename World => w2
    have HB2 := Lib.hid (below_next HB1.out hbc)
    have HD2 := Lib.hid (HD1.out.below hbc)
    have HS2 := Lib.hid hst
    have z12 := hbc.size
    have z02 := HB2.out.size
    obtain ⟨x0, x1, x2, x3, x4, x5, x6, x7, x8, x9⟩ := HD2.out.cells
    simp only at x0 x1 x2 x3 x4 x5 x6 x7 x8 x9
    clear hst hbc hq1
    go_wp2_with fail
    refine (HKD.out w2).mono ?_
    rintro e w3 ⟨rfl, hb3⟩
    have HB3 := Lib.hid (below_next HB2.out hb3)
    have HD3 := Lib.hid (HD2.out.below hb3)
    have HS3 := Lib.hid (HS2.out.below hb3)
    have z23 := hb3.size
    clear x0 x1 x2 x3 x4 x5 x6 x7 x8 x9 hb3
    obtain ⟨x0, x1, x2, x3, x4, x5, x6, x7, x8, x9⟩ := HD3.out.cells
    simp only at x0 x1 x2 x3 x4 x5 x6 x7 x8 x9
    go_upto_region 7 with fail
    go_quiet (first | (go_at_call 18; exact Calls.quiet_of_same (HWA.out _)) | (go_at_call 18; exact Calls.quiet_of_same (HWB.out _)))
    clear x0 x1 x2 x3 x4 x5 x6 x7 x8 x9
    go_upto_region 8 with fail
    generalize hw4 : w3.drewN _ = w4
    have hb34 : Below w3.heap.size w3 w4 := by rw [← hw4]; exact below_drewN (Below.refl _ _) _
    have HB4 := Lib.hid (below_next HB3.out hb34)
    have HD4 := Lib.hid (HD3.out.below hb34)
    have HS4 := Lib.hid (HS3.out.below hb34)
    have z34 := hb34.size
    clear hw4 hb34
    obtain ⟨x0, x1, x2, x3, x4, x5, x6, x7, x8, x9⟩ := HD4.out.cells
    simp only at x0 x1 x2 x3 x4 x5 x6 x7 x8 x9
    go_wp2_with fail
    refine (HWC.out w4).mono ?_
    rintro e w5 ⟨rfl, hw5⟩
    rw [hw5]
    clear hw5 w5 x0 x1 x2 x3 x4 x5 x6 x7 x8 x9
    rw [HHG.out] at hTH hEH hTM hgh hh1 HG
    go_wp2_with fail
    go_loopw [9, 10, 57] (fun vo vn i wr => ∃ y : Nat, y ≤ gl ∧ i = .int .i64 (y : Int) ∧ Below w4.heap.size w4 wr ∧ NextAt wr w4.heap.size vn (fun k => vo.ownBlock = some k) ((List.range y).map (fun y => mline0 g ⟨sb, su, st, sf, sk⟩ (mfrom false T E M y))) ∧ linM.Own wr w4.heap.size vo (((MS.drop T).take M).take (y - T))) (fun _ _ i _ => gl - (RowKit.intOf i).toNat)
    case atStart => exact ⟨0, Nat.zero_le _, rfl, Below.refl _ _, NextAt.nil _ _ _, by simpa using El.Own.nil (E := linM) _ _⟩
    case round =>
      obtain ⟨y, hy, rfl, hbr, hnx, ho⟩ := hrel
      have HBR := Lib.hid hbr
      have HNX := Lib.hid hnx
      have HO1 := Lib.hid ho
      have zr := hbr.size
      clear hbr hnx ho
      by_cases hlt : y < gl
      · have gk : decide ((y : Int) < (gl : Int)) = true := by simp; omega
        have gn : decide (y < gl) = true := by simp; omega
        have HSUC := Lib.hid (map_range_succ (fun y => mline0 g ⟨sb, su, st, sf, sk⟩ (mfrom false T E M y)) y)
        obtain ⟨RW, hRW⟩ : ∃ RW, RW = (List.range y).map (fun y => mline0 g ⟨sb, su, st, sf, sk⟩ (mfrom false T E M y)) := ⟨_, rfl⟩
        rw [← hRW] at HSUC
        have HNX' : Hid (NextAt wr w4.heap.size u10 (fun k => u9.ownBlock = some k) RW) := Lib.hid (by rw [hRW]; exact HNX.out)
        have hRl : RW.length = y := by rw [hRW]; simp
        clear HNX hRW
        obtain ⟨F, hF⟩ : ∃ F, F = mfrom false T E M y := ⟨_, rfl⟩
        rw [← hF] at HSUC
        go_upto_region 13 with fail
        go_cut [68] from 58 to 123 (fun o wc => o = .bool (decide (T ≤ y ∧ y < E)) ∧ wc = wr)
        case first =>
          by_cases hx : T ≤ y
          · have d1 : decide ((T : Int) ≤ (y : Int)) = true := by simp; omega
            have d3 : decide (T ≤ y) = true := by simp; omega
            by_cases hy2 : y < E
            · have d2 : decide ((y : Int) < (E : Int)) = true := by simp; omega
              have d4 : decide (y < E) = true := by simp; omega
              go_wp2_with fail
              go_meet
              case rel => exact ⟨congrArg Value.bool (decide_eq_true (And.intro hx hy2)).symm, rfl⟩
            · have d2 : decide ((y : Int) < (E : Int)) = false := by simp; omega
              have d4 : decide (y < E) = false := by simp; omega
              go_wp2_with fail
              go_meet
              case rel => exact ⟨congrArg Value.bool (decide_eq_false (fun h => hy2 h.2)).symm, rfl⟩
          · have d1 : decide ((T : Int) ≤ (y : Int)) = false := by simp; omega
            have d3 : decide (T ≤ y) = false := by simp; omega
            go_wp2_with fail
            go_meet
            case rel => exact ⟨congrArg Value.bool (decide_eq_false (fun h => hx h.1)).symm, rfl⟩
        case rest =>
          obtain ⟨ho, hwc⟩ := hcut
          rw [ho, hwc]
          clear ho hwc wc
          obtain ⟨B, hB⟩ : ∃ B, B = decide (T ≤ y ∧ y < E) := ⟨_, rfl⟩
          rw [← hB]
          go_upto_if 68 with fail
          go_cut [16] from 58 to 123 (fun o wc => o = .int .i64 F ∧ wc = wr)
          case first =>
            by_cases hin : T ≤ y ∧ y < E
            · obtain rfl : B = true := by rw [hB]; exact decide_eq_true hin
              clear hB
              have hs : IntKind.i64.wrap ((y : Int) + (M : Int)) = ((y + M : Nat) : Int) := by rw [IntKind.wrap_i64]; omega
              have d1 : decide (((y + M : Nat) : Int) < (T : Int)) = false := by simp; omega
              have d1n : decide (y + M < T) = false := by simp; omega
              by_cases hyM : y + M < E
              · have d2 : decide ((E : Int) ≤ ((y + M : Nat) : Int)) = false := by simp; omega
                have d2n : decide (E ≤ y + M) = false := by simp; omega
                go_wp2_with fail
                go_meet
                case rel => exact ⟨by rw [hF, mfrom_up hin.1 hyM]; exact congrArg (Value.int .i64) (by omega), rfl⟩
              · have d2 : decide ((E : Int) ≤ ((y + M : Nat) : Int)) = true := by simp; omega
                have d2n : decide (E ≤ y + M) = true := by simp; omega
                go_wp2_with fail
                go_meet
                case rel => exact ⟨by rw [hF, mfrom_upb hin.1 hin.2 hyM], rfl⟩
            · obtain rfl : B = false := by rw [hB]; exact decide_eq_false hin
              clear hB
              go_wp2_with fail
              go_meet
              case rel => exact ⟨by rw [hF, mfrom_out _ hin], rfl⟩
          case rest =>
            obtain ⟨ho, hwc⟩ := hcut
            rw [ho, hwc]
            clear ho hwc wc hB B hF
            obtain ⟨wy, hwy⟩ : ∃ wy, wy = wr := ⟨_, rfl⟩
            have HROWF := Lib.hid (HROW.out F)
            go_wp2_with fail
            go_loopw [17, 86] (fun vl i ws => ∃ x : Nat, x ≤ W ∧ i = .int .i64 (x : Int) ∧ Below wy.heap.size wy ws ∧ celE.Own ws wy.heap.size vl ((List.range x).map (fun x : Nat => mread g.ls (x : Int) F ⟨sb, su, st, sf, sk⟩))) (fun _ i _ => W - (RowKit.intOf i).toNat)
            case atStart => exact ⟨0, Nat.zero_le _, rfl, by rw [hwy]; exact Below.refl _ _, El.Own.nil _ _⟩
            case round =>
              obtain ⟨x, hx, rfl, hbs, hol⟩ := hrel
              have hby : Below w4.heap.size w4 wy := by rw [hwy]; exact HBR.out
              have HBY := Lib.hid hby
              have HNY : Hid (NextAt wy w4.heap.size u10 (fun k => u9.ownBlock = some k) RW) := Lib.hid (by rw [hwy]; exact HNX'.out)
              have HOY : Hid (linM.Own wy w4.heap.size u9 (((MS.drop T).take M).take (y - T))) := Lib.hid (by rw [hwy]; exact HO1.out)
              clear hwy hby
              have HBS := Lib.hid hbs
              have HOL := Lib.hid hol
              have zs := hbs.size
              have zy := HBY.out.size
              have HB4s := Lib.hid (HBY.out.trans (hbs.mono HBY.out.size))
              clear hbs hol
              by_cases hlt2 : x < W
              · have g2 : decide ((x : Int) < (W : Int)) = true := by simp; omega
                have g2n : decide (x < W) = true := by simp; omega
                obtain ⟨s0, s1, s2, s3, s4⟩ := (HS4.out.below HB4s.out).cells
                simp only at s0 s1 s2 s3 s4
                have hrd := HREAD.out wr (HB4.out.trans (HB4s.out.mono HB4.out.size)) (x : Int) F ⟨sb, su, st, sf, sk⟩
                have HSX := Lib.hid (map_range_succ (fun x : Nat => mread g.ls (x : Int) F ⟨sb, su, st, sf, sk⟩) x)
                have hLl : ((List.range x).map (fun x : Nat => mread g.ls (x : Int) F ⟨sb, su, st, sf, sk⟩)).length ≤ 60 := by rw [List.length_map, List.length_range]; omega
                generalize (List.range x).map (fun x : Nat => mread g.ls (x : Int) F ⟨sb, su, st, sf, sk⟩) = L at *
                generalize mread g.ls (x : Int) F ⟨sb, su, st, sf, sk⟩ = mc at *
                obtain ⟨mr, ⟨m0, m1, m2, m3, m4⟩⟩ := mc
                simp only [celV] at hrd
                have HRD := Lib.hid hrd
                clear hrd
                go_wp2_with fail
                refine HRD.out.mono ?_
                rintro e v6 ⟨rfl, hb6⟩
                have HB6 := Lib.hid (HBS.out.trans (hb6.mono zs))
                have HO6 := Lib.hid (HOL.out.below hb6)
                have z6 := hb6.size
                clear hb6 s0 s1 s2 s3 s4
                go_wp2_with (at_builtin; refine celE.wp_append1 rfl (.tmp 89) (.tmp 95) rfl wy.heap.size _ L rfl HO6.out ⟨mr, ⟨m0, m1, m2, m3, m4⟩⟩ #[.int .i32 mr, .bool m0, .bool m1, .bool m2, .int .i64 m3, .int .i64 m4] 37 rfl rfl ?c1 ?c2 (by omega) ?_)
                case c1 => simp only [celE]; omega
                case c2 => unfold maxLen; omega
                intro vq y7 hoq hgq
                have HO7 := Lib.hid hoq
                have HB7 := Lib.hid (HB6.out.trans (HO6.out.grow_below hgq (by omega)))
                clear hoq hgq
                go_wp2_with fail
                go_roundw
                case rel => exact ⟨x + 1, by omega, by simp, HB7.out, by rw [HSX.out]; exact HO7.out⟩
                case measure => simp [RowKit.intOf]; omega
              · have g2 : decide ((x : Int) < (W : Int)) = false := by simp; omega
                have g2n : decide (x < W) = false := by simp; omega
                obtain rfl : x = W := by omega
                have hol := HOL.out
                have hrow : (List.range x).map (fun x : Nat => mread g.ls (x : Int) F ⟨sb, su, st, sf, sk⟩) = mline0 g ⟨sb, su, st, sf, sk⟩ F := by
                  have := HROWF.out
                  rw [← HWW.out] at this
                  exact this
                rw [hrow] at hol
                obtain ⟨Al, cl, hvl, -, -, hAl, hrl⟩ := hol.row
                have HLO : Hid (SlOk wr (fun k => w4.heap.size ≤ k ∧ u10.ownBlock ≠ some k ∧ ¬ u9.ownBlock = some k) ⟨Al, (mline0 g ⟨sb, su, st, sf, sk⟩ F).length, cl⟩ (mline0 g ⟨sb, su, st, sf, sk⟩ F)) := Lib.hid ⟨rfl, hrl, fun hp a ha => by
                  obtain ⟨gg, cc', hv', hge, -, -, -, -, -⟩ := hol.place hp
                  rw [hvl] at hv'
                  simp only [Value.slice.injEq] at hv'
                  have ha : Al = some a := ha
                  have hab : a.block = gg := by
                    have := hv'.1
                    rw [ha] at this
                    simp only [Option.some.injEq] at this
                    rw [this]
                  rw [hab]
                  refine ⟨by omega, fun e => ?_, fun e => ?_⟩
                  · have := (HNY.out.lt _ e).2; omega
                  · have := (HOY.out.lt _ e).2; omega, hAl⟩
                subst hvl
                have HNS := Lib.hid (HNY.out.below HBS.out)
                have HOS := Lib.hid (HOY.out.below HBS.out)
                clear hol hrl hrow HOL
                obtain ⟨SL, hSL1, hSL2, hSL3⟩ := HNS.out
                have HSL1 := Lib.hid hSL1
                have HSL := Lib.hid (And.intro hSL1 (And.intro hSL2 hSL3))
                have hSLl : SL.length = y := by rw [hSL2.len, hRl]
                clear hSL1 hSL2 hSL3
                generalize hRF : mline0 g ⟨sb, su, st, sf, sk⟩ F = RF at *
                generalize hRFl : RF.length = rl at *
                go_wp2_with (at_builtin; refine linM.wp_append1 rfl (.tmp 98) (.tmp 100) rfl w4.heap.size _ SL rfl HSL1.out ⟨Al, rl, cl⟩ #[.slice Al rl cl] 23 rfl rfl ?c1 ?c2 (by omega) ?_)
                case c1 => simp only [linM]; omega
                case c2 => unfold maxLen; omega
                intro vn w7 hon hgn
                have z7 := hgn.grown.size
                have hnx7 := NextAt.snoc HSL.out HLO.out hon hgn (fun k hk => fun e => by have := (HOS.out.lt _ e).2; omega)
                have HO7 := Lib.hid (HOS.out.grown hgn.grown (fun k e => fun e2 => by exact HSL.out.2.2 k e2 e))
                have HB7 := Lib.hid (HB4s.out.trans (HSL1.out.grow_below hgn (by omega)))
                rw [← HSUC.out] at hnx7
                have HN7 := Lib.hid hnx7
                clear hnx7 hon hgn HSL HSL1 HLO
                have hs9 : IntKind.i64.wrap ((T : Int) + (M : Int)) = ((T + M : Nat) : Int) := by rw [IntKind.wrap_i64]; omega
                by_cases hT1 : T ≤ y
                · have e1 : decide ((T : Int) ≤ (y : Int)) = true := by simp; omega
                  have e1n : decide (T ≤ y) = true := by simp; omega
                  by_cases hT2 : y < T + M
                  · have e2 : decide ((y : Int) < ((T + M : Nat) : Int)) = true := by simp; omega
                    have e2n : decide (y < T + M) = true := by simp; omega
                    have hyM : y < MS.length := by rw [HMS.out.len, HGL.out]; exact hlt
                    have HB07 := Lib.hid (HB4.out.trans (HB7.out.mono HB4.out.size))
                    obtain ⟨bm, om, em, _, hcm⟩ := (HMR.out.below HB07.out).at_ hyM
                    have hcm0 := hcm 0 (by decide)
                    simp only [Option.some.injEq, Addr.mk.injEq, and_true] at em
                    obtain ⟨rfl, rfl⟩ := em
                    simp only [linM, Nat.mul_one, Nat.add_zero, List.getElem?_cons_zero] at hcm0
                    have hOH : ((MS.drop T).take M).take (y + 1 - T) = ((MS.drop T).take M).take (y - T) ++ [MS[y]] := by
                      have hl : y - T < ((MS.drop T).take M).length := by rw [List.length_take, List.length_drop]; omega
                      rw [show y + 1 - T = (y - T) + 1 by omega, List.take_succ_eq_append_getElem hl]
                      congr 2
                      rw [List.getElem_take, List.getElem_drop]
                      congr 1
                      omega
                    have HOH := Lib.hid hOH
                    have hOl : (((MS.drop T).take M).take (y - T)).length ≤ 60 := by rw [List.length_take, List.length_take]; omega
                    have hyI : (y : Int) < (gl : Int) := by omega
                    generalize ((MS.drop T).take M).take (y - T) = OL at *
                    obtain ⟨sx, hsx⟩ : ∃ sx, sx = MS[y] := ⟨_, rfl⟩
                    rw [← hsx] at hcm0 HOH
                    clear hsx hcm hOH
                    obtain ⟨xa, xn, xc⟩ := sx
                    simp only [Sl.v] at hcm0
                    go_wp2_with (at_builtin; refine linM.wp_append1 rfl (.tmp 116) (.tmp 121) rfl w4.heap.size _ OL rfl HO7.out ⟨xa, xn, xc⟩ #[.slice xa xn xc] 23 rfl rfl ?c1 ?c2 (by omega) ?_)
                    case c1 => simp only [linM]; omega
                    case c2 => unfold maxLen; omega
                    intro vo8 w8 hoo hgo
                    have z8 := hgo.grown.size
                    have hB8 := HB7.out.trans (HO7.out.grow_below hgo (by omega))
                    have hn8 := ((HN7.out.mono (X' := fun k => vo8.ownBlock = some k ∨ u9.ownBlock = some k) (fun k hk e => by
                      rcases e with e | e
                      · rcases hgo.place with e2 | e2
                        · rw [e2] at e; exact e
                        · have := e2 k e; omega
                      · exact e)).keep (fun k hk hx => hgo.grown.block k hk (fun e => hx (Or.inr e.symm))) hgo.grown.size).mono (X' := fun k => vo8.ownBlock = some k) (fun k _ e => Or.inl e)
                    have HB8 := Lib.hid hB8
                    have HN8 := Lib.hid hn8
                    have HO8 := Lib.hid (show linM.Own w8 w4.heap.size vo8 (((MS.drop T).take M).take (y + 1 - T)) by rw [HOH.out]; exact hoo)
                    clear hB8 hn8 hoo hgo hcm0
                    go_wp2_with fail
                    go_roundw
                    case rel => exact ⟨y + 1, by omega, by simp, HB8.out, HN8.out, HO8.out⟩
                    case measure => simp [RowKit.intOf]; omega
                  · have e2 : decide ((y : Int) < ((T + M : Nat) : Int)) = false := by simp; omega
                    have e2n : decide (y < T + M) = false := by simp; omega
                    have hOH : ((MS.drop T).take M).take (y + 1 - T) = ((MS.drop T).take M).take (y - T) := by
                      have hl : ((MS.drop T).take M).length ≤ M := by rw [List.length_take]; omega
                      generalize (MS.drop T).take M = Z at hl ⊢
                      rw [List.take_of_length_le (l := Z) (i := y + 1 - T) (by omega), List.take_of_length_le (l := Z) (i := y - T) (by omega)]
                    have HOH := Lib.hid hOH
                    clear hOH
                    go_wp2_with fail
                    go_roundw
                    case rel => exact ⟨y + 1, by omega, by simp, HB7.out, HN7.out, by rw [HOH.out]; exact HO7.out⟩
                    case measure => simp [RowKit.intOf]; omega
                · have e1 : decide ((T : Int) ≤ (y : Int)) = false := by simp; omega
                  have e1n : decide (T ≤ y) = false := by simp; omega
                  have hOH : ((MS.drop T).take M).take (y + 1 - T) = ((MS.drop T).take M).take (y - T) := by rw [show y + 1 - T = 0 by omega, show y - T = 0 by omega]
                  have HOH := Lib.hid hOH
                  clear hOH
                  go_wp2_with fail
                  go_roundw
                  case rel => exact ⟨y + 1, by omega, by simp, HB7.out, HN7.out, by rw [HOH.out]; exact HO7.out⟩
                  case measure => simp [RowKit.intOf]; omega
      · have gk : decide ((y : Int) < (gl : Int)) = false := by simp; omega
        have gn : decide (y < gl) = false := by simp; omega
        obtain rfl : y = gl := by omega
        have hnx := HNX.out
        rw [← HG.out] at hnx
        obtain ⟨An, cn, hvn, hcn, hln⟩ := hnx.lines
        have HB9 := Lib.hid (HB4.out.trans (HBR.out.mono HB4.out.size))
        have z04 := HB4.out.size
        obtain ⟨Ao, co, hvo, -, -, -, hro⟩ := HO1.out.row
        have hoh : ((MS.drop T).take M).take (y - T) = (MS.drop T).take M := by rw [List.take_of_length_le (by rw [List.length_take]; omega)]
        rw [hoh] at hro hvo
        have hou : LinesAt wr (fun k => N k ∨ w.heap.size ≤ k) Ao O := by
          rw [HO.out]
          refine LinesAt.of_heads (SL := (MS.drop T).take M) ?_ hro (fun hp a ha => ?_)
          · exact (((HMS.out.below HB9.out).mono (fun k _ hn => Or.inl hn)).drop T).take M
          · refine Or.inr ?_
            subst ha
            have := HO1.out.lt a.block (by rw [hvo]; rfl)
            omega
        have hOl : O.length = ((MS.drop T).take M : List Sl).length := by rw [HO.out]; simp only [List.length_take, List.length_drop, HMS.out.len]
        have HLN := Lib.hid (hln.mono (N' := fun k => N k ∨ w.heap.size ≤ k) (fun k _ hn => Or.inr (by omega)))
        have HOU := Lib.hid hou
        rw [← hOl] at hvo
        subst hvn hvo
        have HCN := Lib.hid hcn
        clear hnx hln hou hro hcn hoh
        generalize hGl : G.ls.length = Gl at *
        generalize hOl' : O.length = Ol at *
        go_wp2_with fail
        go_ret2
        refine ⟨An, cn, Ao, co, by rw [hGl, hOl']; rfl, by rw [hGl]; exact HCN.out, HLN.out, HOU.out, HB9.out⟩
end Go.Proofs.YtbpkklcegiiheaaDoor
