/-
  Layer 9's laws: the model's line, one kind of deed at a time.
-/
import Derived.Test.YtbpkklcegiiheaaDoorDModM
import Derived.Test.YtbpkklcegiiheaaDoorDDo
import Derived.Test.YtbpkklcegiiheaaDoorKRMend
import Derived.Test.YtbpkklcegiiheaaDoorKRef
import Derived.Deep.CutRange
import Derived.Deep.CutBlock
namespace Go.Proofs.YtbpkklcegiiheaaDoor
open Go.RowKit Go.Lib KM


set_option maxRecDepth 100000 in
set_option maxHeartbeats 4000000 in
theorem line_ok0 (w : World) {N : Nat → Prop} {A : Option Addr} {g : Gr} (hok : g.Ok) (h : LinesAt w N A g.ls) (c : Nat) (d : De) {Y n : Nat} (hY : Y < g.h) (hn : min (max d.c 0) (g.w : Int) = (n : Int)) (ha : 0 ≤ d.a) (hk : d.k = 0) :
    Calls Tryd.prog 37 #[.slice A g.ls.length c, deV d, .int .i64 (Y : Int)] w (CelsPost w (mend (mline d (g.line Y) n))) := by
  obtain ⟨w1, hw1⟩ : ∃ w1, w1 = w.alloc (.cells #[.int .i64 d.kind, .int .i64 d.a, .int .i64 d.b, .int .i64 d.c, .int .i32 d.cel.rune, .bool d.cel.sty.bold, .bool d.cel.sty.under, .bool d.cel.sty.turned, .int .i64 d.cel.sty.fore, .int .i64 d.cel.sty.back] 39) := ⟨_, rfl⟩
  have hb1 : Below w.heap.size w w1 := by rw [hw1]; exact (Below.refl _ _).alloc (Nat.le_refl _) _
  have hd1 : DeIn w1 w.heap.size d := by rw [hw1]; exact DeIn.fresh w d
  have HD1 := Lib.hid hd1
  have HB1 := Lib.hid hb1
  have W1 := Lib.hid hw1
  have hlen := hok.len
  have hgh := hok.h2
  have hgw := hok.w2
  have hgw1 := hok.w1
  have hh1 := hok.h1
  have hlo := hok.line hY
  have hl0 := hok.line (y := 0) (by omega)
  have hln0 : g.ls[0]'(by omega) = g.line 0 := by
    have := line_get hok (y := 0) (by omega)
    rw [List.getElem?_eq_getElem (by omega)] at this
    exact Option.some.inj this
  have hlnY : g.ls[Y]'(by omega) = g.line Y := by
    have := line_get hok hY
    rw [List.getElem?_eq_getElem (by omega)] at this
    exact Option.some.inj this
  have HREAD := Lib.hid (fun (v : World) (hv : Below w.heap.size w v) (x y : Int) => read_ok v (h.below hv) c x y (stame d.cel.sty))
  obtain ⟨b, off, A0, c0, hA, hbl, dh0, -, -⟩ := h.at_ (j := 0) (by omega)
  obtain ⟨b', off', AY, cY, hA', -, dhY, rY, -⟩ := h.at_ (j := Y) (by omega)
  rw [hA] at hA'
  simp only [Option.some.injEq, Addr.mk.injEq, and_true] at hA'
  obtain ⟨rfl, rfl⟩ := hA'
  rw [hln0, hl0.len] at dh0
  rw [hlnY, hlo.len] at dhY
  rw [hlnY] at rY
  have hMRD : ∀ x : Nat, mread g.ls (x : Int) (Y : Int) (stame d.cel.sty) = if x < g.w then (g.line Y).getD x ⟨0, zero⟩ else KM.blankS (stame d.cel.sty) := fun x => by
    by_cases hx : x < g.w
    · rw [if_pos hx]; exact mread_in hok hx hY _
    · rw [if_neg hx]; exact mread_out hok (by omega) _
  have HMRD := Lib.hid hMRD
  have HMRN := Lib.hid (show mread g.ls (-1) 0 (stame d.cel.sty) = KM.blankS (stame d.cel.sty) from mread_left _ _ _)
  subst hA
  have HTM := Lib.hid (fun v => ltame_ok v d.cel.sty)
  have HKD : Hid (∀ v, Calls Tryd.prog 35 #[deV d] v fun e w' => e = .returned (.int .i64 0) ∧ Below v.heap.size v w') := Lib.hid (fun v => by
    have := kind_ok v d
    rw [hk] at this
    exact this)
  have HLEN := Lib.hid hlo.len
  obtain ⟨F, hF⟩ : ∃ F, F = mcell d (g.line Y) n := ⟨_, rfl⟩
  have HF := Lib.hid (fun k : Nat => show F k = mcell d (g.line Y) n k by rw [hF])
  obtain ⟨M, hM⟩ : ∃ M, M = mline d (g.line Y) n := ⟨_, rfl⟩
  have HML : Hid (M = (List.range g.w).map F) := Lib.hid (by rw [hM, hF]; unfold mline; rw [hlo.len])
  rw [← hM]
  have hnw : n ≤ g.w := by omega
  have HDH := Lib.hid (fun (v : World) (hv : Below w.heap.size w v) => show v.cell? ⟨b, off, none⟩ = some (.slice A0 g.w c0) ∧ v.cell? ⟨b, off + Y, none⟩ = some (.slice AY g.w cY) from ⟨(hv.cell (p := ⟨b, off, none⟩) hbl).trans dh0, (hv.cell (p := ⟨b, off + Y, none⟩) hbl).trans dhY⟩)
  have HRY := Lib.hid rY
  have HW : Hid (∀ v, Calls Tryd.prog 18 #[.int .i64 d.c, .int .i64 0, .int .i64 (g.w : Int)] v fun e w' => e = .returned (.int .i64 (n : Int)) ∧ w' = v) := Lib.hid (fun v => by have := within_ok v d.c 0 g.w; rwa [hn] at this)
  have hlY : Y < g.ls.length := by omega
  have hYI : (Y : Int) < (g.ls.length : Int) := by omega
  have h0I : 0 < g.ls.length := by omega
  have HK := Lib.hid hk
  clear hw1 hb1 hd1 hlen hh1 hlo hl0 hln0 hlnY dh0 dhY rY hMRD hn h hk hM hF
  have HOK := Lib.hid hok
  clear hok
  obtain ⟨kd, a, bb, cc, ⟨r, ⟨bo, u, t, f, ba⟩⟩⟩ := d
  simp only [deV, styV] at *
  generalize hst : stame ⟨bo, u, t, f, ba⟩ = s' at *
  obtain ⟨sb, su, st, sf, sk⟩ := s'
  have HST := Lib.hid hst
  clear hst
  simp only at *
  generalize g.ls.length = gl at *
  generalize hgln : g.line Y = l at *
  have HGLN := Lib.hid hgln
  clear hgln
  generalize hWW : g.w = W at *
  clear hWW HOK hgh
  generalize hGG : g.ls = LL at *
  clear hGG
  go_enter Tryd.func37, Tryd.ntmps37
  go_upto_region 1 with fail
  rw [← W1.out]
  go_cut [7, 8] from 14 (fun o7 o8 wc => ∃ q, o7 = .int .i64 (W : Int) ∧ o8 = .pointer (some ⟨q, 0, none⟩) ∧ w1.heap.size ≤ q ∧ StyIn wc q ⟨sb, su, st, sf, sk⟩ ∧ Below w1.heap.size w1 wc)
  case first =>
    refine wp_region_noPanic ?_
    refine wp_region_held_drew (S := fun v => Below w1.heap.size w1 v) (by kernel_rfl) (Below.refl _ _).drew (fun hHeld => ?_)
    have HSd := Lib.hid hHeld
    refine wpAnyH_take (i := 0) (v := ?vr0) rfl (by kernel_rfl) (by kernel_rfl) (by kernel_rfl) (fun _ _ _ h => h) (Or.inl ⟨by rfl, ?hr0⟩) (by assumption) ?_
    case hr0 => intro w hSw; (try dsimp only at hSw); obtain ⟨x0, x1, x2, x3, x4, x5, x6, x7, x8, x9⟩ := (HD1.out.below hSw).cells; simp only at x0 x1 x2 x3 x4 x5 x6 x7 x8 x9; obtain ⟨y0, y1⟩ := HDH.out _ (below_next HB1.out hSw); go_simp; try with_reducible rfl
    simp only [List.getElem_toArray, List.getElem_cons_zero, Act.put, List.setIfInBounds_toArray, List.set_cons_zero, List.set_cons_succ]
    refine wpAnyH_take (i := 1) (v := ?vr1) rfl (by kernel_rfl) (by kernel_rfl) (by kernel_rfl) (fun _ _ _ h => h) (Or.inl ⟨by rfl, ?hr1⟩) (by assumption) ?_
    case hr1 => intro w hSw; (try dsimp only at hSw); obtain ⟨x0, x1, x2, x3, x4, x5, x6, x7, x8, x9⟩ := (HD1.out.below hSw).cells; simp only at x0 x1 x2 x3 x4 x5 x6 x7 x8 x9; obtain ⟨y0, y1⟩ := HDH.out _ (below_next HB1.out hSw); go_simp; try with_reducible rfl
    simp only [List.getElem_toArray, List.getElem_cons_succ, List.getElem_cons_zero, Act.put, List.setIfInBounds_toArray, List.set_cons_zero, List.set_cons_succ]
    refine wpAnyH_take (i := 2) (v := ?vr2) rfl (by kernel_rfl) (by kernel_rfl) (by kernel_rfl) (fun _ _ _ h => h) (Or.inl ⟨by rfl, ?hr2⟩) (by assumption) ?_
    case hr2 => intro w hSw; (try dsimp only at hSw); obtain ⟨x0, x1, x2, x3, x4, x5, x6, x7, x8, x9⟩ := (HD1.out.below hSw).cells; simp only at x0 x1 x2 x3 x4 x5 x6 x7 x8 x9; obtain ⟨y0, y1⟩ := HDH.out _ (below_next HB1.out hSw); go_simp; try with_reducible rfl
    simp only [List.getElem_toArray, List.getElem_cons_succ, List.getElem_cons_zero, Act.put, List.setIfInBounds_toArray, List.set_cons_zero, List.set_cons_succ]
    refine wpAnyH_take (i := 3) (v := ?vr3) rfl (by kernel_rfl) (by kernel_rfl) (by kernel_rfl) (fun _ _ _ h => h) (Or.inl ⟨by rfl, ?hr3⟩) (by assumption) ?_
    case hr3 => intro w hSw; (try dsimp only at hSw); obtain ⟨x0, x1, x2, x3, x4, x5, x6, x7, x8, x9⟩ := (HD1.out.below hSw).cells; simp only at x0 x1 x2 x3 x4 x5 x6 x7 x8 x9; obtain ⟨y0, y1⟩ := HDH.out _ (below_next HB1.out hSw); go_simp; try with_reducible rfl
    simp only [List.getElem_toArray, List.getElem_cons_succ, List.getElem_cons_zero, Act.put, List.setIfInBounds_toArray, List.set_cons_zero, List.set_cons_succ]
    refine wpAnyH_take (i := 4) (v := ?vr4) rfl (by kernel_rfl) (by kernel_rfl) (by kernel_rfl) (fun _ _ _ h => h) (Or.inl ⟨by rfl, ?hr4⟩) (by assumption) ?_
    case hr4 => intro w hSw; (try dsimp only at hSw); obtain ⟨x0, x1, x2, x3, x4, x5, x6, x7, x8, x9⟩ := (HD1.out.below hSw).cells; simp only at x0 x1 x2 x3 x4 x5 x6 x7 x8 x9; obtain ⟨y0, y1⟩ := HDH.out _ (below_next HB1.out hSw); go_simp; try with_reducible rfl
    simp only [List.getElem_toArray, List.getElem_cons_succ, List.getElem_cons_zero, Act.put, List.setIfInBounds_toArray, List.set_cons_zero, List.set_cons_succ]
    refine wpAnyH_take (i := 5) (v := ?vr5) rfl (by kernel_rfl) (by kernel_rfl) (by kernel_rfl) (fun _ _ _ h => h) (Or.inl ⟨by rfl, ?hr5⟩) (by assumption) ?_
    case hr5 => intro w hSw; (try dsimp only at hSw); obtain ⟨x0, x1, x2, x3, x4, x5, x6, x7, x8, x9⟩ := (HD1.out.below hSw).cells; simp only at x0 x1 x2 x3 x4 x5 x6 x7 x8 x9; obtain ⟨y0, y1⟩ := HDH.out _ (below_next HB1.out hSw); go_simp; try with_reducible rfl
    simp only [List.getElem_toArray, List.getElem_cons_succ, List.getElem_cons_zero, Act.put, List.setIfInBounds_toArray, List.set_cons_zero, List.set_cons_succ]
    refine wpAnyH_take (i := 6) (v := ?vr6) rfl (by kernel_rfl) (by kernel_rfl) (by kernel_rfl) (fun _ _ _ h => h) (Or.inl ⟨by rfl, ?hr6⟩) (by assumption) ?_
    case hr6 => intro w hSw; (try dsimp only at hSw); obtain ⟨x0, x1, x2, x3, x4, x5, x6, x7, x8, x9⟩ := (HD1.out.below hSw).cells; simp only at x0 x1 x2 x3 x4 x5 x6 x7 x8 x9; obtain ⟨y0, y1⟩ := HDH.out _ (below_next HB1.out hSw); go_simp; try with_reducible rfl
    simp only [List.getElem_toArray, List.getElem_cons_succ, List.getElem_cons_zero, Act.put, List.setIfInBounds_toArray, List.set_cons_zero, List.set_cons_succ]
    refine wpAnyH_ready (rs := [7, 8]) (by kernel_rfl) (by simp) ?_
    refine AllReadyH.cons rfl (fun K hK => ?_) (AllReadyH.cons rfl (fun K hK => ?_) AllReadyH.nil)
    · go_simp
      refine (HTM.out w1.drew).mono ?_
      rintro e v1 ⟨rfl, hbx⟩
      have HS1 := Lib.hid (below_next HSd.out hbx)
      have hz1 := HS1.out.size
      clear hbx
      dsimp only
      refine hK.out _ _ ?_ (fun hHeld => ?_)
      · exact HS1.out
      clear hK K
      refine wpAnyH_ready (rs := [8]) (by kernel_rfl) (by simp) ?_
      refine AllReadyH.cons rfl (fun K hK => ?_) AllReadyH.nil
      go_simp
      try dsimp only
      have hy := heap_alloc_new v1 (.cells #[.bool false, .bool false, .bool false, .int .i64 0, .int .i64 0] 35)
      have HS2 := Lib.hid (HS1.out.alloc (HS1.out.size) (.cells #[.bool false, .bool false, .bool false, .int .i64 0, .int .i64 0] 35))
      refine hK.out _ _ ?_ (fun hHeld => ?_)
      · exact HS2.out
      clear hK K
      generalize v1.alloc (.cells #[.bool false, .bool false, .bool false, .int .i64 0, .int .i64 0] 35) = v2 at *
      have HY := Lib.hid (show StyIn v2 v1.heap.size KM.zero from hy)
      have n0 := HY.out.thaw 0; have n1 := HY.out.thaw 1; have n2 := HY.out.thaw 2; have n3 := HY.out.thaw 3; have n4 := HY.out.thaw 4
      obtain ⟨z0, z1, z2, z3, z4⟩ := HY.out.cells
      simp only [KM.zero] at z0 z1 z2 z3 z4
      clear hy
      refine wpAnyH_ready (rs := [9]) (by kernel_rfl) (by simp) ?_
      refine AllReadyH.cons rfl (fun K hK => ?_) AllReadyH.nil
      go_simp
      refine hK.out _ _ ?_ (fun hHeld => ?_)
      · exact HS2.out
      clear hK K
      refine wpAnyH_ready (rs := [10]) (by kernel_rfl) (by simp) ?_
      refine AllReadyH.cons rfl (fun K hK => ?_) AllReadyH.nil
      go_simp
      refine hK.out _ _ ?_ (fun hHeld => ?_)
      · exact setSty_below HS2.out hz1 ⟨sb, su, st, sf, sk⟩
      clear hK K
      refine wpAnyH_done (by kernel_rfl) ?_ _
      refine NoPanic.normal ?_
      go_wp2_with fail
      go_meet
      case rel => exact ⟨v1.heap.size, rfl, rfl, hz1, setSty_at HY.out ⟨sb, su, st, sf, sk⟩, setSty_below HS2.out hz1 ⟨sb, su, st, sf, sk⟩⟩
    · go_simp
      try dsimp only
      obtain ⟨v1, hv1⟩ : ∃ v1, v1 = (w1.alloc (.cells #[.bool false, .bool false, .bool false, .int .i64 0, .int .i64 0] 35)).drew := ⟨_, rfl⟩
      rw [← hv1]
      have HS1 := Lib.hid (show Below w1.heap.size w1 v1 by rw [hv1]; exact ((Below.refl _ _).alloc (Nat.le_refl _) _).drew)
      have hy : StyIn v1 w1.heap.size KM.zero := by rw [hv1]; exact heap_alloc_new w1 _
      clear hv1
      refine hK.out _ _ ?_ (fun hHeld => ?_)
      · exact HS1.out
      clear hK K
      have HY := Lib.hid hy
      have hz1 := HS1.out.size
      clear hy
      refine wpAnyH_ready (rs := [7]) (by kernel_rfl) (by simp) ?_
      refine AllReadyH.cons rfl (fun K hK => ?_) AllReadyH.nil
      go_simp
      refine (HTM.out v1).mono ?_
      rintro e v2 ⟨rfl, hbx⟩
      have HS2 := Lib.hid (below_next HS1.out hbx)
      have HY2 := Lib.hid (HY.out.below hbx)
      have n0 := HY2.out.thaw 0; have n1 := HY2.out.thaw 1; have n2 := HY2.out.thaw 2; have n3 := HY2.out.thaw 3; have n4 := HY2.out.thaw 4
      obtain ⟨z0, z1, z2, z3, z4⟩ := HY2.out.cells
      simp only [KM.zero] at z0 z1 z2 z3 z4
      clear hbx
      dsimp only
      refine hK.out _ _ ?_ (fun hHeld => ?_)
      · exact HS2.out
      clear hK K
      refine wpAnyH_ready (rs := [9]) (by kernel_rfl) (by simp) ?_
      refine AllReadyH.cons rfl (fun K hK => ?_) AllReadyH.nil
      go_simp
      refine hK.out _ _ ?_ (fun hHeld => ?_)
      · exact HS2.out
      clear hK K
      refine wpAnyH_ready (rs := [10]) (by kernel_rfl) (by simp) ?_
      refine AllReadyH.cons rfl (fun K hK => ?_) AllReadyH.nil
      go_simp
      refine hK.out _ _ ?_ (fun hHeld => ?_)
      · exact setSty_below HS2.out (Nat.le_refl _) ⟨sb, su, st, sf, sk⟩
      clear hK K
      refine wpAnyH_done (by kernel_rfl) ?_ _
      refine NoPanic.normal ?_
      go_wp2_with fail
      go_meet
      case rel => exact ⟨w1.heap.size, rfl, rfl, Nat.le_refl _, setSty_at HY2.out ⟨sb, su, st, sf, sk⟩, setSty_below HS2.out (Nat.le_refl _) ⟨sb, su, st, sf, sk⟩⟩
  case rest =>
    obtain ⟨q, rfl, rfl, hq1, hst, hbc⟩ := hcut
    rename World => w2
    have HB2 := Lib.hid (below_next HB1.out hbc)
    have HD2 := Lib.hid (HD1.out.below hbc)
    have HS2 := Lib.hid hst
    have z12 := hbc.size
    obtain ⟨x0, x1, x2, x3, x4, x5, x6, x7, x8, x9⟩ := HD2.out.cells
    simp only at x0 x1 x2 x3 x4 x5 x6 x7 x8 x9
    clear hst hbc hq1
    go_wp2_with fail
    refine (HW.out w2).mono ?_
    rintro e w3 ⟨rfl, hw3⟩
    rw [hw3]
    clear hw3 w3 x0 x1 x2 x3 x4 x5 x6 x7 x8 x9
    go_wp2_with fail
    go_loopw [10, 27] (fun v i wr => ∃ k : Nat, k ≤ W ∧ i = .int .i64 (k : Int) ∧ Below w2.heap.size w2 wr ∧ celE.Own wr w2.heap.size v ((List.range k).map F)) (fun _ i _ => W - (RowKit.intOf i).toNat)
    case atStart => exact ⟨0, Nat.zero_le _, rfl, Below.refl _ _, El.Own.nil _ _⟩
    case round =>
      obtain ⟨k, hk, rfl, hbr, ho⟩ := hrel
      have HBR := Lib.hid hbr
      have HO := Lib.hid ho
      have zr := hbr.size
      clear hbr ho
      by_cases hlt : k < W
      · have gk : decide ((k : Int) < (W : Int)) = true := by simp; omega
        have gn : decide (k < W) = true := by simp; omega
        have hkl : k < l.length := by rw [HLEN.out]; exact hlt
        have HB2r := Lib.hid (HB2.out.trans (HBR.out.mono HB2.out.size))
        obtain ⟨y0, y1⟩ := HDH.out wr HB2r.out
        obtain ⟨bY, oY, e', hbY, c0', c1, c2, c3, c4, c5⟩ := cel_at (HRY.out.below HB2r.out) hkl
        subst e'
        have HSU := Lib.hid (map_range_succ F k)
        have hmx : ((List.range k).map F).length ≤ 60 := by rw [List.length_map, List.length_range]; omega
        generalize (List.range k).map F = L at *
        have hkI : (k : Int) < (W : Int) := by omega
        have hgd : l[k]?.getD ⟨0, zero⟩ = l[k] := by simp [hkl]
        have HGD := Lib.hid hgd
        clear hgd
        have HLK := Lib.hid (fun (j : Nat) (hj : j < W) => (cel_at (HRY.out.below HB2r.out) (show j < l.length by rw [HLEN.out]; exact hj)))
        obtain ⟨wA, hwA⟩ : ∃ wA, wA = wr.alloc (.cells #[.int .i32 (l[k]).rune, .bool (l[k]).sty.bold, .bool (l[k]).sty.under, .bool (l[k]).sty.turned, .int .i64 (l[k]).sty.fore, .int .i64 (l[k]).sty.back] 37) := ⟨_, rfl⟩
        have hbA : Below wr.heap.size wr wA := by rw [hwA]; exact (Below.refl _ _).alloc (Nat.le_refl _) _
        have HCA := Lib.hid (show CelAt wA wr.heap.size l[k] by rw [hwA]; exact CelAt.fresh wr l[k])
        have HBA := Lib.hid hbA
        have WA := Lib.hid hwA
        clear hwA hbA
        have hlk : ∃ cur, cur = l[k] := ⟨_, rfl⟩
        obtain ⟨cur, hcur⟩ := hlk
        have HCUR := Lib.hid hcur
        rw [← hcur] at c0' c1 c2 c3 c4 c5 HCA WA HGD
        clear hcur
        obtain ⟨cr, ⟨cbo, cu, ct, cf, cba⟩⟩ := cur
        simp only at c0' c1 c2 c3 c4 c5 WA
        go_upto_region 8 with fail
        rw [← WA.out]
        clear y0 y1 c0' c1 c2 c3 c4 c5
        obtain ⟨x0, x1, x2, x3, x4, x5, x6, x7, x8, x9⟩ := (HD2.out.below (HBR.out.trans (HBA.out.mono zr))).cells
        simp only at x0 x1 x2 x3 x4 x5 x6 x7 x8 x9
        go_wp2_with fail
        refine (HKD.out wA).mono ?_
        rintro e w5 ⟨rfl, hb5⟩
        have HB5 := Lib.hid (below_next HBA.out hb5)
        have HC5 := Lib.hid (HCA.out.below hb5 HCA.out.lt)
        have HB25 := Lib.hid (HB2r.out.trans (HB5.out.mono HB2r.out.size))
        have HD5 := Lib.hid (HD2.out.below (HBR.out.trans (HB5.out.mono zr)))
        have HS5 := Lib.hid (HS2.out.below (HBR.out.trans (HB5.out.mono zr)))
        clear hb5 x0 x1 x2 x3 x4 x5 x6 x7 x8 x9
        obtain ⟨x0, x1, x2, x3, x4, x5, x6, x7, x8, x9⟩ := HD5.out.cells
        simp only at x0 x1 x2 x3 x4 x5 x6 x7 x8 x9
        obtain ⟨s0, s1, s2, s3, s4⟩ := HS5.out.cells
        simp only at s0 s1 s2 s3 s4
        obtain ⟨y0, y1⟩ := HDH.out w5 HB25.out
        obtain ⟨p0, p1, p2, p3, p4, p5⟩ := HC5.out.cells
        simp only at p0 p1 p2 p3 p4 p5
        have f0 := HC5.out.thaw 0; have f1 := HC5.out.thaw 1; have f2 := HC5.out.thaw 2; have f3 := HC5.out.thaw 3; have f4 := HC5.out.thaw 4; have f5 := HC5.out.thaw 5
        obtain ⟨mc, hmc⟩ : ∃ mc, mc = F k := ⟨_, rfl⟩
        rw [← hmc] at HSU
        have HMC := Lib.hid (hmc.trans (HF.out k))
        clear hmc
        go_upto_block 2 with fail
        go_cut [] from 28 to 135 (fun wc => CelAt wc wr.heap.size mc ∧ Below wr.heap.size wr wc)
        case first =>
          by_cases e1 : (k : Int) = a
          · have t1 : ((k : Int) == a) = true := by simp [e1]
            go_wp2_with fail
            go_meet
            case rel =>
              have e : mc = ⟨r, ⟨bo, u, t, f, ba⟩⟩ := by rw [HMC.out]; unfold mcell; simp only [HK.out]; simp [e1]
              rw [e]
              exact ⟨setCel_at HC5.out ⟨r, ⟨bo, u, t, f, ba⟩⟩, setCel_below' HB5.out (Nat.le_refl _) ⟨r, ⟨bo, u, t, f, ba⟩⟩⟩
          · have t1 : ((k : Int) == a) = false := by simp [e1]
            have hs : IntKind.i64.wrap ((k : Int) - 1) = (k : Int) - 1 := by rw [IntKind.wrap_i64]; omega
            by_cases e2 : (k : Int) - 1 = a
            · have t2 : ((k : Int) - 1 == a) = true := by simp [e2]
              have HWD := Lib.hid (fun v => rwide_ok v r)
              have hbr := fun v => build_rest v bo u t f ba
              rcases hwd : GM.wide r with _ | _
              · rw [hwd] at HWD
                go_wp2_with fail
                refine (HWD.out w5).mono ?_
                rintro e v6 ⟨rfl, hv6⟩
                rw [hv6]
                clear hv6 v6
                go_wp2_with fail
                go_meet
                case rel =>
                  have e : mc = ⟨cr, ⟨cbo, cu, ct, cf, cba⟩⟩ := by rw [HMC.out]; unfold mcell; simp only [HK.out]; simp [e1, hwd, HGD.out]
                  rw [e]
                  exact ⟨HC5.out, HB5.out⟩
              · rw [hwd] at HWD
                go_wp2_with fail
                refine (HWD.out w5).mono ?_
                rintro e v6 ⟨rfl, hv6⟩
                rw [hv6]
                clear hv6 v6
                go_wp2_with fail
                go_meet
                case rel =>
                  have e : mc = ⟨0, ⟨bo, u, t, f, ba⟩⟩ := by rw [HMC.out]; unfold mcell; simp only [HK.out]; simp [e1, e2, hwd]
                  rw [e]
                  exact ⟨setCel_at HC5.out ⟨0, ⟨bo, u, t, f, ba⟩⟩, setCel_below' HB5.out (Nat.le_refl _) ⟨0, ⟨bo, u, t, f, ba⟩⟩⟩
            · have t2 : ((k : Int) - 1 == a) = false := by simp [e2]
              go_wp2_with fail
              go_meet
              case rel =>
                have e : mc = ⟨cr, ⟨cbo, cu, ct, cf, cba⟩⟩ := by rw [HMC.out]; unfold mcell; simp only [HK.out]; simp [e1, e2, HGD.out]
                rw [e]
                exact ⟨HC5.out, HB5.out⟩
        case rest =>
          obtain ⟨hcx, hbx⟩ := hcut
          rename World => w6
          have HB6 := Lib.hid (HBR.out.trans (hbx.mono zr))
          have HO6 := Lib.hid (HO.out.below hbx)
          have z6 := hbx.size
          obtain ⟨v0, v1, v2, v3, v4, v5⟩ := hcx.cells
          clear hcx hbx HMC x0 x1 x2 x3 x4 x5 x6 x7 x8 x9 s0 s1 s2 s3 s4 y0 y1 p0 p1 p2 p3 p4 p5 f0 f1 f2 f3 f4 f5
          obtain ⟨mr, ⟨m0, m1, m2, m3, m4⟩⟩ := mc
          simp only at v0 v1 v2 v3 v4 v5
          go_wp2_with (at_builtin; refine celE.wp_append1 rfl (.tmp 131) (.tmp 133) rfl w2.heap.size _ L rfl HO6.out ⟨mr, ⟨m0, m1, m2, m3, m4⟩⟩ #[.int .i32 mr, .bool m0, .bool m1, .bool m2, .int .i64 m3, .int .i64 m4] 37 rfl rfl ?c1 ?c2 (by omega) ?_)
          case c1 => simp only [celE]; omega
          case c2 => unfold maxLen; omega
          intro vn y7 ho1 hg1
          have HO7 := Lib.hid ho1
          have HB7 := Lib.hid (HB6.out.trans (HO6.out.grow_below hg1 (by omega)))
          clear ho1 hg1
          go_wp2_with fail
          go_roundw
          case rel => exact ⟨k + 1, by omega, by simp, HB7.out, by rw [HSU.out]; exact HO7.out⟩
          case measure => simp [RowKit.intOf]; omega
      · have gk : decide ((k : Int) < (W : Int)) = false := by simp; omega
        have gn : decide (k < W) = false := by simp; omega
        obtain rfl : k = W := by omega
        have ho := HO.out
        rw [← HML.out] at ho
        obtain ⟨Av, cv, hv, -, -, hAv, hrv⟩ := ho.row
        have hml : M.length = k := by rw [HML.out, List.length_map, List.length_range]
        have HRM := Lib.hid (rmend_ok wr M Av cv wr.heap.size hrv hAv (by omega))
        have HB3 := Lib.hid (HB2.out.trans (HBR.out.mono HB2.out.size))
        rw [hml] at hv HRM
        clear ho hrv hAv hml
        subst hv
        go_wp2_with fail
        refine HRM.out.mono ?_
        rintro e w6 ⟨v6, rfl, ho6, hb6⟩
        have HO6 := Lib.hid (ho6.mono HB3.out.size)
        have HB6 := Lib.hid (below_next HB3.out hb6)
        clear ho6 hb6
        go_wp2_with fail
        go_ret
        exact ⟨v6, rfl, HO6.out, HB6.out⟩

set_option maxRecDepth 100000 in
set_option maxHeartbeats 4000000 in
theorem line_ok1 (w : World) {N : Nat → Prop} {A : Option Addr} {g : Gr} (hok : g.Ok) (h : LinesAt w N A g.ls) (c : Nat) (d : De) {Y n : Nat} (hY : Y < g.h) (hn : min (max d.c 0) (g.w : Int) = (n : Int)) (ha : 0 ≤ d.a) (hk : d.k = 1) :
    Calls Tryd.prog 37 #[.slice A g.ls.length c, deV d, .int .i64 (Y : Int)] w (CelsPost w (mend (mline d (g.line Y) n))) := by
  obtain ⟨w1, hw1⟩ : ∃ w1, w1 = w.alloc (.cells #[.int .i64 d.kind, .int .i64 d.a, .int .i64 d.b, .int .i64 d.c, .int .i32 d.cel.rune, .bool d.cel.sty.bold, .bool d.cel.sty.under, .bool d.cel.sty.turned, .int .i64 d.cel.sty.fore, .int .i64 d.cel.sty.back] 39) := ⟨_, rfl⟩
  have hb1 : Below w.heap.size w w1 := by rw [hw1]; exact (Below.refl _ _).alloc (Nat.le_refl _) _
  have hd1 : DeIn w1 w.heap.size d := by rw [hw1]; exact DeIn.fresh w d
  have HD1 := Lib.hid hd1
  have HB1 := Lib.hid hb1
  have W1 := Lib.hid hw1
  have hlen := hok.len
  have hgh := hok.h2
  have hgw := hok.w2
  have hgw1 := hok.w1
  have hh1 := hok.h1
  have hlo := hok.line hY
  have hl0 := hok.line (y := 0) (by omega)
  have hln0 : g.ls[0]'(by omega) = g.line 0 := by
    have := line_get hok (y := 0) (by omega)
    rw [List.getElem?_eq_getElem (by omega)] at this
    exact Option.some.inj this
  have hlnY : g.ls[Y]'(by omega) = g.line Y := by
    have := line_get hok hY
    rw [List.getElem?_eq_getElem (by omega)] at this
    exact Option.some.inj this
  have HREAD := Lib.hid (fun (v : World) (hv : Below w.heap.size w v) (x y : Int) => read_ok v (h.below hv) c x y (stame d.cel.sty))
  obtain ⟨b, off, A0, c0, hA, hbl, dh0, -, -⟩ := h.at_ (j := 0) (by omega)
  obtain ⟨b', off', AY, cY, hA', -, dhY, rY, -⟩ := h.at_ (j := Y) (by omega)
  rw [hA] at hA'
  simp only [Option.some.injEq, Addr.mk.injEq, and_true] at hA'
  obtain ⟨rfl, rfl⟩ := hA'
  rw [hln0, hl0.len] at dh0
  rw [hlnY, hlo.len] at dhY
  rw [hlnY] at rY
  have hMRD : ∀ x : Nat, mread g.ls (x : Int) (Y : Int) (stame d.cel.sty) = if x < g.w then (g.line Y).getD x ⟨0, zero⟩ else KM.blankS (stame d.cel.sty) := fun x => by
    by_cases hx : x < g.w
    · rw [if_pos hx]; exact mread_in hok hx hY _
    · rw [if_neg hx]; exact mread_out hok (by omega) _
  have HMRD := Lib.hid hMRD
  have HMRN := Lib.hid (show mread g.ls (-1) 0 (stame d.cel.sty) = KM.blankS (stame d.cel.sty) from mread_left _ _ _)
  subst hA
  have HTM := Lib.hid (fun v => ltame_ok v d.cel.sty)
  have HKD : Hid (∀ v, Calls Tryd.prog 35 #[deV d] v fun e w' => e = .returned (.int .i64 1) ∧ Below v.heap.size v w') := Lib.hid (fun v => by
    have := kind_ok v d
    rw [hk] at this
    exact this)
  have HLEN := Lib.hid hlo.len
  obtain ⟨F, hF⟩ : ∃ F, F = mcell d (g.line Y) n := ⟨_, rfl⟩
  have HF := Lib.hid (fun k : Nat => show F k = mcell d (g.line Y) n k by rw [hF])
  obtain ⟨M, hM⟩ : ∃ M, M = mline d (g.line Y) n := ⟨_, rfl⟩
  have HML : Hid (M = (List.range g.w).map F) := Lib.hid (by rw [hM, hF]; unfold mline; rw [hlo.len])
  rw [← hM]
  have hnw : n ≤ g.w := by omega
  have HDH := Lib.hid (fun (v : World) (hv : Below w.heap.size w v) => show v.cell? ⟨b, off, none⟩ = some (.slice A0 g.w c0) ∧ v.cell? ⟨b, off + Y, none⟩ = some (.slice AY g.w cY) from ⟨(hv.cell (p := ⟨b, off, none⟩) hbl).trans dh0, (hv.cell (p := ⟨b, off + Y, none⟩) hbl).trans dhY⟩)
  have HRY := Lib.hid rY
  have HW : Hid (∀ v, Calls Tryd.prog 18 #[.int .i64 d.c, .int .i64 0, .int .i64 (g.w : Int)] v fun e w' => e = .returned (.int .i64 (n : Int)) ∧ w' = v) := Lib.hid (fun v => by have := within_ok v d.c 0 g.w; rwa [hn] at this)
  have hlY : Y < g.ls.length := by omega
  have hYI : (Y : Int) < (g.ls.length : Int) := by omega
  have h0I : 0 < g.ls.length := by omega
  have HK := Lib.hid hk
  clear hw1 hb1 hd1 hlen hh1 hlo hl0 hln0 hlnY dh0 dhY rY hMRD hn h hk hM hF
  have HOK := Lib.hid hok
  clear hok
  obtain ⟨kd, a, bb, cc, ⟨r, ⟨bo, u, t, f, ba⟩⟩⟩ := d
  simp only [deV, styV] at *
  generalize hst : stame ⟨bo, u, t, f, ba⟩ = s' at *
  obtain ⟨sb, su, st, sf, sk⟩ := s'
  have HST := Lib.hid hst
  clear hst
  simp only at *
  generalize g.ls.length = gl at *
  generalize hgln : g.line Y = l at *
  have HGLN := Lib.hid hgln
  clear hgln
  generalize hWW : g.w = W at *
  clear hWW HOK hgh
  generalize hGG : g.ls = LL at *
  clear hGG
  go_enter Tryd.func37, Tryd.ntmps37
  go_upto_region 1 with fail
  rw [← W1.out]
  go_cut [7, 8] from 14 (fun o7 o8 wc => ∃ q, o7 = .int .i64 (W : Int) ∧ o8 = .pointer (some ⟨q, 0, none⟩) ∧ w1.heap.size ≤ q ∧ StyIn wc q ⟨sb, su, st, sf, sk⟩ ∧ Below w1.heap.size w1 wc)
  case first =>
    refine wp_region_noPanic ?_
    refine wp_region_held_drew (S := fun v => Below w1.heap.size w1 v) (by kernel_rfl) (Below.refl _ _).drew (fun hHeld => ?_)
    have HSd := Lib.hid hHeld
    refine wpAnyH_take (i := 0) (v := ?vr0) rfl (by kernel_rfl) (by kernel_rfl) (by kernel_rfl) (fun _ _ _ h => h) (Or.inl ⟨by rfl, ?hr0⟩) (by assumption) ?_
    case hr0 => intro w hSw; (try dsimp only at hSw); obtain ⟨x0, x1, x2, x3, x4, x5, x6, x7, x8, x9⟩ := (HD1.out.below hSw).cells; simp only at x0 x1 x2 x3 x4 x5 x6 x7 x8 x9; obtain ⟨y0, y1⟩ := HDH.out _ (below_next HB1.out hSw); go_simp; try with_reducible rfl
    simp only [List.getElem_toArray, List.getElem_cons_zero, Act.put, List.setIfInBounds_toArray, List.set_cons_zero, List.set_cons_succ]
    refine wpAnyH_take (i := 1) (v := ?vr1) rfl (by kernel_rfl) (by kernel_rfl) (by kernel_rfl) (fun _ _ _ h => h) (Or.inl ⟨by rfl, ?hr1⟩) (by assumption) ?_
    case hr1 => intro w hSw; (try dsimp only at hSw); obtain ⟨x0, x1, x2, x3, x4, x5, x6, x7, x8, x9⟩ := (HD1.out.below hSw).cells; simp only at x0 x1 x2 x3 x4 x5 x6 x7 x8 x9; obtain ⟨y0, y1⟩ := HDH.out _ (below_next HB1.out hSw); go_simp; try with_reducible rfl
    simp only [List.getElem_toArray, List.getElem_cons_succ, List.getElem_cons_zero, Act.put, List.setIfInBounds_toArray, List.set_cons_zero, List.set_cons_succ]
    refine wpAnyH_take (i := 2) (v := ?vr2) rfl (by kernel_rfl) (by kernel_rfl) (by kernel_rfl) (fun _ _ _ h => h) (Or.inl ⟨by rfl, ?hr2⟩) (by assumption) ?_
    case hr2 => intro w hSw; (try dsimp only at hSw); obtain ⟨x0, x1, x2, x3, x4, x5, x6, x7, x8, x9⟩ := (HD1.out.below hSw).cells; simp only at x0 x1 x2 x3 x4 x5 x6 x7 x8 x9; obtain ⟨y0, y1⟩ := HDH.out _ (below_next HB1.out hSw); go_simp; try with_reducible rfl
    simp only [List.getElem_toArray, List.getElem_cons_succ, List.getElem_cons_zero, Act.put, List.setIfInBounds_toArray, List.set_cons_zero, List.set_cons_succ]
    refine wpAnyH_take (i := 3) (v := ?vr3) rfl (by kernel_rfl) (by kernel_rfl) (by kernel_rfl) (fun _ _ _ h => h) (Or.inl ⟨by rfl, ?hr3⟩) (by assumption) ?_
    case hr3 => intro w hSw; (try dsimp only at hSw); obtain ⟨x0, x1, x2, x3, x4, x5, x6, x7, x8, x9⟩ := (HD1.out.below hSw).cells; simp only at x0 x1 x2 x3 x4 x5 x6 x7 x8 x9; obtain ⟨y0, y1⟩ := HDH.out _ (below_next HB1.out hSw); go_simp; try with_reducible rfl
    simp only [List.getElem_toArray, List.getElem_cons_succ, List.getElem_cons_zero, Act.put, List.setIfInBounds_toArray, List.set_cons_zero, List.set_cons_succ]
    refine wpAnyH_take (i := 4) (v := ?vr4) rfl (by kernel_rfl) (by kernel_rfl) (by kernel_rfl) (fun _ _ _ h => h) (Or.inl ⟨by rfl, ?hr4⟩) (by assumption) ?_
    case hr4 => intro w hSw; (try dsimp only at hSw); obtain ⟨x0, x1, x2, x3, x4, x5, x6, x7, x8, x9⟩ := (HD1.out.below hSw).cells; simp only at x0 x1 x2 x3 x4 x5 x6 x7 x8 x9; obtain ⟨y0, y1⟩ := HDH.out _ (below_next HB1.out hSw); go_simp; try with_reducible rfl
    simp only [List.getElem_toArray, List.getElem_cons_succ, List.getElem_cons_zero, Act.put, List.setIfInBounds_toArray, List.set_cons_zero, List.set_cons_succ]
    refine wpAnyH_take (i := 5) (v := ?vr5) rfl (by kernel_rfl) (by kernel_rfl) (by kernel_rfl) (fun _ _ _ h => h) (Or.inl ⟨by rfl, ?hr5⟩) (by assumption) ?_
    case hr5 => intro w hSw; (try dsimp only at hSw); obtain ⟨x0, x1, x2, x3, x4, x5, x6, x7, x8, x9⟩ := (HD1.out.below hSw).cells; simp only at x0 x1 x2 x3 x4 x5 x6 x7 x8 x9; obtain ⟨y0, y1⟩ := HDH.out _ (below_next HB1.out hSw); go_simp; try with_reducible rfl
    simp only [List.getElem_toArray, List.getElem_cons_succ, List.getElem_cons_zero, Act.put, List.setIfInBounds_toArray, List.set_cons_zero, List.set_cons_succ]
    refine wpAnyH_take (i := 6) (v := ?vr6) rfl (by kernel_rfl) (by kernel_rfl) (by kernel_rfl) (fun _ _ _ h => h) (Or.inl ⟨by rfl, ?hr6⟩) (by assumption) ?_
    case hr6 => intro w hSw; (try dsimp only at hSw); obtain ⟨x0, x1, x2, x3, x4, x5, x6, x7, x8, x9⟩ := (HD1.out.below hSw).cells; simp only at x0 x1 x2 x3 x4 x5 x6 x7 x8 x9; obtain ⟨y0, y1⟩ := HDH.out _ (below_next HB1.out hSw); go_simp; try with_reducible rfl
    simp only [List.getElem_toArray, List.getElem_cons_succ, List.getElem_cons_zero, Act.put, List.setIfInBounds_toArray, List.set_cons_zero, List.set_cons_succ]
    refine wpAnyH_ready (rs := [7, 8]) (by kernel_rfl) (by simp) ?_
    refine AllReadyH.cons rfl (fun K hK => ?_) (AllReadyH.cons rfl (fun K hK => ?_) AllReadyH.nil)
    · go_simp
      refine (HTM.out w1.drew).mono ?_
      rintro e v1 ⟨rfl, hbx⟩
      have HS1 := Lib.hid (below_next HSd.out hbx)
      have hz1 := HS1.out.size
      clear hbx
      dsimp only
      refine hK.out _ _ ?_ (fun hHeld => ?_)
      · exact HS1.out
      clear hK K
      refine wpAnyH_ready (rs := [8]) (by kernel_rfl) (by simp) ?_
      refine AllReadyH.cons rfl (fun K hK => ?_) AllReadyH.nil
      go_simp
      try dsimp only
      have hy := heap_alloc_new v1 (.cells #[.bool false, .bool false, .bool false, .int .i64 0, .int .i64 0] 35)
      have HS2 := Lib.hid (HS1.out.alloc (HS1.out.size) (.cells #[.bool false, .bool false, .bool false, .int .i64 0, .int .i64 0] 35))
      refine hK.out _ _ ?_ (fun hHeld => ?_)
      · exact HS2.out
      clear hK K
      generalize v1.alloc (.cells #[.bool false, .bool false, .bool false, .int .i64 0, .int .i64 0] 35) = v2 at *
      have HY := Lib.hid (show StyIn v2 v1.heap.size KM.zero from hy)
      have n0 := HY.out.thaw 0; have n1 := HY.out.thaw 1; have n2 := HY.out.thaw 2; have n3 := HY.out.thaw 3; have n4 := HY.out.thaw 4
      obtain ⟨z0, z1, z2, z3, z4⟩ := HY.out.cells
      simp only [KM.zero] at z0 z1 z2 z3 z4
      clear hy
      refine wpAnyH_ready (rs := [9]) (by kernel_rfl) (by simp) ?_
      refine AllReadyH.cons rfl (fun K hK => ?_) AllReadyH.nil
      go_simp
      refine hK.out _ _ ?_ (fun hHeld => ?_)
      · exact HS2.out
      clear hK K
      refine wpAnyH_ready (rs := [10]) (by kernel_rfl) (by simp) ?_
      refine AllReadyH.cons rfl (fun K hK => ?_) AllReadyH.nil
      go_simp
      refine hK.out _ _ ?_ (fun hHeld => ?_)
      · exact setSty_below HS2.out hz1 ⟨sb, su, st, sf, sk⟩
      clear hK K
      refine wpAnyH_done (by kernel_rfl) ?_ _
      refine NoPanic.normal ?_
      go_wp2_with fail
      go_meet
      case rel => exact ⟨v1.heap.size, rfl, rfl, hz1, setSty_at HY.out ⟨sb, su, st, sf, sk⟩, setSty_below HS2.out hz1 ⟨sb, su, st, sf, sk⟩⟩
    · go_simp
      try dsimp only
      obtain ⟨v1, hv1⟩ : ∃ v1, v1 = (w1.alloc (.cells #[.bool false, .bool false, .bool false, .int .i64 0, .int .i64 0] 35)).drew := ⟨_, rfl⟩
      rw [← hv1]
      have HS1 := Lib.hid (show Below w1.heap.size w1 v1 by rw [hv1]; exact ((Below.refl _ _).alloc (Nat.le_refl _) _).drew)
      have hy : StyIn v1 w1.heap.size KM.zero := by rw [hv1]; exact heap_alloc_new w1 _
      clear hv1
      refine hK.out _ _ ?_ (fun hHeld => ?_)
      · exact HS1.out
      clear hK K
      have HY := Lib.hid hy
      have hz1 := HS1.out.size
      clear hy
      refine wpAnyH_ready (rs := [7]) (by kernel_rfl) (by simp) ?_
      refine AllReadyH.cons rfl (fun K hK => ?_) AllReadyH.nil
      go_simp
      refine (HTM.out v1).mono ?_
      rintro e v2 ⟨rfl, hbx⟩
      have HS2 := Lib.hid (below_next HS1.out hbx)
      have HY2 := Lib.hid (HY.out.below hbx)
      have n0 := HY2.out.thaw 0; have n1 := HY2.out.thaw 1; have n2 := HY2.out.thaw 2; have n3 := HY2.out.thaw 3; have n4 := HY2.out.thaw 4
      obtain ⟨z0, z1, z2, z3, z4⟩ := HY2.out.cells
      simp only [KM.zero] at z0 z1 z2 z3 z4
      clear hbx
      dsimp only
      refine hK.out _ _ ?_ (fun hHeld => ?_)
      · exact HS2.out
      clear hK K
      refine wpAnyH_ready (rs := [9]) (by kernel_rfl) (by simp) ?_
      refine AllReadyH.cons rfl (fun K hK => ?_) AllReadyH.nil
      go_simp
      refine hK.out _ _ ?_ (fun hHeld => ?_)
      · exact HS2.out
      clear hK K
      refine wpAnyH_ready (rs := [10]) (by kernel_rfl) (by simp) ?_
      refine AllReadyH.cons rfl (fun K hK => ?_) AllReadyH.nil
      go_simp
      refine hK.out _ _ ?_ (fun hHeld => ?_)
      · exact setSty_below HS2.out (Nat.le_refl _) ⟨sb, su, st, sf, sk⟩
      clear hK K
      refine wpAnyH_done (by kernel_rfl) ?_ _
      refine NoPanic.normal ?_
      go_wp2_with fail
      go_meet
      case rel => exact ⟨w1.heap.size, rfl, rfl, Nat.le_refl _, setSty_at HY2.out ⟨sb, su, st, sf, sk⟩, setSty_below HS2.out (Nat.le_refl _) ⟨sb, su, st, sf, sk⟩⟩
  case rest =>
    obtain ⟨q, rfl, rfl, hq1, hst, hbc⟩ := hcut
    rename World => w2
    have HB2 := Lib.hid (below_next HB1.out hbc)
    have HD2 := Lib.hid (HD1.out.below hbc)
    have HS2 := Lib.hid hst
    have z12 := hbc.size
    obtain ⟨x0, x1, x2, x3, x4, x5, x6, x7, x8, x9⟩ := HD2.out.cells
    simp only at x0 x1 x2 x3 x4 x5 x6 x7 x8 x9
    clear hst hbc hq1
    go_wp2_with fail
    refine (HW.out w2).mono ?_
    rintro e w3 ⟨rfl, hw3⟩
    rw [hw3]
    clear hw3 w3 x0 x1 x2 x3 x4 x5 x6 x7 x8 x9
    go_wp2_with fail
    go_loopw [10, 27] (fun v i wr => ∃ k : Nat, k ≤ W ∧ i = .int .i64 (k : Int) ∧ Below w2.heap.size w2 wr ∧ celE.Own wr w2.heap.size v ((List.range k).map F)) (fun _ i _ => W - (RowKit.intOf i).toNat)
    case atStart => exact ⟨0, Nat.zero_le _, rfl, Below.refl _ _, El.Own.nil _ _⟩
    case round =>
      obtain ⟨k, hk, rfl, hbr, ho⟩ := hrel
      have HBR := Lib.hid hbr
      have HO := Lib.hid ho
      have zr := hbr.size
      clear hbr ho
      by_cases hlt : k < W
      · have gk : decide ((k : Int) < (W : Int)) = true := by simp; omega
        have gn : decide (k < W) = true := by simp; omega
        have hkl : k < l.length := by rw [HLEN.out]; exact hlt
        have HB2r := Lib.hid (HB2.out.trans (HBR.out.mono HB2.out.size))
        obtain ⟨y0, y1⟩ := HDH.out wr HB2r.out
        obtain ⟨bY, oY, e', hbY, c0', c1, c2, c3, c4, c5⟩ := cel_at (HRY.out.below HB2r.out) hkl
        subst e'
        have HSU := Lib.hid (map_range_succ F k)
        have hmx : ((List.range k).map F).length ≤ 60 := by rw [List.length_map, List.length_range]; omega
        generalize (List.range k).map F = L at *
        have hkI : (k : Int) < (W : Int) := by omega
        have hgd : l[k]?.getD ⟨0, zero⟩ = l[k] := by simp [hkl]
        have HGD := Lib.hid hgd
        clear hgd
        have HLK := Lib.hid (fun (j : Nat) (hj : j < W) => (cel_at (HRY.out.below HB2r.out) (show j < l.length by rw [HLEN.out]; exact hj)))
        obtain ⟨wA, hwA⟩ : ∃ wA, wA = wr.alloc (.cells #[.int .i32 (l[k]).rune, .bool (l[k]).sty.bold, .bool (l[k]).sty.under, .bool (l[k]).sty.turned, .int .i64 (l[k]).sty.fore, .int .i64 (l[k]).sty.back] 37) := ⟨_, rfl⟩
        have hbA : Below wr.heap.size wr wA := by rw [hwA]; exact (Below.refl _ _).alloc (Nat.le_refl _) _
        have HCA := Lib.hid (show CelAt wA wr.heap.size l[k] by rw [hwA]; exact CelAt.fresh wr l[k])
        have HBA := Lib.hid hbA
        have WA := Lib.hid hwA
        clear hwA hbA
        have hlk : ∃ cur, cur = l[k] := ⟨_, rfl⟩
        obtain ⟨cur, hcur⟩ := hlk
        have HCUR := Lib.hid hcur
        rw [← hcur] at c0' c1 c2 c3 c4 c5 HCA WA HGD
        clear hcur
        obtain ⟨cr, ⟨cbo, cu, ct, cf, cba⟩⟩ := cur
        simp only at c0' c1 c2 c3 c4 c5 WA
        go_upto_region 8 with fail
        rw [← WA.out]
        clear y0 y1 c0' c1 c2 c3 c4 c5
        obtain ⟨x0, x1, x2, x3, x4, x5, x6, x7, x8, x9⟩ := (HD2.out.below (HBR.out.trans (HBA.out.mono zr))).cells
        simp only at x0 x1 x2 x3 x4 x5 x6 x7 x8 x9
        go_wp2_with fail
        refine (HKD.out wA).mono ?_
        rintro e w5 ⟨rfl, hb5⟩
        have HB5 := Lib.hid (below_next HBA.out hb5)
        have HC5 := Lib.hid (HCA.out.below hb5 HCA.out.lt)
        have HB25 := Lib.hid (HB2r.out.trans (HB5.out.mono HB2r.out.size))
        have HD5 := Lib.hid (HD2.out.below (HBR.out.trans (HB5.out.mono zr)))
        have HS5 := Lib.hid (HS2.out.below (HBR.out.trans (HB5.out.mono zr)))
        clear hb5 x0 x1 x2 x3 x4 x5 x6 x7 x8 x9
        obtain ⟨x0, x1, x2, x3, x4, x5, x6, x7, x8, x9⟩ := HD5.out.cells
        simp only at x0 x1 x2 x3 x4 x5 x6 x7 x8 x9
        obtain ⟨s0, s1, s2, s3, s4⟩ := HS5.out.cells
        simp only at s0 s1 s2 s3 s4
        obtain ⟨y0, y1⟩ := HDH.out w5 HB25.out
        obtain ⟨p0, p1, p2, p3, p4, p5⟩ := HC5.out.cells
        simp only at p0 p1 p2 p3 p4 p5
        have f0 := HC5.out.thaw 0; have f1 := HC5.out.thaw 1; have f2 := HC5.out.thaw 2; have f3 := HC5.out.thaw 3; have f4 := HC5.out.thaw 4; have f5 := HC5.out.thaw 5
        obtain ⟨mc, hmc⟩ : ∃ mc, mc = F k := ⟨_, rfl⟩
        rw [← hmc] at HSU
        have HMC := Lib.hid (hmc.trans (HF.out k))
        clear hmc
        go_upto_block 2 with fail
        go_cut [] from 28 to 135 (fun wc => CelAt wc wr.heap.size mc ∧ Below wr.heap.size wr wc)
        case first =>
          by_cases e1 : bb ≤ (k : Int)
          · have t1 : decide (bb ≤ (k : Int)) = true := by simp [e1]
            by_cases e2 : (k : Int) < cc
            · have t2 : decide ((k : Int) < cc) = true := by simp [e2]
              go_wp2_with fail
              have hrd := HREAD.out w5 HB25.out (-1) 0
              rw [HMRN.out] at hrd
              simp only [celV, KM.blankS] at hrd
              refine hrd.mono ?_
              rintro e v6 ⟨rfl, hb6⟩
              have HC6 := Lib.hid (HC5.out.below hb6 HC5.out.lt)
              have HB6 := Lib.hid (below_next HB5.out hb6)
              clear hb6 p0 p1 p2 p3 p4 p5 f0 f1 f2 f3 f4 f5
              obtain ⟨p0, p1, p2, p3, p4, p5⟩ := HC6.out.cells
              simp only at p0 p1 p2 p3 p4 p5
              have f0 := HC6.out.thaw 0; have f1 := HC6.out.thaw 1; have f2 := HC6.out.thaw 2; have f3 := HC6.out.thaw 3; have f4 := HC6.out.thaw 4; have f5 := HC6.out.thaw 5
              go_wp2_with fail
              go_meet
              case rel =>
                have e : mc = ⟨32, ⟨false, false, false, 0, sk⟩⟩ := by rw [HMC.out]; unfold mcell; simp only [HK.out]; simp [e1, e2, KM.blankS, HST.out]
                rw [e]
                exact ⟨setCel_at HC6.out ⟨32, ⟨false, false, false, 0, sk⟩⟩, setCel_below' HB6.out (Nat.le_refl _) ⟨32, ⟨false, false, false, 0, sk⟩⟩⟩
            · have t2 : decide ((k : Int) < cc) = false := by simp [e2]
              go_wp2_with fail
              go_meet
              case rel =>
                have e : mc = ⟨cr, ⟨cbo, cu, ct, cf, cba⟩⟩ := by rw [HMC.out]; unfold mcell; simp only [HK.out]; simp [eq_false (show ¬ (k : Int) < cc by omega), HGD.out]
                rw [e]
                exact ⟨HC5.out, HB5.out⟩
          · have t1 : decide (bb ≤ (k : Int)) = false := by simp [e1]
            go_wp2_with fail
            go_meet
            case rel =>
              have e : mc = ⟨cr, ⟨cbo, cu, ct, cf, cba⟩⟩ := by rw [HMC.out]; unfold mcell; simp only [HK.out]; simp [eq_false (show ¬ bb ≤ (k : Int) by omega), HGD.out]
              rw [e]
              exact ⟨HC5.out, HB5.out⟩
        case rest =>
          obtain ⟨hcx, hbx⟩ := hcut
          rename World => w6
          have HB6 := Lib.hid (HBR.out.trans (hbx.mono zr))
          have HO6 := Lib.hid (HO.out.below hbx)
          have z6 := hbx.size
          obtain ⟨v0, v1, v2, v3, v4, v5⟩ := hcx.cells
          clear hcx hbx HMC x0 x1 x2 x3 x4 x5 x6 x7 x8 x9 s0 s1 s2 s3 s4 y0 y1 p0 p1 p2 p3 p4 p5 f0 f1 f2 f3 f4 f5
          obtain ⟨mr, ⟨m0, m1, m2, m3, m4⟩⟩ := mc
          simp only at v0 v1 v2 v3 v4 v5
          go_wp2_with (at_builtin; refine celE.wp_append1 rfl (.tmp 131) (.tmp 133) rfl w2.heap.size _ L rfl HO6.out ⟨mr, ⟨m0, m1, m2, m3, m4⟩⟩ #[.int .i32 mr, .bool m0, .bool m1, .bool m2, .int .i64 m3, .int .i64 m4] 37 rfl rfl ?c1 ?c2 (by omega) ?_)
          case c1 => simp only [celE]; omega
          case c2 => unfold maxLen; omega
          intro vn y7 ho1 hg1
          have HO7 := Lib.hid ho1
          have HB7 := Lib.hid (HB6.out.trans (HO6.out.grow_below hg1 (by omega)))
          clear ho1 hg1
          go_wp2_with fail
          go_roundw
          case rel => exact ⟨k + 1, by omega, by simp, HB7.out, by rw [HSU.out]; exact HO7.out⟩
          case measure => simp [RowKit.intOf]; omega
      · have gk : decide ((k : Int) < (W : Int)) = false := by simp; omega
        have gn : decide (k < W) = false := by simp; omega
        obtain rfl : k = W := by omega
        have ho := HO.out
        rw [← HML.out] at ho
        obtain ⟨Av, cv, hv, -, -, hAv, hrv⟩ := ho.row
        have hml : M.length = k := by rw [HML.out, List.length_map, List.length_range]
        have HRM := Lib.hid (rmend_ok wr M Av cv wr.heap.size hrv hAv (by omega))
        have HB3 := Lib.hid (HB2.out.trans (HBR.out.mono HB2.out.size))
        rw [hml] at hv HRM
        clear ho hrv hAv hml
        subst hv
        go_wp2_with fail
        refine HRM.out.mono ?_
        rintro e w6 ⟨v6, rfl, ho6, hb6⟩
        have HO6 := Lib.hid (ho6.mono HB3.out.size)
        have HB6 := Lib.hid (below_next HB3.out hb6)
        clear ho6 hb6
        go_wp2_with fail
        go_ret
        exact ⟨v6, rfl, HO6.out, HB6.out⟩

set_option maxRecDepth 100000 in
set_option maxHeartbeats 4000000 in
theorem line_ok4 (w : World) {N : Nat → Prop} {A : Option Addr} {g : Gr} (hok : g.Ok) (h : LinesAt w N A g.ls) (c : Nat) (d : De) {Y n : Nat} (hY : Y < g.h) (hn : min (max d.c 0) (g.w : Int) = (n : Int)) (ha : 0 ≤ d.a) (hk : d.k = 4) :
    Calls Tryd.prog 37 #[.slice A g.ls.length c, deV d, .int .i64 (Y : Int)] w (CelsPost w (mend (mline d (g.line Y) n))) := by
  obtain ⟨w1, hw1⟩ : ∃ w1, w1 = w.alloc (.cells #[.int .i64 d.kind, .int .i64 d.a, .int .i64 d.b, .int .i64 d.c, .int .i32 d.cel.rune, .bool d.cel.sty.bold, .bool d.cel.sty.under, .bool d.cel.sty.turned, .int .i64 d.cel.sty.fore, .int .i64 d.cel.sty.back] 39) := ⟨_, rfl⟩
  have hb1 : Below w.heap.size w w1 := by rw [hw1]; exact (Below.refl _ _).alloc (Nat.le_refl _) _
  have hd1 : DeIn w1 w.heap.size d := by rw [hw1]; exact DeIn.fresh w d
  have HD1 := Lib.hid hd1
  have HB1 := Lib.hid hb1
  have W1 := Lib.hid hw1
  have hlen := hok.len
  have hgh := hok.h2
  have hgw := hok.w2
  have hgw1 := hok.w1
  have hh1 := hok.h1
  have hlo := hok.line hY
  have hl0 := hok.line (y := 0) (by omega)
  have hln0 : g.ls[0]'(by omega) = g.line 0 := by
    have := line_get hok (y := 0) (by omega)
    rw [List.getElem?_eq_getElem (by omega)] at this
    exact Option.some.inj this
  have hlnY : g.ls[Y]'(by omega) = g.line Y := by
    have := line_get hok hY
    rw [List.getElem?_eq_getElem (by omega)] at this
    exact Option.some.inj this
  have HREAD := Lib.hid (fun (v : World) (hv : Below w.heap.size w v) (x y : Int) => read_ok v (h.below hv) c x y (stame d.cel.sty))
  obtain ⟨b, off, A0, c0, hA, hbl, dh0, -, -⟩ := h.at_ (j := 0) (by omega)
  obtain ⟨b', off', AY, cY, hA', -, dhY, rY, -⟩ := h.at_ (j := Y) (by omega)
  rw [hA] at hA'
  simp only [Option.some.injEq, Addr.mk.injEq, and_true] at hA'
  obtain ⟨rfl, rfl⟩ := hA'
  rw [hln0, hl0.len] at dh0
  rw [hlnY, hlo.len] at dhY
  rw [hlnY] at rY
  have hMRD : ∀ x : Nat, mread g.ls (x : Int) (Y : Int) (stame d.cel.sty) = if x < g.w then (g.line Y).getD x ⟨0, zero⟩ else KM.blankS (stame d.cel.sty) := fun x => by
    by_cases hx : x < g.w
    · rw [if_pos hx]; exact mread_in hok hx hY _
    · rw [if_neg hx]; exact mread_out hok (by omega) _
  have HMRD := Lib.hid hMRD
  have HMRN := Lib.hid (show mread g.ls (-1) 0 (stame d.cel.sty) = KM.blankS (stame d.cel.sty) from mread_left _ _ _)
  subst hA
  have HTM := Lib.hid (fun v => ltame_ok v d.cel.sty)
  have HKD : Hid (∀ v, Calls Tryd.prog 35 #[deV d] v fun e w' => e = .returned (.int .i64 4) ∧ Below v.heap.size v w') := Lib.hid (fun v => by
    have := kind_ok v d
    rw [hk] at this
    exact this)
  have HLEN := Lib.hid hlo.len
  obtain ⟨F, hF⟩ : ∃ F, F = mcell d (g.line Y) n := ⟨_, rfl⟩
  have HF := Lib.hid (fun k : Nat => show F k = mcell d (g.line Y) n k by rw [hF])
  obtain ⟨M, hM⟩ : ∃ M, M = mline d (g.line Y) n := ⟨_, rfl⟩
  have HML : Hid (M = (List.range g.w).map F) := Lib.hid (by rw [hM, hF]; unfold mline; rw [hlo.len])
  rw [← hM]
  have hnw : n ≤ g.w := by omega
  have HDH := Lib.hid (fun (v : World) (hv : Below w.heap.size w v) => show v.cell? ⟨b, off, none⟩ = some (.slice A0 g.w c0) ∧ v.cell? ⟨b, off + Y, none⟩ = some (.slice AY g.w cY) from ⟨(hv.cell (p := ⟨b, off, none⟩) hbl).trans dh0, (hv.cell (p := ⟨b, off + Y, none⟩) hbl).trans dhY⟩)
  have HRY := Lib.hid rY
  have HW : Hid (∀ v, Calls Tryd.prog 18 #[.int .i64 d.c, .int .i64 0, .int .i64 (g.w : Int)] v fun e w' => e = .returned (.int .i64 (n : Int)) ∧ w' = v) := Lib.hid (fun v => by have := within_ok v d.c 0 g.w; rwa [hn] at this)
  have hlY : Y < g.ls.length := by omega
  have hYI : (Y : Int) < (g.ls.length : Int) := by omega
  have h0I : 0 < g.ls.length := by omega
  have HK := Lib.hid hk
  clear hw1 hb1 hd1 hlen hh1 hlo hl0 hln0 hlnY dh0 dhY rY hMRD hn h hk hM hF
  have HOK := Lib.hid hok
  clear hok
  obtain ⟨kd, a, bb, cc, ⟨r, ⟨bo, u, t, f, ba⟩⟩⟩ := d
  simp only [deV, styV] at *
  generalize hst : stame ⟨bo, u, t, f, ba⟩ = s' at *
  obtain ⟨sb, su, st, sf, sk⟩ := s'
  have HST := Lib.hid hst
  clear hst
  simp only at *
  generalize g.ls.length = gl at *
  generalize hgln : g.line Y = l at *
  have HGLN := Lib.hid hgln
  clear hgln
  generalize hWW : g.w = W at *
  clear hWW HOK hgh
  generalize hGG : g.ls = LL at *
  clear hGG
  go_enter Tryd.func37, Tryd.ntmps37
  go_upto_region 1 with fail
  rw [← W1.out]
  go_cut [7, 8] from 14 (fun o7 o8 wc => ∃ q, o7 = .int .i64 (W : Int) ∧ o8 = .pointer (some ⟨q, 0, none⟩) ∧ w1.heap.size ≤ q ∧ StyIn wc q ⟨sb, su, st, sf, sk⟩ ∧ Below w1.heap.size w1 wc)
  case first =>
    refine wp_region_noPanic ?_
    refine wp_region_held_drew (S := fun v => Below w1.heap.size w1 v) (by kernel_rfl) (Below.refl _ _).drew (fun hHeld => ?_)
    have HSd := Lib.hid hHeld
    refine wpAnyH_take (i := 0) (v := ?vr0) rfl (by kernel_rfl) (by kernel_rfl) (by kernel_rfl) (fun _ _ _ h => h) (Or.inl ⟨by rfl, ?hr0⟩) (by assumption) ?_
    case hr0 => intro w hSw; (try dsimp only at hSw); obtain ⟨x0, x1, x2, x3, x4, x5, x6, x7, x8, x9⟩ := (HD1.out.below hSw).cells; simp only at x0 x1 x2 x3 x4 x5 x6 x7 x8 x9; obtain ⟨y0, y1⟩ := HDH.out _ (below_next HB1.out hSw); go_simp; try with_reducible rfl
    simp only [List.getElem_toArray, List.getElem_cons_zero, Act.put, List.setIfInBounds_toArray, List.set_cons_zero, List.set_cons_succ]
    refine wpAnyH_take (i := 1) (v := ?vr1) rfl (by kernel_rfl) (by kernel_rfl) (by kernel_rfl) (fun _ _ _ h => h) (Or.inl ⟨by rfl, ?hr1⟩) (by assumption) ?_
    case hr1 => intro w hSw; (try dsimp only at hSw); obtain ⟨x0, x1, x2, x3, x4, x5, x6, x7, x8, x9⟩ := (HD1.out.below hSw).cells; simp only at x0 x1 x2 x3 x4 x5 x6 x7 x8 x9; obtain ⟨y0, y1⟩ := HDH.out _ (below_next HB1.out hSw); go_simp; try with_reducible rfl
    simp only [List.getElem_toArray, List.getElem_cons_succ, List.getElem_cons_zero, Act.put, List.setIfInBounds_toArray, List.set_cons_zero, List.set_cons_succ]
    refine wpAnyH_take (i := 2) (v := ?vr2) rfl (by kernel_rfl) (by kernel_rfl) (by kernel_rfl) (fun _ _ _ h => h) (Or.inl ⟨by rfl, ?hr2⟩) (by assumption) ?_
    case hr2 => intro w hSw; (try dsimp only at hSw); obtain ⟨x0, x1, x2, x3, x4, x5, x6, x7, x8, x9⟩ := (HD1.out.below hSw).cells; simp only at x0 x1 x2 x3 x4 x5 x6 x7 x8 x9; obtain ⟨y0, y1⟩ := HDH.out _ (below_next HB1.out hSw); go_simp; try with_reducible rfl
    simp only [List.getElem_toArray, List.getElem_cons_succ, List.getElem_cons_zero, Act.put, List.setIfInBounds_toArray, List.set_cons_zero, List.set_cons_succ]
    refine wpAnyH_take (i := 3) (v := ?vr3) rfl (by kernel_rfl) (by kernel_rfl) (by kernel_rfl) (fun _ _ _ h => h) (Or.inl ⟨by rfl, ?hr3⟩) (by assumption) ?_
    case hr3 => intro w hSw; (try dsimp only at hSw); obtain ⟨x0, x1, x2, x3, x4, x5, x6, x7, x8, x9⟩ := (HD1.out.below hSw).cells; simp only at x0 x1 x2 x3 x4 x5 x6 x7 x8 x9; obtain ⟨y0, y1⟩ := HDH.out _ (below_next HB1.out hSw); go_simp; try with_reducible rfl
    simp only [List.getElem_toArray, List.getElem_cons_succ, List.getElem_cons_zero, Act.put, List.setIfInBounds_toArray, List.set_cons_zero, List.set_cons_succ]
    refine wpAnyH_take (i := 4) (v := ?vr4) rfl (by kernel_rfl) (by kernel_rfl) (by kernel_rfl) (fun _ _ _ h => h) (Or.inl ⟨by rfl, ?hr4⟩) (by assumption) ?_
    case hr4 => intro w hSw; (try dsimp only at hSw); obtain ⟨x0, x1, x2, x3, x4, x5, x6, x7, x8, x9⟩ := (HD1.out.below hSw).cells; simp only at x0 x1 x2 x3 x4 x5 x6 x7 x8 x9; obtain ⟨y0, y1⟩ := HDH.out _ (below_next HB1.out hSw); go_simp; try with_reducible rfl
    simp only [List.getElem_toArray, List.getElem_cons_succ, List.getElem_cons_zero, Act.put, List.setIfInBounds_toArray, List.set_cons_zero, List.set_cons_succ]
    refine wpAnyH_take (i := 5) (v := ?vr5) rfl (by kernel_rfl) (by kernel_rfl) (by kernel_rfl) (fun _ _ _ h => h) (Or.inl ⟨by rfl, ?hr5⟩) (by assumption) ?_
    case hr5 => intro w hSw; (try dsimp only at hSw); obtain ⟨x0, x1, x2, x3, x4, x5, x6, x7, x8, x9⟩ := (HD1.out.below hSw).cells; simp only at x0 x1 x2 x3 x4 x5 x6 x7 x8 x9; obtain ⟨y0, y1⟩ := HDH.out _ (below_next HB1.out hSw); go_simp; try with_reducible rfl
    simp only [List.getElem_toArray, List.getElem_cons_succ, List.getElem_cons_zero, Act.put, List.setIfInBounds_toArray, List.set_cons_zero, List.set_cons_succ]
    refine wpAnyH_take (i := 6) (v := ?vr6) rfl (by kernel_rfl) (by kernel_rfl) (by kernel_rfl) (fun _ _ _ h => h) (Or.inl ⟨by rfl, ?hr6⟩) (by assumption) ?_
    case hr6 => intro w hSw; (try dsimp only at hSw); obtain ⟨x0, x1, x2, x3, x4, x5, x6, x7, x8, x9⟩ := (HD1.out.below hSw).cells; simp only at x0 x1 x2 x3 x4 x5 x6 x7 x8 x9; obtain ⟨y0, y1⟩ := HDH.out _ (below_next HB1.out hSw); go_simp; try with_reducible rfl
    simp only [List.getElem_toArray, List.getElem_cons_succ, List.getElem_cons_zero, Act.put, List.setIfInBounds_toArray, List.set_cons_zero, List.set_cons_succ]
    refine wpAnyH_ready (rs := [7, 8]) (by kernel_rfl) (by simp) ?_
    refine AllReadyH.cons rfl (fun K hK => ?_) (AllReadyH.cons rfl (fun K hK => ?_) AllReadyH.nil)
    · go_simp
      refine (HTM.out w1.drew).mono ?_
      rintro e v1 ⟨rfl, hbx⟩
      have HS1 := Lib.hid (below_next HSd.out hbx)
      have hz1 := HS1.out.size
      clear hbx
      dsimp only
      refine hK.out _ _ ?_ (fun hHeld => ?_)
      · exact HS1.out
      clear hK K
      refine wpAnyH_ready (rs := [8]) (by kernel_rfl) (by simp) ?_
      refine AllReadyH.cons rfl (fun K hK => ?_) AllReadyH.nil
      go_simp
      try dsimp only
      have hy := heap_alloc_new v1 (.cells #[.bool false, .bool false, .bool false, .int .i64 0, .int .i64 0] 35)
      have HS2 := Lib.hid (HS1.out.alloc (HS1.out.size) (.cells #[.bool false, .bool false, .bool false, .int .i64 0, .int .i64 0] 35))
      refine hK.out _ _ ?_ (fun hHeld => ?_)
      · exact HS2.out
      clear hK K
      generalize v1.alloc (.cells #[.bool false, .bool false, .bool false, .int .i64 0, .int .i64 0] 35) = v2 at *
      have HY := Lib.hid (show StyIn v2 v1.heap.size KM.zero from hy)
      have n0 := HY.out.thaw 0; have n1 := HY.out.thaw 1; have n2 := HY.out.thaw 2; have n3 := HY.out.thaw 3; have n4 := HY.out.thaw 4
      obtain ⟨z0, z1, z2, z3, z4⟩ := HY.out.cells
      simp only [KM.zero] at z0 z1 z2 z3 z4
      clear hy
      refine wpAnyH_ready (rs := [9]) (by kernel_rfl) (by simp) ?_
      refine AllReadyH.cons rfl (fun K hK => ?_) AllReadyH.nil
      go_simp
      refine hK.out _ _ ?_ (fun hHeld => ?_)
      · exact HS2.out
      clear hK K
      refine wpAnyH_ready (rs := [10]) (by kernel_rfl) (by simp) ?_
      refine AllReadyH.cons rfl (fun K hK => ?_) AllReadyH.nil
      go_simp
      refine hK.out _ _ ?_ (fun hHeld => ?_)
      · exact setSty_below HS2.out hz1 ⟨sb, su, st, sf, sk⟩
      clear hK K
      refine wpAnyH_done (by kernel_rfl) ?_ _
      refine NoPanic.normal ?_
      go_wp2_with fail
      go_meet
      case rel => exact ⟨v1.heap.size, rfl, rfl, hz1, setSty_at HY.out ⟨sb, su, st, sf, sk⟩, setSty_below HS2.out hz1 ⟨sb, su, st, sf, sk⟩⟩
    · go_simp
      try dsimp only
      obtain ⟨v1, hv1⟩ : ∃ v1, v1 = (w1.alloc (.cells #[.bool false, .bool false, .bool false, .int .i64 0, .int .i64 0] 35)).drew := ⟨_, rfl⟩
      rw [← hv1]
      have HS1 := Lib.hid (show Below w1.heap.size w1 v1 by rw [hv1]; exact ((Below.refl _ _).alloc (Nat.le_refl _) _).drew)
      have hy : StyIn v1 w1.heap.size KM.zero := by rw [hv1]; exact heap_alloc_new w1 _
      clear hv1
      refine hK.out _ _ ?_ (fun hHeld => ?_)
      · exact HS1.out
      clear hK K
      have HY := Lib.hid hy
      have hz1 := HS1.out.size
      clear hy
      refine wpAnyH_ready (rs := [7]) (by kernel_rfl) (by simp) ?_
      refine AllReadyH.cons rfl (fun K hK => ?_) AllReadyH.nil
      go_simp
      refine (HTM.out v1).mono ?_
      rintro e v2 ⟨rfl, hbx⟩
      have HS2 := Lib.hid (below_next HS1.out hbx)
      have HY2 := Lib.hid (HY.out.below hbx)
      have n0 := HY2.out.thaw 0; have n1 := HY2.out.thaw 1; have n2 := HY2.out.thaw 2; have n3 := HY2.out.thaw 3; have n4 := HY2.out.thaw 4
      obtain ⟨z0, z1, z2, z3, z4⟩ := HY2.out.cells
      simp only [KM.zero] at z0 z1 z2 z3 z4
      clear hbx
      dsimp only
      refine hK.out _ _ ?_ (fun hHeld => ?_)
      · exact HS2.out
      clear hK K
      refine wpAnyH_ready (rs := [9]) (by kernel_rfl) (by simp) ?_
      refine AllReadyH.cons rfl (fun K hK => ?_) AllReadyH.nil
      go_simp
      refine hK.out _ _ ?_ (fun hHeld => ?_)
      · exact HS2.out
      clear hK K
      refine wpAnyH_ready (rs := [10]) (by kernel_rfl) (by simp) ?_
      refine AllReadyH.cons rfl (fun K hK => ?_) AllReadyH.nil
      go_simp
      refine hK.out _ _ ?_ (fun hHeld => ?_)
      · exact setSty_below HS2.out (Nat.le_refl _) ⟨sb, su, st, sf, sk⟩
      clear hK K
      refine wpAnyH_done (by kernel_rfl) ?_ _
      refine NoPanic.normal ?_
      go_wp2_with fail
      go_meet
      case rel => exact ⟨w1.heap.size, rfl, rfl, Nat.le_refl _, setSty_at HY2.out ⟨sb, su, st, sf, sk⟩, setSty_below HS2.out (Nat.le_refl _) ⟨sb, su, st, sf, sk⟩⟩
  case rest =>
    obtain ⟨q, rfl, rfl, hq1, hst, hbc⟩ := hcut
    rename World => w2
    have HB2 := Lib.hid (below_next HB1.out hbc)
    have HD2 := Lib.hid (HD1.out.below hbc)
    have HS2 := Lib.hid hst
    have z12 := hbc.size
    obtain ⟨x0, x1, x2, x3, x4, x5, x6, x7, x8, x9⟩ := HD2.out.cells
    simp only at x0 x1 x2 x3 x4 x5 x6 x7 x8 x9
    clear hst hbc hq1
    go_wp2_with fail
    refine (HW.out w2).mono ?_
    rintro e w3 ⟨rfl, hw3⟩
    rw [hw3]
    clear hw3 w3 x0 x1 x2 x3 x4 x5 x6 x7 x8 x9
    go_wp2_with fail
    go_loopw [10, 27] (fun v i wr => ∃ k : Nat, k ≤ W ∧ i = .int .i64 (k : Int) ∧ Below w2.heap.size w2 wr ∧ celE.Own wr w2.heap.size v ((List.range k).map F)) (fun _ i _ => W - (RowKit.intOf i).toNat)
    case atStart => exact ⟨0, Nat.zero_le _, rfl, Below.refl _ _, El.Own.nil _ _⟩
    case round =>
      obtain ⟨k, hk, rfl, hbr, ho⟩ := hrel
      have HBR := Lib.hid hbr
      have HO := Lib.hid ho
      have zr := hbr.size
      clear hbr ho
      by_cases hlt : k < W
      · have gk : decide ((k : Int) < (W : Int)) = true := by simp; omega
        have gn : decide (k < W) = true := by simp; omega
        have hkl : k < l.length := by rw [HLEN.out]; exact hlt
        have HB2r := Lib.hid (HB2.out.trans (HBR.out.mono HB2.out.size))
        obtain ⟨y0, y1⟩ := HDH.out wr HB2r.out
        obtain ⟨bY, oY, e', hbY, c0', c1, c2, c3, c4, c5⟩ := cel_at (HRY.out.below HB2r.out) hkl
        subst e'
        have HSU := Lib.hid (map_range_succ F k)
        have hmx : ((List.range k).map F).length ≤ 60 := by rw [List.length_map, List.length_range]; omega
        generalize (List.range k).map F = L at *
        have hkI : (k : Int) < (W : Int) := by omega
        have hgd : l[k]?.getD ⟨0, zero⟩ = l[k] := by simp [hkl]
        have HGD := Lib.hid hgd
        clear hgd
        have HLK := Lib.hid (fun (j : Nat) (hj : j < W) => (cel_at (HRY.out.below HB2r.out) (show j < l.length by rw [HLEN.out]; exact hj)))
        obtain ⟨wA, hwA⟩ : ∃ wA, wA = wr.alloc (.cells #[.int .i32 (l[k]).rune, .bool (l[k]).sty.bold, .bool (l[k]).sty.under, .bool (l[k]).sty.turned, .int .i64 (l[k]).sty.fore, .int .i64 (l[k]).sty.back] 37) := ⟨_, rfl⟩
        have hbA : Below wr.heap.size wr wA := by rw [hwA]; exact (Below.refl _ _).alloc (Nat.le_refl _) _
        have HCA := Lib.hid (show CelAt wA wr.heap.size l[k] by rw [hwA]; exact CelAt.fresh wr l[k])
        have HBA := Lib.hid hbA
        have WA := Lib.hid hwA
        clear hwA hbA
        have hlk : ∃ cur, cur = l[k] := ⟨_, rfl⟩
        obtain ⟨cur, hcur⟩ := hlk
        have HCUR := Lib.hid hcur
        rw [← hcur] at c0' c1 c2 c3 c4 c5 HCA WA HGD
        clear hcur
        obtain ⟨cr, ⟨cbo, cu, ct, cf, cba⟩⟩ := cur
        simp only at c0' c1 c2 c3 c4 c5 WA
        go_upto_region 8 with fail
        rw [← WA.out]
        clear y0 y1 c0' c1 c2 c3 c4 c5
        obtain ⟨x0, x1, x2, x3, x4, x5, x6, x7, x8, x9⟩ := (HD2.out.below (HBR.out.trans (HBA.out.mono zr))).cells
        simp only at x0 x1 x2 x3 x4 x5 x6 x7 x8 x9
        go_wp2_with fail
        refine (HKD.out wA).mono ?_
        rintro e w5 ⟨rfl, hb5⟩
        have HB5 := Lib.hid (below_next HBA.out hb5)
        have HC5 := Lib.hid (HCA.out.below hb5 HCA.out.lt)
        have HB25 := Lib.hid (HB2r.out.trans (HB5.out.mono HB2r.out.size))
        have HD5 := Lib.hid (HD2.out.below (HBR.out.trans (HB5.out.mono zr)))
        have HS5 := Lib.hid (HS2.out.below (HBR.out.trans (HB5.out.mono zr)))
        clear hb5 x0 x1 x2 x3 x4 x5 x6 x7 x8 x9
        obtain ⟨x0, x1, x2, x3, x4, x5, x6, x7, x8, x9⟩ := HD5.out.cells
        simp only at x0 x1 x2 x3 x4 x5 x6 x7 x8 x9
        obtain ⟨s0, s1, s2, s3, s4⟩ := HS5.out.cells
        simp only at s0 s1 s2 s3 s4
        obtain ⟨y0, y1⟩ := HDH.out w5 HB25.out
        obtain ⟨p0, p1, p2, p3, p4, p5⟩ := HC5.out.cells
        simp only at p0 p1 p2 p3 p4 p5
        have f0 := HC5.out.thaw 0; have f1 := HC5.out.thaw 1; have f2 := HC5.out.thaw 2; have f3 := HC5.out.thaw 3; have f4 := HC5.out.thaw 4; have f5 := HC5.out.thaw 5
        obtain ⟨mc, hmc⟩ : ∃ mc, mc = F k := ⟨_, rfl⟩
        rw [← hmc] at HSU
        have HMC := Lib.hid (hmc.trans (HF.out k))
        clear hmc
        go_upto_block 2 with fail
        go_cut [] from 28 to 135 (fun wc => CelAt wc wr.heap.size mc ∧ Below wr.heap.size wr wc)
        case first =>
          by_cases e1 : a ≤ (k : Int)
          · have t1 : decide (a ≤ (k : Int)) = true := by simp [e1]
            have hs : IntKind.i64.wrap ((k : Int) - (n : Int)) = (k : Int) - (n : Int) := by rw [IntKind.wrap_i64]; omega
            by_cases e2 : a ≤ (k : Int) - (n : Int)
            · have t2 : decide (a ≤ (k : Int) - (n : Int)) = true := by simp [e2]
              obtain ⟨J, hJ⟩ : ∃ J : Nat, J = k - n := ⟨_, rfl⟩
              have hJI : (k : Int) - (n : Int) = (J : Int) := by omega
              rw [hJI] at hs t2
              have hJW : J < W := by omega
              have hJl : J < l.length := by rw [HLEN.out]; exact hJW
              have hJW' : (J : Int) < (W : Int) := by omega
              have hgj : l[J]?.getD ⟨0, zero⟩ = l[J] := by simp [hJl]
              obtain ⟨bZ, oZ, e', hbZ, j0, j1, j2, j3, j4, j5⟩ := cel_at (HRY.out.below HB25.out) hJl
              have HGJ := Lib.hid hgj
              simp only [Option.some.injEq, Addr.mk.injEq, and_true] at e'
              obtain ⟨rfl, rfl⟩ := e'
              obtain ⟨cj, hcj⟩ : ∃ cj, cj = l[J] := ⟨_, rfl⟩
              rw [← hcj] at j0 j1 j2 j3 j4 j5 HGJ
              clear hcj hgj
              obtain ⟨jr, ⟨jb, ju, jt, jf, jk⟩⟩ := cj
              simp only at j0 j1 j2 j3 j4 j5
              have HJ := Lib.hid hJ
              have e3 : a ≤ (J : Int) := by omega
              clear hJ
              go_wp2_with fail
              go_meet
              case rel =>
                have e : mc = ⟨jr, ⟨jb, ju, jt, jf, jk⟩⟩ := by rw [HMC.out]; unfold mcell; simp only [HK.out]; rw [← HJ.out]; simp [e1, e2, HGJ.out]
                rw [e]
                exact ⟨setCel_at HC5.out ⟨jr, ⟨jb, ju, jt, jf, jk⟩⟩, setCel_below' HB5.out (Nat.le_refl _) ⟨jr, ⟨jb, ju, jt, jf, jk⟩⟩⟩
            · have t2 : decide (a ≤ (k : Int) - (n : Int)) = false := by simp [e2]
              go_wp2_with fail
              have hrd := HREAD.out w5 HB25.out (-1) 0
              rw [HMRN.out] at hrd
              simp only [celV, KM.blankS] at hrd
              refine hrd.mono ?_
              rintro e v6 ⟨rfl, hb6⟩
              have HC6 := Lib.hid (HC5.out.below hb6 HC5.out.lt)
              have HB6 := Lib.hid (below_next HB5.out hb6)
              clear hb6 p0 p1 p2 p3 p4 p5 f0 f1 f2 f3 f4 f5
              obtain ⟨p0, p1, p2, p3, p4, p5⟩ := HC6.out.cells
              simp only at p0 p1 p2 p3 p4 p5
              have f0 := HC6.out.thaw 0; have f1 := HC6.out.thaw 1; have f2 := HC6.out.thaw 2; have f3 := HC6.out.thaw 3; have f4 := HC6.out.thaw 4; have f5 := HC6.out.thaw 5
              go_wp2_with fail
              go_meet
              case rel =>
                have e : mc = ⟨32, ⟨false, false, false, 0, sk⟩⟩ := by rw [HMC.out]; unfold mcell; simp only [HK.out]; simp [e1, eq_false (show ¬ a ≤ (k : Int) - (n : Int) by omega), KM.blankS, HST.out]
                rw [e]
                exact ⟨setCel_at HC6.out ⟨32, ⟨false, false, false, 0, sk⟩⟩, setCel_below' HB6.out (Nat.le_refl _) ⟨32, ⟨false, false, false, 0, sk⟩⟩⟩
          · have t1 : decide (a ≤ (k : Int)) = false := by simp [e1]
            go_wp2_with fail
            go_meet
            case rel =>
              have e : mc = ⟨cr, ⟨cbo, cu, ct, cf, cba⟩⟩ := by rw [HMC.out]; unfold mcell; simp only [HK.out]; simp [eq_false (show ¬ a ≤ (k : Int) by omega), HGD.out]
              rw [e]
              exact ⟨HC5.out, HB5.out⟩
        case rest =>
          obtain ⟨hcx, hbx⟩ := hcut
          rename World => w6
          have HB6 := Lib.hid (HBR.out.trans (hbx.mono zr))
          have HO6 := Lib.hid (HO.out.below hbx)
          have z6 := hbx.size
          obtain ⟨v0, v1, v2, v3, v4, v5⟩ := hcx.cells
          clear hcx hbx HMC x0 x1 x2 x3 x4 x5 x6 x7 x8 x9 s0 s1 s2 s3 s4 y0 y1 p0 p1 p2 p3 p4 p5 f0 f1 f2 f3 f4 f5
          obtain ⟨mr, ⟨m0, m1, m2, m3, m4⟩⟩ := mc
          simp only at v0 v1 v2 v3 v4 v5
          go_wp2_with (at_builtin; refine celE.wp_append1 rfl (.tmp 131) (.tmp 133) rfl w2.heap.size _ L rfl HO6.out ⟨mr, ⟨m0, m1, m2, m3, m4⟩⟩ #[.int .i32 mr, .bool m0, .bool m1, .bool m2, .int .i64 m3, .int .i64 m4] 37 rfl rfl ?c1 ?c2 (by omega) ?_)
          case c1 => simp only [celE]; omega
          case c2 => unfold maxLen; omega
          intro vn y7 ho1 hg1
          have HO7 := Lib.hid ho1
          have HB7 := Lib.hid (HB6.out.trans (HO6.out.grow_below hg1 (by omega)))
          clear ho1 hg1
          go_wp2_with fail
          go_roundw
          case rel => exact ⟨k + 1, by omega, by simp, HB7.out, by rw [HSU.out]; exact HO7.out⟩
          case measure => simp [RowKit.intOf]; omega
      · have gk : decide ((k : Int) < (W : Int)) = false := by simp; omega
        have gn : decide (k < W) = false := by simp; omega
        obtain rfl : k = W := by omega
        have ho := HO.out
        rw [← HML.out] at ho
        obtain ⟨Av, cv, hv, -, -, hAv, hrv⟩ := ho.row
        have hml : M.length = k := by rw [HML.out, List.length_map, List.length_range]
        have HRM := Lib.hid (rmend_ok wr M Av cv wr.heap.size hrv hAv (by omega))
        have HB3 := Lib.hid (HB2.out.trans (HBR.out.mono HB2.out.size))
        rw [hml] at hv HRM
        clear ho hrv hAv hml
        subst hv
        go_wp2_with fail
        refine HRM.out.mono ?_
        rintro e w6 ⟨v6, rfl, ho6, hb6⟩
        have HO6 := Lib.hid (ho6.mono HB3.out.size)
        have HB6 := Lib.hid (below_next HB3.out hb6)
        clear ho6 hb6
        go_wp2_with fail
        go_ret
        exact ⟨v6, rfl, HO6.out, HB6.out⟩

set_option maxRecDepth 100000 in
set_option maxHeartbeats 4000000 in
theorem line_ok5 (w : World) {N : Nat → Prop} {A : Option Addr} {g : Gr} (hok : g.Ok) (h : LinesAt w N A g.ls) (c : Nat) (d : De) {Y n : Nat} (hY : Y < g.h) (hn : min (max d.c 0) (g.w : Int) = (n : Int)) (ha : 0 ≤ d.a) (hk : d.k = 5) :
    Calls Tryd.prog 37 #[.slice A g.ls.length c, deV d, .int .i64 (Y : Int)] w (CelsPost w (mend (mline d (g.line Y) n))) := by
  obtain ⟨w1, hw1⟩ : ∃ w1, w1 = w.alloc (.cells #[.int .i64 d.kind, .int .i64 d.a, .int .i64 d.b, .int .i64 d.c, .int .i32 d.cel.rune, .bool d.cel.sty.bold, .bool d.cel.sty.under, .bool d.cel.sty.turned, .int .i64 d.cel.sty.fore, .int .i64 d.cel.sty.back] 39) := ⟨_, rfl⟩
  have hb1 : Below w.heap.size w w1 := by rw [hw1]; exact (Below.refl _ _).alloc (Nat.le_refl _) _
  have hd1 : DeIn w1 w.heap.size d := by rw [hw1]; exact DeIn.fresh w d
  have HD1 := Lib.hid hd1
  have HB1 := Lib.hid hb1
  have W1 := Lib.hid hw1
  have hlen := hok.len
  have hgh := hok.h2
  have hgw := hok.w2
  have hgw1 := hok.w1
  have hh1 := hok.h1
  have hlo := hok.line hY
  have hl0 := hok.line (y := 0) (by omega)
  have hln0 : g.ls[0]'(by omega) = g.line 0 := by
    have := line_get hok (y := 0) (by omega)
    rw [List.getElem?_eq_getElem (by omega)] at this
    exact Option.some.inj this
  have hlnY : g.ls[Y]'(by omega) = g.line Y := by
    have := line_get hok hY
    rw [List.getElem?_eq_getElem (by omega)] at this
    exact Option.some.inj this
  have HREAD := Lib.hid (fun (v : World) (hv : Below w.heap.size w v) (x y : Int) => read_ok v (h.below hv) c x y (stame d.cel.sty))
  obtain ⟨b, off, A0, c0, hA, hbl, dh0, -, -⟩ := h.at_ (j := 0) (by omega)
  obtain ⟨b', off', AY, cY, hA', -, dhY, rY, -⟩ := h.at_ (j := Y) (by omega)
  rw [hA] at hA'
  simp only [Option.some.injEq, Addr.mk.injEq, and_true] at hA'
  obtain ⟨rfl, rfl⟩ := hA'
  rw [hln0, hl0.len] at dh0
  rw [hlnY, hlo.len] at dhY
  rw [hlnY] at rY
  have hMRD : ∀ x : Nat, mread g.ls (x : Int) (Y : Int) (stame d.cel.sty) = if x < g.w then (g.line Y).getD x ⟨0, zero⟩ else KM.blankS (stame d.cel.sty) := fun x => by
    by_cases hx : x < g.w
    · rw [if_pos hx]; exact mread_in hok hx hY _
    · rw [if_neg hx]; exact mread_out hok (by omega) _
  have HMRD := Lib.hid hMRD
  have HMRN := Lib.hid (show mread g.ls (-1) 0 (stame d.cel.sty) = KM.blankS (stame d.cel.sty) from mread_left _ _ _)
  subst hA
  have HTM := Lib.hid (fun v => ltame_ok v d.cel.sty)
  have HKD : Hid (∀ v, Calls Tryd.prog 35 #[deV d] v fun e w' => e = .returned (.int .i64 5) ∧ Below v.heap.size v w') := Lib.hid (fun v => by
    have := kind_ok v d
    rw [hk] at this
    exact this)
  have HLEN := Lib.hid hlo.len
  obtain ⟨F, hF⟩ : ∃ F, F = mcell d (g.line Y) n := ⟨_, rfl⟩
  have HF := Lib.hid (fun k : Nat => show F k = mcell d (g.line Y) n k by rw [hF])
  obtain ⟨M, hM⟩ : ∃ M, M = mline d (g.line Y) n := ⟨_, rfl⟩
  have HML : Hid (M = (List.range g.w).map F) := Lib.hid (by rw [hM, hF]; unfold mline; rw [hlo.len])
  rw [← hM]
  have hnw : n ≤ g.w := by omega
  have HDH := Lib.hid (fun (v : World) (hv : Below w.heap.size w v) => show v.cell? ⟨b, off, none⟩ = some (.slice A0 g.w c0) ∧ v.cell? ⟨b, off + Y, none⟩ = some (.slice AY g.w cY) from ⟨(hv.cell (p := ⟨b, off, none⟩) hbl).trans dh0, (hv.cell (p := ⟨b, off + Y, none⟩) hbl).trans dhY⟩)
  have HRY := Lib.hid rY
  have HW : Hid (∀ v, Calls Tryd.prog 18 #[.int .i64 d.c, .int .i64 0, .int .i64 (g.w : Int)] v fun e w' => e = .returned (.int .i64 (n : Int)) ∧ w' = v) := Lib.hid (fun v => by have := within_ok v d.c 0 g.w; rwa [hn] at this)
  have hlY : Y < g.ls.length := by omega
  have hYI : (Y : Int) < (g.ls.length : Int) := by omega
  have h0I : 0 < g.ls.length := by omega
  have HK := Lib.hid hk
  clear hw1 hb1 hd1 hlen hh1 hlo hl0 hln0 hlnY dh0 dhY rY hMRD hn h hk hM hF
  have HOK := Lib.hid hok
  clear hok
  obtain ⟨kd, a, bb, cc, ⟨r, ⟨bo, u, t, f, ba⟩⟩⟩ := d
  simp only [deV, styV] at *
  generalize hst : stame ⟨bo, u, t, f, ba⟩ = s' at *
  obtain ⟨sb, su, st, sf, sk⟩ := s'
  have HST := Lib.hid hst
  clear hst
  simp only at *
  generalize g.ls.length = gl at *
  generalize hgln : g.line Y = l at *
  have HGLN := Lib.hid hgln
  clear hgln
  generalize hWW : g.w = W at *
  clear hWW HOK hgh
  generalize hGG : g.ls = LL at *
  clear hGG
  go_enter Tryd.func37, Tryd.ntmps37
  go_upto_region 1 with fail
  rw [← W1.out]
  go_cut [7, 8] from 14 (fun o7 o8 wc => ∃ q, o7 = .int .i64 (W : Int) ∧ o8 = .pointer (some ⟨q, 0, none⟩) ∧ w1.heap.size ≤ q ∧ StyIn wc q ⟨sb, su, st, sf, sk⟩ ∧ Below w1.heap.size w1 wc)
  case first =>
    refine wp_region_noPanic ?_
    refine wp_region_held_drew (S := fun v => Below w1.heap.size w1 v) (by kernel_rfl) (Below.refl _ _).drew (fun hHeld => ?_)
    have HSd := Lib.hid hHeld
    refine wpAnyH_take (i := 0) (v := ?vr0) rfl (by kernel_rfl) (by kernel_rfl) (by kernel_rfl) (fun _ _ _ h => h) (Or.inl ⟨by rfl, ?hr0⟩) (by assumption) ?_
    case hr0 => intro w hSw; (try dsimp only at hSw); obtain ⟨x0, x1, x2, x3, x4, x5, x6, x7, x8, x9⟩ := (HD1.out.below hSw).cells; simp only at x0 x1 x2 x3 x4 x5 x6 x7 x8 x9; obtain ⟨y0, y1⟩ := HDH.out _ (below_next HB1.out hSw); go_simp; try with_reducible rfl
    simp only [List.getElem_toArray, List.getElem_cons_zero, Act.put, List.setIfInBounds_toArray, List.set_cons_zero, List.set_cons_succ]
    refine wpAnyH_take (i := 1) (v := ?vr1) rfl (by kernel_rfl) (by kernel_rfl) (by kernel_rfl) (fun _ _ _ h => h) (Or.inl ⟨by rfl, ?hr1⟩) (by assumption) ?_
    case hr1 => intro w hSw; (try dsimp only at hSw); obtain ⟨x0, x1, x2, x3, x4, x5, x6, x7, x8, x9⟩ := (HD1.out.below hSw).cells; simp only at x0 x1 x2 x3 x4 x5 x6 x7 x8 x9; obtain ⟨y0, y1⟩ := HDH.out _ (below_next HB1.out hSw); go_simp; try with_reducible rfl
    simp only [List.getElem_toArray, List.getElem_cons_succ, List.getElem_cons_zero, Act.put, List.setIfInBounds_toArray, List.set_cons_zero, List.set_cons_succ]
    refine wpAnyH_take (i := 2) (v := ?vr2) rfl (by kernel_rfl) (by kernel_rfl) (by kernel_rfl) (fun _ _ _ h => h) (Or.inl ⟨by rfl, ?hr2⟩) (by assumption) ?_
    case hr2 => intro w hSw; (try dsimp only at hSw); obtain ⟨x0, x1, x2, x3, x4, x5, x6, x7, x8, x9⟩ := (HD1.out.below hSw).cells; simp only at x0 x1 x2 x3 x4 x5 x6 x7 x8 x9; obtain ⟨y0, y1⟩ := HDH.out _ (below_next HB1.out hSw); go_simp; try with_reducible rfl
    simp only [List.getElem_toArray, List.getElem_cons_succ, List.getElem_cons_zero, Act.put, List.setIfInBounds_toArray, List.set_cons_zero, List.set_cons_succ]
    refine wpAnyH_take (i := 3) (v := ?vr3) rfl (by kernel_rfl) (by kernel_rfl) (by kernel_rfl) (fun _ _ _ h => h) (Or.inl ⟨by rfl, ?hr3⟩) (by assumption) ?_
    case hr3 => intro w hSw; (try dsimp only at hSw); obtain ⟨x0, x1, x2, x3, x4, x5, x6, x7, x8, x9⟩ := (HD1.out.below hSw).cells; simp only at x0 x1 x2 x3 x4 x5 x6 x7 x8 x9; obtain ⟨y0, y1⟩ := HDH.out _ (below_next HB1.out hSw); go_simp; try with_reducible rfl
    simp only [List.getElem_toArray, List.getElem_cons_succ, List.getElem_cons_zero, Act.put, List.setIfInBounds_toArray, List.set_cons_zero, List.set_cons_succ]
    refine wpAnyH_take (i := 4) (v := ?vr4) rfl (by kernel_rfl) (by kernel_rfl) (by kernel_rfl) (fun _ _ _ h => h) (Or.inl ⟨by rfl, ?hr4⟩) (by assumption) ?_
    case hr4 => intro w hSw; (try dsimp only at hSw); obtain ⟨x0, x1, x2, x3, x4, x5, x6, x7, x8, x9⟩ := (HD1.out.below hSw).cells; simp only at x0 x1 x2 x3 x4 x5 x6 x7 x8 x9; obtain ⟨y0, y1⟩ := HDH.out _ (below_next HB1.out hSw); go_simp; try with_reducible rfl
    simp only [List.getElem_toArray, List.getElem_cons_succ, List.getElem_cons_zero, Act.put, List.setIfInBounds_toArray, List.set_cons_zero, List.set_cons_succ]
    refine wpAnyH_take (i := 5) (v := ?vr5) rfl (by kernel_rfl) (by kernel_rfl) (by kernel_rfl) (fun _ _ _ h => h) (Or.inl ⟨by rfl, ?hr5⟩) (by assumption) ?_
    case hr5 => intro w hSw; (try dsimp only at hSw); obtain ⟨x0, x1, x2, x3, x4, x5, x6, x7, x8, x9⟩ := (HD1.out.below hSw).cells; simp only at x0 x1 x2 x3 x4 x5 x6 x7 x8 x9; obtain ⟨y0, y1⟩ := HDH.out _ (below_next HB1.out hSw); go_simp; try with_reducible rfl
    simp only [List.getElem_toArray, List.getElem_cons_succ, List.getElem_cons_zero, Act.put, List.setIfInBounds_toArray, List.set_cons_zero, List.set_cons_succ]
    refine wpAnyH_take (i := 6) (v := ?vr6) rfl (by kernel_rfl) (by kernel_rfl) (by kernel_rfl) (fun _ _ _ h => h) (Or.inl ⟨by rfl, ?hr6⟩) (by assumption) ?_
    case hr6 => intro w hSw; (try dsimp only at hSw); obtain ⟨x0, x1, x2, x3, x4, x5, x6, x7, x8, x9⟩ := (HD1.out.below hSw).cells; simp only at x0 x1 x2 x3 x4 x5 x6 x7 x8 x9; obtain ⟨y0, y1⟩ := HDH.out _ (below_next HB1.out hSw); go_simp; try with_reducible rfl
    simp only [List.getElem_toArray, List.getElem_cons_succ, List.getElem_cons_zero, Act.put, List.setIfInBounds_toArray, List.set_cons_zero, List.set_cons_succ]
    refine wpAnyH_ready (rs := [7, 8]) (by kernel_rfl) (by simp) ?_
    refine AllReadyH.cons rfl (fun K hK => ?_) (AllReadyH.cons rfl (fun K hK => ?_) AllReadyH.nil)
    · go_simp
      refine (HTM.out w1.drew).mono ?_
      rintro e v1 ⟨rfl, hbx⟩
      have HS1 := Lib.hid (below_next HSd.out hbx)
      have hz1 := HS1.out.size
      clear hbx
      dsimp only
      refine hK.out _ _ ?_ (fun hHeld => ?_)
      · exact HS1.out
      clear hK K
      refine wpAnyH_ready (rs := [8]) (by kernel_rfl) (by simp) ?_
      refine AllReadyH.cons rfl (fun K hK => ?_) AllReadyH.nil
      go_simp
      try dsimp only
      have hy := heap_alloc_new v1 (.cells #[.bool false, .bool false, .bool false, .int .i64 0, .int .i64 0] 35)
      have HS2 := Lib.hid (HS1.out.alloc (HS1.out.size) (.cells #[.bool false, .bool false, .bool false, .int .i64 0, .int .i64 0] 35))
      refine hK.out _ _ ?_ (fun hHeld => ?_)
      · exact HS2.out
      clear hK K
      generalize v1.alloc (.cells #[.bool false, .bool false, .bool false, .int .i64 0, .int .i64 0] 35) = v2 at *
      have HY := Lib.hid (show StyIn v2 v1.heap.size KM.zero from hy)
      have n0 := HY.out.thaw 0; have n1 := HY.out.thaw 1; have n2 := HY.out.thaw 2; have n3 := HY.out.thaw 3; have n4 := HY.out.thaw 4
      obtain ⟨z0, z1, z2, z3, z4⟩ := HY.out.cells
      simp only [KM.zero] at z0 z1 z2 z3 z4
      clear hy
      refine wpAnyH_ready (rs := [9]) (by kernel_rfl) (by simp) ?_
      refine AllReadyH.cons rfl (fun K hK => ?_) AllReadyH.nil
      go_simp
      refine hK.out _ _ ?_ (fun hHeld => ?_)
      · exact HS2.out
      clear hK K
      refine wpAnyH_ready (rs := [10]) (by kernel_rfl) (by simp) ?_
      refine AllReadyH.cons rfl (fun K hK => ?_) AllReadyH.nil
      go_simp
      refine hK.out _ _ ?_ (fun hHeld => ?_)
      · exact setSty_below HS2.out hz1 ⟨sb, su, st, sf, sk⟩
      clear hK K
      refine wpAnyH_done (by kernel_rfl) ?_ _
      refine NoPanic.normal ?_
      go_wp2_with fail
      go_meet
      case rel => exact ⟨v1.heap.size, rfl, rfl, hz1, setSty_at HY.out ⟨sb, su, st, sf, sk⟩, setSty_below HS2.out hz1 ⟨sb, su, st, sf, sk⟩⟩
    · go_simp
      try dsimp only
      obtain ⟨v1, hv1⟩ : ∃ v1, v1 = (w1.alloc (.cells #[.bool false, .bool false, .bool false, .int .i64 0, .int .i64 0] 35)).drew := ⟨_, rfl⟩
      rw [← hv1]
      have HS1 := Lib.hid (show Below w1.heap.size w1 v1 by rw [hv1]; exact ((Below.refl _ _).alloc (Nat.le_refl _) _).drew)
      have hy : StyIn v1 w1.heap.size KM.zero := by rw [hv1]; exact heap_alloc_new w1 _
      clear hv1
      refine hK.out _ _ ?_ (fun hHeld => ?_)
      · exact HS1.out
      clear hK K
      have HY := Lib.hid hy
      have hz1 := HS1.out.size
      clear hy
      refine wpAnyH_ready (rs := [7]) (by kernel_rfl) (by simp) ?_
      refine AllReadyH.cons rfl (fun K hK => ?_) AllReadyH.nil
      go_simp
      refine (HTM.out v1).mono ?_
      rintro e v2 ⟨rfl, hbx⟩
      have HS2 := Lib.hid (below_next HS1.out hbx)
      have HY2 := Lib.hid (HY.out.below hbx)
      have n0 := HY2.out.thaw 0; have n1 := HY2.out.thaw 1; have n2 := HY2.out.thaw 2; have n3 := HY2.out.thaw 3; have n4 := HY2.out.thaw 4
      obtain ⟨z0, z1, z2, z3, z4⟩ := HY2.out.cells
      simp only [KM.zero] at z0 z1 z2 z3 z4
      clear hbx
      dsimp only
      refine hK.out _ _ ?_ (fun hHeld => ?_)
      · exact HS2.out
      clear hK K
      refine wpAnyH_ready (rs := [9]) (by kernel_rfl) (by simp) ?_
      refine AllReadyH.cons rfl (fun K hK => ?_) AllReadyH.nil
      go_simp
      refine hK.out _ _ ?_ (fun hHeld => ?_)
      · exact HS2.out
      clear hK K
      refine wpAnyH_ready (rs := [10]) (by kernel_rfl) (by simp) ?_
      refine AllReadyH.cons rfl (fun K hK => ?_) AllReadyH.nil
      go_simp
      refine hK.out _ _ ?_ (fun hHeld => ?_)
      · exact setSty_below HS2.out (Nat.le_refl _) ⟨sb, su, st, sf, sk⟩
      clear hK K
      refine wpAnyH_done (by kernel_rfl) ?_ _
      refine NoPanic.normal ?_
      go_wp2_with fail
      go_meet
      case rel => exact ⟨w1.heap.size, rfl, rfl, Nat.le_refl _, setSty_at HY2.out ⟨sb, su, st, sf, sk⟩, setSty_below HS2.out (Nat.le_refl _) ⟨sb, su, st, sf, sk⟩⟩
  case rest =>
    obtain ⟨q, rfl, rfl, hq1, hst, hbc⟩ := hcut
    rename World => w2
    have HB2 := Lib.hid (below_next HB1.out hbc)
    have HD2 := Lib.hid (HD1.out.below hbc)
    have HS2 := Lib.hid hst
    have z12 := hbc.size
    obtain ⟨x0, x1, x2, x3, x4, x5, x6, x7, x8, x9⟩ := HD2.out.cells
    simp only at x0 x1 x2 x3 x4 x5 x6 x7 x8 x9
    clear hst hbc hq1
    go_wp2_with fail
    refine (HW.out w2).mono ?_
    rintro e w3 ⟨rfl, hw3⟩
    rw [hw3]
    clear hw3 w3 x0 x1 x2 x3 x4 x5 x6 x7 x8 x9
    go_wp2_with fail
    go_loopw [10, 27] (fun v i wr => ∃ k : Nat, k ≤ W ∧ i = .int .i64 (k : Int) ∧ Below w2.heap.size w2 wr ∧ celE.Own wr w2.heap.size v ((List.range k).map F)) (fun _ i _ => W - (RowKit.intOf i).toNat)
    case atStart => exact ⟨0, Nat.zero_le _, rfl, Below.refl _ _, El.Own.nil _ _⟩
    case round =>
      obtain ⟨k, hk, rfl, hbr, ho⟩ := hrel
      have HBR := Lib.hid hbr
      have HO := Lib.hid ho
      have zr := hbr.size
      clear hbr ho
      by_cases hlt : k < W
      · have gk : decide ((k : Int) < (W : Int)) = true := by simp; omega
        have gn : decide (k < W) = true := by simp; omega
        have hkl : k < l.length := by rw [HLEN.out]; exact hlt
        have HB2r := Lib.hid (HB2.out.trans (HBR.out.mono HB2.out.size))
        obtain ⟨y0, y1⟩ := HDH.out wr HB2r.out
        obtain ⟨bY, oY, e', hbY, c0', c1, c2, c3, c4, c5⟩ := cel_at (HRY.out.below HB2r.out) hkl
        subst e'
        have HSU := Lib.hid (map_range_succ F k)
        have hmx : ((List.range k).map F).length ≤ 60 := by rw [List.length_map, List.length_range]; omega
        generalize (List.range k).map F = L at *
        have hkI : (k : Int) < (W : Int) := by omega
        have hgd : l[k]?.getD ⟨0, zero⟩ = l[k] := by simp [hkl]
        have HGD := Lib.hid hgd
        clear hgd
        have HLK := Lib.hid (fun (j : Nat) (hj : j < W) => (cel_at (HRY.out.below HB2r.out) (show j < l.length by rw [HLEN.out]; exact hj)))
        obtain ⟨wA, hwA⟩ : ∃ wA, wA = wr.alloc (.cells #[.int .i32 (l[k]).rune, .bool (l[k]).sty.bold, .bool (l[k]).sty.under, .bool (l[k]).sty.turned, .int .i64 (l[k]).sty.fore, .int .i64 (l[k]).sty.back] 37) := ⟨_, rfl⟩
        have hbA : Below wr.heap.size wr wA := by rw [hwA]; exact (Below.refl _ _).alloc (Nat.le_refl _) _
        have HCA := Lib.hid (show CelAt wA wr.heap.size l[k] by rw [hwA]; exact CelAt.fresh wr l[k])
        have HBA := Lib.hid hbA
        have WA := Lib.hid hwA
        clear hwA hbA
        have hlk : ∃ cur, cur = l[k] := ⟨_, rfl⟩
        obtain ⟨cur, hcur⟩ := hlk
        have HCUR := Lib.hid hcur
        rw [← hcur] at c0' c1 c2 c3 c4 c5 HCA WA HGD
        clear hcur
        obtain ⟨cr, ⟨cbo, cu, ct, cf, cba⟩⟩ := cur
        simp only at c0' c1 c2 c3 c4 c5 WA
        go_upto_region 8 with fail
        rw [← WA.out]
        clear y0 y1 c0' c1 c2 c3 c4 c5
        obtain ⟨x0, x1, x2, x3, x4, x5, x6, x7, x8, x9⟩ := (HD2.out.below (HBR.out.trans (HBA.out.mono zr))).cells
        simp only at x0 x1 x2 x3 x4 x5 x6 x7 x8 x9
        go_wp2_with fail
        refine (HKD.out wA).mono ?_
        rintro e w5 ⟨rfl, hb5⟩
        have HB5 := Lib.hid (below_next HBA.out hb5)
        have HC5 := Lib.hid (HCA.out.below hb5 HCA.out.lt)
        have HB25 := Lib.hid (HB2r.out.trans (HB5.out.mono HB2r.out.size))
        have HD5 := Lib.hid (HD2.out.below (HBR.out.trans (HB5.out.mono zr)))
        have HS5 := Lib.hid (HS2.out.below (HBR.out.trans (HB5.out.mono zr)))
        clear hb5 x0 x1 x2 x3 x4 x5 x6 x7 x8 x9
        obtain ⟨x0, x1, x2, x3, x4, x5, x6, x7, x8, x9⟩ := HD5.out.cells
        simp only at x0 x1 x2 x3 x4 x5 x6 x7 x8 x9
        obtain ⟨s0, s1, s2, s3, s4⟩ := HS5.out.cells
        simp only at s0 s1 s2 s3 s4
        obtain ⟨y0, y1⟩ := HDH.out w5 HB25.out
        obtain ⟨p0, p1, p2, p3, p4, p5⟩ := HC5.out.cells
        simp only at p0 p1 p2 p3 p4 p5
        have f0 := HC5.out.thaw 0; have f1 := HC5.out.thaw 1; have f2 := HC5.out.thaw 2; have f3 := HC5.out.thaw 3; have f4 := HC5.out.thaw 4; have f5 := HC5.out.thaw 5
        obtain ⟨mc, hmc⟩ : ∃ mc, mc = F k := ⟨_, rfl⟩
        rw [← hmc] at HSU
        have HMC := Lib.hid (hmc.trans (HF.out k))
        clear hmc
        go_upto_block 2 with fail
        go_cut [] from 28 to 135 (fun wc => CelAt wc wr.heap.size mc ∧ Below wr.heap.size wr wc)
        case first =>
          by_cases e1 : a ≤ (k : Int)
          · have t1 : decide (a ≤ (k : Int)) = true := by simp [e1]
            have hs : IntKind.i64.wrap ((k : Int) + (n : Int)) = ((k + n : Nat) : Int) := by rw [IntKind.wrap_i64]; omega
            by_cases e2 : k + n < W
            · have hgj : ∃ cj, cj = l[k + n]?.getD ⟨0, zero⟩ := ⟨_, rfl⟩
              obtain ⟨cj, hcj⟩ := hgj
              have HCJ := Lib.hid hcj
              clear hcj
              obtain ⟨jr, ⟨jb, ju, jt, jf, jk⟩⟩ := cj
              go_wp2_with fail
              have hrd := HREAD.out w5 HB25.out ((k + n : Nat) : Int) (Y : Int)
              rw [HMRD.out, if_pos e2, List.getD_eq_getElem?_getD, ← HCJ.out] at hrd
              simp only [celV] at hrd
              refine hrd.mono ?_
              rintro e v6 ⟨rfl, hb6⟩
              have HC6 := Lib.hid (HC5.out.below hb6 HC5.out.lt)
              have HB6 := Lib.hid (below_next HB5.out hb6)
              clear hb6 p0 p1 p2 p3 p4 p5 f0 f1 f2 f3 f4 f5
              obtain ⟨p0, p1, p2, p3, p4, p5⟩ := HC6.out.cells
              simp only at p0 p1 p2 p3 p4 p5
              have f0 := HC6.out.thaw 0; have f1 := HC6.out.thaw 1; have f2 := HC6.out.thaw 2; have f3 := HC6.out.thaw 3; have f4 := HC6.out.thaw 4; have f5 := HC6.out.thaw 5
              go_wp2_with fail
              go_meet
              case rel =>
                have e : mc = ⟨jr, ⟨jb, ju, jt, jf, jk⟩⟩ := by rw [HMC.out]; unfold mcell; simp only [HK.out]; rw [HLEN.out]; simp [e1, e2, ← HCJ.out]
                rw [e]
                exact ⟨setCel_at HC6.out ⟨jr, ⟨jb, ju, jt, jf, jk⟩⟩, setCel_below' HB6.out (Nat.le_refl _) ⟨jr, ⟨jb, ju, jt, jf, jk⟩⟩⟩
            · skip
              go_wp2_with fail
              have hrd := HREAD.out w5 HB25.out ((k + n : Nat) : Int) (Y : Int)
              rw [HMRD.out, if_neg e2] at hrd
              simp only [celV, KM.blankS] at hrd
              refine hrd.mono ?_
              rintro e v6 ⟨rfl, hb6⟩
              have HC6 := Lib.hid (HC5.out.below hb6 HC5.out.lt)
              have HB6 := Lib.hid (below_next HB5.out hb6)
              clear hb6 p0 p1 p2 p3 p4 p5 f0 f1 f2 f3 f4 f5
              obtain ⟨p0, p1, p2, p3, p4, p5⟩ := HC6.out.cells
              simp only at p0 p1 p2 p3 p4 p5
              have f0 := HC6.out.thaw 0; have f1 := HC6.out.thaw 1; have f2 := HC6.out.thaw 2; have f3 := HC6.out.thaw 3; have f4 := HC6.out.thaw 4; have f5 := HC6.out.thaw 5
              go_wp2_with fail
              go_meet
              case rel =>
                have e : mc = ⟨32, ⟨false, false, false, 0, sk⟩⟩ := by rw [HMC.out]; unfold mcell; simp only [HK.out]; rw [HLEN.out]; simp [e1, e2, KM.blankS, HST.out]
                rw [e]
                exact ⟨setCel_at HC6.out ⟨32, ⟨false, false, false, 0, sk⟩⟩, setCel_below' HB6.out (Nat.le_refl _) ⟨32, ⟨false, false, false, 0, sk⟩⟩⟩
          · have t1 : decide (a ≤ (k : Int)) = false := by simp [e1]
            go_wp2_with fail
            go_meet
            case rel =>
              have e : mc = ⟨cr, ⟨cbo, cu, ct, cf, cba⟩⟩ := by rw [HMC.out]; unfold mcell; simp only [HK.out]; simp [eq_false (show ¬ a ≤ (k : Int) by omega), HGD.out]
              rw [e]
              exact ⟨HC5.out, HB5.out⟩
        case rest =>
          obtain ⟨hcx, hbx⟩ := hcut
          rename World => w6
          have HB6 := Lib.hid (HBR.out.trans (hbx.mono zr))
          have HO6 := Lib.hid (HO.out.below hbx)
          have z6 := hbx.size
          obtain ⟨v0, v1, v2, v3, v4, v5⟩ := hcx.cells
          clear hcx hbx HMC x0 x1 x2 x3 x4 x5 x6 x7 x8 x9 s0 s1 s2 s3 s4 y0 y1 p0 p1 p2 p3 p4 p5 f0 f1 f2 f3 f4 f5
          obtain ⟨mr, ⟨m0, m1, m2, m3, m4⟩⟩ := mc
          simp only at v0 v1 v2 v3 v4 v5
          go_wp2_with (at_builtin; refine celE.wp_append1 rfl (.tmp 131) (.tmp 133) rfl w2.heap.size _ L rfl HO6.out ⟨mr, ⟨m0, m1, m2, m3, m4⟩⟩ #[.int .i32 mr, .bool m0, .bool m1, .bool m2, .int .i64 m3, .int .i64 m4] 37 rfl rfl ?c1 ?c2 (by omega) ?_)
          case c1 => simp only [celE]; omega
          case c2 => unfold maxLen; omega
          intro vn y7 ho1 hg1
          have HO7 := Lib.hid ho1
          have HB7 := Lib.hid (HB6.out.trans (HO6.out.grow_below hg1 (by omega)))
          clear ho1 hg1
          go_wp2_with fail
          go_roundw
          case rel => exact ⟨k + 1, by omega, by simp, HB7.out, by rw [HSU.out]; exact HO7.out⟩
          case measure => simp [RowKit.intOf]; omega
      · have gk : decide ((k : Int) < (W : Int)) = false := by simp; omega
        have gn : decide (k < W) = false := by simp; omega
        obtain rfl : k = W := by omega
        have ho := HO.out
        rw [← HML.out] at ho
        obtain ⟨Av, cv, hv, -, -, hAv, hrv⟩ := ho.row
        have hml : M.length = k := by rw [HML.out, List.length_map, List.length_range]
        have HRM := Lib.hid (rmend_ok wr M Av cv wr.heap.size hrv hAv (by omega))
        have HB3 := Lib.hid (HB2.out.trans (HBR.out.mono HB2.out.size))
        rw [hml] at hv HRM
        clear ho hrv hAv hml
        subst hv
        go_wp2_with fail
        refine HRM.out.mono ?_
        rintro e w6 ⟨v6, rfl, ho6, hb6⟩
        have HO6 := Lib.hid (ho6.mono HB3.out.size)
        have HB6 := Lib.hid (below_next HB3.out hb6)
        clear ho6 hb6
        go_wp2_with fail
        go_ret
        exact ⟨v6, rfl, HO6.out, HB6.out⟩
end Go.Proofs.YtbpkklcegiiheaaDoor
