/-
  Layer 9 (grid): Put.
-/
import Derived.Test.YtbpkklcegiiheaaDoorDStep
namespace Go.Proofs.YtbpkklcegiiheaaDoor
open Go.RowKit Go.Lib KM

set_option maxRecDepth 100000 in
set_option maxHeartbeats 2000000 in
theorem put_ok (w : World) (hT : Tabs w) {p : Nat} {F : List Nat} {g : Gr} (h : GridAt w F p g) (hok : g.Ok) (x y : Int) (c : Cel) :
    Calls Tryd.prog 30 #[.pointer (some ⟨p, 0, none⟩), .int .i64 x, .int .i64 y, celV c] w fun e w' => e = .returned (.tuple #[]) ∧ GPost w F p (gput g x y c) w' := by
  obtain ⟨hb, hc, L, hG, rfl⟩ := h
  obtain ⟨w1, hw1⟩ : ∃ w1, w1 = w.alloc (.cells #[.int .i32 c.rune, .bool c.sty.bold, .bool c.sty.under, .bool c.sty.turned, .int .i64 c.sty.fore, .int .i64 c.sty.back] 37) := ⟨_, rfl⟩
  have hb1 : Below w.heap.size w w1 := by rw [hw1]; exact (Below.refl _ _).alloc (Nat.le_refl _) _
  have hz1 : w1.heap.size = w.heap.size + 1 := by rw [hw1]; simp
  have hc1 : CelAt w1 w.heap.size c := by rw [hw1]; exact CelAt.fresh w c
  have HT1 := Lib.hid (hT.on hb1 hT.room)
  have HG := Lib.hid hG
  have HG1 := Lib.hid (hG.below hb1)
  have HB1 := Lib.hid hb1
  have HC1 := Lib.hid hc1
  have W1 := Lib.hid hw1
  have HOK := Lib.hid hok
  obtain ⟨c0, c1, c2, c3, c4, c5⟩ := hc1.cells
  clear hw1 hb1 hc1 hG hT hok
  rcases hth : g.there x y with _ | _
  · have e : gput g x y c = g := by unfold gput; rw [hth]; rfl
    rw [e]
    have HTH := Lib.hid hth
    clear hth e
    obtain ⟨r, ⟨bo, u, t, f, k⟩⟩ := c
    simp only [celV] at *
    go_enter Tryd.func30, Tryd.ntmps30
    go_wp2_with fail
    rw [← W1.out]
    refine (there_ok w1 HG1.out x y).mono ?_
    rw [HTH.out]
    rintro e w2 ⟨rfl, rfl⟩
    go_wp2_with fail
    (try simp only [Exit.inBlock, Exit.then]); refine bodyPost_ret (results_none rfl _ _ _) rfl ?_
    exact ⟨rfl, GPost.of_below ⟨_, _, _, HG.out, rfl⟩ HB1.out⟩
  rcases hcr : cright c with _ | _
  · have e : gput g x y c = g := by unfold gput; rw [hcr, Bool.and_false]; rfl
    rw [e]
    have HTH := Lib.hid hth
    have HCR := Lib.hid (cright_ok w1 c)
    rw [hcr] at HCR
    clear hth e hcr
    obtain ⟨r, ⟨bo, u, t, f, k⟩⟩ := c
    simp only [celV] at *
    go_enter Tryd.func30, Tryd.ntmps30
    go_wp2_with fail
    rw [← W1.out]
    refine (there_ok w1 HG1.out x y).mono ?_
    rw [HTH.out]
    rintro e w2 ⟨rfl, rfl⟩
    go_wp2_with fail
    refine HCR.out.mono ?_
    rintro e w3 ⟨rfl, hb3⟩
    have HB3 := Lib.hid (below_next HB1.out hb3)
    clear hb3
    go_wp2_with fail
    (try simp only [Exit.inBlock, Exit.then]); refine bodyPost_ret (results_none rfl _ _ _) rfl ?_
    exact ⟨rfl, GPost.of_below ⟨_, _, _, HG.out, rfl⟩ HB3.out⟩
  · have e : gput g x y c = g.setL y.toNat (mend (putC (g.line y.toNat) x.toNat c)) := by unfold gput; rw [hth, hcr]; rfl
    rw [e]
    have hxy := (g.there_iff x y).1 hth
    have HTH := Lib.hid hth
    have HCR := Lib.hid (cright_ok w1 c)
    rw [hcr] at HCR
    obtain ⟨X, rfl⟩ := Int.eq_ofNat_of_zero_le hxy.1.1
    obtain ⟨Y, rfl⟩ := Int.eq_ofNat_of_zero_le hxy.2.1
    simp only [Int.toNat_natCast]
    have hXw : X < g.w := by omega
    have hYh : Y < g.h := by omega
    clear hth e hcr hxy
    obtain ⟨lz, hLZ0⟩ : ∃ l, l = putC (g.line Y) X c := ⟨_, rfl⟩
    rw [← hLZ0]
    have HLQ := Lib.hid hLZ0
    clear hLZ0
    obtain ⟨r, ⟨bo, u, t, f, k⟩⟩ := c
    simp only [celV] at HCR ⊢
    go_enter Tryd.func30, Tryd.ntmps30
    go_wp2_with fail
    rw [← W1.out]
    refine (there_ok w1 HG1.out X Y).mono ?_
    rw [HTH.out]
    rintro e w2 ⟨rfl, rfl⟩
    go_wp2_with fail
    refine HCR.out.mono ?_
    rintro e w3 ⟨rfl, hb3⟩
    have hG3 := HG1.out.below hb3
    have hLl : L.length = g.h := hG3.len.trans HOK.out.len
    have hYL : Y < L.length := by omega
    have hlo := HOK.out.line hYh
    have hll : (g.line Y).length = g.w := hlo.len
    have hXl : X < (g.line Y).length := by omega
    have hT3 := HT1.out.on hb3 HT1.out.room
    have hc3 := HC1.out.below hb3 (by omega)
    have hbx : w.heap.size ≠ L[Y].b := fun e => by
      have := HG.out.lt L[Y].b (HG.out.row_in hYL)
      omega
    obtain ⟨w4, hw4⟩ : ∃ w4, w4 = setCel w3 L[Y].b (X * 6) ⟨r, ⟨bo, u, t, f, k⟩⟩ := ⟨_, rfl⟩
    obtain ⟨hG4, hf34⟩ := hG3.store hYL hXl ⟨r, ⟨bo, u, t, f, k⟩⟩
    rw [← hw4] at hG4 hf34
    have hf4 : Fr (· ∈ foot p hb L) w w4 := (Fr.of_below (below_next HB1.out hb3)).trans' hf34
    have hT4 : Tabs w4 := hG3.tabs hT3 HOK.out hf34
    have H0 := Lib.hid (hG3.pos hT3 HOK.out)
    have hc4 : CelAt w4 w.heap.size ⟨r, ⟨bo, u, t, f, k⟩⟩ := by rw [hw4]; exact hc3.other hbx
    obtain ⟨v0, v1, v2, v3, v4, v5, q0, q1, q2, q3, q4, q5⟩ := hG3.room hYL hXl
    have f0 := hG3.rfrozen hYL (X * 6); have f1 := hG3.rfrozen hYL (X * 6 + 1); have f2 := hG3.rfrozen hYL (X * 6 + 2); have f3 := hG3.rfrozen hYL (X * 6 + 3); have f4 := hG3.rfrozen hYL (X * 6 + 4); have f5 := hG3.rfrozen hYL (X * 6 + 5)
    obtain ⟨k0, k1, k2, k3, k4, k5⟩ := hc3.cells
    simp only at k0 k1 k2 k3 k4 k5
    have d2 := hG3.cell2
    have dh := hG3.hcell' hYL
    rw [hll] at dh
    have hw4s : w.heap.size ≤ w4.heap.size := hf4.size
    unfold setCel at hw4
    simp only at hw4
    have HW4 := Lib.hid hw4
    have HG4 := Lib.hid hG4
    have HF4 := Lib.hid hf4
    have HT4 := Lib.hid hT4
    have HC4 := Lib.hid hc4
    have HLL := Lib.hid hll
    have HYL := Lib.hid hYL
    have HBX := Lib.hid hbx
    have HFO := Lib.hid (foot_same (p := p) (hb := hb) hYL L[Y].c ((g.line Y).set X ⟨r, ⟨bo, u, t, f, k⟩⟩))
    clear hw4 hG4 hf4 hT4 hc4 hlo hll hG3 hc3 hbx hLl hf34 hT3
    have HWD := Lib.hid (fun (v : World) (hv : Tabs v) => wide_ok v hv r)
    have hwrX : IntKind.i64.wrap ((X : Int) + 1) = (X : Int) + 1 := by rw [IntKind.wrap_i64]; have := HOK.out.w2; omega
    obtain ⟨l1, hl1⟩ : ∃ l1, l1 = (g.line Y).set X ⟨r, ⟨bo, u, t, f, k⟩⟩ := ⟨_, rfl⟩
    rw [← hl1] at HG4 HFO
    have HL1 := Lib.hid hl1
    have hll1 : l1.length = g.w := by rw [hl1, List.length_set]; exact HLL.out
    have HLZ := Lib.hid hll1
    clear hl1 hll1
    generalize hb0 : L[Y].b = b0 at *
    generalize hcc : L[Y].c = cc at *
    clear hb0 hcc
    go_upto_region 4 with fail
    rw [← HW4.out]
    obtain ⟨m0, m1, m2, m3, m4, m5⟩ := HC4.out.cells
    simp only at m0 m1 m2 m3 m4 m5
    rcases hwd : GM.wide r with _ | _
    · obtain rfl : lz = l1 := HLQ.out.trans (by unfold putC; rw [if_neg (by simp [hwd]), HL1.out])
      have HWD1 := Lib.hid (HWD.out w4 HT4.out)
      rw [hwd] at HWD1
      clear hwd
      go_wp2_with fail
      refine HWD1.out.mono ?_
      rintro e w5 ⟨rfl, hb5⟩
      have HGZ := Lib.hid (HG4.out.below hb5)
      have HFZ := Lib.hid (HF4.out.trans' (Fr.of_below hb5))
      have HTZ := Lib.hid (HT4.out.on hb5 HT4.out.room)
      have HFT := Lib.hid HFO.out
      clear hb5
      -- the line mended and laid: at world w5, line lz
      have HM := Lib.hid (fun (v : World) (hv : Tabs v) (hr : celE.Row v v.heap.size (some ⟨b0, 0, none⟩) lz) => mend_ok v hv lz (some ⟨b0, 0, none⟩) cc v.heap.size hr (by simp) (Nat.le_refl _) (by have := HLZ.out; have := HOK.out.w2; omega))
      rw [HLZ.out] at HM
      have hdr : Below w5.heap.size w5 w5.drew := (Below.refl _ w5).drew
      have hGd := HGZ.out.below hdr
      have hYz : Y < (L.set Y ⟨b0, cc, lz⟩).length := by rw [List.length_set]; exact HYL.out
      have e2 := hGd.cell2
      have eh := hGd.hcell' hYz
      rw [List.length_set] at e2
      have ef := hGd.hfrozen Y
      have hrr := hGd.rowR hYz
      have hlz : (g.setL Y lz).line Y = lz := Gr.line_setL g Y lz (by rw [← HG.out.len]; exact HYL.out)
      rw [hlz] at hrr eh
      simp only [List.getElem_set_self] at hrr eh
      have HRR := Lib.hid hrr
      have HTD := Lib.hid (HTZ.out.on hdr HTZ.out.room)
      have hpl : p < w5.drew.heap.size := hGd.lt p (by simp [foot])
      have hhl : hb < w5.drew.heap.size := hGd.lt hb (by simp [foot])
      have hphb : p ≠ hb := hGd.ne_hb
      have hYi : (Y : Int) < (L.length : Int) := by have := HYL.out; omega
      clear hdr hGd hrr hYz hlz
      go_wp2_with fail
      refine wp_region_noPanic ?_
      refine wp_region_held_drew (S := fun w' => w'.cell? ⟨p, 2, none⟩ = some (.slice (some ⟨hb, 0, none⟩) L.length hc)) (by kernel_rfl) e2 (fun hHeld => ?_)
      refine wpAnyH_take (i := 0) (v := ?vaa0) rfl (by kernel_rfl) (by kernel_rfl) (by kernel_rfl) (fun _ _ _ h => h) (Or.inl ⟨by rfl, ?haa0⟩) (by assumption) ?_
      case haa0 => intro w hSw; (try dsimp only at hSw); go_simp; try with_reducible rfl
      simp only [List.getElem_toArray, List.getElem_cons_zero, Act.put, List.setIfInBounds_toArray, List.set_cons_zero, List.set_cons_succ]
      refine wpAnyH_take (i := 1) (v := ?vaa1) rfl (by kernel_rfl) (by kernel_rfl) (by kernel_rfl) (fun _ _ _ h => h) (Or.inl ⟨by rfl, ?haa1⟩) (by assumption) ?_
      case haa1 => intro w hSw; (try dsimp only at hSw); go_simp; try with_reducible rfl
      simp only [List.getElem_toArray, List.getElem_cons_succ, List.getElem_cons_zero, Act.put, List.setIfInBounds_toArray, List.set_cons_zero, List.set_cons_succ]
      refine wpAnyH_take (i := 2) (v := ?vaa2) rfl (by kernel_rfl) (by kernel_rfl) (by kernel_rfl) (fun _ _ _ h => h) (Or.inl ⟨by rfl, ?haa2⟩) (by assumption) ?_
      case haa2 => intro w hSw; (try dsimp only at hSw); go_simp; try with_reducible rfl
      simp only [List.getElem_toArray, List.getElem_cons_succ, List.getElem_cons_zero, Act.put, List.setIfInBounds_toArray, List.set_cons_zero, List.set_cons_succ]
      refine wpAnyH_take (i := 3) (v := ?vaa3) rfl (by kernel_rfl) (by kernel_rfl) (by kernel_rfl) (fun _ _ _ h => h) (Or.inl ⟨by rfl, ?haa3⟩) (by assumption) ?_
      case haa3 => intro w hSw; (try dsimp only at hSw); go_simp; try with_reducible rfl
      simp only [List.getElem_toArray, List.getElem_cons_succ, List.getElem_cons_zero, Act.put, List.setIfInBounds_toArray, List.set_cons_zero, List.set_cons_succ]
      refine wpAnyH_take (i := 4) (v := ?vaa4) rfl (by kernel_rfl) (by kernel_rfl) (by kernel_rfl) (fun _ _ _ h => h) (Or.inl ⟨by rfl, ?haa4⟩) (by assumption) ?_
      case haa4 => intro w hSw; (try dsimp only at hSw); go_simp; try with_reducible rfl
      simp only [List.getElem_toArray, List.getElem_cons_succ, List.getElem_cons_zero, Act.put, List.setIfInBounds_toArray, List.set_cons_zero, List.set_cons_succ]
      refine wpAnyH_take (i := 5) (v := ?vaa5) rfl (by kernel_rfl) (by kernel_rfl) (by kernel_rfl) (fun _ _ _ h => h) (Or.inl ⟨by rfl, ?haa5⟩) (by assumption) ?_
      case haa5 => intro w hSw; (try dsimp only at hSw); go_simp; try with_reducible rfl
      simp only [List.getElem_toArray, List.getElem_cons_succ, List.getElem_cons_zero, Act.put, List.setIfInBounds_toArray, List.set_cons_zero, List.set_cons_succ]
      refine wpAnyH_ready (rs := [6]) (by kernel_rfl) (by simp) ?_
      refine AllReadyH.cons rfl (fun K hK => ?_) AllReadyH.nil
      go_simp
      refine (HM.out _ HTD.out HRR.out).mono ?_
      rintro e w7 ⟨v7, rfl, ho7, hb7⟩
      obtain ⟨gx, cx, hv7, -, -, -, -, -, -⟩ := ho7.place (by rw [mend_len]; have := HLZ.out; omega)
      obtain ⟨x, hxd⟩ : ∃ x : Ln, x = ⟨gx, cx, mend lz⟩ := ⟨_, rfl⟩
      have hvs : v7 = x.s.v := by rw [hv7, hxd]; rfl
      have hxl : x.l = mend lz := by rw [hxd]
      rw [hvs, ← hxl] at ho7
      have hfin := GPost.finish (w := w) (L := L) HFZ.out HGZ.out HFT.out (by rw [List.length_set]; exact HYL.out) x (ho7.mono (show w5.heap.size ≤ w5.drew.heap.size from Nat.le_refl _)) (((Below.refl w5.heap.size w5).drew).trans hb7)
      rw [hxl, ← hvs, hv7] at hfin
      have HFIN := Lib.hid hfin
      have s7 : w7.cell? ⟨p, 2, none⟩ = some (.slice (some ⟨hb, 0, none⟩) L.length hc) := (hb7.cell (p := ⟨p, 2, none⟩) hpl).trans e2
      have u7 := (hb7.cell (p := ⟨hb, Y, none⟩) hhl).trans eh
      have f7 := (hb7.frozen (p := ⟨hb, Y, none⟩) hhl).trans ef
      rw [hv7]
      clear hfin hv7 hvs hxl hxd ho7 hb7
      generalize (mend lz).length = m at *
      dsimp only
      refine hK.out _ _ ?_ (fun hHeld => ?_)
      · exact s7
      clear hK K
      refine wpAnyH_take (i := 7) (v := ?vab7) rfl (by kernel_rfl) (by kernel_rfl) (by kernel_rfl) (fun _ _ _ h => h) (Or.inl ⟨by rfl, ?hab7⟩) (by assumption) ?_
      case hab7 => intro w hSw; (try dsimp only at hSw); go_simp; try with_reducible rfl
      simp only [List.getElem_toArray, List.getElem_cons_succ, List.getElem_cons_zero, Act.put, List.setIfInBounds_toArray, List.set_cons_zero, List.set_cons_succ]
      refine wpAnyH_ready (rs := [8]) (by kernel_rfl) (by simp) ?_
      refine AllReadyH.cons rfl (fun K hK => ?_) AllReadyH.nil
      go_simp
      refine hK.out _ _ ?_ (fun hHeld => ?_)
      · exact (World.cell?_setCell_other _ _ _ _ (fun e => hphb.symm (by simpa using congrArg Addr.block e))).trans s7
      clear hK K
      refine wpAnyH_done (by kernel_rfl) ?_ _
      refine NoPanic.normal ?_
      clear hHeld
      go_wp2
      go_end0
      exact ⟨rfl, HFIN.out⟩
    by_cases hx1 : X + 1 < g.w
    · have hlz : lz = l1.set (X + 1) ⟨0, ⟨bo, u, t, f, k⟩⟩ := HLQ.out.trans (by unfold putC; rw [if_pos ⟨hwd, by rw [HLL.out]; exact hx1⟩, HL1.out])
      have HWD1 := Lib.hid (HWD.out w4 HT4.out)
      rw [hwd] at HWD1
      clear hwd
      have hg1 : decide ((X : Int) + 1 < (g.w : Int)) = true := decide_eq_true (by omega)
      have hbr := fun w => build_rest w bo u t f k
      go_wp2_with fail
      refine HWD1.out.mono ?_
      rintro e w5 ⟨rfl, hb5⟩
      have hG5 := HG4.out.below hb5
      have hY5 : Y < (L.set Y ⟨b0, cc, l1⟩).length := by rw [List.length_set]; exact HYL.out
      have hln : (g.setL Y l1).line Y = l1 := Gr.line_setL g Y l1 (by rw [← HG.out.len]; exact HYL.out)
      obtain ⟨hG6, hf6⟩ := hG5.store hY5 (X := X + 1) (by rw [hln, HLZ.out]; exact hx1) ⟨0, ⟨bo, u, t, f, k⟩⟩
      obtain ⟨v0', v1', v2', v3', v4', v5', n0, n1, n2, n3, n4, n5⟩ := hG5.room hY5 (X := X + 1) (by rw [hln, HLZ.out]; exact hx1)
      have z0 := hG5.rfrozen hY5 ((X + 1) * 6); have z1 := hG5.rfrozen hY5 ((X + 1) * 6 + 1); have z2 := hG5.rfrozen hY5 ((X + 1) * 6 + 2); have z3 := hG5.rfrozen hY5 ((X + 1) * 6 + 3); have z4 := hG5.rfrozen hY5 ((X + 1) * 6 + 4); have z5 := hG5.rfrozen hY5 ((X + 1) * 6 + 5)
      have j0 : w5.cell? ⟨p, 0, none⟩ = some (.int .i64 (g.w : Int)) := hG5.cell0
      have hT5 := HT4.out.on hb5 HT4.out.room
      rw [hln] at hG6
      rw [HFO.out] at hf6
      simp only [List.getElem_set_self, List.set_set, Gr.setL_setL] at hG6 hf6 n0 n1 n2 n3 n4 n5 z0 z1 z2 z3 z4 z5
      obtain ⟨i0, i1, i2, i3, i4, i5⟩ := (HC4.out.below hb5 HC4.out.lt).cells
      simp only at i0 i1 i2 i3 i4 i5
      have hF5 := HF4.out.trans' (Fr.of_below hb5)
      rw [← hlz] at hG6
      obtain ⟨w6, hw6⟩ : ∃ w6, w6 = setCel w5 b0 ((X + 1) * 6) ⟨0, ⟨bo, u, t, f, k⟩⟩ := ⟨_, rfl⟩
      rw [← hw6] at hG6 hf6
      have HGZ := Lib.hid hG6
      have HFZ := Lib.hid (hF5.trans' hf6)
      have HTZ := Lib.hid (hT5.of_block (hf6.block 0 hT5.room H0.out) hf6.size)
      have hllz : lz.length = g.w := by rw [hlz, List.length_set]; exact HLZ.out
      clear HLZ
      have HLZ := Lib.hid hllz
      have hfoo : foot p hb (L.set Y ⟨b0, cc, lz⟩) = foot p hb L := by
        have h1 := HFO.out
        unfold foot at h1 ⊢
        rw [List.map_set] at h1 ⊢
        exact h1
      have HFT := Lib.hid hfoo
      unfold setCel at hw6
      simp only at hw6
      have HW6 := Lib.hid hw6
      clear hG5 hY5 hln hG6 hf6 hT5 hF5 hw6 hllz hfoo hb5 hlz
      go_upto_region 6 with fail
      rw [← HW6.out]
      clear i0 i1 i2 i3 i4 i5 n0 n1 n2 n3 n4 n5 z0 z1 z2 z3 z4 z5 j0 m0 m1 m2 m3 m4 m5 d2 dh
      -- the line mended and laid: at world w6, line lz
      have HM := Lib.hid (fun (v : World) (hv : Tabs v) (hr : celE.Row v v.heap.size (some ⟨b0, 0, none⟩) lz) => mend_ok v hv lz (some ⟨b0, 0, none⟩) cc v.heap.size hr (by simp) (Nat.le_refl _) (by have := HLZ.out; have := HOK.out.w2; omega))
      rw [HLZ.out] at HM
      have hdr : Below w6.heap.size w6 w6.drew := (Below.refl _ w6).drew
      have hGd := HGZ.out.below hdr
      have hYz : Y < (L.set Y ⟨b0, cc, lz⟩).length := by rw [List.length_set]; exact HYL.out
      have e2 := hGd.cell2
      have eh := hGd.hcell' hYz
      rw [List.length_set] at e2
      have ef := hGd.hfrozen Y
      have hrr := hGd.rowR hYz
      have hlz : (g.setL Y lz).line Y = lz := Gr.line_setL g Y lz (by rw [← HG.out.len]; exact HYL.out)
      rw [hlz] at hrr eh
      simp only [List.getElem_set_self] at hrr eh
      have HRR := Lib.hid hrr
      have HTD := Lib.hid (HTZ.out.on hdr HTZ.out.room)
      have hpl : p < w6.drew.heap.size := hGd.lt p (by simp [foot])
      have hhl : hb < w6.drew.heap.size := hGd.lt hb (by simp [foot])
      have hphb : p ≠ hb := hGd.ne_hb
      have hYi : (Y : Int) < (L.length : Int) := by have := HYL.out; omega
      clear hdr hGd hrr hYz hlz
      go_wp2_with fail
      refine wp_region_noPanic ?_
      refine wp_region_held_drew (S := fun w' => w'.cell? ⟨p, 2, none⟩ = some (.slice (some ⟨hb, 0, none⟩) L.length hc)) (by kernel_rfl) e2 (fun hHeld => ?_)
      refine wpAnyH_take (i := 0) (v := ?vba0) rfl (by kernel_rfl) (by kernel_rfl) (by kernel_rfl) (fun _ _ _ h => h) (Or.inl ⟨by rfl, ?hba0⟩) (by assumption) ?_
      case hba0 => intro w hSw; (try dsimp only at hSw); go_simp; try with_reducible rfl
      simp only [List.getElem_toArray, List.getElem_cons_zero, Act.put, List.setIfInBounds_toArray, List.set_cons_zero, List.set_cons_succ]
      refine wpAnyH_take (i := 1) (v := ?vba1) rfl (by kernel_rfl) (by kernel_rfl) (by kernel_rfl) (fun _ _ _ h => h) (Or.inl ⟨by rfl, ?hba1⟩) (by assumption) ?_
      case hba1 => intro w hSw; (try dsimp only at hSw); go_simp; try with_reducible rfl
      simp only [List.getElem_toArray, List.getElem_cons_succ, List.getElem_cons_zero, Act.put, List.setIfInBounds_toArray, List.set_cons_zero, List.set_cons_succ]
      refine wpAnyH_take (i := 2) (v := ?vba2) rfl (by kernel_rfl) (by kernel_rfl) (by kernel_rfl) (fun _ _ _ h => h) (Or.inl ⟨by rfl, ?hba2⟩) (by assumption) ?_
      case hba2 => intro w hSw; (try dsimp only at hSw); go_simp; try with_reducible rfl
      simp only [List.getElem_toArray, List.getElem_cons_succ, List.getElem_cons_zero, Act.put, List.setIfInBounds_toArray, List.set_cons_zero, List.set_cons_succ]
      refine wpAnyH_take (i := 3) (v := ?vba3) rfl (by kernel_rfl) (by kernel_rfl) (by kernel_rfl) (fun _ _ _ h => h) (Or.inl ⟨by rfl, ?hba3⟩) (by assumption) ?_
      case hba3 => intro w hSw; (try dsimp only at hSw); go_simp; try with_reducible rfl
      simp only [List.getElem_toArray, List.getElem_cons_succ, List.getElem_cons_zero, Act.put, List.setIfInBounds_toArray, List.set_cons_zero, List.set_cons_succ]
      refine wpAnyH_take (i := 4) (v := ?vba4) rfl (by kernel_rfl) (by kernel_rfl) (by kernel_rfl) (fun _ _ _ h => h) (Or.inl ⟨by rfl, ?hba4⟩) (by assumption) ?_
      case hba4 => intro w hSw; (try dsimp only at hSw); go_simp; try with_reducible rfl
      simp only [List.getElem_toArray, List.getElem_cons_succ, List.getElem_cons_zero, Act.put, List.setIfInBounds_toArray, List.set_cons_zero, List.set_cons_succ]
      refine wpAnyH_take (i := 5) (v := ?vba5) rfl (by kernel_rfl) (by kernel_rfl) (by kernel_rfl) (fun _ _ _ h => h) (Or.inl ⟨by rfl, ?hba5⟩) (by assumption) ?_
      case hba5 => intro w hSw; (try dsimp only at hSw); go_simp; try with_reducible rfl
      simp only [List.getElem_toArray, List.getElem_cons_succ, List.getElem_cons_zero, Act.put, List.setIfInBounds_toArray, List.set_cons_zero, List.set_cons_succ]
      refine wpAnyH_ready (rs := [6]) (by kernel_rfl) (by simp) ?_
      refine AllReadyH.cons rfl (fun K hK => ?_) AllReadyH.nil
      go_simp
      refine (HM.out _ HTD.out HRR.out).mono ?_
      rintro e w7 ⟨v7, rfl, ho7, hb7⟩
      obtain ⟨gx, cx, hv7, -, -, -, -, -, -⟩ := ho7.place (by rw [mend_len]; have := HLZ.out; omega)
      obtain ⟨x, hxd⟩ : ∃ x : Ln, x = ⟨gx, cx, mend lz⟩ := ⟨_, rfl⟩
      have hvs : v7 = x.s.v := by rw [hv7, hxd]; rfl
      have hxl : x.l = mend lz := by rw [hxd]
      rw [hvs, ← hxl] at ho7
      have hfin := GPost.finish (w := w) (L := L) HFZ.out HGZ.out HFT.out (by rw [List.length_set]; exact HYL.out) x (ho7.mono (show w6.heap.size ≤ w6.drew.heap.size from Nat.le_refl _)) (((Below.refl w6.heap.size w6).drew).trans hb7)
      rw [hxl, ← hvs, hv7] at hfin
      have HFIN := Lib.hid hfin
      have s7 : w7.cell? ⟨p, 2, none⟩ = some (.slice (some ⟨hb, 0, none⟩) L.length hc) := (hb7.cell (p := ⟨p, 2, none⟩) hpl).trans e2
      have u7 := (hb7.cell (p := ⟨hb, Y, none⟩) hhl).trans eh
      have f7 := (hb7.frozen (p := ⟨hb, Y, none⟩) hhl).trans ef
      rw [hv7]
      clear hfin hv7 hvs hxl hxd ho7 hb7
      generalize (mend lz).length = m at *
      dsimp only
      refine hK.out _ _ ?_ (fun hHeld => ?_)
      · exact s7
      clear hK K
      refine wpAnyH_take (i := 7) (v := ?vbb7) rfl (by kernel_rfl) (by kernel_rfl) (by kernel_rfl) (fun _ _ _ h => h) (Or.inl ⟨by rfl, ?hbb7⟩) (by assumption) ?_
      case hbb7 => intro w hSw; (try dsimp only at hSw); go_simp; try with_reducible rfl
      simp only [List.getElem_toArray, List.getElem_cons_succ, List.getElem_cons_zero, Act.put, List.setIfInBounds_toArray, List.set_cons_zero, List.set_cons_succ]
      refine wpAnyH_ready (rs := [8]) (by kernel_rfl) (by simp) ?_
      refine AllReadyH.cons rfl (fun K hK => ?_) AllReadyH.nil
      go_simp
      refine hK.out _ _ ?_ (fun hHeld => ?_)
      · exact (World.cell?_setCell_other _ _ _ _ (fun e => hphb.symm (by simpa using congrArg Addr.block e))).trans s7
      clear hK K
      refine wpAnyH_done (by kernel_rfl) ?_ _
      refine NoPanic.normal ?_
      clear hHeld
      go_wp2
      go_end0
      exact ⟨rfl, HFIN.out⟩
    · obtain rfl : lz = l1 := HLQ.out.trans (by unfold putC; rw [if_neg (by rw [HLL.out]; exact fun h => hx1 h.2), HL1.out])
      have HWD1 := Lib.hid (HWD.out w4 HT4.out)
      rw [hwd] at HWD1
      clear hwd
      have hg1 : decide ((X : Int) + 1 < (g.w : Int)) = false := decide_eq_false (by omega)
      go_wp2_with fail
      refine HWD1.out.mono ?_
      rintro e w5 ⟨rfl, hb5⟩
      have j0 : w5.cell? ⟨p, 0, none⟩ = some (.int .i64 (g.w : Int)) := (HG4.out.below hb5).cell0
      have HGZ := Lib.hid (HG4.out.below hb5)
      have HFZ := Lib.hid (HF4.out.trans' (Fr.of_below hb5))
      have HTZ := Lib.hid (HT4.out.on hb5 HT4.out.room)
      have HFT := Lib.hid HFO.out
      clear hb5
      -- the line mended and laid: at world w5, line lz
      have HM := Lib.hid (fun (v : World) (hv : Tabs v) (hr : celE.Row v v.heap.size (some ⟨b0, 0, none⟩) lz) => mend_ok v hv lz (some ⟨b0, 0, none⟩) cc v.heap.size hr (by simp) (Nat.le_refl _) (by have := HLZ.out; have := HOK.out.w2; omega))
      rw [HLZ.out] at HM
      have hdr : Below w5.heap.size w5 w5.drew := (Below.refl _ w5).drew
      have hGd := HGZ.out.below hdr
      have hYz : Y < (L.set Y ⟨b0, cc, lz⟩).length := by rw [List.length_set]; exact HYL.out
      have e2 := hGd.cell2
      have eh := hGd.hcell' hYz
      rw [List.length_set] at e2
      have ef := hGd.hfrozen Y
      have hrr := hGd.rowR hYz
      have hlz : (g.setL Y lz).line Y = lz := Gr.line_setL g Y lz (by rw [← HG.out.len]; exact HYL.out)
      rw [hlz] at hrr eh
      simp only [List.getElem_set_self] at hrr eh
      have HRR := Lib.hid hrr
      have HTD := Lib.hid (HTZ.out.on hdr HTZ.out.room)
      have hpl : p < w5.drew.heap.size := hGd.lt p (by simp [foot])
      have hhl : hb < w5.drew.heap.size := hGd.lt hb (by simp [foot])
      have hphb : p ≠ hb := hGd.ne_hb
      have hYi : (Y : Int) < (L.length : Int) := by have := HYL.out; omega
      clear hdr hGd hrr hYz hlz
      go_wp2_with fail
      refine wp_region_noPanic ?_
      refine wp_region_held_drew (S := fun w' => w'.cell? ⟨p, 2, none⟩ = some (.slice (some ⟨hb, 0, none⟩) L.length hc)) (by kernel_rfl) e2 (fun hHeld => ?_)
      refine wpAnyH_take (i := 0) (v := ?vca0) rfl (by kernel_rfl) (by kernel_rfl) (by kernel_rfl) (fun _ _ _ h => h) (Or.inl ⟨by rfl, ?hca0⟩) (by assumption) ?_
      case hca0 => intro w hSw; (try dsimp only at hSw); go_simp; try with_reducible rfl
      simp only [List.getElem_toArray, List.getElem_cons_zero, Act.put, List.setIfInBounds_toArray, List.set_cons_zero, List.set_cons_succ]
      refine wpAnyH_take (i := 1) (v := ?vca1) rfl (by kernel_rfl) (by kernel_rfl) (by kernel_rfl) (fun _ _ _ h => h) (Or.inl ⟨by rfl, ?hca1⟩) (by assumption) ?_
      case hca1 => intro w hSw; (try dsimp only at hSw); go_simp; try with_reducible rfl
      simp only [List.getElem_toArray, List.getElem_cons_succ, List.getElem_cons_zero, Act.put, List.setIfInBounds_toArray, List.set_cons_zero, List.set_cons_succ]
      refine wpAnyH_take (i := 2) (v := ?vca2) rfl (by kernel_rfl) (by kernel_rfl) (by kernel_rfl) (fun _ _ _ h => h) (Or.inl ⟨by rfl, ?hca2⟩) (by assumption) ?_
      case hca2 => intro w hSw; (try dsimp only at hSw); go_simp; try with_reducible rfl
      simp only [List.getElem_toArray, List.getElem_cons_succ, List.getElem_cons_zero, Act.put, List.setIfInBounds_toArray, List.set_cons_zero, List.set_cons_succ]
      refine wpAnyH_take (i := 3) (v := ?vca3) rfl (by kernel_rfl) (by kernel_rfl) (by kernel_rfl) (fun _ _ _ h => h) (Or.inl ⟨by rfl, ?hca3⟩) (by assumption) ?_
      case hca3 => intro w hSw; (try dsimp only at hSw); go_simp; try with_reducible rfl
      simp only [List.getElem_toArray, List.getElem_cons_succ, List.getElem_cons_zero, Act.put, List.setIfInBounds_toArray, List.set_cons_zero, List.set_cons_succ]
      refine wpAnyH_take (i := 4) (v := ?vca4) rfl (by kernel_rfl) (by kernel_rfl) (by kernel_rfl) (fun _ _ _ h => h) (Or.inl ⟨by rfl, ?hca4⟩) (by assumption) ?_
      case hca4 => intro w hSw; (try dsimp only at hSw); go_simp; try with_reducible rfl
      simp only [List.getElem_toArray, List.getElem_cons_succ, List.getElem_cons_zero, Act.put, List.setIfInBounds_toArray, List.set_cons_zero, List.set_cons_succ]
      refine wpAnyH_take (i := 5) (v := ?vca5) rfl (by kernel_rfl) (by kernel_rfl) (by kernel_rfl) (fun _ _ _ h => h) (Or.inl ⟨by rfl, ?hca5⟩) (by assumption) ?_
      case hca5 => intro w hSw; (try dsimp only at hSw); go_simp; try with_reducible rfl
      simp only [List.getElem_toArray, List.getElem_cons_succ, List.getElem_cons_zero, Act.put, List.setIfInBounds_toArray, List.set_cons_zero, List.set_cons_succ]
      refine wpAnyH_ready (rs := [6]) (by kernel_rfl) (by simp) ?_
      refine AllReadyH.cons rfl (fun K hK => ?_) AllReadyH.nil
      go_simp
      refine (HM.out _ HTD.out HRR.out).mono ?_
      rintro e w7 ⟨v7, rfl, ho7, hb7⟩
      obtain ⟨gx, cx, hv7, -, -, -, -, -, -⟩ := ho7.place (by rw [mend_len]; have := HLZ.out; omega)
      obtain ⟨x, hxd⟩ : ∃ x : Ln, x = ⟨gx, cx, mend lz⟩ := ⟨_, rfl⟩
      have hvs : v7 = x.s.v := by rw [hv7, hxd]; rfl
      have hxl : x.l = mend lz := by rw [hxd]
      rw [hvs, ← hxl] at ho7
      have hfin := GPost.finish (w := w) (L := L) HFZ.out HGZ.out HFT.out (by rw [List.length_set]; exact HYL.out) x (ho7.mono (show w5.heap.size ≤ w5.drew.heap.size from Nat.le_refl _)) (((Below.refl w5.heap.size w5).drew).trans hb7)
      rw [hxl, ← hvs, hv7] at hfin
      have HFIN := Lib.hid hfin
      have s7 : w7.cell? ⟨p, 2, none⟩ = some (.slice (some ⟨hb, 0, none⟩) L.length hc) := (hb7.cell (p := ⟨p, 2, none⟩) hpl).trans e2
      have u7 := (hb7.cell (p := ⟨hb, Y, none⟩) hhl).trans eh
      have f7 := (hb7.frozen (p := ⟨hb, Y, none⟩) hhl).trans ef
      rw [hv7]
      clear hfin hv7 hvs hxl hxd ho7 hb7
      generalize (mend lz).length = m at *
      dsimp only
      refine hK.out _ _ ?_ (fun hHeld => ?_)
      · exact s7
      clear hK K
      refine wpAnyH_take (i := 7) (v := ?vcb7) rfl (by kernel_rfl) (by kernel_rfl) (by kernel_rfl) (fun _ _ _ h => h) (Or.inl ⟨by rfl, ?hcb7⟩) (by assumption) ?_
      case hcb7 => intro w hSw; (try dsimp only at hSw); go_simp; try with_reducible rfl
      simp only [List.getElem_toArray, List.getElem_cons_succ, List.getElem_cons_zero, Act.put, List.setIfInBounds_toArray, List.set_cons_zero, List.set_cons_succ]
      refine wpAnyH_ready (rs := [8]) (by kernel_rfl) (by simp) ?_
      refine AllReadyH.cons rfl (fun K hK => ?_) AllReadyH.nil
      go_simp
      refine hK.out _ _ ?_ (fun hHeld => ?_)
      · exact (World.cell?_setCell_other _ _ _ _ (fun e => hphb.symm (by simpa using congrArg Addr.block e))).trans s7
      clear hK K
      refine wpAnyH_done (by kernel_rfl) ?_ _
      refine NoPanic.normal ?_
      clear hHeld
      go_wp2
      go_end0
      exact ⟨rfl, HFIN.out⟩

end Go.Proofs.YtbpkklcegiiheaaDoor
