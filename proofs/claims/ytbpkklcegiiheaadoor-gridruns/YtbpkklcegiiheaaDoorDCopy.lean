/-
  Layer 9 (grid): Copy.
-/
import Derived.Test.YtbpkklcegiiheaaDoorDStep
namespace Go.Proofs.YtbpkklcegiiheaaDoor
open Go.RowKit Go.Lib KM

theorem BL.keepB {w0 w w' : World} {g n : Nat} {L : List Ln} (h : BL w0 w g n L) (hb : Below w.heap.size w w') : BL w0 w' g n L :=
  ⟨h.head.below hb, fun x hx => (h.rows x hx).below hb, h.nodup, h.after, h.base, h.len, h.below.trans (hb.mono h.below.size)⟩

set_option maxRecDepth 100000 in
set_option maxHeartbeats 2000000 in
theorem copy_ok (w : World) {p : Nat} {F : List Nat} {g : Gr} (h : GridAt w F p g) (hok : g.Ok) :
    Calls Tryd.prog 13 #[.pointer (some ⟨p, 0, none⟩)] w fun e w' => ∃ p', e = .returned (.pointer (some ⟨p', 0, none⟩)) ∧ NewGrid w w' p' g := by
  obtain ⟨hb, hc, L, hG, rfl⟩ := h
  have hh60 := hok.h2
  obtain ⟨mk, hmk0⟩ : ∃ mk, mk = madeCells linE.z.cells (g.h * linE.s) := ⟨_, rfl⟩
  have hmk : ∀ w, (Instr.makeSlice 29 (.int .i64 (g.h : Int)) (.int .i64 (g.h : Int))).run Tryd.prog w = .ok (.slice (some ⟨w.heap.size, 0, none⟩) g.h g.h) (w.alloc (.cells mk 23)) := fun w => by
    rw [hmk0]; exact linE.run_made w g.h (by omega) (by decide)
  obtain ⟨w2, hw2⟩ : ∃ w2, w2 = w.alloc (.cells mk 23) := ⟨_, rfl⟩
  have hown := linE.own_made w w.heap.size g.h ⟨none, 0, 0⟩ rfl (Nat.le_refl _) (by unfold maxLen; omega)
  rw [← hmk0] at hown
  have hbl : BL w w2 w.heap.size g.h [] := by
    refine ⟨?_, by simp, by simp, by simp, Nat.le_refl _, by simp, by rw [hw2]; exact (Below.refl _ _).alloc (Nat.le_refl _) _⟩
    rw [hw2]
    exact hown
  have g1 : w.cell? ⟨p, 1, none⟩ = some (.int .i64 (g.h : Int)) := hG.cell1
  have hLh : L.length = g.h := hG.len.trans hok.len
  have W2 := Lib.hid hw2
  have HBL := Lib.hid hbl
  have HG := Lib.hid hG
  have HOK := Lib.hid hok
  have hpw : p < w.heap.size := hG.lt p (by simp [foot])
  clear hw2 hown hbl hmk0 hG hok
  go_enter Tryd.func13, Tryd.ntmps13
  go_wp2_with fail
  rw [← W2.out]
  obtain ⟨b, hbd⟩ : ∃ b, b = w.heap.size := ⟨_, rfl⟩
  rw [← hbd] at HBL
  rw [← hbd]
  have hbw : w.heap.size ≤ b := by omega
  clear hbd
  go_loopw [12] (fun i wr => ∃ N : List Ln, N.length ≤ g.h ∧ i = .int .i64 (N.length : Int) ∧ BL w wr b g.h N ∧ N.map Ln.l = g.ls.take N.length) (fun i _ => g.h - (RowKit.intOf i).toNat)
  case atStart => exact ⟨[], Nat.zero_le _, rfl, HBL.out, by simp⟩
  case round =>
    obtain ⟨N, hk, rfl, hbl, hx⟩ := hrel
    have HB := Lib.hid hbl
    have HX := Lib.hid hx
    have hgr : b < wr.heap.size := (hbl.head.lt b rfl).2
    have hGr := HG.out.below hbl.below
    have hzr := hbl.below.size
    clear hbl hx
    by_cases hlt : N.length < g.h
    · have g1 : decide ((N.length : Int) < (g.h : Int)) = true := by simp; omega
      have gn : decide (N.length < g.h) = true := by simp; omega
      have hin : (N.length : Int) < (g.h : Int) := by omega
      have hYL : N.length < L.length := by omega
      have hlo := HOK.out.line (y := N.length) hlt
      have d2 := hGr.cell2
      have dh := hGr.hcell' hYL
      have hcl := clone_ok wr (g.line N.length) (some ⟨L[N.length].b, 0, none⟩) L[N.length].c wr.heap.size (hGr.rowR hYL) (by simp) (Nat.le_refl _) (by rw [hlo.len]; have := HOK.out.w2; omega)
      have HCL := Lib.hid hcl
      have HLO := Lib.hid hlo
      rw [hLh] at d2
      clear hcl hlo hGr
      generalize L[N.length].b = rb at *
      generalize L[N.length].c = rc at *
      go_wp2_with fail
      refine HCL.out.mono ?_
      rintro e w3 ⟨v, rfl, ho, hb3⟩
      obtain ⟨gx, cx, hv, -, -, -, -, -, -⟩ := ho.place (by rw [HLO.out.len]; have := HOK.out.w1; omega)
      obtain ⟨x, hxd⟩ : ∃ x : Ln, x = ⟨gx, cx, g.line N.length⟩ := ⟨_, rfl⟩
      have hvs : v = x.s.v := by rw [hv, hxd]; rfl
      have hxl : x.l = g.line N.length := by rw [hxd]
      rw [hvs, ← hxl] at ho
      have hstep := HB.out.step hlt x ho hb3
      obtain ⟨k1, k2⟩ := HB.out.cell hlt
      have q1 := (hb3.cell (p := ⟨b, N.length, none⟩) hgr).trans k1
      have q2 := (hb3.frozen (p := ⟨b, N.length, none⟩) hgr).trans k2
      rw [← hvs, hv] at hstep
      have HST := Lib.hid hstep
      have HXL := Lib.hid hxl
      have hnx : (N ++ [x]).map Ln.l = g.ls.take (N ++ [x]).length := by
        have hgl : N.length < g.ls.length := by rw [HOK.out.len]; exact hlt
        rw [List.map_append, List.map_singleton, HX.out, hxl, List.length_append, List.length_singleton, List.take_succ_eq_append_getElem hgl]
        congr 2
        simp [Gr.line, hgl]
      have HNX := Lib.hid hnx
      rw [hv]
      clear hv hvs hxd ho hb3 hstep k1 k2 hxl hnx
      generalize (g.line N.length).length = m at *
      go_wp2_with fail
      go_roundw
      case rel => exact ⟨N ++ [x], by simp; omega, by simp, HST.out, HNX.out⟩
      case measure => simp [RowKit.intOf]; omega
    · have g1 : decide ((N.length : Int) < (g.h : Int)) = false := by simp; omega
      have gn : decide (N.length < g.h) = false := by simp; omega
      have hln : N.length = g.h := by omega
      obtain ⟨wd, hwd⟩ : ∃ wd, wd = wr.drew := ⟨_, rfl⟩
      have hbd : Below wr.heap.size wr wd := by rw [hwd]; exact (Below.refl _ _).drew
      have hgd := hGr.below hbd
      have e0 := hgd.cell0
      have e1 := hgd.cell1
      have hpd : p < wd.heap.size := hgd.lt p (by simp [foot])
      have hgrid := (HB.out.keepB hbd).grid (wd := g.w) hln
      have hls : N.map Ln.l = g.ls := by rw [HX.out, hln, ← HOK.out.len, List.take_length]
      rw [hls] at hgrid
      have HGR := Lib.hid hgrid.1
      have HFT := Lib.hid hgrid.2
      have HBB := Lib.hid (HB.out.keepB hbd).below
      have WD := Lib.hid hwd
      have hbg := fun w x y A n c => build_grid w x y A n c
      have hSA : (wd.alloc (.cells #[.int .i64 (g.w : Int), .int .i64 (g.h : Int), .slice (some ⟨b, 0, none⟩) g.h g.h] 32)).cell? ⟨p, 0, none⟩ = some (.int .i64 (g.w : Int)) ∧ (wd.alloc (.cells #[.int .i64 (g.w : Int), .int .i64 (g.h : Int), .slice (some ⟨b, 0, none⟩) g.h g.h] 32)).cell? ⟨p, 1, none⟩ = some (.int .i64 (g.h : Int)) := by
        have hba : Below wd.heap.size wd (wd.alloc (.cells #[.int .i64 (g.w : Int), .int .i64 (g.h : Int), .slice (some ⟨b, 0, none⟩) g.h g.h] 32)) := (Below.refl _ _).alloc (Nat.le_refl _) _
        exact ⟨(hba.cell (p := ⟨p, 0, none⟩) hpd).trans e0, (hba.cell (p := ⟨p, 1, none⟩) hpd).trans e1⟩
      have HSA := Lib.hid hSA
      have hS0 : wd.cell? ⟨p, 0, none⟩ = some (.int .i64 (g.w : Int)) ∧ wd.cell? ⟨p, 1, none⟩ = some (.int .i64 (g.h : Int)) := ⟨e0, e1⟩
      clear hwd hbd hgd hgrid hls hGr hSA e0 e1
      go_wp2_with fail
      refine wp_region_noPanic ?_
      refine wp_region_held_drew (S := fun v => v.cell? ⟨p, 0, none⟩ = some (.int .i64 (g.w : Int)) ∧ v.cell? ⟨p, 1, none⟩ = some (.int .i64 (g.h : Int))) (by kernel_rfl) (by rw [← WD.out]; exact hS0) (fun hHeld => ?_)
      rw [← WD.out]
      refine wpAnyH_take (i := 0) (v := ?va0) rfl (by kernel_rfl) (by kernel_rfl) (by kernel_rfl) (fun _ _ _ h => h) (Or.inl ⟨by rfl, ?ha0⟩) (by assumption) ?_
      case ha0 => intro w hSw; (try dsimp only at hSw); go_simp; try with_reducible rfl
      simp only [List.getElem_toArray, List.getElem_cons_zero, Act.put, List.setIfInBounds_toArray, List.set_cons_zero, List.set_cons_succ]
      refine wpAnyH_take (i := 1) (v := ?va1) rfl (by kernel_rfl) (by kernel_rfl) (by kernel_rfl) (fun _ _ _ h => h) (Or.inl ⟨by rfl, ?ha1⟩) (by assumption) ?_
      case ha1 => intro w hSw; (try dsimp only at hSw); go_simp; try with_reducible rfl
      simp only [List.getElem_toArray, List.getElem_cons_succ, List.getElem_cons_zero, Act.put, List.setIfInBounds_toArray, List.set_cons_zero, List.set_cons_succ]
      refine wpAnyH_take (i := 2) (v := ?va2) rfl (by kernel_rfl) (by kernel_rfl) (by kernel_rfl) (fun _ _ _ h => h) (Or.inl ⟨by rfl, ?ha2⟩) (by assumption) ?_
      case ha2 => intro w hSw; (try dsimp only at hSw); go_simp; try with_reducible rfl
      simp only [List.getElem_toArray, List.getElem_cons_succ, List.getElem_cons_zero, Act.put, List.setIfInBounds_toArray, List.set_cons_zero, List.set_cons_succ]
      refine wpAnyH_take (i := 3) (v := ?va3) rfl (by kernel_rfl) (by kernel_rfl) (by kernel_rfl) (fun _ _ _ h => h) (Or.inl ⟨by rfl, ?ha3⟩) (by assumption) ?_
      case ha3 => intro w hSw; (try dsimp only at hSw); go_simp; try with_reducible rfl
      simp only [List.getElem_toArray, List.getElem_cons_succ, List.getElem_cons_zero, Act.put, List.setIfInBounds_toArray, List.set_cons_zero, List.set_cons_succ]
      refine wpAnyH_take (i := 4) (v := ?va4) rfl (by kernel_rfl) (by kernel_rfl) (by kernel_rfl) (fun _ _ _ h => h) (Or.inl ⟨by rfl, ?ha4⟩) (by assumption) ?_
      case ha4 => intro w hSw; (try dsimp only at hSw); go_simp; try with_reducible rfl
      simp only [List.getElem_toArray, List.getElem_cons_succ, List.getElem_cons_zero, Act.put, List.setIfInBounds_toArray, List.set_cons_zero, List.set_cons_succ]
      refine wpAnyH_take (i := 5) (v := ?va5) rfl (by kernel_rfl) (by kernel_rfl) (by kernel_rfl) (fun _ _ _ h => h) (Or.inl ⟨by rfl, ?ha5⟩) (by assumption) ?_
      case ha5 => intro w hSw; (try dsimp only at hSw); go_simp; try with_reducible rfl
      simp only [List.getElem_toArray, List.getElem_cons_succ, List.getElem_cons_zero, Act.put, List.setIfInBounds_toArray, List.set_cons_zero, List.set_cons_succ]
      refine wpAnyH_take (i := 6) (v := ?va6) rfl (by kernel_rfl) (by kernel_rfl) (by kernel_rfl) (fun _ _ _ h => h) (Or.inl ⟨by rfl, ?ha6⟩) (by assumption) ?_
      case ha6 => intro w hSw; (try dsimp only at hSw); go_simp; try with_reducible rfl
      simp only [List.getElem_toArray, List.getElem_cons_succ, List.getElem_cons_zero, Act.put, List.setIfInBounds_toArray, List.set_cons_zero, List.set_cons_succ]
      refine wpAnyH_take (i := 7) (v := ?va7) rfl (by kernel_rfl) (by kernel_rfl) (by kernel_rfl) (fun _ _ _ h => h) (Or.inl ⟨by rfl, ?ha7⟩) (by assumption) ?_
      case ha7 => intro w hSw; (try dsimp only at hSw); go_simp; try with_reducible rfl
      simp only [List.getElem_toArray, List.getElem_cons_succ, List.getElem_cons_zero, Act.put, List.setIfInBounds_toArray, List.set_cons_zero, List.set_cons_succ]
      refine wpAnyH_take (i := 8) (v := ?va8) rfl (by kernel_rfl) (by kernel_rfl) (by kernel_rfl) (fun _ _ _ h => h) (Or.inl ⟨by rfl, ?ha8⟩) (by assumption) ?_
      case ha8 => intro w hSw; (try dsimp only at hSw); go_simp; try with_reducible rfl
      simp only [List.getElem_toArray, List.getElem_cons_succ, List.getElem_cons_zero, Act.put, List.setIfInBounds_toArray, List.set_cons_zero, List.set_cons_succ]
      refine wpAnyH_take (i := 9) (v := ?va9) rfl (by kernel_rfl) (by kernel_rfl) (by kernel_rfl) (fun _ _ _ h => h) (Or.inl ⟨by rfl, ?ha9⟩) (by assumption) ?_
      case ha9 => intro w hSw; (try dsimp only at hSw); go_simp; try with_reducible rfl
      simp only [List.getElem_toArray, List.getElem_cons_succ, List.getElem_cons_zero, Act.put, List.setIfInBounds_toArray, List.set_cons_zero, List.set_cons_succ]
      refine wpAnyH_ready (rs := [10]) (by kernel_rfl) (by simp) ?_
      refine AllReadyH.cons rfl (fun K hK => ?_) AllReadyH.nil
      go_simp
      refine hK.out _ _ ?_ (fun hHeld => ?_)
      · exact HSA.out
      clear hK K
      refine wpAnyH_take (i := 11) (v := ?vb11) rfl (by kernel_rfl) (by kernel_rfl) (by kernel_rfl) (fun _ _ _ h => h) (Or.inl ⟨by rfl, ?hb11⟩) (by assumption) ?_
      case hb11 => intro w hSw; (try dsimp only at hSw); go_simp; try with_reducible rfl
      simp only [List.getElem_toArray, List.getElem_cons_succ, List.getElem_cons_zero, Act.put, List.setIfInBounds_toArray, List.set_cons_zero, List.set_cons_succ]
      refine wpAnyH_done (by kernel_rfl) ?_ _
      refine NoPanic.normal ?_
      clear hHeld
      go_wp2_with fail
      go_ret
      exact ⟨wd.heap.size, rfl, ⟨_, ⟨_, _, _, HGR.out, rfl⟩, HFT.out⟩, HBB.out.alloc HBB.out.size _⟩
end Go.Proofs.YtbpkklcegiiheaaDoor
