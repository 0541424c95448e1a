/-
  Layer 9 (grid): Resize.
-/
import Derived.Test.YtbpkklcegiiheaaDoorDUp
import Derived.Test.YtbpkklcegiiheaaDoorDFit
namespace Go.Proofs.YtbpkklcegiiheaaDoor
open Go.RowKit Go.Lib KM

/-- The new grid's lines behind k of the old one's. -/
def fitK (l : List (List Cel)) (w h k : Nat) : List (List Cel) := (l.take k).map (fun x => fitL x w) ++ List.replicate (h - k) (KM.blanks w zero)
theorem fitK_all (l : List (List Cel)) (w h : Nat) : fitK l w h (min l.length h) = fitG l w h := by
  unfold fitK fitG
  rcases Nat.le_total l.length h with e | e
  · rw [Nat.min_eq_left e, List.take_length, List.take_of_length_le e]
  · rw [Nat.min_eq_right e, Nat.sub_self, show h - l.length = 0 by omega]
theorem fitK_succ (l : List (List Cel)) (w h k : Nat) (hk : k < l.length) (hh : k < h) : fitK l w h (k + 1) = (fitK l w h k).set k (fitL l[k] w) := by
  unfold fitK
  have h1 : ((l.take k).map (fun x => fitL x w)).length = k := by simp; omega
  rw [List.take_succ_eq_append_getElem hk, List.map_append, List.map_singleton, List.set_append_right _ _ (by omega), h1, Nat.sub_self, show h - k = (h - (k + 1)) + 1 by omega, List.replicate_succ, List.set_cons_zero, List.append_assoc]
  rfl
theorem fitK_len (l : List (List Cel)) (w h k : Nat) (hk : k ≤ l.length) (hh : k ≤ h) : (fitK l w h k).length = h := by unfold fitK; simp; omega

/-- A grid's struct written over another one's. -/
theorem GridB.move {w : World} {p p' hb hc : Nat} {L : List Ln} {g : Gr} (h : GridB w p' hb hc L g) {x0 x1 x2 : Value} (hp : w.heap[p]? = some (.cells #[x0, x1, x2] 32 (0, 0))) (hpn : p ∉ foot p' hb L) :
    GridB (((w.setCell ⟨p, 0, none⟩ (.int .i64 (g.w : Int))).setCell ⟨p, 1, none⟩ (.int .i64 (g.h : Int))).setCell ⟨p, 2, none⟩ (.slice (some ⟨hb, 0, none⟩) L.length hc)) p hb hc L g := by
  have hk : ∀ k, k ≠ p → (((w.setCell ⟨p, 0, none⟩ (.int .i64 (g.w : Int))).setCell ⟨p, 1, none⟩ (.int .i64 (g.h : Int))).setCell ⟨p, 2, none⟩ (.slice (some ⟨hb, 0, none⟩) L.length hc)).heap[k]? = w.heap[k]? := fun k hk => by
    rw [Below.heap_setCell _ _ _ _ hk, Below.heap_setCell _ _ _ _ hk, Below.heap_setCell _ _ _ _ hk]
  have hn := h.nodup
  simp only [foot, List.nodup_cons, List.mem_cons, List.mem_map, not_or, not_exists, not_and] at hn hpn
  refine ⟨?_, h.head.keep fun k e => by cases e; exact hk hb (Ne.symm hpn.2.1), fun x hx => (h.rows x hx).keep fun k e => by cases e; exact hk x.b (hpn.2.2 x hx), h.lines, ?_⟩
  · simp [World.setCell, Array.getElem?_modify, hp]
  · simp only [foot, List.nodup_cons, List.mem_cons, List.mem_map, not_or, not_exists, not_and]
    exact ⟨⟨hpn.2.1, hpn.2.2⟩, hn.2⟩
theorem set3_fr {S : Nat → Prop} (w : World) (p : Nat) (a b c : Value) (h : S p) : Fr S w (((w.setCell ⟨p, 0, none⟩ a).setCell ⟨p, 1, none⟩ b).setCell ⟨p, 2, none⟩ c) :=
  ((Fr.setCell (a := ⟨p, 0, none⟩) _ h).trans' (Fr.setCell (a := ⟨p, 1, none⟩) _ h)).trans' (Fr.setCell (a := ⟨p, 2, none⟩) _ h)

set_option maxRecDepth 100000 in
set_option maxHeartbeats 4000000 in
theorem resize_ok (w : World) (hT : Tabs w) {p : Nat} {F : List Nat} {g : Gr} (h : GridAt w F p g) (hok : g.Ok) (x y n : Int) :
    Calls Tryd.prog 23 #[.pointer (some ⟨p, 0, none⟩), .int .i64 x, .int .i64 y, .int .i64 n] w (UpPost w F p (gresize g x y n)) := by
  have HAT := Lib.hid h
  have HOK := Lib.hid hok
  have HUP := Lib.hid (up_ok w h hok 0 g.h n zero)
  obtain ⟨hb, hc, L, hG, rfl⟩ := h
  have g1 : w.cell? ⟨p, 1, none⟩ = some (.int .i64 (g.h : Int)) := hG.cell1
  have hbs := fun w => build_zstyle w
  have hx := nr_in (n := x) (a := 1) (b := 60) (by omega)
  have hy := nr_in (n := y) (a := 1) (b := 60) (by omega)
  have HNW := Lib.hid (fun w => new_ok w x y)
  have hok1 := (gup_ok hok 0 g.h n (s := zero) rfl).1
  have hwh := gup_w (g := g) 0 g.h n zero
  have HT := Lib.hid hT
  unfold gresize
  unfold gnew at HNW
  obtain ⟨W, hW⟩ := Int.eq_ofNat_of_zero_le (show 0 ≤ nr x 1 60 by omega)
  obtain ⟨H, hH⟩ := Int.eq_ofNat_of_zero_le (show 0 ≤ nr y 1 60 by omega)
  rw [hW, hH] at HNW ⊢
  simp only [Int.toNat_natCast] at HNW ⊢
  have hW1 : 1 ≤ W ∧ W ≤ 60 := by omega
  have hH1 : 1 ≤ H ∧ H ≤ 60 := by omega
  generalize gup g 0 g.h n zero = r at *
  obtain ⟨gu, out⟩ := r
  simp only at hok1 hwh ⊢
  have HOK1 := Lib.hid hok1
  have HWH := Lib.hid hwh
  clear hx hy hW hH hok hok1 hwh hG hT
  simp only [styV, zero] at HUP
  go_enter Tryd.func23, Tryd.ntmps23
  go_wp2_with fail
  refine HUP.out.mono ?_
  rintro e w2 ⟨A, c, F1, rfl, hat, hsub, hfr, hout, hAn⟩
  have HOUT := Lib.hid hout
  have HAN := Lib.hid hAn
  have HFR := Lib.hid hfr
  have HSUB := Lib.hid hsub
  have HAT2 := Lib.hid hat
  have HT2 := Lib.hid (HAT.out.tabs HT.out HOK.out hfr)
  clear hout hAn hfr hsub hat
  simp only
  go_wp2_with fail
  refine (HNW.out w2).mono ?_
  rintro e w3 ⟨p', rfl, ⟨⟨F2, hat2, hF2⟩, hb23⟩⟩
  obtain ⟨hb2, hc2, N, hN, rfl⟩ := hat2
  obtain ⟨hb1, hc1, M, hM, hF1⟩ := HAT2.out
  obtain ⟨w4, hw4⟩ : ∃ w4, w4 = w3.drew := ⟨_, rfl⟩
  have hb34 : Below w3.heap.size w3 w4 := by rw [hw4]; exact (Below.refl _ _).drew
  have hb24 := below_next hb23 hb34
  have hN4 := hN.below hb34
  have hM4 := hM.below hb24
  have k1 : w4.cell? ⟨p, 1, none⟩ = some (.int .i64 (g.h : Int)) := by rw [← HWH.out.2]; exact hM4.cell1
  have k2 : w4.cell? ⟨p', 1, none⟩ = some (.int .i64 (H : Int)) := hN4.cell1
  obtain ⟨q, hq⟩ : ∃ q, q = min g.h H := ⟨_, rfl⟩
  have hmin : min (g.h : Int) (H : Int) = (q : Int) := by omega
  have hqh : q ≤ g.h := by omega
  have hqH : q ≤ H := by omega
  have HQ := Lib.hid hq
  have HN4 := Lib.hid hN4
  have HM := Lib.hid hM
  have HB23 := Lib.hid hb23
  have HB24 := Lib.hid hb24
  have HF2 := Lib.hid hF2
  have HF1 := Lib.hid hF1
  have W4 := Lib.hid hw4
  clear hq hN4 hM4 hN hM hb23 hb34 hb24 hF2 hF1 hw4
  go_wp2_with fail
  refine wp_region_noPanic ?_
  refine wp_region_held_drew (S := fun v => v.cell? ⟨p, 1, none⟩ = some (.int .i64 (g.h : Int)) ∧ v.cell? ⟨p', 1, none⟩ = some (.int .i64 (H : Int))) (by kernel_rfl) (by rw [← W4.out]; exact ⟨k1, k2⟩) (fun hHeld => ?_)
  rw [← W4.out]
  have hS4 : w4.cell? ⟨p, 1, none⟩ = some (.int .i64 (g.h : Int)) ∧ w4.cell? ⟨p', 1, none⟩ = some (.int .i64 (H : Int)) := ⟨k1, k2⟩
  clear k1 k2
  refine wpAnyH_take (i := 0) (v := ?va0) rfl (by kernel_rfl) (by kernel_rfl) (by kernel_rfl) (fun _ _ _ h => h) (Or.inl ⟨by rfl, ?ha0⟩) (by assumption) ?_
  case ha0 => intro w hSw; (try dsimp only at hSw); go_simp; try with_reducible rfl
  simp only [List.getElem_toArray, List.getElem_cons_zero, Act.put, List.setIfInBounds_toArray, List.set_cons_zero, List.set_cons_succ]
  refine wpAnyH_take (i := 1) (v := ?va1) rfl (by kernel_rfl) (by kernel_rfl) (by kernel_rfl) (fun _ _ _ h => h) (Or.inl ⟨by rfl, ?ha1⟩) (by assumption) ?_
  case ha1 => intro w hSw; (try dsimp only at hSw); go_simp; try with_reducible rfl
  simp only [List.getElem_toArray, List.getElem_cons_succ, List.getElem_cons_zero, Act.put, List.setIfInBounds_toArray, List.set_cons_zero, List.set_cons_succ]
  refine wpAnyH_take (i := 2) (v := ?va2) rfl (by kernel_rfl) (by kernel_rfl) (by kernel_rfl) (fun _ _ _ h => h) (Or.inl ⟨by rfl, ?ha2⟩) (by assumption) ?_
  case ha2 => intro w hSw; (try dsimp only at hSw); go_simp; try with_reducible rfl
  simp only [List.getElem_toArray, List.getElem_cons_succ, List.getElem_cons_zero, Act.put, List.setIfInBounds_toArray, List.set_cons_zero, List.set_cons_succ]
  refine wpAnyH_take (i := 3) (v := ?va3) rfl (by kernel_rfl) (by kernel_rfl) (by kernel_rfl) (fun _ _ _ h => h) (Or.inl ⟨by rfl, ?ha3⟩) (by assumption) ?_
  case ha3 => intro w hSw; (try dsimp only at hSw); go_simp; try with_reducible rfl
  simp only [List.getElem_toArray, List.getElem_cons_succ, List.getElem_cons_zero, Act.put, List.setIfInBounds_toArray, List.set_cons_zero, List.set_cons_succ]
  refine wpAnyH_take (i := 4) (v := ?va4) rfl (by kernel_rfl) (by kernel_rfl) (by kernel_rfl) (fun _ _ _ h => h) (Or.inl ⟨by rfl, ?ha4⟩) (by assumption) ?_
  case ha4 => intro w hSw; (try dsimp only at hSw); go_simp; try with_reducible rfl
  simp only [List.getElem_toArray, List.getElem_cons_succ, List.getElem_cons_zero, Act.put, List.setIfInBounds_toArray, List.set_cons_zero, List.set_cons_succ]
  refine wpAnyH_take (i := 5) (v := ?va5) rfl (by kernel_rfl) (by kernel_rfl) (by kernel_rfl) (fun _ _ _ h => h) (Or.inl ⟨by rfl, ?ha5⟩) (by assumption) ?_
  case ha5 => intro w hSw; (try dsimp only at hSw); go_simp; try with_reducible rfl
  simp only [List.getElem_toArray, List.getElem_cons_succ, List.getElem_cons_zero, Act.put, List.setIfInBounds_toArray, List.set_cons_zero, List.set_cons_succ]
  refine wpAnyH_take (i := 6) (v := ?va6) rfl (by kernel_rfl) (by kernel_rfl) (by kernel_rfl) (fun _ _ _ h => h) (Or.inl ⟨by rfl, ?ha6⟩) (by assumption) ?_
  case ha6 => intro w hSw; (try dsimp only at hSw); go_simp; try with_reducible rfl
  simp only [List.getElem_toArray, List.getElem_cons_succ, List.getElem_cons_zero, Act.put, List.setIfInBounds_toArray, List.set_cons_zero, List.set_cons_succ]
  refine wpAnyH_take (i := 7) (v := ?va7) rfl (by kernel_rfl) (by kernel_rfl) (by kernel_rfl) (fun _ _ _ h => h) (Or.inl ⟨by rfl, ?ha7⟩) (by assumption) ?_
  case ha7 => intro w hSw; (try dsimp only at hSw); go_simp; try with_reducible rfl
  simp only [List.getElem_toArray, List.getElem_cons_succ, List.getElem_cons_zero, Act.put, List.setIfInBounds_toArray, List.set_cons_zero, List.set_cons_succ]
  refine wpAnyH_take (i := 8) (v := ?va8) rfl (by kernel_rfl) (by kernel_rfl) (by kernel_rfl) (fun _ _ _ h => h) (Or.inl ⟨by rfl, ?ha8⟩) (by assumption) ?_
  case ha8 => intro w hSw; (try dsimp only at hSw); go_simp; try with_reducible rfl
  simp only [List.getElem_toArray, List.getElem_cons_succ, List.getElem_cons_zero, Act.put, List.setIfInBounds_toArray, List.set_cons_zero, List.set_cons_succ]
  refine wpAnyH_take (i := 9) (v := ?vb9) rfl (by kernel_rfl) (by kernel_rfl) (by kernel_rfl) (fun _ _ _ h => h) (Or.inl ⟨by rfl, ?hb9⟩) (by assumption) ?_
  case hb9 => intro w hSw; (try dsimp only at hSw); go_simp; try with_reducible rfl
  simp only [List.getElem_toArray, List.getElem_cons_succ, List.getElem_cons_zero, Act.put, List.setIfInBounds_toArray, List.set_cons_zero, List.set_cons_succ]
  refine wpAnyH_done (by kernel_rfl) ?_ _
  refine NoPanic.normal ?_
  clear hHeld hS4
  go_wp2_with fail
  have hls : gu.ls.length = g.h := HOK1.out.len.trans HWH.out.2
  have HLS := Lib.hid hls
  clear hls
  go_loopw [32] (fun i wr => ∃ (k : Nat) (Nk : List Ln), k ≤ q ∧ i = .int .i64 (k : Int) ∧ Below w2.heap.size w2 wr ∧ GridB wr p' hb2 hc2 Nk ⟨W, H, fitK gu.ls W H k⟩ ∧ ∀ j ∈ foot p' hb2 Nk, w2.heap.size ≤ j) (fun i _ => q - (RowKit.intOf i).toNat)
  case atStart => exact ⟨0, N, Nat.zero_le _, rfl, HB24.out, by unfold fitK; simpa using HN4.out, HF2.out⟩
  case round =>
    obtain ⟨k, Nk, hk, rfl, hbr, hNk, hft⟩ := hrel
    have HBR := Lib.hid hbr
    have HNK := Lib.hid hNk
    have HFT := Lib.hid hft
    by_cases hlt : k < q
    · have g2 : decide ((k : Int) < (q : Int)) = true := by simp; omega
      have gn : decide (k < q) = true := by simp; omega
      obtain ⟨wd, hwd⟩ : ∃ wd, wd = wr.drew := ⟨_, rfl⟩
      have hrd : Below wr.heap.size wr wd := by rw [hwd]; exact (Below.refl _ _).drew
      have hbd := hbr.trans (hrd.mono hbr.size)
      have hMd := HM.out.below hbd
      have hNd := hNk.below hrd
      have hkM : k < M.length := by rw [HM.out.len, HLS.out]; omega
      have hkN : k < Nk.length := by rw [hNk.len, fitK_len _ _ _ _ (by rw [HLS.out]; omega) (by omega)]; omega
      have hlo := HOK1.out.line (y := k) (by rw [HWH.out.2]; omega)
      have s1 := hMd.cell2
      have s2 := hMd.hcell' hkM
      have s3 := hNd.cell2
      have s4 : wd.cell? ⟨p', 0, none⟩ = some (.int .i64 (W : Int)) := hNd.cell0
      have e5 := hNd.hcell' hkN
      have e6 := hNd.hfrozen k
      have hcap : (gu.line k).length ≤ M[k].c := by
        obtain ⟨_, _, _, h, _⟩ := (hMd.row' hkM).block rfl
        exact h
      have hTd := HT2.out.on hbd HT2.out.room
      have hll60 : (gu.line k).length ≤ 60 := by rw [hlo.len]; exact HOK1.out.w2
      have HFIT := Lib.hid (fitL_ok' wd hTd (gu.line k) (some ⟨M[k].b, 0, none⟩) M[k].c wd.heap.size W (hMd.rowR hkM) (by simp) (Nat.le_refl _) (by omega) hcap (by omega))
      have hMn : M.length = g.h := HM.out.len.trans HLS.out
      have hNn : Nk.length = H := by rw [hNk.len, fitK_len _ _ _ _ (by rw [HLS.out]; omega) (by omega)]
      have hsucc := fitK_succ gu.ls W H k (by rw [HLS.out]; omega) (by omega)
      have hlk : gu.ls[k]'(by rw [HLS.out]; omega) = gu.line k := by
        unfold Gr.line
        rw [List.getD_eq_getElem?_getD, List.getElem?_eq_getElem (by rw [HLS.out]; omega)]
        rfl
      rw [hlk] at hsucc
      have HSU := Lib.hid hsucc
      have HKN := Lib.hid hkN
      have HND := Lib.hid hNd
      have HBD := Lib.hid hbd
      have HRD := Lib.hid hrd
      have WD := Lib.hid hwd
      have hpl : p < wd.heap.size := hMd.lt p (by simp [foot])
      have hhl1 : hb1 < wd.heap.size := hMd.lt hb1 (by simp [foot])
      have hpl' : p' < wd.heap.size := hNd.lt p' (by simp [foot])
      have hhl2 : hb2 < wd.heap.size := hNd.lt hb2 (by simp [foot])
      have hp'hb2 : p' ≠ hb2 := hNd.ne_hb
      have hge2 : w2.heap.size ≤ hb2 := hft hb2 (by simp [foot])
      have hpw2 : p < w2.heap.size := HM.out.lt p (by simp [foot])
      have hhw2 : hb1 < w2.heap.size := HM.out.lt hb1 (by simp [foot])
      have hkHi : (k : Int) < (H : Int) := by omega
      have hkgi : (k : Int) < (g.h : Int) := by omega
      rw [hMn] at s1
      rw [hNn] at s3
      clear hMd hNd
      generalize (gu.line k).length = ll at *
      generalize M[k].b = mb at *
      generalize M[k].c = mc at *
      generalize Nk[k].b = nb at *
      generalize Nk[k].c = nc at *
      clear hwd hrd hbd hkM hkN hlo hcap hTd hsucc hlk hbr hNk hft hMn
      have hS : (wd.cell? ⟨p, 2, none⟩ = some (.slice (some ⟨hb1, 0, none⟩) g.h hc1) ∧ wd.cell? ⟨hb1, k, none⟩ = some (.slice (some ⟨mb, 0, none⟩) ll mc)) ∧ wd.cell? ⟨p', 2, none⟩ = some (.slice (some ⟨hb2, 0, none⟩) H hc2) ∧ wd.cell? ⟨p', 0, none⟩ = some (.int .i64 (W : Int)) := ⟨⟨s1, s2⟩, s3, s4⟩
      have HSK := Lib.hid (fun (v : World) (hv : Below wd.heap.size wd v) => show (v.cell? ⟨p, 2, none⟩ = some (.slice (some ⟨hb1, 0, none⟩) g.h hc1) ∧ v.cell? ⟨hb1, k, none⟩ = some (.slice (some ⟨mb, 0, none⟩) ll mc)) ∧ v.cell? ⟨p', 2, none⟩ = some (.slice (some ⟨hb2, 0, none⟩) H hc2) ∧ v.cell? ⟨p', 0, none⟩ = some (.int .i64 (W : Int)) from
        ⟨⟨(hv.cell (p := ⟨p, 2, none⟩) hpl).trans s1, (hv.cell (p := ⟨hb1, k, none⟩) hhl1).trans s2⟩, (hv.cell (p := ⟨p', 2, none⟩) hpl').trans s3, (hv.cell (p := ⟨p', 0, none⟩) hpl').trans s4⟩)
      clear s1 s2 s3 s4
      go_wp2_with fail
      refine wp_region_noPanic ?_
      refine wp_region_held_drew (S := fun v => (v.cell? ⟨p, 2, none⟩ = some (.slice (some ⟨hb1, 0, none⟩) g.h hc1) ∧ v.cell? ⟨hb1, k, none⟩ = some (.slice (some ⟨mb, 0, none⟩) ll mc)) ∧ v.cell? ⟨p', 2, none⟩ = some (.slice (some ⟨hb2, 0, none⟩) H hc2) ∧ v.cell? ⟨p', 0, none⟩ = some (.int .i64 (W : Int))) (by kernel_rfl) (by rw [← WD.out]; exact hS) (fun hHeld => ?_)
      rw [← WD.out]
      refine wpAnyH_take (i := 0) (v := ?vc0) rfl (by kernel_rfl) (by kernel_rfl) (by kernel_rfl) (fun _ _ _ h => h) (Or.inl ⟨by rfl, ?hc0⟩) (by assumption) ?_
      case hc0 => intro w hSw; (try dsimp only at hSw); go_simp; try with_reducible rfl
      simp only [List.getElem_toArray, List.getElem_cons_zero, Act.put, List.setIfInBounds_toArray, List.set_cons_zero, List.set_cons_succ]
      refine wpAnyH_take (i := 1) (v := ?vc1) rfl (by kernel_rfl) (by kernel_rfl) (by kernel_rfl) (fun _ _ _ h => h) (Or.inl ⟨by rfl, ?hc1⟩) (by assumption) ?_
      case hc1 => intro w hSw; (try dsimp only at hSw); go_simp; try with_reducible rfl
      simp only [List.getElem_toArray, List.getElem_cons_succ, List.getElem_cons_zero, Act.put, List.setIfInBounds_toArray, List.set_cons_zero, List.set_cons_succ]
      refine wpAnyH_take (i := 2) (v := ?vc2) rfl (by kernel_rfl) (by kernel_rfl) (by kernel_rfl) (fun _ _ _ h => h) (Or.inl ⟨by rfl, ?hc2⟩) (by assumption) ?_
      case hc2 => intro w hSw; (try dsimp only at hSw); go_simp; try with_reducible rfl
      simp only [List.getElem_toArray, List.getElem_cons_succ, List.getElem_cons_zero, Act.put, List.setIfInBounds_toArray, List.set_cons_zero, List.set_cons_succ]
      refine wpAnyH_take (i := 3) (v := ?vc3) rfl (by kernel_rfl) (by kernel_rfl) (by kernel_rfl) (fun _ _ _ h => h) (Or.inl ⟨by rfl, ?hc3⟩) (by assumption) ?_
      case hc3 => intro w hSw; (try dsimp only at hSw); go_simp; try with_reducible rfl
      simp only [List.getElem_toArray, List.getElem_cons_succ, List.getElem_cons_zero, Act.put, List.setIfInBounds_toArray, List.set_cons_zero, List.set_cons_succ]
      refine wpAnyH_take (i := 4) (v := ?vc4) rfl (by kernel_rfl) (by kernel_rfl) (by kernel_rfl) (fun _ _ _ h => h) (Or.inl ⟨by rfl, ?hc4⟩) (by assumption) ?_
      case hc4 => intro w hSw; (try dsimp only at hSw); go_simp; try with_reducible rfl
      simp only [List.getElem_toArray, List.getElem_cons_succ, List.getElem_cons_zero, Act.put, List.setIfInBounds_toArray, List.set_cons_zero, List.set_cons_succ]
      refine wpAnyH_take (i := 5) (v := ?vc5) rfl (by kernel_rfl) (by kernel_rfl) (by kernel_rfl) (fun _ _ _ h => h) (Or.inl ⟨by rfl, ?hc5⟩) (by assumption) ?_
      case hc5 => intro w hSw; (try dsimp only at hSw); go_simp; try with_reducible rfl
      simp only [List.getElem_toArray, List.getElem_cons_succ, List.getElem_cons_zero, Act.put, List.setIfInBounds_toArray, List.set_cons_zero, List.set_cons_succ]
      refine wpAnyH_take (i := 6) (v := ?vc6) rfl (by kernel_rfl) (by kernel_rfl) (by kernel_rfl) (fun _ _ _ h => h) (Or.inl ⟨by rfl, ?hc6⟩) (by assumption) ?_
      case hc6 => intro w hSw; (try dsimp only at hSw); go_simp; try with_reducible rfl
      simp only [List.getElem_toArray, List.getElem_cons_succ, List.getElem_cons_zero, Act.put, List.setIfInBounds_toArray, List.set_cons_zero, List.set_cons_succ]
      refine wpAnyH_take (i := 7) (v := ?vc7) rfl (by kernel_rfl) (by kernel_rfl) (by kernel_rfl) (fun _ _ _ h => h) (Or.inl ⟨by rfl, ?hc7⟩) (by assumption) ?_
      case hc7 => intro w hSw; (try dsimp only at hSw); go_simp; try with_reducible rfl
      simp only [List.getElem_toArray, List.getElem_cons_succ, List.getElem_cons_zero, Act.put, List.setIfInBounds_toArray, List.set_cons_zero, List.set_cons_succ]
      refine wpAnyH_take (i := 8) (v := ?vc8) rfl (by kernel_rfl) (by kernel_rfl) (by kernel_rfl) (fun _ _ _ h => h) (Or.inl ⟨by rfl, ?hc8⟩) (by assumption) ?_
      case hc8 => intro w hSw; (try dsimp only at hSw); go_simp; try with_reducible rfl
      simp only [List.getElem_toArray, List.getElem_cons_succ, List.getElem_cons_zero, Act.put, List.setIfInBounds_toArray, List.set_cons_zero, List.set_cons_succ]
      refine wpAnyH_take (i := 9) (v := ?vc9) rfl (by kernel_rfl) (by kernel_rfl) (by kernel_rfl) (fun _ _ _ h => h) (Or.inl ⟨by rfl, ?hc9⟩) (by assumption) ?_
      case hc9 => intro w hSw; (try dsimp only at hSw); go_simp; try with_reducible rfl
      simp only [List.getElem_toArray, List.getElem_cons_succ, List.getElem_cons_zero, Act.put, List.setIfInBounds_toArray, List.set_cons_zero, List.set_cons_succ]
      refine wpAnyH_take (i := 10) (v := ?vc10) rfl (by kernel_rfl) (by kernel_rfl) (by kernel_rfl) (fun _ _ _ h => h) (Or.inl ⟨by rfl, ?hc10⟩) (by assumption) ?_
      case hc10 => intro w hSw; (try dsimp only at hSw); go_simp; try with_reducible rfl
      simp only [List.getElem_toArray, List.getElem_cons_succ, List.getElem_cons_zero, Act.put, List.setIfInBounds_toArray, List.set_cons_zero, List.set_cons_succ]
      refine wpAnyH_take (i := 11) (v := ?vc11) rfl (by kernel_rfl) (by kernel_rfl) (by kernel_rfl) (fun _ _ _ h => h) (Or.inl ⟨by rfl, ?hc11⟩) (by assumption) ?_
      case hc11 => intro w hSw; (try dsimp only at hSw); go_simp; try with_reducible rfl
      simp only [List.getElem_toArray, List.getElem_cons_succ, List.getElem_cons_zero, Act.put, List.setIfInBounds_toArray, List.set_cons_zero, List.set_cons_succ]
      refine wpAnyH_take (i := 12) (v := ?vc12) rfl (by kernel_rfl) (by kernel_rfl) (by kernel_rfl) (fun _ _ _ h => h) (Or.inl ⟨by rfl, ?hc12⟩) (by assumption) ?_
      case hc12 => intro w hSw; (try dsimp only at hSw); go_simp; try with_reducible rfl
      simp only [List.getElem_toArray, List.getElem_cons_succ, List.getElem_cons_zero, Act.put, List.setIfInBounds_toArray, List.set_cons_zero, List.set_cons_succ]
      refine wpAnyH_take (i := 13) (v := ?vc13) rfl (by kernel_rfl) (by kernel_rfl) (by kernel_rfl) (fun _ _ _ h => h) (Or.inl ⟨by rfl, ?hc13⟩) (by assumption) ?_
      case hc13 => intro w hSw; (try dsimp only at hSw); go_simp; try with_reducible rfl
      simp only [List.getElem_toArray, List.getElem_cons_succ, List.getElem_cons_zero, Act.put, List.setIfInBounds_toArray, List.set_cons_zero, List.set_cons_succ]
      refine wpAnyH_take (i := 14) (v := ?vc14) rfl (by kernel_rfl) (by kernel_rfl) (by kernel_rfl) (fun _ _ _ h => h) (Or.inl ⟨by rfl, ?hc14⟩) (by assumption) ?_
      case hc14 => intro w hSw; (try dsimp only at hSw); go_simp; try with_reducible rfl
      simp only [List.getElem_toArray, List.getElem_cons_succ, List.getElem_cons_zero, Act.put, List.setIfInBounds_toArray, List.set_cons_zero, List.set_cons_succ]
      refine wpAnyH_take (i := 15) (v := ?vc15) rfl (by kernel_rfl) (by kernel_rfl) (by kernel_rfl) (fun _ _ _ h => h) (Or.inl ⟨by rfl, ?hc15⟩) (by assumption) ?_
      case hc15 => intro w hSw; (try dsimp only at hSw); go_simp; try with_reducible rfl
      simp only [List.getElem_toArray, List.getElem_cons_succ, List.getElem_cons_zero, Act.put, List.setIfInBounds_toArray, List.set_cons_zero, List.set_cons_succ]
      refine wpAnyH_ready (rs := [16]) (by kernel_rfl) (by simp) ?_
      refine AllReadyH.cons rfl (fun K hK => ?_) AllReadyH.nil
      go_simp
      refine HFIT.out.mono ?_
      rintro e w5 ⟨v5, rfl, ho5, hb5⟩
      obtain ⟨gx, cx, hv5, -, -, -, -, -, -⟩ := ho5.place (by rw [fitL_len]; omega)
      obtain ⟨z, hzd⟩ : ∃ z : Ln, z = ⟨gx, cx, fitL (gu.line k) W⟩ := ⟨_, rfl⟩
      have hvs : v5 = z.s.v := by rw [hv5, hzd]; rfl
      have hzl : z.l = fitL (gu.line k) W := by rw [hzd]
      rw [hvs, ← hzl] at ho5
      have hzb := (ho5.lt z.b rfl).1
      have hNew := (HND.out.below hb5).setHead HKN.out z (ho5.mono (Nat.zero_le _)) (fun hm => by have := HND.out.lt _ hm; omega)
      have hgr : (⟨W, H, fitK gu.ls W H k⟩ : Gr).setL k z.l = ⟨W, H, fitK gu.ls W H (k + 1)⟩ := by unfold Gr.setL; rw [hzl, HSU.out]
      rw [hgr] at hNew
      have hfoot : ∀ j ∈ foot p' hb2 (Nk.set k z), w2.heap.size ≤ j := fun j hj => by
        rcases foot_set z j hj with hj | rfl
        · exact HFT.out j hj
        · have := HBD.out.size; omega
      have hbel : Below w2.heap.size w2 (w5.setCell ⟨hb2, k, none⟩ z.s.v) := (HBD.out.trans (hb5.mono HBD.out.size)).setCell (p := ⟨hb2, k, none⟩) hge2 _
      have u5 := (hb5.cell (p := ⟨hb2, k, none⟩) hhl2).trans e5
      have f5 := (hb5.frozen (p := ⟨hb2, k, none⟩) hhl2).trans e6
      have hS5 := HSK.out w5 hb5
      have hne : ∀ q j, q ≠ hb2 → ∀ u, (w5.setCell ⟨hb2, k, none⟩ u).cell? ⟨q, j, none⟩ = w5.cell? ⟨q, j, none⟩ := fun q j hq u => World.cell?_setCell_other _ _ _ _ (fun e => hq.symm (by simpa using congrArg Addr.block e))
      have HNE := Lib.hid hne
      have n1 : p ≠ hb2 := by omega
      have n2 : hb1 ≠ hb2 := by omega
      rw [← hvs, hv5, fitL_len] at hNew hbel
      have HNEW := Lib.hid hNew
      have HFOOT := Lib.hid hfoot
      have HBEL := Lib.hid hbel
      rw [fitL_len] at hv5
      rw [hv5]
      clear hNew hfoot hbel hv5 hvs hzd hzl ho5 hb5 hne hgr hzb
      dsimp only
      refine hK.out _ _ ?_ (fun hHeld => ?_)
      · exact hS5
      clear hK K
      refine wpAnyH_take (i := 17) (v := ?vd17) rfl (by kernel_rfl) (by kernel_rfl) (by kernel_rfl) (fun _ _ _ h => h) (Or.inl ⟨by rfl, ?hd17⟩) (by assumption) ?_
      case hd17 => intro w hSw; (try dsimp only at hSw); go_simp; try with_reducible rfl
      simp only [List.getElem_toArray, List.getElem_cons_succ, List.getElem_cons_zero, Act.put, List.setIfInBounds_toArray, List.set_cons_zero, List.set_cons_succ]
      refine wpAnyH_ready (rs := [18]) (by kernel_rfl) (by simp) ?_
      refine AllReadyH.cons rfl (fun K hK => ?_) AllReadyH.nil
      go_simp
      refine hK.out _ _ ?_ (fun hHeld => ?_)
      · exact ⟨⟨(HNE.out p 2 n1 _).trans hS5.1.1, (HNE.out hb1 k n2 _).trans hS5.1.2⟩, (HNE.out p' 2 hp'hb2 _).trans hS5.2.1, (HNE.out p' 0 hp'hb2 _).trans hS5.2.2⟩
      clear hK K
      refine wpAnyH_done (by kernel_rfl) ?_ _
      refine NoPanic.normal ?_
      clear hHeld hS5 hS
      generalize hwn : w5.setCell ⟨hb2, k, none⟩ (.slice (some ⟨gx, 0, none⟩) W cx) = wn at *
      go_wp2_with fail
      go_roundw
      case rel => exact ⟨k + 1, Nk.set k z, by omega, by simp, HBEL.out, HNEW.out, HFOOT.out⟩
      case measure => simp [RowKit.intOf]; omega
    · have g2 : decide ((k : Int) < (q : Int)) = false := by simp; omega
      have gn : decide (k < q) = false := by simp; omega
      obtain rfl : k = q := by omega
      have z0 := hNk.cell0
      have z1 := hNk.cell1
      have z2 := hNk.cell2
      simp only at z0 z1
      have hMr := HM.out.below hbr
      have y0 := hMr.cell0
      have y1 := hMr.cell1
      have y2 := hMr.cell2
      have f0 := hMr.frozen 0
      have f1 := hMr.frozen 1
      have f2 := hMr.frozen 2
      clear hbr hNk hft hMr
      go_wp2_with fail
      go_ret
      have hmr := HM.out.below HBR.out
      have hpF : p ∈ foot p hb L := by simp [foot]
      have hpw2 : p < w2.heap.size := HM.out.lt p (by simp [foot])
      have hgrid := HNK.out.move hmr.cells (fun hm => by have := HFT.out p hm; omega)
      have hfk : fitK gu.ls W H k = fitG gu.ls W H := by rw [HQ.out, ← HLS.out, fitK_all]
      rw [hfk] at hgrid
      have hfr3 := set3_fr (S := fun j => j = p) wr p (.int .i64 (W : Int)) (.int .i64 (H : Int)) (.slice (some ⟨hb2, 0, none⟩) Nk.length hc2) rfl
      have hsz := HFR.out.size
      refine ⟨A, c, _, rfl, ⟨_, _, _, hgrid, rfl⟩, fun j hj => ?_, ?_, ?_, HAN.out⟩
      · rcases List.mem_cons.1 hj with rfl | hj
        · exact .inl hpF
        · have := HFT.out j (List.mem_cons_of_mem _ hj)
          exact .inr (by omega)
      · exact (HFR.out.trans' (Fr.of_below HBR.out)).trans' (hfr3.mono (fun j e => by rw [e]; exact hpF))
      · have h1 := HOUT.out.below HBR.out
        have h2 : LinesAt w2 (fun j => j < w2.heap.size ∧ j ∉ F1) A out := HOUT.out.mono (fun j hj hn => ⟨hj, hn⟩)
        have h3 := (h2.below HBR.out).keep (w' := ((wr.setCell ⟨p, 0, none⟩ (.int .i64 (W : Int))).setCell ⟨p, 1, none⟩ (.int .i64 (H : Int))).setCell ⟨p, 2, none⟩ (.slice (some ⟨hb2, 0, none⟩) Nk.length hc2)) (fun j hj hn => hfr3.block j hj (fun e => hn.2 (by rw [HF1.out, e]; simp [foot]))) hfr3.size
        refine h3.mono (fun j _ hn hm => ?_)
        rcases List.mem_cons.1 hm with rfl | hm
        · exact hn.2 (by rw [HF1.out]; simp [foot])
        · have := HFT.out j (List.mem_cons_of_mem _ hm)
          omega
end Go.Proofs.YtbpkklcegiiheaaDoor
