/-
  Layer 17 (cast): Export, as it landed (its helpers sign and text; one statement a line).
-/
import Derived.Test.YtciogdhapogolaaDoorAText
import Derived.Test.YtciogdhapogolaaDoorASign
import Derived.Test.YtciogdhapogolaaDoorEWd
import Derived.Deep.RegionHeld3
set_option linter.unusedVariables false
namespace Go.Proofs.YtciogdhapogolaaDoor
open Go.RowKit Go.Lib EM

theorem bld_lt {B b : Nat} {l : List UInt8} {w : World} (h : Bld B b l w) : b < w.heap.size :=
  h.elim (fun x => let ⟨_, _, e, _⟩ := x; (Array.getElem?_eq_some_iff.1 e).1) (fun x => let ⟨_, _, e, _⟩ := x; (Array.getElem?_eq_some_iff.1 e).1)
set_option maxRecDepth 100000 in
theorem castSign_ok (w : World) (k : Int) (h0 : 0 ≤ k) (h3 : k ≤ 3) (hG : Sgn w) : Calls Tryd.prog 24 #[.int .i64 k] w fun e w' => e = .returned (.string (tx [AM.signB k])) ∧ Below w.heap.size w w' := by
  have c0 : w.cell? ⟨0, 0, none⟩ = some (.string (tx [111])) := hG.cell 0 (by omega)
  have c1 : w.cell? ⟨0, 1, none⟩ = some (.string (tx [105])) := hG.cell 1 (by omega)
  have c2 : w.cell? ⟨0, 2, none⟩ = some (.string (tx [114])) := hG.cell 2 (by omega)
  have c3 : w.cell? ⟨0, 3, none⟩ = some (.string (tx [109])) := hG.cell 3 (by omega)
  clear hG
  have hz : k = 0 ∨ k = 1 ∨ k = 2 ∨ k = 3 := by omega
  clear h0 h3
  rcases hz with rfl | rfl | rfl | rfl
  all_goals
    go_enter Tryd.func24, Tryd.ntmps24
    go_wp2
    go_ret
    exact ⟨rfl, Below.refl _ _⟩

set_option maxRecDepth 100000 in
set_option maxHeartbeats 4000000 in
theorem castText_ok (w : World) (e : Ev) (hF : Fmt w) (hf : Fits e) :
    Calls Tryd.prog 26 #[evV e] w fun x w' => x = .returned (.string (tx (AM.textB e))) ∧ Below w.heap.size w w' := by
  obtain ⟨t, kk, d, a1, b1⟩ := e
  obtain ⟨t0, t1, w0, w1, h0, h1, hd⟩ := hf
  simp only [evV] at *
  obtain ⟨V, hV⟩ : ∃ V, V = w.alloc (.cells #[.int .i64 t, .int .i64 kk, .string d, .int .i64 a1, .int .i64 b1] 27) := ⟨_, rfl⟩
  have hb1 : Below w.heap.size w V := by rw [hV]; exact (Below.refl _ _).alloc (Nat.le_refl _) _
  have hc1 : EvAt V w.heap.size ⟨t, kk, d, a1, b1⟩ := by rw [hV]; exact EvAt.new w ⟨t, kk, d, a1, b1⟩
  have HV := Lib.hid hV
  have HB1 := Lib.hid hb1
  have HCV := Lib.hid hc1
  have HF := Lib.hid hF
  clear hV hb1 hc1 hF
  have hltV : w.heap.size < V.heap.size := HCV.out.lt
  obtain ⟨e0, e1, e2, e3, e4⟩ := HCV.out.cells
  simp only at e0 e1 e2 e3 e4
  obtain ⟨X, hX⟩ : ∃ X, X = AM.textB ⟨t, kk, d, a1, b1⟩ := ⟨_, rfl⟩
  rw [← hX]
  have HX := Lib.hid hX
  clear hX
  by_cases hk2 : kk = 2
  · subst hk2
    have q2 : ((2 : Int) == 2) = true := rfl
    obtain ⟨da, hda⟩ : ∃ da, da = decDigits a1.toNat := ⟨_, rfl⟩
    obtain ⟨db, hdb⟩ : ∃ db, db = decDigits b1.toNat := ⟨_, rfl⟩
    have lda : da.length ≤ 20 := by rw [hda]; exact AM.dec_len _ (by omega)
    have ldb : db.length ≤ 20 := by rw [hdb]; exact AM.dec_len _ (by omega)
    have HFX := HF.out.on HB1.out
    have HSZ := Lib.hid (show tx da ++ ⟨#[120]⟩ ++ tx db = tx X by rw [hda, hdb, size_tx, HX.out]; unfold AM.textB; rw [if_pos rfl])
    have HI1 : ∀ u : Wd (Below V.heap.size V), Calls Tryd.prog 22 #[.int .i64 a1] u.w fun e w' => e = .returned (.string (tx da)) ∧ ∃ u' : Wd (Below V.heap.size V), w' = u'.w := fun u => by
      rw [hda]
      exact (itoa_ok a1 w0 w1 u.w (HFX.on u.h)).mono fun e w' h => ⟨h.1, ⟨⟨w', below_next u.h h.2⟩, rfl⟩⟩
    have HI2 : ∀ u : Wd (Below V.heap.size V), Calls Tryd.prog 22 #[.int .i64 b1] u.w fun e w' => e = .returned (.string (tx db)) ∧ ∃ u' : Wd (Below V.heap.size V), w' = u'.w := fun u => by
      rw [hdb]
      exact (itoa_ok b1 h0 h1 u.w (HFX.on u.h)).mono fun e w' h => ⟨h.1, ⟨⟨w', below_next u.h h.2⟩, rfl⟩⟩
    have HI1 := Lib.hid HI1
    have HI2 := Lib.hid HI2
    have y3 : ∀ u : Wd (Below V.heap.size V), u.w.cell? ⟨w.heap.size, 3, none⟩ = some (.int .i64 a1) := fun u => (u.h.cell (p := ⟨w.heap.size, 3, none⟩) hltV).trans e3
    have y4 : ∀ u : Wd (Below V.heap.size V), u.w.cell? ⟨w.heap.size, 4, none⟩ = some (.int .i64 b1) := fun u => (u.h.cell (p := ⟨w.heap.size, 4, none⟩) hltV).trans e4
    haveI : Nonempty (Wd (Below V.heap.size V)) := ⟨⟨V, Below.refl _ _⟩⟩
    clear HFX hda hdb
    go_enter Tryd.func26, Tryd.ntmps26
    go_upto_region 1 with fail
    rw [← HV.out]
    go_upto_region 2 with fail
    refine region_in (Below V.heap.size V) (by kernel_rfl) (by kernel_rfl) (Below.refl _ _).drew ?_
    repeat (go_big_quiet_step (first | exact HI1.out _ | exact HI2.out _))
    refine wpQuiet_nil ?_
    rintro _ ⟨u3, rfl⟩
    rw [HSZ.out]
    have hu3 := u3.h
    clear HI1 HI2 y3 y4
    go_wp2_with fail
    go_ret
    exact ⟨rfl, HB1.out.trans (hu3.mono HB1.out.size)⟩
  · have q2 : (kk == 2) = false := by simp; omega
    have hd2 : tx X = d := by rw [HX.out]; unfold AM.textB; rw [if_neg hk2]
    go_enter Tryd.func26, Tryd.ntmps26
    go_upto_region 1 with fail
    rw [← HV.out]
    go_wp2_with fail
    go_ret
    exact ⟨by rw [hd2]; rfl, HB1.out⟩

set_option maxRecDepth 100000 in
set_option maxHeartbeats 4000000 in
theorem export_ok (w : World) (x y : Int) (hx0 : 0 ≤ x) (hx1 : x ≤ 9223372036854775807) (hy0 : 0 ≤ y) (hy1 : y ≤ 9223372036854775807) (hF : Fms w) (l : List Ev) (A : Option Addr) (c B : Nat) (hr : evE.Row w B A l) (hB : B ≤ w.heap.size) (hl : l.length ≤ 60) (hok : ∀ e ∈ l, right e = true) :
    Calls Tryd.prog 12 #[.int .i64 x, .int .i64 y, .slice A l.length c] w fun e w' => e = .returned (.string (tx (AM.castB x.toNat y.toNat l))) ∧ Below w.heap.size w w' := by
  have HR := Lib.hid hr
  have HOK := Lib.hid hok
  have HF := Lib.hid hF
  clear hr hok hF
  obtain ⟨a, ha⟩ : ∃ a, a = decDigits x.toNat := ⟨_, rfl⟩
  obtain ⟨b, hb⟩ : ∃ b, b = decDigits y.toNat := ⟨_, rfl⟩
  have HH := Lib.hid (show AM.headB x.toNat y.toNat = AM.pA ++ (a ++ (AM.pB ++ (b ++ [125, 10]))) by rw [ha, hb]; rfl)
  have la : a.length ≤ 20 := by rw [ha]; exact AM.dec_len _ (by omega)
  have lb : b.length ≤ 20 := by rw [hb]; exact AM.dec_len _ (by omega)
  have HA := Lib.hid ha
  have HBB := Lib.hid hb
  have hRl := cast_len x y hx1 hy1 (fun e he => fits_right (HOK.out e he))
  generalize hR : AM.castB x.toNat y.toNat l = R at hRl
  have HRR := Lib.hid hR
  have HS0 := Lib.hid (show AM.headB x.toNat y.toNat ++ (l.drop 0).flatMap AM.lineB = R by rw [List.drop_zero, ← hR]; rfl)
  have hhl : (AM.headB x.toNat y.toNat).length ≤ 200 := by rw [HH.out]; unfold AM.pA AM.pB; simp only [List.length_append, List.length_cons, List.length_nil]; omega
  clear hR ha hb
  have hb0 : Bld w.heap.size w.heap.size [] (w.alloc (.cells #[.pointer none, .slice none 0 0] 50)) := Lib.IsBuilderF.of (Lib.fresh_isBuilder 50 5 w)
  have bel0 : Below w.heap.size w (w.alloc (.cells #[.pointer none, .slice none 0 0] 50)) := (Below.refl _ w).alloc (Nat.le_refl _) _
  obtain ⟨W, hW⟩ : ∃ W, W = w.alloc (.cells #[.pointer none, .slice none 0 0] 50) := ⟨_, rfl⟩
  rw [← hW] at hb0 bel0
  have HW := Lib.hid hW
  have HB0 := Lib.hid hb0
  have HBel0 := Lib.hid bel0
  have hF0 := HF.out.on bel0
  clear hW hb0 bel0
  go_enter Tryd.func12, Tryd.ntmps12
  go_upto_region 2 with fail
  rw [← HW.out]
  go_wp2_with (go_at_call 22; refine (itoa_ok x hx0 hx1 _ hF0.fmt).mono ?_; rintro e w1 ⟨rfl, b1⟩; rw [← HA.out]; refine Hid.out ?_)
  have hF1 := hF0.on b1
  have HI1 := Lib.hid (bld_on HB0.out b1)
  have HBl1 := Lib.hid (HBel0.out.trans (b1.mono HBel0.out.size))
  refine Lib.hid ?_
  clear b1
  go_wp2_with (go_at_call 22; refine (itoa_ok y hy0 hy1 _ hF1.fmt).mono ?_; rintro e w2 ⟨rfl, b2⟩; rw [← HBB.out]; refine Hid.out ?_)
  have HI2 := Lib.hid (bld_on HI1.out b2)
  have HBl2 := Lib.hid (HBl1.out.trans (b2.mono HBl1.out.size))
  refine Lib.hid ?_
  clear b2 hF1
  go_wp2_with (go_at_call 21; rw [head_tx, ← HH.out]; refine (writeString w.heap.size w.heap.size [] _ _ HI2.out (by rw [tx_size]; simp only [List.length_nil]; omega) HBl2.out.size).mono ?_; rintro e w3 ⟨rfl, hI3, b3, -⟩; rw [List.nil_append, tx_list] at hI3; refine Hid.out ?_)
  have HI3 := Lib.hid hI3
  have HBl3 := Lib.hid (HBl2.out.trans b3)
  refine Lib.hid ?_
  clear hI3 b3
  go_wp2_with fail
  go_loopw [21] (fun i wr => ∃ (k : Nat) (S : List UInt8), k ≤ l.length ∧ i = .int .i64 (k : Int) ∧ Bld w.heap.size w.heap.size S wr ∧ Below w.heap.size w wr ∧ S ++ (l.drop k).flatMap AM.lineB = R) (fun i _ => l.length - (RowKit.intOf i).toNat)
  case atStart => exact ⟨0, _, Nat.zero_le _, rfl, HI3.out, HBl3.out, HS0.out⟩
  case round =>
    obtain ⟨k, S, hk, rfl, hI, hb, hS⟩ := hrel
    have HB := Lib.hid hb
    have HI := Lib.hid hI
    have hz := hb.size
    have hbl0 := bld_lt hI
    have hSl : S.length ≤ 200 + 700000 * l.length := by
      have := congrArg List.length hS
      rw [List.length_append] at this
      omega
    have HS := Lib.hid hS
    clear hb hI hS HS0 HI1 HI2 HI3 HBl1 HBl2 HBl3
    by_cases hlt : k < l.length
    · have g1 : decide ((k : Int) < (l.length : Int)) = true := by simp; omega
      have gn : decide (k < l.length) = true := by simp; omega
      obtain ⟨bb, off, rfl, hbl, c0, c1, c2, c3, c4⟩ := ev_at (HR.out.below (HB.out.mono hB)) hlt
      have HDR := Lib.hid (show l.drop k = l[k] :: l.drop (k + 1) from List.drop_eq_getElem_cons hlt)
      rw [HDR.out, List.flatMap_cons, ← List.append_assoc] at HS
      have hrt := HOK.out l[k] (List.getElem_mem hlt)
      have hll := line_len (fits_right hrt)
      obtain ⟨W1, hW1⟩ : ∃ W1, W1 = wr.alloc (.cells #[.int .i64 l[k].t, .int .i64 l[k].k, .string l[k].d, .int .i64 l[k].w, .int .i64 l[k].h] 27) := ⟨_, rfl⟩
      have hb1 : Below wr.heap.size wr W1 := by rw [hW1]; exact (Below.refl _ _).alloc (Nat.le_refl _) _
      have hc1 : EvAt W1 wr.heap.size l[k] := by rw [hW1]; exact EvAt.new wr l[k]
      have hft := fits_right hrt
      have HSG := Lib.hid (fun v (hG : Sgn v) => castSign_ok v l[k].k (right_parts hrt).2.2.1 (right_parts hrt).2.2.2.1 hG)
      have HTM := Lib.hid (fun v (hG : Fmt v) => time_ok l[k].t hft.t0 hft.t1 v hG)
      have HTX := Lib.hid (fun v (hG : Fmt v) => castText_ok v l[k] hG hft)
      have hxl := textB_len hft
      have hql := JM.quote_len (AM.textB l[k])
      have htl := AM.time_len l[k].t.toNat (by have := hft.t1; omega)
      have HLN := Lib.hid (show AM.lineB l[k] = [91] ++ (JM.timeL l[k].t.toNat ++ ([44, 32, 34] ++ ([AM.signB l[k].k] ++ ([34, 44, 32] ++ (JM.quote (AM.textB l[k]) ++ [93, 10]))))) from rfl)
      have HW1F := Lib.hid (HF.out.on (HB.out.trans (hb1.mono hz)))
      generalize hX : AM.textB l[k] = X at *
      generalize hS1 : AM.signB l[k].k = S1 at *
      clear hft hX hS1
      generalize hL : AM.lineB l[k] = L at *
      generalize l[k] = z at *
      obtain ⟨t, kk, d, a1, b1⟩ := z
      simp only at c0 c1 c2 c3 c4 hW1
      simp only [evV] at HTX
      simp only at HSG HTM HLN htl
      have HW1 := Lib.hid hW1
      have HB1 := Lib.hid hb1
      have HC1 := Lib.hid hc1
      have hz1 := hb1.size
      have hlt1 : wr.heap.size < W1.heap.size := hc1.lt
      clear hW1 hb1 hc1 hL hrt
      go_upto_region 6 with fail
      rw [← HW1.out]
      obtain ⟨e0, e1, e2, e3, e4⟩ := HC1.out.cells
      simp only at e0 e1 e2 e3 e4
      clear c0 c1 c2 c3 c4
      generalize hTT : JM.timeL t.toNat = TT at *
      generalize hQQ : JM.quote X = QQ at *
      have HQU := Lib.hid (fun v (hG : Fmt v) => quote_ok (tx X) (by rw [tx_size]; omega) v hG)
      rw [tx_list, hQQ] at HQU
      rw [timeL_eq, hTT] at HTM
      clear hTT hQQ e0 e1 e2 e3 e4
      refine wp_region_noPanic ?_
      refine wp_region_held_drew (S := fun v => EvAt v wr.heap.size ⟨t, kk, d, a1, b1⟩) (by kernel_rfl) (HC1.out.dead (Below.refl _ _).drew) (fun hHeld => ?_)
      have HSd := Lib.hid (show Below W1.heap.size W1 W1.drew from (Below.refl _ _).drew)
      have HTF := Lib.hid (HW1F.out.on HSd.out)
      refine wpAnyH_take (i := 0) (v := ?va0) rfl (by kernel_rfl) (by kernel_rfl) (by kernel_rfl) (fun _ _ _ h => h) (Or.inl ⟨by rfl, ?ha0⟩) (by assumption) ?_
      case ha0 => intro w hSw; (try dsimp only at hSw); obtain ⟨e0, e1, e2, e3, e4⟩ := hSw.cells; simp only at e0 e1 e2 e3 e4; go_simp; try with_reducible rfl
      simp only [List.getElem_toArray, List.getElem_cons_zero, Act.put, List.setIfInBounds_toArray, List.set_cons_zero, List.set_cons_succ]
      refine wpAnyH_take (i := 1) (v := ?va1) rfl (by kernel_rfl) (by kernel_rfl) (by kernel_rfl) (fun _ _ _ h => h) (Or.inl ⟨by rfl, ?ha1⟩) (by assumption) ?_
      case ha1 => intro w hSw; (try dsimp only at hSw); obtain ⟨e0, e1, e2, e3, e4⟩ := hSw.cells; simp only at e0 e1 e2 e3 e4; go_simp; try with_reducible rfl
      simp only [List.getElem_toArray, List.getElem_cons_succ, List.getElem_cons_zero, Act.put, List.setIfInBounds_toArray, List.set_cons_zero, List.set_cons_succ]
      refine wpAnyH_take (i := 5) (v := ?va5) rfl (by kernel_rfl) (by kernel_rfl) (by kernel_rfl) (fun _ _ _ h => h) (Or.inl ⟨by rfl, ?ha5⟩) (by assumption) ?_
      case ha5 => intro w hSw; (try dsimp only at hSw); obtain ⟨e0, e1, e2, e3, e4⟩ := hSw.cells; simp only at e0 e1 e2 e3 e4; go_simp; try with_reducible rfl
      simp only [List.getElem_toArray, List.getElem_cons_succ, List.getElem_cons_zero, Act.put, List.setIfInBounds_toArray, List.set_cons_zero, List.set_cons_succ]
      refine wpAnyH_take (i := 6) (v := ?va6) rfl (by kernel_rfl) (by kernel_rfl) (by kernel_rfl) (fun _ _ _ h => h) (Or.inl ⟨by rfl, ?ha6⟩) (by assumption) ?_
      case ha6 => intro w hSw; (try dsimp only at hSw); obtain ⟨e0, e1, e2, e3, e4⟩ := hSw.cells; simp only at e0 e1 e2 e3 e4; go_simp; try with_reducible rfl
      simp only [List.getElem_toArray, List.getElem_cons_succ, List.getElem_cons_zero, Act.put, List.setIfInBounds_toArray, List.set_cons_zero, List.set_cons_succ]
      refine wpAnyH_take (i := 10) (v := ?va10) rfl (by kernel_rfl) (by kernel_rfl) (by kernel_rfl) (fun _ _ _ h => h) (Or.inl ⟨by rfl, ?ha10⟩) (by assumption) ?_
      case ha10 => intro w hSw; (try dsimp only at hSw); obtain ⟨e0, e1, e2, e3, e4⟩ := hSw.cells; simp only at e0 e1 e2 e3 e4; go_simp; try with_reducible rfl
      simp only [List.getElem_toArray, List.getElem_cons_succ, List.getElem_cons_zero, Act.put, List.setIfInBounds_toArray, List.set_cons_zero, List.set_cons_succ]
      refine wpAnyH_ready (rs := [2]) (by kernel_rfl) (by simp) ?_
      refine AllReadyH.cons rfl (fun K hK => ?_) AllReadyH.nil
      rw [if_pos (by kernel_rfl)]
      go_simp
      refine (HTM.out _ HTF.out.fmt).mono ?_
      rintro e y1 ⟨rfl, hb⟩
      have HS1 := Lib.hid (below_next HSd.out hb)
      clear hb
      dsimp only
      refine hK.out _ _ ?_ (fun hHeld => ?_)
      · exact HC1.out.dead HS1.out
      clear hK K
      refine wpAnyH_take (i := 3) (v := ?vb3) rfl (by kernel_rfl) (by kernel_rfl) (by kernel_rfl) (fun _ _ _ h => h) (Or.inl ⟨by rfl, ?hb3⟩) (by assumption) ?_
      case hb3 => intro w hSw; (try dsimp only at hSw); go_simp; (try rw [if_neg (by omega)]); try with_reducible rfl
      simp only [List.getElem_toArray, List.getElem_cons_succ, List.getElem_cons_zero, Act.put, List.setIfInBounds_toArray, List.set_cons_zero, List.set_cons_succ]
      refine wpAnyH_take (i := 4) (v := ?vb4) rfl (by kernel_rfl) (by kernel_rfl) (by kernel_rfl) (fun _ _ _ h => h) (Or.inl ⟨by rfl, ?hb4⟩) (by assumption) ?_
      case hb4 => intro w hSw; (try dsimp only at hSw); go_simp; (try rw [if_neg (by omega)]); try with_reducible rfl
      simp only [List.getElem_toArray, List.getElem_cons_succ, List.getElem_cons_zero, Act.put, List.setIfInBounds_toArray, List.set_cons_zero, List.set_cons_succ]
      refine wpAnyH_ready (rs := [7]) (by kernel_rfl) (by simp) ?_
      refine AllReadyH.cons rfl (fun K hK => ?_) AllReadyH.nil
      rw [if_pos (by kernel_rfl)]
      go_simp
      refine (HSG.out _ (HW1F.out.on HS1.out).sgn).mono ?_
      rintro e y2 ⟨rfl, hb⟩
      have HS2 := Lib.hid (below_next HS1.out hb)
      clear hb
      dsimp only
      refine hK.out _ _ ?_ (fun hHeld => ?_)
      · exact HC1.out.dead HS2.out
      clear hK K
      refine wpAnyH_take (i := 8) (v := ?vc8) rfl (by kernel_rfl) (by kernel_rfl) (by kernel_rfl) (fun _ _ _ h => h) (Or.inl ⟨by rfl, ?hc8⟩) (by assumption) ?_
      case hc8 => intro w hSw; (try dsimp only at hSw); go_simp; (try rw [if_neg (by omega)]); try with_reducible rfl
      simp only [List.getElem_toArray, List.getElem_cons_succ, List.getElem_cons_zero, Act.put, List.setIfInBounds_toArray, List.set_cons_zero, List.set_cons_succ]
      refine wpAnyH_take (i := 9) (v := ?vc9) rfl (by kernel_rfl) (by kernel_rfl) (by kernel_rfl) (fun _ _ _ h => h) (Or.inl ⟨by rfl, ?hc9⟩) (by assumption) ?_
      case hc9 => intro w hSw; (try dsimp only at hSw); go_simp; (try rw [if_neg (by omega)]); try with_reducible rfl
      simp only [List.getElem_toArray, List.getElem_cons_succ, List.getElem_cons_zero, Act.put, List.setIfInBounds_toArray, List.set_cons_zero, List.set_cons_succ]
      refine wpAnyH_ready (rs := [11]) (by kernel_rfl) (by simp) ?_
      refine AllReadyH.cons rfl (fun K hK => ?_) AllReadyH.nil
      rw [if_pos (by kernel_rfl)]
      go_simp
      refine (HTX.out _ (HW1F.out.on HS2.out).fmt).mono ?_
      rintro e y3 ⟨rfl, hb⟩
      have HS3 := Lib.hid (below_next HS2.out hb)
      clear hb
      dsimp only
      refine hK.out _ _ ?_ (fun hHeld => ?_)
      · exact HC1.out.dead HS3.out
      clear hK K
      refine wpAnyH_ready (rs := [12]) (by kernel_rfl) (by simp) ?_
      refine AllReadyH.cons rfl (fun K hK => ?_) AllReadyH.nil
      rw [if_pos (by kernel_rfl)]
      go_simp
      refine (HQU.out _ (HW1F.out.on HS3.out).fmt).mono ?_
      rintro e y4 ⟨rfl, hb⟩
      have HS4 := Lib.hid (below_next HS3.out hb)
      clear hb
      have HI4 := Lib.hid (bld_on (bld_on HI.out HB1.out) HS4.out)
      have HB4 := Lib.hid (HB.out.trans ((HB1.out.trans (HS4.out.mono HB1.out.size)).mono hz))
      have hz4 := HB4.out.size
      dsimp only
      refine hK.out _ _ ?_ (fun hHeld => ?_)
      · exact HC1.out.dead HS4.out
      clear hK K
      refine wpAnyH_take (i := 13) (v := ?vd13) rfl (by kernel_rfl) (by kernel_rfl) (by kernel_rfl) (fun _ _ _ h => h) (Or.inl ⟨by rfl, ?hd13⟩) (by assumption) ?_
      case hd13 => intro w hSw; (try dsimp only at hSw); go_simp; (try rw [if_neg (by omega)]); try with_reducible rfl
      simp only [List.getElem_toArray, List.getElem_cons_succ, List.getElem_cons_zero, Act.put, List.setIfInBounds_toArray, List.set_cons_zero, List.set_cons_succ]
      refine wpAnyH_take (i := 14) (v := ?vd14) rfl (by kernel_rfl) (by kernel_rfl) (by kernel_rfl) (fun _ _ _ h => h) (Or.inl ⟨by rfl, ?hd14⟩) (by assumption) ?_
      case hd14 => intro w hSw; (try dsimp only at hSw); go_simp; (try rw [if_neg (by omega)]); try with_reducible rfl
      simp only [List.getElem_toArray, List.getElem_cons_succ, List.getElem_cons_zero, Act.put, List.setIfInBounds_toArray, List.set_cons_zero, List.set_cons_succ]
      refine wpAnyH_ready (rs := [15]) (by kernel_rfl) (by simp) ?_
      refine AllReadyH.cons rfl (fun K hK => ?_) AllReadyH.nil
      rw [if_pos (by kernel_rfl)]
      go_simp
      rw [line_tx, ← HLN.out]
      refine (writeString w.heap.size w.heap.size S (tx L) _ HI4.out (by rw [tx_size]; omega) hz4).mono ?_
      rintro e w5 ⟨rfl, hI5, b5, k5⟩
      rw [tx_list] at hI5
      have HK5 := Lib.hid (k5 _ _ (HC1.out.dead HS4.out) (by intro e; injection e with e; omega) (by intro c fz e; cases e))
      have HI5 := Lib.hid hI5
      have HB5 := Lib.hid (HB4.out.trans b5)
      clear hI5 b5 k5
      dsimp only
      refine hK.out _ _ ?_ (fun hHeld => ?_)
      · exact HK5.out
      clear hK K
      refine wpAnyH_done (by kernel_rfl) ?_ _
      refine NoPanic.normal ?_
      go_wp2_with fail
      go_roundw
      case rel => exact ⟨k + 1, S ++ L, by omega, by simp, HI5.out, HB5.out, HS.out⟩
      case measure => simp [RowKit.intOf]; omega
    · have g1 : decide ((k : Int) < (l.length : Int)) = false := by simp; omega
      have gn : decide (k < l.length) = false := by simp; omega
      have hSe : S = R := by have := HS.out; rw [List.drop_of_length_le (by omega)] at this; simpa using this
      subst hSe
      have hst := Tryd.Builder_String_any_k w.heap.size w.heap.size _ wr HI.out hz
      go_wp2_with (go_at_call 27; refine hst.mono ?_; rintro e w3 ⟨rfl, -, bel3, -⟩)
      go_ret
      exact ⟨rfl, HB.out.trans bel3⟩
end Go.Proofs.YtciogdhapogolaaDoor
