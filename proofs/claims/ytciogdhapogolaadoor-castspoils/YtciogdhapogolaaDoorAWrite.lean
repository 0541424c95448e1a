/-
  Layer 17's laws: write, what the document says.
-/
import Derived.Test.YtciogdhapogolaaDoorAText
import Derived.Test.YtciogdhapogolaaDoorASign
import Derived.Test.YtciogdhapogolaaDoorEWd
set_option linter.unusedVariables false
namespace Go.Proofs.YtciogdhapogolaaDoor
open Go.RowKit Go.Lib EM

set_option maxRecDepth 100000 in
set_option maxHeartbeats 4000000 in
theorem write_ok (w : World) (x y : Int) (hx0 : 0 ≤ x) (hx1 : x ≤ 9223372036854775807) (hy0 : 0 ≤ y) (hy1 : y ≤ 9223372036854775807) (hF : Fms w) (l : List Ev) (A : Option Addr) (c B : Nat) (hr : evE.Row w B A l) (hB : B ≤ w.heap.size) (hl : l.length ≤ 1000000) (hok : ∀ e ∈ l, Fits e) :
    Calls Tryd.prog 14 #[.int .i64 x, .int .i64 y, .slice A l.length c] w fun e w' => e = .returned (.string (tx (AM.castB x.toNat y.toNat l))) ∧ Below w.heap.size w w' := by
  have HR := Lib.hid hr
  have HOK := Lib.hid hok
  have HF := Lib.hid hF.fmt
  clear hr hok hF
  obtain ⟨a, ha⟩ : ∃ a, a = decDigits x.toNat := ⟨_, rfl⟩
  obtain ⟨b, hb⟩ : ∃ b, b = decDigits y.toNat := ⟨_, rfl⟩
  have HH := Lib.hid (show AM.headB x.toNat y.toNat = AM.pA ++ (a ++ (AM.pB ++ (b ++ [125, 10]))) by rw [ha, hb]; rfl)
  have la : a.length ≤ 20 := by rw [ha]; exact AM.dec_len _ (by omega)
  have lb : b.length ≤ 20 := by rw [hb]; exact AM.dec_len _ (by omega)
  have HA := Lib.hid ha
  have HBB := Lib.hid hb
  have hRl := cast_len x y hx1 hy1 HOK.out
  generalize hR : AM.castB x.toNat y.toNat l = R at hRl
  have HRR := Lib.hid hR
  clear hR ha hb
  go_enter Tryd.func14, Tryd.ntmps14
  go_wp2_with (go_at_call 22; refine (itoa_ok x hx0 hx1 _ HF.out).mono ?_; rintro e w1 ⟨rfl, b1⟩; rw [← HA.out]; refine Hid.out ?_)
  have hF1 := HF.out.on b1
  refine Lib.hid ?_
  go_wp2_with (go_at_call 22; refine (itoa_ok y hy0 hy1 _ hF1).mono ?_; rintro e w2 ⟨rfl, b2⟩; rw [← HBB.out]; refine Hid.out ?_)
  have HB0 := Lib.hid (below_next b1 b2)
  refine Lib.hid ?_
  clear b1 b2 hF1
  have HS0 := Lib.hid (show AM.headB x.toNat y.toNat ++ (l.drop 0).flatMap AM.lineB = R by rw [List.drop_zero, ← HRR.out]; rfl)
  go_wp2
  go_loopw [7, 22] (fun s i wr => ∃ (k : Nat) (S : List UInt8), k ≤ l.length ∧ i = .int .i64 (k : Int) ∧ s = .string (tx S) ∧ Below w.heap.size w wr ∧ S ++ (l.drop k).flatMap AM.lineB = R) (fun _ i _ => l.length - (RowKit.intOf i).toNat)
  case atStart => exact ⟨0, AM.headB x.toNat y.toNat, Nat.zero_le _, rfl, by rw [HH.out, ← head_tx], HB0.out, HS0.out⟩
  case round =>
    obtain ⟨k, S, hk, rfl, rfl, hb, hS⟩ := hrel
    have HB := Lib.hid hb
    have hz := hb.size
    have hSl : S.length ≤ 200 + 700000 * l.length := by
      have := congrArg List.length hS
      rw [List.length_append] at this
      omega
    have HS := Lib.hid hS
    clear hb hS HS0 HB0
    by_cases hlt : k < l.length
    · have g1 : decide ((k : Int) < (l.length : Int)) = true := by simp; omega
      have gn : decide (k < l.length) = true := by simp; omega
      obtain ⟨bb, off, rfl, hbl, c0, c1, c2, c3, c4⟩ := ev_at (HR.out.below (HB.out.mono hB)) hlt
      have HDR := Lib.hid (show l.drop k = l[k] :: l.drop (k + 1) from List.drop_eq_getElem_cons hlt)
      rw [HDR.out, List.flatMap_cons, ← List.append_assoc] at HS
      have hfit := HOK.out l[k] (List.getElem_mem hlt)
      have hsz := textB_len hfit
      generalize l[k] = z at *
      obtain ⟨t, kk, d, a1, b1⟩ := z
      obtain ⟨t0, t1, w0, w1, h0, h1, hd⟩ := hfit
      simp only at c0 c1 c2 c3 c4 t0 t1 w0 w1 h0 h1 hd
      obtain ⟨W, hW⟩ : ∃ W, W = wr.alloc (.cells #[.int .i64 t, .int .i64 kk, .string d, .int .i64 a1, .int .i64 b1] 27) := ⟨_, rfl⟩
      have hb1 : Below wr.heap.size wr W := by rw [hW]; exact (Below.refl _ _).alloc (Nat.le_refl _) _
      have hc1 : EvAt W wr.heap.size ⟨t, kk, d, a1, b1⟩ := by rw [hW]; exact EvAt.new wr ⟨t, kk, d, a1, b1⟩
      have HW := Lib.hid hW
      have HB1 := Lib.hid hb1
      have HC1 := Lib.hid hc1
      have hz1 := hb1.size
      clear hW hb1 hc1
      go_upto_region 5 with fail
      rw [← HW.out]
      obtain ⟨e0, e1, e2, e3, e4⟩ := HC1.out.cells
      simp only at e0 e1 e2 e3 e4
      clear c0 c1 c2 c3 c4
      have hltW : wr.heap.size < W.heap.size := HC1.out.lt
      have x2 : ∀ u : Wd (Below W.heap.size W), u.w.cell? ⟨wr.heap.size, 2, none⟩ = some (.string d) := fun u => (u.h.cell (p := ⟨wr.heap.size, 2, none⟩) hltW).trans e2
      haveI : Nonempty (Wd (Below W.heap.size W)) := ⟨⟨W, Below.refl _ _⟩⟩
      refine region_in (Below W.heap.size W) (by kernel_rfl) (by kernel_rfl) (Below.refl _ _).drew ?_
      repeat (go_big_quiet_step (fail))
      refine wpQuiet_nil ?_
      rintro _ ⟨u, rfl⟩
      obtain ⟨V, hu⟩ := u
      have HBV0 := Lib.hid (HB.out.trans ((HB1.out.trans (hu.mono HB1.out.size)).mono hz))
      have HCV := Lib.hid (HC1.out.dead hu)
      have hltV : wr.heap.size < V.heap.size := HCV.out.lt
      obtain ⟨e0, e1, e2, e3, e4⟩ := HCV.out.cells
      simp only at e0 e1 e2 e3 e4
      have hdl : d.data.toList.length ≤ 100000 := by rw [Array.length_toList]; exact hd
      simp only
      clear x2 hu
      -- ways (wip/mk/awrite.py)
      by_cases hk1 : kk = 1
      · have q1 : (kk == 1) = true := by simp; omega
        have q2 : (kk == 2) = false := by simp; omega
        have q3 : (kk == 3) = false := by simp; omega
        have HFV := HF.out.on HBV0.out
        have htl := AM.time_len t.toNat (by omega)
        have hql := JM.quote_len d.data.toList
        have HLN := Lib.hid (show AM.lineB ⟨t, kk, d, a1, b1⟩ = [91] ++ (JM.timeL t.toNat ++ ([44, 32, 34] ++ ([105] ++ ([34, 44, 32] ++ (JM.quote d.data.toList ++ [93, 10]))))) by unfold AM.lineB AM.signB AM.textB; rw [hk1]; rfl)
        go_wp2_with (go_at_call 23; refine (time_ok t t0 t1 _ HFV).mono ?_; rintro e w3 ⟨rfl, b3⟩; rw [timeL_eq]; refine Hid.out ?_)
        have hF3 := HFV.on b3
        refine Lib.hid ?_
        go_wp2_with (go_at_call 25; refine (quote_ok _ (by first | omega | (rw [tx_size]; omega)) _ hF3).mono ?_; rintro e w4 ⟨rfl, b4⟩; (try rw [tx_list]); refine Hid.out ?_)
        have HB4 := Lib.hid (below_next HBV0.out (below_next b3 b4))
        refine Lib.hid ?_
        clear b3 b4 hF3
        generalize JM.timeL t.toNat = TT at *
        generalize JM.quote d.data.toList = QQ at *
        go_wp2
        go_roundw
        case rel => exact ⟨k + 1, S ++ AM.lineB ⟨t, kk, d, a1, b1⟩, by omega, by simp, by rw [← tx_add, HLN.out, ← line_tx], HB4.out, HS.out⟩
        case measure => simp [RowKit.intOf]; omega
      by_cases hk3 : kk = 3
      · have q1 : (kk == 1) = false := by simp; omega
        have q2 : (kk == 2) = false := by simp; omega
        have q3 : (kk == 3) = true := by simp; omega
        have HFV := HF.out.on HBV0.out
        have htl := AM.time_len t.toNat (by omega)
        have hql := JM.quote_len d.data.toList
        have HLN := Lib.hid (show AM.lineB ⟨t, kk, d, a1, b1⟩ = [91] ++ (JM.timeL t.toNat ++ ([44, 32, 34] ++ ([109] ++ ([34, 44, 32] ++ (JM.quote d.data.toList ++ [93, 10]))))) by unfold AM.lineB AM.signB AM.textB; rw [hk3]; rfl)
        go_wp2_with (go_at_call 23; refine (time_ok t t0 t1 _ HFV).mono ?_; rintro e w3 ⟨rfl, b3⟩; rw [timeL_eq]; refine Hid.out ?_)
        have hF3 := HFV.on b3
        refine Lib.hid ?_
        go_wp2_with (go_at_call 25; refine (quote_ok _ (by first | omega | (rw [tx_size]; omega)) _ hF3).mono ?_; rintro e w4 ⟨rfl, b4⟩; (try rw [tx_list]); refine Hid.out ?_)
        have HB4 := Lib.hid (below_next HBV0.out (below_next b3 b4))
        refine Lib.hid ?_
        clear b3 b4 hF3
        generalize JM.timeL t.toNat = TT at *
        generalize JM.quote d.data.toList = QQ at *
        go_wp2
        go_roundw
        case rel => exact ⟨k + 1, S ++ AM.lineB ⟨t, kk, d, a1, b1⟩, by omega, by simp, by rw [← tx_add, HLN.out, ← line_tx], HB4.out, HS.out⟩
        case measure => simp [RowKit.intOf]; omega
      by_cases hk2 : kk = 2
      · have q1 : (kk == 1) = false := by simp; omega
        have q2 : (kk == 2) = true := by simp; omega
        have q3 : (kk == 3) = false := by simp; omega
        obtain ⟨da, hda⟩ : ∃ da, da = decDigits a1.toNat := ⟨_, rfl⟩
        obtain ⟨db, hdb⟩ : ∃ db, db = decDigits b1.toNat := ⟨_, rfl⟩
        have lda : da.length ≤ 20 := by rw [hda]; exact AM.dec_len _ (by omega)
        have ldb : db.length ≤ 20 := by rw [hdb]; exact AM.dec_len _ (by omega)
        have HFX := HF.out.on HBV0.out
        have HSZ := Lib.hid (show tx da ++ ⟨#[120]⟩ ++ tx db = tx (AM.sizeB a1.toNat b1.toNat) by rw [hda, hdb, size_tx])
        have hsl : (AM.sizeB a1.toNat b1.toNat).length ≤ 50 := by unfold AM.sizeB; rw [List.length_append, List.length_cons, ← hda, ← hdb]; omega
        have HI1 : ∀ u : Wd (Below V.heap.size V), Calls Tryd.prog 22 #[.int .i64 a1] u.w fun e w' => e = .returned (.string (tx da)) ∧ ∃ u' : Wd (Below V.heap.size V), w' = u'.w := fun u => by
          rw [hda]
          exact (itoa_ok a1 w0 w1 u.w (HFX.on u.h)).mono fun e w' h => ⟨h.1, ⟨⟨w', below_next u.h h.2⟩, rfl⟩⟩
        have HI2 : ∀ u : Wd (Below V.heap.size V), Calls Tryd.prog 22 #[.int .i64 b1] u.w fun e w' => e = .returned (.string (tx db)) ∧ ∃ u' : Wd (Below V.heap.size V), w' = u'.w := fun u => by
          rw [hdb]
          exact (itoa_ok b1 h0 h1 u.w (HFX.on u.h)).mono fun e w' h => ⟨h.1, ⟨⟨w', below_next u.h h.2⟩, rfl⟩⟩
        have HI1 := Lib.hid HI1
        have HI2 := Lib.hid HI2
        have y3 : ∀ u : Wd (Below V.heap.size V), u.w.cell? ⟨wr.heap.size, 3, none⟩ = some (.int .i64 a1) := fun u => (u.h.cell (p := ⟨wr.heap.size, 3, none⟩) hltV).trans e3
        have y4 : ∀ u : Wd (Below V.heap.size V), u.w.cell? ⟨wr.heap.size, 4, none⟩ = some (.int .i64 b1) := fun u => (u.h.cell (p := ⟨wr.heap.size, 4, none⟩) hltV).trans e4
        haveI : Nonempty (Wd (Below V.heap.size V)) := ⟨⟨V, Below.refl _ _⟩⟩
        clear HFX hda hdb
        go_upto_region 10 with fail
        refine region_in (Below V.heap.size V) (by kernel_rfl) (by kernel_rfl) (Below.refl _ _).drew ?_
        repeat (go_big_quiet_step (first | exact HI1.out _ | exact HI2.out _))
        refine wpQuiet_nil ?_
        rintro _ ⟨u3, rfl⟩
        rw [HSZ.out]
        have HBV0 := Lib.hid (below_next HBV0.out u3.h)
        obtain ⟨e0, e1, e2, e3, e4⟩ := (HCV.out.dead u3.h).cells
        simp only at e0 e1 e2 e3 e4
        clear HI1 HI2 y3 y4
        have HFV := HF.out.on HBV0.out
        have htl := AM.time_len t.toNat (by omega)
        have hql := JM.quote_len (AM.sizeB a1.toNat b1.toNat)
        have HLN := Lib.hid (show AM.lineB ⟨t, kk, d, a1, b1⟩ = [91] ++ (JM.timeL t.toNat ++ ([44, 32, 34] ++ ([114] ++ ([34, 44, 32] ++ (JM.quote (AM.sizeB a1.toNat b1.toNat) ++ [93, 10]))))) by unfold AM.lineB AM.signB AM.textB; rw [hk2]; rfl)
        go_wp2_with (go_at_call 23; refine (time_ok t t0 t1 _ HFV).mono ?_; rintro e w3 ⟨rfl, b3⟩; rw [timeL_eq]; refine Hid.out ?_)
        have hF3 := HFV.on b3
        refine Lib.hid ?_
        go_wp2_with (go_at_call 25; refine (quote_ok _ (by first | omega | (rw [tx_size]; omega)) _ hF3).mono ?_; rintro e w4 ⟨rfl, b4⟩; (try rw [tx_list]); refine Hid.out ?_)
        have HB4 := Lib.hid (below_next HBV0.out (below_next b3 b4))
        refine Lib.hid ?_
        clear b3 b4 hF3
        generalize JM.timeL t.toNat = TT at *
        generalize JM.quote (AM.sizeB a1.toNat b1.toNat) = QQ at *
        go_wp2
        go_roundw
        case rel => exact ⟨k + 1, S ++ AM.lineB ⟨t, kk, d, a1, b1⟩, by omega, by simp, by rw [← tx_add, HLN.out, ← line_tx], HB4.out, HS.out⟩
        case measure => simp [RowKit.intOf]; omega
      have q1 : (kk == 1) = false := by simp; omega
      have q2 : (kk == 2) = false := by simp; omega
      have q3 : (kk == 3) = false := by simp; omega
      have HFV := HF.out.on HBV0.out
      have htl := AM.time_len t.toNat (by omega)
      have hql := JM.quote_len d.data.toList
      have HLN := Lib.hid (show AM.lineB ⟨t, kk, d, a1, b1⟩ = [91] ++ (JM.timeL t.toNat ++ ([44, 32, 34] ++ ([111] ++ ([34, 44, 32] ++ (JM.quote d.data.toList ++ [93, 10]))))) by unfold AM.lineB AM.signB AM.textB; rw [if_neg hk1, if_neg hk2, if_neg hk3, if_neg hk2])
      go_wp2_with (go_at_call 23; refine (time_ok t t0 t1 _ HFV).mono ?_; rintro e w3 ⟨rfl, b3⟩; rw [timeL_eq]; refine Hid.out ?_)
      have hF3 := HFV.on b3
      refine Lib.hid ?_
      go_wp2_with (go_at_call 25; refine (quote_ok _ (by first | omega | (rw [tx_size]; omega)) _ hF3).mono ?_; rintro e w4 ⟨rfl, b4⟩; (try rw [tx_list]); refine Hid.out ?_)
      have HB4 := Lib.hid (below_next HBV0.out (below_next b3 b4))
      refine Lib.hid ?_
      clear b3 b4 hF3
      generalize JM.timeL t.toNat = TT at *
      generalize JM.quote d.data.toList = QQ at *
      go_wp2
      go_roundw
      case rel => exact ⟨k + 1, S ++ AM.lineB ⟨t, kk, d, a1, b1⟩, by omega, by simp, by rw [← tx_add, HLN.out, ← line_tx], HB4.out, HS.out⟩
      case measure => simp [RowKit.intOf]; omega
    · have g1 : decide ((k : Int) < (l.length : Int)) = false := by simp; omega
      have gn : decide (k < l.length) = false := by simp; omega
      have hSe : S = R := by have := HS.out; rw [List.drop_of_length_le (by omega)] at this; simpa using this
      subst hSe
      go_wp2_with fail
      go_ret
      exact ⟨rfl, HB.out⟩
end Go.Proofs.YtciogdhapogolaaDoor
