/-
  CastBack's walk: what is exported comes back.
-/
import Derived.Test.YtciogdhapogolaaDoorAFit
import Derived.Test.YtciogdhapogolaaDoorAWhole
import Derived.Test.YtciogdhapogolaaDoorAImp
import Derived.Test.YtciogdhapogolaaDoorETame
import Derived.Test.YtciogdhapogolaaDoorESame
import Derived.Test.YtciogdhapogolaaDoorEOpen
set_option linter.unusedVariables false
namespace Go.Proofs.YtciogdhapogolaaDoor.castBack
open Go.RowKit Go.Lib EM
set_option maxRecDepth 100000

/-- A list whose first k events have whole texts. -/
def wholeL (l : List Ev) (k : Nat) : List Ev := (l.take k).map AM.wholeE ++ l.drop k
theorem wholeL_len (l : List Ev) (k : Nat) : (wholeL l k).length = l.length := by
  unfold wholeL
  rw [List.length_append, List.length_map, List.length_take, List.length_drop]
  omega
theorem wholeL_at (l : List Ev) (k : Nat) (h : k < l.length) (h' : k < (wholeL l k).length) : (wholeL l k)[k] = l[k] := by
  have e : (wholeL l k)[k]? = some l[k] := by
    unfold wholeL
    rw [List.getElem?_append_right (by rw [List.length_map, List.length_take]; omega)]
    simp [Nat.min_eq_left (Nat.le_of_lt h), h]
  rw [List.getElem?_eq_getElem h'] at e
  exact Option.some.inj e
theorem wholeL_set (l : List Ev) (k : Nat) (h : k < l.length) : (wholeL l k).set k (AM.wholeE l[k]) = wholeL l (k + 1) := by
  unfold wholeL
  have h1 : ((l.take k).map AM.wholeE).length = k := by rw [List.length_map, List.length_take]; omega
  rw [List.set_append_right _ _ (by omega), h1, Nat.sub_self, List.drop_eq_getElem_cons h, List.set_cons_zero, List.take_succ_eq_append_getElem h, List.map_append, List.append_assoc]
  rfl
theorem wholeL_all (l : List Ev) : wholeL l l.length = l.map AM.wholeE := by simp [wholeL]
theorem few_succ {l : List Ev} {k : Nat} (hk : k < l.length) (h : ∀ e ∈ l.take k, (AM.wholeE e).d.size ≤ 400) (hx : (AM.wholeE l[k]).d.size ≤ 400) : ∀ e ∈ l.take (k + 1), (AM.wholeE e).d.size ≤ 400 := by
  rw [List.take_succ_eq_append_getElem hk]
  intro e he
  rcases List.mem_append.1 he with he | he
  · exact h e he
  · rw [List.mem_singleton] at he
    rw [he]
    exact hx

theorem big (x y : Int) (A : Option Addr) (n c : Nat) (w : World) (h : 60 < n) (hF : Fms w) :
    Calls Tryd.prog 3 #[.int .i64 x, .int .i64 y, .slice A n c] w fun e w' => e = .returned (.bool true) ∧ Below w.heap.size w w' := by
  have g : decide ((60 : Int) < (n : Int)) = true := by simp; omega
  have HF := Lib.hid (afit_ok w hF)
  clear h hF
  go_enter Tryd.func3, Tryd.ntmps3
  go_wp2_with fail
  refine HF.out.mono ?_
  rintro e w1 ⟨rfl, b1⟩
  have HB1 := Lib.hid b1
  clear b1
  go_wp2_with fail
  go_ret
  exact ⟨rfl, HB1.out⟩

set_option maxHeartbeats 4000000 in
theorem core (HIMP : ImpSpec) (x y : Int) (A : Option Addr) (c : Nat) (l : List Ev) (w : World) (hl : l.length ≤ 60) (hr : evE.Row w w.heap.size A l) (hF : Fms w) (hN : Num w) (hU : Utf w) :
    Calls Tryd.prog 3 #[.int .i64 x, .int .i64 y, .slice A l.length c] w fun e w' => e = .returned (.bool true) ∧ Below w.heap.size w w' := by
  have g : decide ((60 : Int) < (l.length : Int)) = false := by simp; omega
  have HFit := Lib.hid (afit_ok w hF)
  have HIS := Lib.hid HIMP
  have HF := Lib.hid hF
  have HN := Lib.hid hN
  have HU := Lib.hid hU
  have HR := Lib.hid hr
  have HLB := Lib.hid (tameL_list l 0 (Int.le_refl _) (by omega))
  have hlen : (tameL 0 l).length ≤ 60 := by rw [tameL_len]; exact hl
  have a1 := i64_and62 x
  have a2 := i64_and62 y
  obtain ⟨p, hp⟩ : ∃ p, p = x % 4611686018427387904 := ⟨_, rfl⟩
  obtain ⟨q, hq⟩ : ∃ q, q = y % 4611686018427387904 := ⟨_, rfl⟩
  rw [← hp] at a1
  rw [← hq] at a2
  have p0 : 0 ≤ p ∧ p ≤ 4611686018427387903 := by omega
  have q0 : 0 ≤ q ∧ q ≤ 4611686018427387903 := by omega
  clear hr hF hN hU hp hq HIMP
  go_enter Tryd.func3, Tryd.ntmps3
  go_wp2_with fail
  refine HFit.out.mono ?_
  rintro e wf ⟨rfl, b1⟩
  have HBF := Lib.hid b1
  have hzf := b1.size
  clear b1 HFit
  have HTA := Lib.hid (tame_ok wf l A c w.heap.size (HR.out.below HBF.out) hzf (by omega))
  go_wp2_with fail
  refine HTA.out.mono ?_
  rintro e wt ⟨v, rfl, ho, hbt⟩
  obtain ⟨AL, cL, hv, -, -, -, -⟩ := ho.row
  subst hv
  have HBT := Lib.hid (below_next HBF.out hbt)
  have HO := Lib.hid ho
  clear ho hbt HTA
  generalize tameL 0 l = L at *
  go_wp2_with fail
  go_loopw [25] (fun i wr => ∃ k : Nat, k ≤ L.length ∧ i = .int .i64 (k : Int) ∧ Below w.heap.size w wr ∧ evE.Own wr wf.heap.size (.slice AL L.length cL) (wholeL L k) ∧ ∀ e ∈ L.take k, (AM.wholeE e).d.size ≤ 400) (fun i _ => L.length - (RowKit.intOf i).toNat)
  case atStart => exact ⟨0, Nat.zero_le _, rfl, HBT.out, by have := HO.out; simpa [wholeL] using this, by simp⟩
  case round =>
    obtain ⟨k, hk, rfl, hb, ho, hfew⟩ := hrel
    have HB := Lib.hid hb
    have HOW := Lib.hid ho
    have HFEW := Lib.hid hfew
    have hz := hb.size
    clear hb ho hfew HO HBT
    by_cases hlt : k < L.length
    · have g1 : decide ((k : Int) < (L.length : Int)) = true := by simp; omega
      have gn : decide (k < L.length) = true := by simp; omega
      have hll := wholeL_len L k
      obtain ⟨gg, c2, hv, hbg, hgz, -, -, hfz, hcell⟩ := HOW.out.place (by omega)
      rw [hll] at hv
      obtain ⟨rfl, rfl⟩ : AL = some ⟨gg, 0, none⟩ ∧ cL = c2 := by injection hv with h1 _ h3; exact ⟨h1, h3⟩
      have x2 := hcell k (by omega) 2 (by decide)
      rw [wholeL_at L k hlt] at x2
      have x2' : wr.cell? ⟨gg, k * 5 + 2, none⟩ = some (.string L[k].d) := x2
      have hrt := AM.listB_right HLB.out L[k] (List.getElem_mem hlt)
      have hdl : L[k].d.data.toList.length ≤ 1000 := by
        have := (right_parts hrt).2.2.2.2.2.2.2.2.1
        rw [Array.length_toList]
        have e : L[k].d.data.size = L[k].d.size := rfl
        omega
      have HWH := Lib.hid (awhole_ok L[k].d.data.toList (by omega) wr)
      rw [tx_of] at HWH
      have HSET := Lib.hid (fun w3 (h3 : Below wr.heap.size wr w3) => (HOW.out.below h3).set (i := k) (j := 2) (a' := AM.wholeE L[k]) (u := .string (tx (JM.whole L[k].d.data.toList))) (by rw [hll]) (by omega) (by decide) (by rw [wholeL_at L k hlt]; rfl))
      have HWS := Lib.hid (wholeL_set L k hlt)
      have HFS := Lib.hid (fun hx => few_succ hlt HFEW.out hx)
      rw [show (AM.wholeE L[k]).d.size = (JM.whole L[k].d.data.toList).length by unfold AM.wholeE; rw [tx_size]] at HFS
      generalize hT : JM.whole L[k].d.data.toList = T at *
      generalize hD : L[k].d = D at *
      have HCC := Lib.hid (fun w3 (h3 : Below wr.heap.size wr w3) => (show w3.cell? ⟨gg, k * 5 + 2, none⟩ = some (.string D) from (h3.cell (p := ⟨gg, k * 5 + 2, none⟩) hgz).trans x2'))
      have HFZ := Lib.hid (fun w3 (h3 : Below wr.heap.size wr w3) => (show w3.frozen? ⟨gg, k * 5 + 2, none⟩ = false by
        obtain ⟨g3, c3, hv3, -, -, -, -, hfz3, -⟩ := (HOW.out.below h3).place (by omega)
        injection hv3 with h1 _ _
        injection h1 with h1
        injection h1 with h1 _ _
        rw [h1]
        exact hfz3 _))
      clear hcell hfz hv x2 hll hT hD hrt
      go_wp2_with (go_at_call 10; refine HWH.out.mono ?_; rintro e w3 ⟨rfl, b3⟩; refine Hid.out ?_)
      have c3 := HCC.out w3 b3
      have f3 := HFZ.out w3 b3
      have HO3 := Lib.hid (HSET.out w3 b3)
      rw [HWS.out] at HO3
      have HB3 := Lib.hid ((HB.out.trans (b3.mono hz)).setCell (p := ⟨gg, k * 5 + 2, none⟩) (show w.heap.size ≤ gg by omega) (.string (tx T)))
      refine Lib.hid ?_
      clear b3 HCC HFZ HSET HWS HWH x2'
      by_cases h4 : 400 < T.length
      · have g4 : decide ((400 : Int) < (T.length : Int)) = true := by simp; omega
        have g5 : decide (400 < T.length) = true := by simp; omega
        clear h4
        go_wp2_with fail
        go_ret
        exact ⟨rfl, HB3.out⟩
      · have g4 : decide ((400 : Int) < (T.length : Int)) = false := by simp; omega
        have g5 : decide (400 < T.length) = false := by simp; omega
        go_wp2_with fail
        go_roundw
        case rel => exact ⟨k + 1, by omega, by simp, HB3.out, HO3.out, HFS.out (by omega)⟩
        case measure => simp [RowKit.intOf]; omega
    · have g1 : decide ((k : Int) < (L.length : Int)) = false := by simp; omega
      have gn : decide (k < L.length) = false := by simp; omega
      obtain rfl : k = L.length := by omega
      rw [wholeL_all] at HOW
      have hfew := HFEW.out
      rw [List.take_length] at hfew
      have hLB := AM.wholeL_list L 0 HLB.out hfew
      obtain ⟨A1, c1, hv1, -, -, -, hrow⟩ := HOW.out.row
      have hll : (L.map AM.wholeE).length = L.length := List.length_map _
      rw [hll] at hv1
      obtain ⟨rfl, rfl⟩ : AL = A1 ∧ cL = c1 := by injection hv1 with h1 _ h3; exact ⟨h1, h3⟩
      have HFr := HF.out.on HB.out
      have hut : ∀ e ∈ L.map AM.wholeE, AM.utf e := by
        intro e he
        obtain ⟨e', _, rfl⟩ := List.mem_map.1 he
        exact AM.wholeE_utf e'
      have hml : (L.map AM.wholeE).length ≤ 60 := by rw [hll]; exact hlen
      have HE := Lib.hid (export_ok wr p q p0.1 (by omega) q0.1 (by omega) HFr (L.map AM.wholeE) AL cL wr.heap.size hrow (Nat.le_refl _) hml (AM.listB_right hLB))
      have hcl : (AM.castB p.toNat q.toNat (L.map AM.wholeE)).length ≤ 1000000 := by
        have h1 := AM.lines_len _ (AM.listB_right hLB)
        have h2 := AM.dec_len p.toNat (by omega)
        have h3 := AM.dec_len q.toNat (by omega)
        unfold AM.castB AM.headB AM.pA AM.pB
        simp only [List.length_append, List.length_cons, List.length_nil]
        omega
      have HIM := Lib.hid (AM.imp_cast p.toNat q.toNat (by omega) (by omega) _ hLB hut)
      have HSM := Lib.hid (fun w A' c' (hr' : evE.Row w w.heap.size A' (L.map AM.wholeE)) (h2 : Below wr.heap.size wr w) => esame_ok w (L.map AM.wholeE) (L.map AM.wholeE) A' AL c' cL w.heap.size hr' ((hrow.below h2).mono h2.size) (Nat.le_refl _) (by omega) (by omega))
      rw [hll] at HE
      simp only [hll] at HSM
      have hP : ((p.toNat : Nat) : Int) = p := Int.toNat_of_nonneg p0.1
      have hQ : ((q.toNat : Nat) : Int) = q := Int.toNat_of_nonneg q0.1
      generalize AM.castB p.toNat q.toNat (L.map AM.wholeE) = S at *
      have HII := Lib.hid (fun w (h : Below wr.heap.size wr w) => HIS.out.some (w := w) hcl (HFr.on h) ((HN.out.on HB.out).on h) ((HU.out.on HB.out).on h) HIM.out)
      rw [hP, hQ, hll] at HII
      clear hrow hut hLB hfew HFEW HOW HFr hml hv1 hP hQ HIM
      go_wp2_with fail
      refine HE.out.mono ?_
      rintro e we ⟨rfl, bE⟩
      have HB2 := Lib.hid (HB.out.trans (bE.mono hz))
      have HI2 := Lib.hid (HII.out we bE)
      have HBE := Lib.hid bE
      clear bE HE HII
      go_wp2_with fail
      refine HI2.out.mono ?_
      rintro e wi ⟨A', c', rfl, -, hrI, bI⟩
      have HB3 := Lib.hid (below_next HB2.out bI)
      have HS2 := Lib.hid (HSM.out wi A' c' hrI (HBE.out.trans (bI.mono HBE.out.size)))
      clear hrI bI HI2 HSM
      simp only [decide_true] at HS2
      go_wp2_with fail
      refine HS2.out.mono ?_
      rintro e ws ⟨rfl, bS⟩
      have HB4 := Lib.hid (below_next HB3.out bS)
      clear bS HS2
      go_wp2_with fail
      go_ret
      exact ⟨by simp, HB4.out⟩
end Go.Proofs.YtciogdhapogolaaDoor.castBack
