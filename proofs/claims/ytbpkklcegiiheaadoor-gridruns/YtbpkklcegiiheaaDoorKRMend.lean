/-
  Layer 8: the reference's Mend.
-/
import Derived.Test.YtbpkklcegiiheaaDoorKTame
namespace Go.Proofs.YtbpkklcegiiheaaDoor
open Go.RowKit Go.Lib KM

/-- The cell ahead of place k is no first half of the cell at k. -/
def freeI (l : List Cel) (k : Nat) : Prop := ∀ a b, prevI l k = some a → l[k]? = some b → halves a b = false
theorem freeI_zero (l : List Cel) : freeI l 0 := fun a b h => by simp [prevI] at h
theorem freeI_succ {l : List Cel} {k : Nat} (hk : k < l.length) (h : ∀ b, l[k + 1]? = some b → halves l[k] b = false) : freeI l (k + 1) := fun a b ha hb => by
  have : prevI l (k + 1) = some l[k] := by unfold prevI; rw [if_neg (by omega), Nat.add_sub_cancel, List.getElem?_eq_getElem hk]
  rw [this] at ha
  obtain rfl := Option.some.inj ha
  exact h b hb
theorem alone_rest {l : List Cel} {k : Nat} (hk : k < l.length) (hf : freeI l k) (h0 : l[k].rune = 0) : aloneI l k = true := by
  have hg : l.getD k ⟨0, zero⟩ = l[k] := by simp [hk]
  unfold aloneI aloneN
  rw [hg, if_pos h0]
  cases hp : (if k = 0 then none else l[k - 1]?) with
  | none => rfl
  | some a =>
    have := hf a l[k] hp (List.getElem?_eq_getElem hk)
    simp [this]
theorem alone_wide {l : List Cel} {k : Nat} (hk : k < l.length) (hw : GM.wide l[k].rune = true) : aloneI l k = !(l[k + 1]?.any fun b => halves l[k] b) := by
  have hg : l.getD k ⟨0, zero⟩ = l[k] := by simp [hk]
  unfold aloneI aloneN
  rw [hg, if_neg (wide_ne _ hw), if_pos hw]
theorem alone_plain {l : List Cel} {k : Nat} (hk : k < l.length) (hw : GM.wide l[k].rune = false) (h0 : l[k].rune ≠ 0) : aloneI l k = false := by
  have hg : l.getD k ⟨0, zero⟩ = l[k] := by simp [hk]
  unfold aloneI aloneN
  rw [hg, if_neg h0, if_neg (by rw [hw]; simp)]
theorem mendK_at1 (l : List Cel) (k : Nat) (hk : k + 1 < l.length) : (mendK l k)[k + 1]'(by rw [mendK_len]; exact hk) = l[k + 1] := by
  unfold mendK
  have hm := mend_len l
  rw [List.getElem_append_right (by rw [List.length_take]; omega)]
  simp only [List.length_take, List.getElem_drop]
  congr 1
  omega
/-- What a row of the call's own holds at a place, as it is read; and what becomes of it where a blank is laid there. -/
theorem own_mend {w : World} {base : Nat} {v : Value} {l : List Cel} {k : Nat} (h : celE.Own w base v (mendK l k)) (hk : k < l.length) : ∃ g c, v = .slice (some ⟨g, 0, none⟩) l.length c ∧ base ≤ g ∧ l.length ≤ c ∧ w.frozen? ⟨g, k * 6, none⟩ = false ∧
    (w.cell? ⟨g, k * 6, none⟩ = some (.int .i32 l[k].rune) ∧ w.cell? ⟨g, k * 6 + 1, none⟩ = some (.bool l[k].sty.bold) ∧ w.cell? ⟨g, k * 6 + 2, none⟩ = some (.bool l[k].sty.under) ∧ w.cell? ⟨g, k * 6 + 3, none⟩ = some (.bool l[k].sty.turned) ∧ w.cell? ⟨g, k * 6 + 4, none⟩ = some (.int .i64 l[k].sty.fore) ∧ w.cell? ⟨g, k * 6 + 5, none⟩ = some (.int .i64 l[k].sty.back)) ∧
    (∀ hk1 : k + 1 < l.length, w.cell? ⟨g, (k + 1) * 6, none⟩ = some (.int .i32 l[k + 1].rune) ∧ w.cell? ⟨g, (k + 1) * 6 + 1, none⟩ = some (.bool l[k + 1].sty.bold) ∧ w.cell? ⟨g, (k + 1) * 6 + 2, none⟩ = some (.bool l[k + 1].sty.under) ∧ w.cell? ⟨g, (k + 1) * 6 + 3, none⟩ = some (.bool l[k + 1].sty.turned) ∧ w.cell? ⟨g, (k + 1) * 6 + 4, none⟩ = some (.int .i64 l[k + 1].sty.fore) ∧ w.cell? ⟨g, (k + 1) * 6 + 5, none⟩ = some (.int .i64 l[k + 1].sty.back)) ∧
    (aloneI l k = true → celE.Own (w.setCell ⟨g, k * 6, none⟩ (.int .i32 32)) base v (mendK l (k + 1))) := by
  have hm := mendK_len l k
  obtain ⟨g, c, hv, hgb, _, hcap, _, hfr, hcells⟩ := h.place (by omega)
  rw [hm] at hv hcap
  refine ⟨g, c, hv, hgb, hcap, hfr _, ?_, fun hk1 => ?_, fun ha => ?_⟩
  · have e := mendK_at l k hk
    rw [← e]
    exact ⟨hcells k (by omega) 0 (by decide), hcells k (by omega) 1 (by decide), hcells k (by omega) 2 (by decide), hcells k (by omega) 3 (by decide), hcells k (by omega) 4 (by decide), hcells k (by omega) 5 (by decide)⟩
  · have e := mendK_at1 l k hk1
    rw [← e]
    exact ⟨hcells (k + 1) (by omega) 0 (by decide), hcells (k + 1) (by omega) 1 (by decide), hcells (k + 1) (by omega) 2 (by decide), hcells (k + 1) (by omega) 3 (by decide), hcells (k + 1) (by omega) 4 (by decide), hcells (k + 1) (by omega) 5 (by decide)⟩
  · rw [mendK_succ l k hk]
    refine h.set (i := k) (j := 0) (by rw [hm]; exact hv) (by omega) (by decide) ?_
    rw [mendK_at l k hk]
    have : mendI l k = ⟨32, l[k].sty⟩ := by unfold mendI; rw [ha]; simp [hk, KM.blank]
    rw [this]
    rfl
theorem El.Own.heap {α : Type} {E : El α} {w w' : World} {base : Nat} {v : Value} {L : List α} (h : E.Own w base v L) (e : w'.heap = w.heap) : E.Own w' base v L := h.keep fun _ _ => by rw [e]

set_option maxRecDepth 100000 in
set_option maxHeartbeats 1000000 in
theorem rmend_ok (w : World) (l : List Cel) (A : Option Addr) (c B : Nat) (hr : celE.Row w B A l) (hA : A = none → c = 0) (hl : l.length ≤ 1000) :
    Calls Tryd.prog 27 #[.slice A l.length c] w (CelsPost w (mend l)) := by
  have HR := Lib.hid hr
  have HA := Lib.hid hA
  clear hr hA
  go_enter Tryd.func27, Tryd.ntmps27
  go_wp2_with (at_builtin; refine celE.wp_append rfl (.const (.slice none 0 0)) (.tmp 6) rfl w.heap.size _ [] rfl (El.Own.nil _ _) _ l l.length c B rfl rfl HR.out HA.out ?c1 ?c2 (Nat.le_refl _) ?_)
  case c1 => simp [celE]; omega
  case c2 => simp [maxLen]; omega
  intro v w1 ho1 hg1
  have HO := Lib.hid ho1
  have HB1 := Lib.hid (El.Own.grow_below (E := celE) (El.Own.nil w w.heap.size) hg1 (Nat.le_refl _))
  clear ho1 hg1
  obtain ⟨A1, cap, hv, hcap⟩ : ∃ A1 cap, v = .slice A1 l.length cap ∧ (A1 = none → l.length = 0) := by
    obtain ⟨A1, cap, h1, h2, h3, h4, h5⟩ := HO.out.row
    exact ⟨A1, cap, h1, fun h => by have h5 := h4 h; have h6 : l.length ≤ cap := h2; omega⟩
  subst hv
  go_wp2_with fail
  go_loopw [4] (fun i wr => ∃ k : Nat, k ≤ l.length ∧ i = .int .i64 (k : Int) ∧ Below w.heap.size w wr ∧ freeI l k ∧ celE.Own wr w.heap.size (.slice A1 l.length cap) (mendK l k)) (fun i _ => l.length - (RowKit.intOf i).toNat)
  case atStart => exact ⟨0, Nat.zero_le _, rfl, HB1.out, freeI_zero l, HO.out⟩
  case round =>
    obtain ⟨k, hk, rfl, hb, hf, ho⟩ := hrel
    have HB := Lib.hid hb
    have HFR := Lib.hid hf
    have HOK := Lib.hid ho
    clear hb hf ho
    by_cases hlt : k < l.length
    · have g1 : decide ((k : Int) < (l.length : Int)) = true := by simp; omega
      have gn : decide (k < l.length) = true := by simp; omega
      obtain ⟨g, cp, hv, hgb, hcp, hfz, ⟨c0, c1, c2, c3, c4, c5⟩, hnext, hset⟩ := own_mend HOK.out hlt
      injection hv with e1 e2 e3
      subst e1 e3
      clear e2
      have HSE := Lib.hid hset
      clear hset
      rcases hwd : GM.wide l[k].rune with _ | _
      · by_cases h0 : l[k].rune = 0
        · have HF : Hid (freeI l (k + 1)) := Lib.hid (freeI_succ hlt fun b _ => halves_rest _ _ h0)
          have HSET := Lib.hid (HSE.out (alone_rest hlt HFR.out h0))
          have g0 : (l[k].rune == 0) = true := by simp [h0]
          have HW := Lib.hid hwd
          clear hwd h0 hnext
          generalize l[k] = y at *
          obtain ⟨r, ⟨bo, u, t, f, ba⟩⟩ := y
          simp only at *
          go_wp2_with fail
          refine (rwide_ok wr r).mono ?_
          rw [HW.out]
          rintro e w2 ⟨rfl, hw2⟩
          rw [hw2]
          clear hw2 w2
          go_wp2_with fail
          go_quiet (fail)
          go_wp2_with fail
          go_roundw
          case rel => exact ⟨k + 1, by omega, by simp, (below_drewN HB.out _).setCell (p := ⟨g, k * 6, none⟩) hgb _, HF.out, HSET.out.heap rfl⟩
          case measure => simp [RowKit.intOf]; omega
        · have HF : Hid (freeI l (k + 1)) := Lib.hid (freeI_succ hlt fun b _ => by unfold halves; rw [hwd]; rfl)
          have HSET := Lib.hid (show celE.Own wr w.heap.size _ (mendK l (k + 1)) by rw [mendK_same l k hlt (alone_plain hlt hwd h0)]; exact HOK.out)
          have g0 : (l[k].rune == 0) = false := by simp [h0]
          have HW := Lib.hid hwd
          clear hwd h0 hnext
          generalize l[k] = y at *
          obtain ⟨r, ⟨bo, u, t, f, ba⟩⟩ := y
          simp only at *
          go_wp2_with fail
          refine (rwide_ok wr r).mono ?_
          rw [HW.out]
          rintro e w2 ⟨rfl, hw2⟩
          rw [hw2]
          clear hw2 w2
          go_wp2_with fail
          go_quiet (fail)
          go_wp2_with fail
          go_roundw
          case rel => exact ⟨k + 1, by omega, by simp, below_drewN HB.out _, HF.out, HSET.out.heap rfl⟩
          case measure => simp [RowKit.intOf]; omega
      · by_cases h1 : k + 1 < l.length
        · obtain ⟨q0, q1, q2, q3, q4, q5⟩ := hnext h1
          clear hnext
          by_cases hd : l[k + 1].rune = 0
          · by_cases hs : l[k + 1].sty = l[k].sty
            · have hh : halves l[k] l[k + 1] = true := (halves_iff _ _).2 ⟨hwd, hd, hs⟩
              have HF : Hid (freeI l (k + 2)) := Lib.hid (freeI_succ h1 fun b _ => halves_rest _ _ hd)
              have a0 : aloneI l k = false := by rw [alone_wide hlt hwd, List.getElem?_eq_getElem h1]; simp [hh]
              have a1 : aloneI l (k + 1) = false := by
                have hg : l.getD (k + 1) ⟨0, zero⟩ = l[k + 1] := by simp [h1]
                unfold aloneI aloneN
                rw [hg, if_pos hd, if_neg (by omega), Nat.add_sub_cancel, List.getElem?_eq_getElem hlt]
                simp [hh]
              have HSET := Lib.hid (show celE.Own wr w.heap.size _ (mendK l (k + 2)) by rw [mendK_same l (k + 1) h1 a1, mendK_same l k hlt a0]; exact HOK.out)
              have g3 : (l[k + 1].rune == 0) = true := by simp [hd]
              have heq := fun w => run_eqS' w l[k + 1].sty l[k].sty
              rw [show decide (l[k + 1].sty = l[k].sty) = true by simp [hs]] at heq
              have HW := Lib.hid hwd
              clear hwd hh hd hs a0 a1
              generalize l[k] = y at *
              generalize l[k + 1] = z at *
              obtain ⟨r, ⟨bo, u, t, f, ba⟩⟩ := y
              obtain ⟨r', ⟨bo', u', t', f', ba'⟩⟩ := z
              simp only [styV] at *
              obtain ⟨m, hm⟩ : ∃ m, m = k + 1 := ⟨_, rfl⟩
              have hii : (k : Int) + 1 = (m : Int) := by omega
              have hml : m < l.length := by omega
              have hwr : IntKind.i64.wrap (m : Int) = (m : Int) := by rw [IntKind.wrap_i64]; omega
              have gm : decide ((m : Int) < (l.length : Int)) = true := by simp; omega
              have gm' : decide (m < l.length) = true := by simp; omega
              rw [← hm] at q0 q1 q2 q3 q4 q5
              have HM := Lib.hid hm
              clear hm
              go_wp2_with fail
              refine (rwide_ok wr r).mono ?_
              rw [HW.out]
              rintro e w2 ⟨rfl, hw2⟩
              rw [hw2]
              clear hw2 w2
              go_wp2_with fail
              go_quiet (fail)
              go_wp2_with fail
              go_roundw
              case rel => exact ⟨k + 2, by omega, by rw [show ((k + 2 : Nat) : Int) = (m : Int) + 1 by have := HM.out; omega], below_drewN HB.out _, HF.out, HSET.out.heap rfl⟩
              case measure => have := HM.out; simp [RowKit.intOf]; omega
            · have hh : halves l[k] l[k + 1] = false := by rw [← Bool.not_eq_true, halves_iff]; simp [hs]
              have HF : Hid (freeI l (k + 1)) := Lib.hid (freeI_succ hlt fun b hb => by rw [List.getElem?_eq_getElem h1] at hb; obtain rfl := Option.some.inj hb; exact hh)
              have HSET := Lib.hid (HSE.out (by rw [alone_wide hlt hwd, List.getElem?_eq_getElem h1]; simp [hh]))
              have g3 : (l[k + 1].rune == 0) = true := by simp [hd]
              have heq := fun w => run_eqS' w l[k + 1].sty l[k].sty
              rw [show decide (l[k + 1].sty = l[k].sty) = false by simp [hs]] at heq
              have HW := Lib.hid hwd
              clear hwd hh hd hs
              generalize l[k] = y at *
              generalize l[k + 1] = z at *
              obtain ⟨r, ⟨bo, u, t, f, ba⟩⟩ := y
              obtain ⟨r', ⟨bo', u', t', f', ba'⟩⟩ := z
              simp only [styV] at *
              obtain ⟨m, hm⟩ : ∃ m, m = k + 1 := ⟨_, rfl⟩
              have hii : (k : Int) + 1 = (m : Int) := by omega
              have hml : m < l.length := by omega
              have hwr : IntKind.i64.wrap (m : Int) = (m : Int) := by rw [IntKind.wrap_i64]; omega
              have gm : decide ((m : Int) < (l.length : Int)) = true := by simp; omega
              have gm' : decide (m < l.length) = true := by simp; omega
              rw [← hm] at q0 q1 q2 q3 q4 q5
              have HM := Lib.hid hm
              clear hm
              go_wp2_with fail
              refine (rwide_ok wr r).mono ?_
              rw [HW.out]
              rintro e w2 ⟨rfl, hw2⟩
              rw [hw2]
              clear hw2 w2
              go_wp2_with fail
              go_quiet (fail)
              go_wp2_with fail
              go_roundw
              case rel => exact ⟨k + 1, by omega, by rw [show ((k + 1 : Nat) : Int) = (m : Int) by have := HM.out; omega], (below_drewN HB.out _).setCell (p := ⟨g, k * 6, none⟩) hgb _, HF.out, HSET.out.heap rfl⟩
              case measure => have := HM.out; simp [RowKit.intOf]; omega
          · have hh : halves l[k] l[k + 1] = false := by rw [← Bool.not_eq_true, halves_iff]; simp [hd]
            have HF : Hid (freeI l (k + 1)) := Lib.hid (freeI_succ hlt fun b hb => by rw [List.getElem?_eq_getElem h1] at hb; obtain rfl := Option.some.inj hb; exact hh)
            have HSET := Lib.hid (HSE.out (by rw [alone_wide hlt hwd, List.getElem?_eq_getElem h1]; simp [hh]))
            have g3 : (l[k + 1].rune == 0) = false := by simp [hd]
            have HW := Lib.hid hwd
            clear hwd hh hd
            generalize l[k] = y at *
            generalize l[k + 1] = z at *
            obtain ⟨r, ⟨bo, u, t, f, ba⟩⟩ := y
            obtain ⟨r', ⟨bo', u', t', f', ba'⟩⟩ := z
            simp only at *
            obtain ⟨m, hm⟩ : ∃ m, m = k + 1 := ⟨_, rfl⟩
            have hii : (k : Int) + 1 = (m : Int) := by omega
            have hml : m < l.length := by omega
            have hwr : IntKind.i64.wrap (m : Int) = (m : Int) := by rw [IntKind.wrap_i64]; omega
            have gm : decide ((m : Int) < (l.length : Int)) = true := by simp; omega
            have gm' : decide (m < l.length) = true := by simp; omega
            rw [← hm] at q0 q1 q2 q3 q4 q5
            have HM := Lib.hid hm
            clear hm
            go_wp2_with fail
            refine (rwide_ok wr r).mono ?_
            rw [HW.out]
            rintro e w2 ⟨rfl, hw2⟩
            rw [hw2]
            clear hw2 w2
            go_wp2_with fail
            go_quiet (fail)
            go_wp2_with fail
            go_roundw
            case rel => exact ⟨k + 1, by omega, by rw [show ((k + 1 : Nat) : Int) = (m : Int) by have := HM.out; omega], (below_drewN HB.out _).setCell (p := ⟨g, k * 6, none⟩) hgb _, HF.out, HSET.out.heap rfl⟩
            case measure => have := HM.out; simp [RowKit.intOf]; omega
        · have hno : l[k + 1]? = none := List.getElem?_eq_none (by omega)
          have HF : Hid (freeI l (k + 1)) := Lib.hid (freeI_succ hlt fun b hb => by rw [hno] at hb; cases hb)
          have HSET := Lib.hid (HSE.out (by rw [alone_wide hlt hwd, hno]; rfl))
          have g2 : decide ((k : Int) + 1 < (l.length : Int)) = false := by simp; omega
          have HW := Lib.hid hwd
          clear hwd hnext hno
          generalize l[k] = y at *
          obtain ⟨r, ⟨bo, u, t, f, ba⟩⟩ := y
          simp only at *
          go_wp2_with fail
          refine (rwide_ok wr r).mono ?_
          rw [HW.out]
          rintro e w2 ⟨rfl, hw2⟩
          rw [hw2]
          clear hw2 w2
          go_wp2_with fail
          go_quiet (fail)
          go_wp2_with fail
          go_roundw
          case rel => exact ⟨k + 1, by omega, by simp, (below_drewN HB.out _).setCell (p := ⟨g, k * 6, none⟩) hgb _, HF.out, HSET.out.heap rfl⟩
          case measure => simp [RowKit.intOf]; omega
    · have g1 : decide ((k : Int) < (l.length : Int)) = false := by simp; omega
      have gn : decide (k < l.length) = false := by simp; omega
      obtain rfl : k = l.length := by omega
      have ho := HOK.out
      rw [mendK_all] at ho
      have HO2 := Lib.hid ho
      clear ho
      go_wp2_with fail
      go_ret
      exact ⟨_, rfl, HO2.out, HB.out⟩
end Go.Proofs.YtbpkklcegiiheaaDoor
