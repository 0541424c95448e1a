/-
  EventUntils: of a list as many are told as are no later, whatever the time. For every slice of events and every time. No condition.
-/
import Derived.Test.YtfbfelfioikieaaELast
import Derived.Test.YtfbfelfioikieaaETame
import Derived.Test.YtfbfelfioikieaaEUntil
import Derived.Test.YtfbfelfioikieaaEFit
import Derived.Test.YtfbfelfioikieaaEOpen
import Derived.ProofKit
import Derived.OpenShut
namespace Go.Proofs.Ytfbfelfioikieaa.eventUntils
open Go.ChangeShapes Go.WideShapes Go.ChangeAt Go.RowKit Go.Lib EM
set_option maxRecDepth 100000

theorem big (A : Option Addr) (n c : Nat) (t : Int) (w : World) (h : 100 < n) :
    Calls Try.prog 6 #[.slice A n c, .int .i64 t] w fun e w' => e = .returned (.bool true) ∧ Below w.heap.size w w' := by
  have g : decide ((100 : Int) < (n : Int)) = true := by simp; omega
  have HF := Lib.hid (efit_ok w)
  go_enter Try.func6, Try.ntmps6
  go_wp2_with fail
  refine HF.out.mono ?_
  rintro e w1 ⟨rfl, b1⟩
  have HB1 := Lib.hid b1
  clear b1
  go_wp2_with fail
  go_ret
  exact ⟨rfl, HB1.out⟩

/-- Where the number of those that are no later parts a list. -/
theorem upTo_parts (L : List Ev) (t : Int) (hr : ∀ i (hi : i < L.length) j (hj : j < L.length), i ≤ j → L[i].t ≤ L[j].t) :
    (∀ q (hq : q < L.length), upTo L t = q + 1 → L[q].t ≤ t) ∧ (∀ (h : upTo L t < L.length), t < L[upTo L t].t) := by
  have hall : ∀ q (hq : q < L.length), L[q].t ≤ t → q + 1 ≤ upTo L t := by
    intro q hq h
    have e1 : (L.take (q + 1)).countP (fun e => decide (e.t ≤ t)) = (L.take (q + 1)).length := by
      rw [List.countP_eq_length]
      intro e he
      obtain ⟨i, hi, rfl⟩ := List.mem_iff_getElem.1 he
      rw [List.length_take] at hi
      have := hr i (by omega) q hq (by omega)
      simp only [List.getElem_take, decide_eq_true_eq]
      omega
    unfold upTo
    conv => rhs; rw [← List.take_append_drop (q + 1) L]
    rw [List.countP_append, e1, List.length_take]
    omega
  have hnone : ∀ q (hq : q < L.length), t < L[q].t → upTo L t ≤ q := by
    intro q hq h
    have e1 : (L.drop q).countP (fun e => decide (e.t ≤ t)) = 0 := by
      rw [List.countP_eq_zero]
      intro e he
      obtain ⟨i, hi, rfl⟩ := List.mem_iff_getElem.1 he
      rw [List.length_drop] at hi
      have := hr q hq (q + i) (by omega) (by omega)
      simp only [List.getElem_drop, decide_eq_true_eq]
      omega
    unfold upTo
    conv => lhs; rw [← List.take_append_drop q L]
    rw [List.countP_append, e1]
    have := List.countP_le_length (p := fun e : Ev => decide (e.t ≤ t)) (l := L.take q)
    rw [List.length_take] at this
    omega
  refine ⟨fun q hq h => ?_, fun h => ?_⟩
  · by_cases hc : L[q].t ≤ t
    · exact hc
    · have := hnone q hq (by omega); omega
  · by_cases hc : L[upTo L t].t ≤ t
    · have := hall _ h hc; omega
    · omega

set_option maxHeartbeats 2000000 in
theorem core (A : Option Addr) (c : Nat) (l : List Ev) (t : Int) (w : World) (hl : l.length ≤ 100) (hr : evE.Row w w.heap.size A l) :
    Calls Try.prog 6 #[.slice A l.length c, .int .i64 t] w fun e w' => e = .returned (.bool true) ∧ Below w.heap.size w w' := by
  have g : decide ((100 : Int) < (l.length : Int)) = false := by simp; omega
  have HF := Lib.hid (efit_ok w)
  have HR := Lib.hid hr
  clear hr
  have hlb := tameL_list l 0 (Int.le_refl _) (by omega)
  have hlen := tameL_len 0 l
  go_enter Try.func6, Try.ntmps6
  go_wp2_with fail
  refine HF.out.mono ?_
  rintro e wf ⟨rfl, b1⟩
  have HBF := Lib.hid b1
  have hzf := b1.size
  clear b1 HF
  have HTA := Lib.hid (tame_ok wf l A c w.heap.size (HR.out.below HBF.out) hzf (by omega))
  go_wp2_with fail
  refine HTA.out.mono ?_
  rintro e wt ⟨v, rfl, ho, hbt⟩
  obtain ⟨AL, cL, hv, -, -, -, hrL⟩ := ho.row
  subst hv
  have hbt' := below_next HBF.out hbt
  have HBT := Lib.hid hbt'
  generalize tameL 0 l = L at *
  have hL : L.length ≤ 100 := by omega
  have hrise : ∀ i (hi : i < L.length) j (hj : j < L.length), i ≤ j → L[i].t ≤ L[j].t := fun i hi j hj h => (listB_rise hlb i hi).2 j hj h
  have HRL := Lib.hid hrL
  have hparts := upTo_parts L t hrise
  have hule := upTo_le L t
  have HU1 := Lib.hid (until_ok wt L AL cL wt.heap.size t hrL (Nat.le_refl _) (by omega) hrise)
  clear ho hbt hbt' hrL HTA hlen g hlb hrise
  generalize hun : upTo L t = n at *
  have HUN := Lib.hid hun
  clear hun
  go_wp2_with fail
  refine HU1.out.mono ?_
  rintro e w2 ⟨rfl, hb2⟩
  have HB2 := Lib.hid hb2
  have HU2 := Lib.hid (runtil_ok w2 L AL cL wt.heap.size t (HRL.out.below hb2) hb2.size (by omega))
  rw [HUN.out] at HU2
  clear hb2 HU1
  rcases Nat.eq_zero_or_pos n with h0 | h0
  · have g0 : ((n : Int) == 0) = true := beq_iff_eq.2 (by omega)
    have g0' : (n == 0) = true := beq_iff_eq.2 h0
    clear h0
    rcases Nat.lt_or_ge n L.length with hn | hn
    · have g1 : ((n : Int) == (L.length : Int)) = false := beq_eq_false_iff_ne.2 (by omega)
      have g1' : (n == L.length) = false := beq_eq_false_iff_ne.2 (by omega)
      have h2 := hparts.2 hn
      clear hparts
      go_wp2_with fail
      refine HU2.out.mono ?_
      rintro e w3 ⟨rfl, hb3⟩
      have hb23 := below_next HB2.out hb3
      have HB3 := Lib.hid (below_next HBT.out hb23)
      obtain ⟨b2, off2, hAL2, hbl2, d0, -⟩ := ev_at (HRL.out.below hb23) hn
      subst hAL2
      generalize L[n].t = tn at *
      have g2 : decide (t < tn) = true := by simpa
      clear hb3 hb23
      go_wp2_with fail
      go_ret
      exact ⟨rfl, HB3.out⟩
    · have g1 : ((n : Int) == (L.length : Int)) = true := beq_iff_eq.2 (by omega)
      have g1' : (n == L.length) = true := beq_iff_eq.2 (by omega)
      clear hparts
      go_wp2_with fail
      refine HU2.out.mono ?_
      rintro e w3 ⟨rfl, hb3⟩
      have hb23 := below_next HB2.out hb3
      have HB3 := Lib.hid (below_next HBT.out hb23)
      clear hb3 hb23
      go_wp2_with fail
      go_ret
      exact ⟨rfl, HB3.out⟩
  · have g0 : ((n : Int) == 0) = false := beq_eq_false_iff_ne.2 (by omega)
    have g0' : (n == 0) = false := beq_eq_false_iff_ne.2 (by omega)
    obtain ⟨q, hqn⟩ : ∃ q : Nat, q = n - 1 := ⟨_, rfl⟩
    have hqi : (n : Int) - 1 = (q : Int) := by omega
    have hq : q < L.length := by omega
    have h1 := hparts.1 q hq (by omega)
    have gq : decide ((q : Int) < (L.length : Int)) = true := by simp; omega
    clear h0 hqn
    rcases Nat.lt_or_ge n L.length with hn | hn
    · have g1 : ((n : Int) == (L.length : Int)) = false := beq_eq_false_iff_ne.2 (by omega)
      have g1' : (n == L.length) = false := beq_eq_false_iff_ne.2 (by omega)
      have h2 := hparts.2 hn
      clear hparts
      go_wp2_with fail
      refine HU2.out.mono ?_
      rintro e w3 ⟨rfl, hb3⟩
      have hb23 := below_next HB2.out hb3
      have HB3 := Lib.hid (below_next HBT.out hb23)
      obtain ⟨b, off, hAL, hbl, c0, -⟩ := ev_at (HRL.out.below hb23) hq
      subst hAL
      generalize L[q].t = tq at *
      obtain ⟨b2, off2, hAL2, hbl2, d0, -⟩ := ev_at (HRL.out.below hb23) hn
      obtain ⟨rfl, rfl⟩ : b = b2 ∧ off = off2 := by injection hAL2 with h; injection h with h1 h2; exact ⟨h1, h2⟩
      generalize L[n].t = tn at *
      have g2 : decide (t < tn) = true := by simpa
      have g3 : decide (tq ≤ t) = true := by simpa
      clear hAL2
      clear hb3 hb23
      go_wp2_with fail
      go_ret
      exact ⟨rfl, HB3.out⟩
    · have g1 : ((n : Int) == (L.length : Int)) = true := beq_iff_eq.2 (by omega)
      have g1' : (n == L.length) = true := beq_iff_eq.2 (by omega)
      clear hparts
      go_wp2_with fail
      refine HU2.out.mono ?_
      rintro e w3 ⟨rfl, hb3⟩
      have hb23 := below_next HB2.out hb3
      have HB3 := Lib.hid (below_next HBT.out hb23)
      obtain ⟨b, off, hAL, hbl, c0, -⟩ := ev_at (HRL.out.below hb23) hq
      subst hAL
      generalize L[q].t = tq at *
      have g3 : decide (tq ≤ t) = true := by simpa
      clear hb3 hb23
      go_wp2_with fail
      go_ret
      exact ⟨rfl, HB3.out⟩

theorem walk (A : Option Addr) (len cap : Nat) (t : Int) (w : World) (hw : IsEvs w A len cap) (_ht : (Lit.int .i64 t).wf = true) :
    Calls Try.prog 6 #[.slice A len cap, .int .i64 t] w fun e w' => e = .returned (.bool true) ∧ Below w.heap.size w w' := by
  obtain ⟨l, rfl, h2, h3⟩ := hw
  by_cases h : 100 < l.length
  · exact big A l.length cap t w h
  · exact core A cap l t w (by omega) h3

theorem own : ownKnob Try.prog.godebug = none := by kernel_rfl
theorem laidOut : laidOutB Try.prog = true := by kernel_rfl

set_option maxRecDepth 100000 in
theorem lifted (os : Os) (started : os.Started) (H : Type) (enc : TypeId × Value → H) :
    ReturnsInHanded {} Try.checked os 6 .any (Rows.eventUntilsSpec.pre6 enc Try.prog Try.f6 Rows.eventUntilsRow.domain false) (Rows.eventUntilsSpec.post enc Try.prog Try.f6 false true false false) := by
  refine returnsInHanded_of_change (C := Try.checked) own started (by kernel_rfl) Try.func6
    (ChangeSpec.witness6 (enc := enc) (C := Try.checked) false ⟨#[], #[.slice none 0 0, .int .i64 0], []⟩ 8 (by kernel_rfl) (by kernel_rfl) (by kernel_rfl) (by kernel_rfl)) ?_
  intro W base args ds gs before hval0 hW hcnd _
  have hval : ∀ (j : Nat) t v, Try.f6.params[j]? = some t → args[j]? = some v → Value.okWide Try.prog W .any base t v := hval0
  have hW' := hW
  obtain ⟨p, q, hA0, hV, rfl, hfz, hnd⟩ := hW
  have hA : DataW.TrodAll enc Try.prog W 0 (fun _ => true) true Try.f6.params.toList args.toList ds p := hA0
  rw [Try.params6] at hA hval
  obtain ⟨v0, vs0, d0, ds0, p0, q0, hargs, rfl, rfl, h0, r0⟩ := trodAll_cons hA
  obtain ⟨v1, vs1, d1, ds1, p1, q1, rfl, rfl, rfl, h1, r1⟩ := trodAll_cons r0
  obtain ⟨rfl, rfl, rfl⟩ := trodAll_nil r1
  obtain rfl : args = #[v0, v1] := by cases args; simp_all
  obtain ⟨rfl, rfl⟩ := trodVars_none hV
  obtain ⟨a0, len0, cap0, rfl⟩ := okWide_slice Try.underlying22 (hval 0 22 v0 rfl rfl)
  have k0 := h0
  have lt0 : ∀ x ∈ p0, x.block < W.heap.size := by obtain ⟨m, hm⟩ := k0; exact DataW.trod_lt m _ _ _ hm
  have w0 : IsEvs W a0 len0 cap0 := by
    obtain ⟨fuel, hf⟩ := h0
    exact evs_in hf
  obtain ⟨a1, rfl, rfl, rfl, w1⟩ := open_int Try.underlying3 (hval 1 3 v1 rfl rfl) h1
  clear hA0 hval0
  refine (walk a0 len0 cap0 a1 W w0 w1).mono fun e W' ⟨he, bel⟩ => ?_
  subst he
  exact ⟨_, rfl, _, _, _, [], _, [], hW', trodAll_mk1 (shut_bool Try.underlying4 _), (trodAll_cons_mk (Below.trod laidOut (by kernel_rfl) (of_decide_eq_true (by kernel_rfl)) k0 bel lt0) (trodAll_cons_mk (shut_int Try.underlying3 w1) trodAll_mk0)), rfl, bel.frame _, fun h => by cases h⟩

theorem over : Rows.eventUntilsRow.holds Try.pinned (OpenSpec.ofChange Rows.eventUntilsSpec) :=
  OpenClaim.holds_of_wide 6 Try.f6 rfl rfl rfl rfl rfl rfl rfl ⟨rfl, rfl, rfl, rfl, rfl⟩ rfl rfl rfl rfl rfl (by kernel_rfl) Try.func6 (by kernel_rfl)
    (of_decide_eq_true (by kernel_rfl)) (by unfold Func.isWrapper; first | (rw [if_pos (by decide +kernel)]; kernel_rfl) | (rw [if_neg (by decide +kernel)]; exact ⟨rfl, rfl⟩))
    (fun os started H enc _ => lifted os started H enc)

end Go.Proofs.Ytfbfelfioikieaa.eventUntils
namespace Go.Proofs.Ytfbfelfioikieaa
theorem eventUntils_holds : Rows.EventUntilsSaid := eventUntils.over
end Go.Proofs.Ytfbfelfioikieaa
