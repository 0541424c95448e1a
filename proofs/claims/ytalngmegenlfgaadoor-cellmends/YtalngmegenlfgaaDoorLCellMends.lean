/-
  CellMends: a mended line is whole, is what the reference says, and a whole one stays as it is. For every line of cells; the package's table of wide runes as the program's text lays it.
-/
import Derived.Test.YtalngmegenlfgaaDoorKFit
import Derived.Test.YtalngmegenlfgaaDoorKOpen
import Derived.Test.YtalngmegenlfgaaDoorKCond
import Derived.Test.YtalngmegenlfgaaDoorCards
import Derived.Test.YtalngmegenlfgaaDoorTie
import Derived.OpenShut
import Derived.HandedFrom
import Derived.ChangeSame
import Derived.ChangeVars
import Derived.JoinedOf
import Derived.JoinedAt
namespace Go.Proofs.YtalngmegenlfgaaDoor.cellMends
open Go.ChangeShapes Go.WideShapes Go.ChangeAt Go.RowKit KM

set_option maxRecDepth 100000 in
set_option maxHeartbeats 1000000 in
theorem core (A : Option Addr) (c : Nat) (l : List Cel) (w : World) (hA : A = none → c = 0) (hr : celE.Row w w.heap.size A l) (hT : Tabs w) :
    Calls Tryd.prog 6 #[.slice A l.length c] w fun e w' => e = .returned (.bool true) ∧ Below w.heap.size w w' := by
  have HT := Lib.hid hT
  have HR := Lib.hid hr
  have HA := Lib.hid hA
  clear hT hr hA
  by_cases h3 : 100 < l.length
  · have g : decide ((100 : Int) < (l.length : Int)) = true := by simp; omega
    go_enter Tryd.func6, Tryd.ntmps6
    go_wp2_with fail
    refine (fit_ok _ HT.out).mono ?_
    rintro e w1 ⟨rfl, b1⟩
    have HB1 := Lib.hid b1
    clear b1
    go_wp2_with fail
    go_ret
    exact ⟨rfl, HB1.out⟩
  · have g : decide ((100 : Int) < (l.length : Int)) = false := by simp; omega
    go_enter Tryd.func6, Tryd.ntmps6
    go_wp2_with fail
    refine (fit_ok _ HT.out).mono ?_
    rintro e w1 ⟨rfl, b1⟩
    have HB1 := Lib.hid b1
    have HT1 := Lib.hid (HT.out.on b1 HT.out.room)
    have z1 := b1.size
    clear b1
    go_wp2_with fail
    refine (tame_ok w1 l A c w.heap.size (HR.out.below HB1.out) z1 (by omega)).mono ?_
    have hlt : (l.map tameC).length ≤ 100 := by rw [List.length_map]; omega
    have HTM := Lib.hid (tameL_tame l)
    generalize l.map tameC = t at *
    rintro e w2 ⟨v2, rfl, o2, b2⟩
    obtain ⟨A2, c2, rfl, _, _, hA2, r2⟩ := o2.row
    have HR2 := Lib.hid r2
    have HA2 := Lib.hid hA2
    have HT2 := Lib.hid (HT1.out.on b2 HT1.out.room)
    have HB2 := Lib.hid (below_next HB1.out b2)
    have z2 := b2.size
    clear b2 r2 o2 hA2
    go_wp2_with fail
    refine (mend_ok w2 HT2.out t A2 c2 w2.heap.size HR2.out HA2.out (Nat.le_refl _) (by omega)).mono ?_
    have hml : (mend t).length ≤ 100 := by rw [mend_len]; exact hlt
    have HMM := Lib.hid (mend_mend t HTM.out)
    have HMW := Lib.hid (mend_whole t HTM.out)
    have HWI := Lib.hid (whole_iff t HTM.out)
    have HRM := Lib.hid (fun (v : World) (h : celE.Row v w2.heap.size A2 t) => rmend_ok v t A2 c2 w2.heap.size h HA2.out (by omega))
    generalize mend t = m at *
    rintro e w3 ⟨v3, rfl, o3, b3⟩
    obtain ⟨A3, c3, rfl, _, _, hA3, r3⟩ := o3.row
    have HR3 := Lib.hid r3
    have HA3 := Lib.hid hA3
    have HT3 := Lib.hid (HT2.out.on b3 HT2.out.room)
    have HB3 := Lib.hid (below_next HB2.out b3)
    have HR23 := Lib.hid (HR2.out.below b3)
    have z3 := b3.size
    clear b3 r3 o3 hA3
    go_wp2_with fail
    refine (HRM.out w3 HR23.out).mono ?_
    rintro e w4 ⟨v4, rfl, o4, b4⟩
    obtain ⟨A4, c4, rfl, _, _, hA4, r4⟩ := o4.row
    have HR4 := Lib.hid r4
    have HT4 := Lib.hid (HT3.out.on b4 HT3.out.room)
    have HB4 := Lib.hid (below_next HB3.out b4)
    have HR24 := Lib.hid ((HR23.out.below (b4.mono z3)).mono (show w2.heap.size ≤ w4.heap.size by have := b4.size; omega))
    have HR34 := Lib.hid ((HR3.out.below b4).mono b4.size)
    clear b4 r4 o4 hA4
    go_wp2_with fail
    refine (same_ok w4 m m A3 A4 c3 c4 w4.heap.size HR34.out HR4.out (Nat.le_refl _) (by omega) (by omega)).mono ?_
    rw [show decide (m = m) = true by simp]
    rintro e w5 ⟨rfl, b5⟩
    have HT5 := Lib.hid (HT4.out.on b5 HT4.out.room)
    have HB5 := Lib.hid (below_next HB4.out b5)
    have HR25 := Lib.hid (HR24.out.below b5)
    have HR35 := Lib.hid (HR34.out.below b5)
    have HR45 := Lib.hid (HR4.out.below b5)
    have z5 := b5.size
    clear b5
    go_wp2_with fail
    refine (whole_ok w5 HT5.out m A3 c3 w4.heap.size HR35.out z5 (by omega)).mono ?_
    rw [HMW.out]
    rintro e w6 ⟨rfl, b6⟩
    have HT6 := Lib.hid (HT5.out.on b6 HT5.out.room)
    have HB6 := Lib.hid (below_next HB5.out b6)
    have HR26 := Lib.hid (HR25.out.below (b6.mono z5))
    have HR36 := Lib.hid (HR35.out.below (b6.mono z5))
    have HR46 := Lib.hid (HR45.out.below (b6.mono z5))
    have z6 := b6.size
    clear b6
    go_wp2_with fail
    refine (whole_ok w6 HT6.out t A2 c2 w4.heap.size HR26.out (by omega) (by omega)).mono ?_
    have HQ : Hid (decide (t = m) = whole t) := Lib.hid (by rw [Bool.eq_iff_iff, HWI.out, decide_eq_true_eq]; exact eq_comm)
    generalize whole t = q at *
    rintro e w7 ⟨rfl, b7⟩
    have HT7 := Lib.hid (HT6.out.on b7 HT6.out.room)
    have HB7 := Lib.hid (below_next HB6.out b7)
    have HR27 := Lib.hid (HR26.out.below (b7.mono (by omega)))
    have HR37 := Lib.hid (HR36.out.below (b7.mono (by omega)))
    have HR47 := Lib.hid (HR46.out.below (b7.mono (by omega)))
    have z7 := b7.size
    clear b7
    go_wp2_with fail
    refine (same_ok w7 t m A2 A4 c2 c4 w4.heap.size HR27.out HR47.out (by omega) (by omega) (by omega)).mono ?_
    rw [HQ.out]
    rintro e w8 ⟨rfl, b8⟩
    have HT8 := Lib.hid (HT7.out.on b8 HT7.out.room)
    have HB8 := Lib.hid (below_next HB7.out b8)
    have HR38 := Lib.hid (HR37.out.below (b8.mono (by omega)))
    have z8 := b8.size
    clear b8
    go_wp2_with fail
    refine (mend_ok w8 HT8.out m A3 c3 w4.heap.size HR38.out HA3.out (by omega) (by omega)).mono ?_
    rw [HMM.out]
    rintro e w9 ⟨v9, rfl, o9, b9⟩
    obtain ⟨A9, c9, rfl, _, _, hA9, r9⟩ := o9.row
    have HR9 := Lib.hid r9
    have HB9 := Lib.hid (below_next HB8.out b9)
    have z9 := b9.size
    have HR39 := Lib.hid ((HR38.out.below (b9.mono (by omega))).mono (show w4.heap.size ≤ w9.heap.size by omega))
    clear b9 r9 o9 hA9
    go_wp2_with fail
    refine (same_ok w9 m m A9 A3 c9 c3 w9.heap.size HR9.out HR39.out (Nat.le_refl _) (by omega) (by omega)).mono ?_
    rw [show decide (m = m) = true by simp]
    rintro e w10 ⟨rfl, b10⟩
    have HB10 := Lib.hid (below_next HB9.out b10)
    clear b10
    go_wp2_with fail
    go_ret
    exact ⟨rfl, HB10.out⟩
theorem walk (A : Option Addr) (len cap : Nat) (w : World) (hw : IsCels w A len cap) (hT : Tabs w) :
    Calls Tryd.prog 6 #[.slice A len cap] w fun e w' => e = .returned (.bool true) ∧ Below w.heap.size w w' := by
  obtain ⟨l, rfl, h1, h2⟩ := hw
  exact core A cap l w h1 h2 hT

theorem own : ownKnob Tryd.prog.godebug = none := by kernel_rfl
theorem laidOut : laidOutB Tryd.prog = true := by kernel_rfl

set_option maxRecDepth 100000 in
theorem lifted (os : Os) (started : os.Started) (H : Type) (enc : TypeId × Value → H) :
    ReturnsInHanded {} Tryd.checked os 6 .any (fun w args => (Rows.cellMendsSpec.pre enc Tryd.prog Tryd.f6 Rows.cellMendsRow.domain false w args ∧ laidMetH Tryd.prog Rows.cellMendsRow.laid w) ∧ sizedMet enc Tryd.prog Tryd.f6 (OpenSpec.ofChange Rows.cellMendsSpec) false w args)
      (Rows.cellMendsSpec.post enc Tryd.prog Tryd.f6 false true false false) := by
  refine returnsInHanded_of_change_and (C := Tryd.checked) (X := fun w _ => laidMetH Tryd.prog Rows.cellMendsRow.laid w) (fun _ _ _ hh h => h.of_heap hh) own started (by kernel_rfl) Tryd.func6
    (ChangeSpec.witness_shaped (enc := enc) (C := Tryd.checked) (os := os) (X := fun w _ => laidMetH Tryd.prog Rows.cellMendsRow.laid w) false (start8 os) #[.slice none 0 0] 8 rfl (World.shaped_of_RefB (by kernel_rfl) (by kernel_rfl)) (by kernel_rfl) (by kernel_rfl) (by kernel_rfl) (met_cellMends os _)) ?_
  intro W base args ds gs before hval0 hW _ _ hL _
  have hval : ∀ (j : Nat) t v, Tryd.f6.params[j]? = some t → args[j]? = some v → Value.okWide Tryd.prog W .any base t v := hval0
  have hW' := hW
  obtain ⟨p, q, hA0, hV, rfl, hfz, hnd⟩ := hW
  have hA : DataW.TrodAll enc Tryd.prog W 0 (fun _ => true) true Tryd.f6.params.toList args.toList ds p := hA0
  rw [Tryd.params6] at hA hval
  obtain ⟨v0, vs0, d0, ds0, p0, q0, hargs, rfl, rfl, h0, r0⟩ := trodAll_cons hA
  obtain ⟨rfl, rfl, rfl⟩ := trodAll_nil r0
  obtain rfl : args = #[v0] := by cases args; simp_all
  obtain ⟨rfl, rfl⟩ := trodVars_none hV
  obtain ⟨a0, len0, cap0, rfl⟩ := okWide_slice Tryd.underlying44 (hval 0 44 v0 rfl rfl)
  have k0 := h0
  have lt0 : ∀ x ∈ p0, x.block < W.heap.size := by obtain ⟨m, hm⟩ := k0; exact DataW.trod_lt m _ _ _ hm
  have w0 : IsCels W a0 len0 cap0 := by
    obtain ⟨fuel, hf⟩ := h0
    exact cels_in hf
  clear hA0 hval0
  refine (walk a0 len0 cap0 W w0 (tabs_cellMends hL)).mono fun e W' ⟨he, bel⟩ => ?_
  subst he
  exact ⟨_, rfl, _, _, _, [], _, [], hW', trodAll_mk1 (shut_bool Tryd.underlying4 _), (trodAll_cons_mk (Below.trod laidOut (by kernel_rfl) (of_decide_eq_true (by kernel_rfl)) k0 bel lt0) trodAll_mk0), rfl, bel.frame _, fun h => by cases h⟩

theorem over : Rows.cellMendsRow.holds Tryd.pinned (OpenSpec.ofChange Rows.cellMendsSpec) :=
  OpenClaim.holds_of_wide 6 Tryd.f6 rfl rfl rfl rfl rfl rfl rfl ⟨rfl, rfl, rfl, rfl, rfl⟩ rfl rfl rfl rfl rfl (by kernel_rfl) Tryd.func6 (by kernel_rfl)
    (of_decide_eq_true (by kernel_rfl)) (by unfold Func.isWrapper; first | (rw [if_pos (by decide +kernel)]; kernel_rfl) | (rw [if_neg (by decide +kernel)]; exact ⟨rfl, rfl⟩))
    (fun os started H enc _ => lifted os started H enc)

theorem cardOver : Rows.CellMendsCardSaid :=
  Claim7.holds_tied_plain_at .later [] [.data] true (true, "4f396e1d14b963e642369da60c586bea4ab32b1863cbf0082d54e6225053dd77") false
    over (fun _ h => by cases h) (by kernel_rfl) (fun _ h => by cases h) cellMends_row_tie rfl ⟨rfl, rfl⟩ (by kernel_rfl) rfl
    (fun f fn hf hfn => by
      obtain rfl : f = 6 := Option.some.inj ((show Tryd.prog.funcNamed Rows.cellMendsRow.func = some 6 by kernel_rfl).symm.trans hf) |>.symm
      obtain rfl : fn = Tryd.f6 := (Option.some.inj (Tryd.func6.symm.trans hfn)).symm
      exact ⟨by kernel_rfl, fun j t ht => by
        rw [Tryd.params6] at ht
        have hm : t ∈ [44] := by simpa using Array.mem_of_getElem? ht
        have hall : ([44].all fun u => !Tryd.prog.wantsStandIn u) = true := by kernel_rfl
        exact (show Tryd.prog.wantsStandIn t = false by simpa using List.all_eq_true.1 hall t hm)⟩)
    (by kernel_rfl)

end Go.Proofs.YtalngmegenlfgaaDoor.cellMends
namespace Go.Proofs.YtalngmegenlfgaaDoor
theorem cellMends_holds : Rows.CellMendsCardSaid := cellMends.cardOver
end Go.Proofs.YtalngmegenlfgaaDoor
