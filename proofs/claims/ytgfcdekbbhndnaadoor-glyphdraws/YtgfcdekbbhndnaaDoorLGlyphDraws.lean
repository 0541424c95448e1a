/-
  GlyphDraws: a rune from 96 to 126 is the sign that the document tells, which has one column; others are themselves. For every rune; the package's two tables as the program's text lays them.
-/
import Derived.Test.YtgfcdekbbhndnaaDoorGFit
import Derived.Test.YtgfcdekbbhndnaaDoorGCols
import Derived.Test.YtgfcdekbbhndnaaDoorGCond
import Derived.Test.YtgfcdekbbhndnaaDoorCards
import Derived.Test.YtgfcdekbbhndnaaDoorTie
import Derived.OpenShut
import Derived.HandedFrom
import Derived.ChangeSame
import Derived.ChangeVars
import Derived.JoinedOf
import Derived.JoinedAt
namespace Go.Proofs.YtgfcdekbbhndnaaDoor.glyphDraws
open Go.ChangeShapes Go.WideShapes Go.ChangeAt Go.RowKit

set_option maxRecDepth 100000 in
set_option maxHeartbeats 1000000 in
theorem walk (r : Int) (w : World) (hr : (Lit.int .i32 r).wf = true) (hT : Tabs w) :
    Calls Tryd.prog 5 #[.int .i32 r] w fun e w' => e = .returned (.bool true) ∧ Below w.heap.size w w' := by
  have HT := Lib.hid hT
  have hin := bounds_i32 hr
  clear hT hr
  rcases rune_part r with h | h | ⟨k, hk, rfl⟩
  · have g : decide (r < 96) = true := by simp; omega
    have HD := Lib.hid (fun v : World => fun hv : Tabs v => drawn_ok v hv r hin)
    rw [GM.drawn_out r (.inl h)] at HD
    clear h hin
    go_enter Tryd.func5, Tryd.ntmps5
    go_wp2_with fail
    refine (fit_ok _ HT.out).mono ?_
    rintro e w1 ⟨rfl, hb1⟩
    have HB1 := Lib.hid hb1
    have HT1 := Lib.hid (HT.out.on hb1 HT.out.room)
    clear hb1
    go_wp2_with fail
    refine (HD.out _ HT1.out).mono ?_
    rintro e w2 ⟨rfl, hw⟩
    rw [hw]
    clear hw w2
    go_wp2_with fail
    go_ret
    exact ⟨by simp, HB1.out⟩
  · have g : decide (r < 96) = false := by simp; omega
    have g2 : decide (126 < r) = true := by simp; omega
    have HD := Lib.hid (fun v : World => fun hv : Tabs v => drawn_ok v hv r hin)
    rw [GM.drawn_out r (.inr h)] at HD
    clear h hin
    go_enter Tryd.func5, Tryd.ntmps5
    go_wp2_with fail
    refine (fit_ok _ HT.out).mono ?_
    rintro e w1 ⟨rfl, hb1⟩
    have HB1 := Lib.hid hb1
    have HT1 := Lib.hid (HT.out.on hb1 HT.out.room)
    clear hb1
    go_wp2_with fail
    refine (HD.out _ HT1.out).mono ?_
    rintro e w2 ⟨rfl, hw⟩
    rw [hw]
    clear hw w2
    go_wp2_with fail
    go_ret
    exact ⟨by simp, HB1.out⟩
  · have g : decide (96 + (k : Int) < 96) = false := by simp; omega
    have g2 : decide (126 < 96 + (k : Int)) = false := by simp; omega
    have HD := Lib.hid (fun v : World => fun hv : Tabs v => drawn_ok v hv (96 + (k : Int)) hin)
    have HR := Lib.hid (fun v : World => rdrawn_ok v (96 + (k : Int)))
    have HC := Lib.hid (GM.sign_cols k hk)
    rw [GM.drawn_in k hk] at HD HR
    clear hin
    generalize GM.signT.getD k 0 = z at *
    go_enter Tryd.func5, Tryd.ntmps5
    go_wp2_with fail
    refine (fit_ok _ HT.out).mono ?_
    rintro e w1 ⟨rfl, hb1⟩
    have HB1 := Lib.hid hb1
    have HT1 := Lib.hid (HT.out.on hb1 HT.out.room)
    clear hb1
    go_wp2_with fail
    refine (HD.out _ HT1.out).mono ?_
    rintro e w2 ⟨rfl, hw⟩
    rw [hw]
    clear hw w2
    go_wp2_with fail
    refine (HR.out _).mono ?_
    rintro e w2 ⟨rfl, hb2⟩
    have HB2 := Lib.hid (below_next HB1.out hb2)
    have HT2 := Lib.hid (HT1.out.on hb2 HT1.out.room)
    clear hb2
    go_wp2_with fail
    have hba : Below w2.heap.size w2 (w2.alloc (.cells #[.int .i32 z] 21)) := (Below.refl _ _).alloc (Nat.le_refl _) _
    have hrow : RowI (w2.alloc (.cells #[.int .i32 z] 21)) (w2.heap.size + 1) (some ⟨w2.heap.size, 0, none⟩) [z] := fun _ =>
      ⟨w2.heap.size, 0, rfl, by omega, fun j hj => by
        obtain rfl : j = 0 := by simp at hj; exact hj
        rw [cell_of_row _ _ _ _ _ _ (heap_alloc_last w2 _)]
        rfl⟩
    have HK := columns_ok _ (HT2.out.on hba HT2.out.room) [z] _ 1 _ hrow (by simp) (by simp)
    have hc : GM.colsL [z] = 1 := by simp [GM.colsL, HC.out]
    rw [hc] at HK
    refine Calls.mono HK ?_
    rintro e w3 ⟨rfl, hb3⟩
    have HB3 := Lib.hid (HB2.out.trans ((hba.trans (hb3.mono hba.size)).mono HB2.out.size))
    clear HK hrow hc hb3 hba
    go_wp2_with fail
    go_ret
    exact ⟨rfl, HB3.out⟩

theorem own : ownKnob Tryd.prog.godebug = none := by kernel_rfl
theorem laidOut : laidOutB Tryd.prog = true := by kernel_rfl

set_option maxRecDepth 100000 in
theorem lifted (os : Os) (started : os.Started) (H : Type) (enc : TypeId × Value → H) :
    ReturnsInHanded {} Tryd.checked os 5 .any (fun w args => (Rows.glyphDrawsSpec.pre enc Tryd.prog Tryd.f5 Rows.glyphDrawsRow.domain false w args ∧ laidMetH Tryd.prog Rows.glyphDrawsRow.laid w) ∧ sizedMet enc Tryd.prog Tryd.f5 (OpenSpec.ofChange Rows.glyphDrawsSpec) false w args)
      (Rows.glyphDrawsSpec.post enc Tryd.prog Tryd.f5 false true false false) := by
  refine returnsInHanded_of_change_and (C := Tryd.checked) (X := fun w _ => laidMetH Tryd.prog Rows.glyphDrawsRow.laid w) (fun _ _ _ hh h => h.of_heap hh) own started (by kernel_rfl) Tryd.func5
    (ChangeSpec.witness_shaped (enc := enc) (C := Tryd.checked) (os := os) (X := fun w _ => laidMetH Tryd.prog Rows.glyphDrawsRow.laid w) false (start7 os) #[.int .i32 0] 8 rfl (World.shaped_of_RefB (by kernel_rfl) (by kernel_rfl)) (by kernel_rfl) (by kernel_rfl) (by kernel_rfl) (met_glyphDraws os _)) ?_
  intro W base args ds gs before hval0 hW _ _ hL _
  have hval : ∀ (j : Nat) t v, Tryd.f5.params[j]? = some t → args[j]? = some v → Value.okWide Tryd.prog W .any base t v := hval0
  have hW' := hW
  obtain ⟨p, q, hA0, hV, rfl, hfz, hnd⟩ := hW
  have hA : DataW.TrodAll enc Tryd.prog W 0 (fun _ => true) true Tryd.f5.params.toList args.toList ds p := hA0
  rw [Tryd.params5] at hA hval
  obtain ⟨v0, vs0, d0, ds0, p0, q0, hargs, rfl, rfl, h0, r0⟩ := trodAll_cons hA
  obtain ⟨rfl, rfl, rfl⟩ := trodAll_nil r0
  obtain rfl : args = #[v0] := by cases args; simp_all
  obtain ⟨rfl, rfl⟩ := trodVars_none hV
  obtain ⟨a0, rfl, rfl, rfl, w0⟩ := open_int Tryd.underlying21 (hval 0 21 v0 rfl rfl) h0
  clear hA0 hval0
  refine (walk a0 W w0 (tabs_glyphDraws hL)).mono fun e W' ⟨he, bel⟩ => ?_
  subst he
  exact ⟨_, rfl, _, _, _, [], _, [], hW', trodAll_mk1 (shut_bool Tryd.underlying4 _), (trodAll_cons_mk (shut_int Tryd.underlying21 w0) trodAll_mk0), rfl, bel.frame _, fun h => by cases h⟩

theorem over : Rows.glyphDrawsRow.holds Tryd.pinned (OpenSpec.ofChange Rows.glyphDrawsSpec) :=
  OpenClaim.holds_of_wide 5 Tryd.f5 rfl rfl rfl rfl rfl rfl rfl ⟨rfl, rfl, rfl, rfl, rfl⟩ rfl rfl rfl rfl rfl (by kernel_rfl) Tryd.func5 (by kernel_rfl)
    (of_decide_eq_true (by kernel_rfl)) (by unfold Func.isWrapper; first | (rw [if_pos (by decide +kernel)]; kernel_rfl) | (rw [if_neg (by decide +kernel)]; exact ⟨rfl, rfl⟩))
    (fun os started H enc _ => lifted os started H enc)

theorem cardOver : Rows.GlyphDrawsCardSaid :=
  Claim7.holds_tied_plain_at .later [] [.data, .data] true (true, "10824ea1b9618df5ce116815e75e58dfba85015eb6e90174928aa14099a72120") false
    over (fun _ h => by cases h) (by kernel_rfl) (fun _ h => by cases h) glyphDraws_row_tie rfl ⟨rfl, rfl⟩ (by kernel_rfl) rfl
    (fun f fn hf hfn => by
      obtain rfl : f = 5 := Option.some.inj ((show Tryd.prog.funcNamed Rows.glyphDrawsRow.func = some 5 by kernel_rfl).symm.trans hf) |>.symm
      obtain rfl : fn = Tryd.f5 := (Option.some.inj (Tryd.func5.symm.trans hfn)).symm
      exact ⟨by kernel_rfl, fun j t ht => by
        rw [Tryd.params5] at ht
        have hm : t ∈ [21] := by simpa using Array.mem_of_getElem? ht
        have hall : ([21].all fun u => !Tryd.prog.wantsStandIn u) = true := by kernel_rfl
        exact (show Tryd.prog.wantsStandIn t = false by simpa using List.all_eq_true.1 hall t hm)⟩)
    (by kernel_rfl)

end Go.Proofs.YtgfcdekbbhndnaaDoor.glyphDraws
namespace Go.Proofs.YtgfcdekbbhndnaaDoor
theorem glyphDraws_holds : Rows.GlyphDrawsCardSaid := glyphDraws.cardOver
end Go.Proofs.YtgfcdekbbhndnaaDoor
