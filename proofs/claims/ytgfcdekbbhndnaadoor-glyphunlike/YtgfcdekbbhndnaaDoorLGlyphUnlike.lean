/-
  GlyphUnlike: unlike runes from 96 to 126 are unlike signs. For every two runes; the package's two tables as the program's text lays them.
-/
import Derived.Test.YtgfcdekbbhndnaaDoorGFit
import Derived.Test.YtgfcdekbbhndnaaDoorGCond
import Derived.Test.YtgfcdekbbhndnaaDoorCards
import Derived.Test.YtgfcdekbbhndnaaDoorTie
import Derived.OpenShut
import Derived.HandedFrom
import Derived.ChangeSame
import Derived.ChangeVars
import Derived.JoinedOf
import Derived.JoinedAt
namespace Go.Proofs.YtgfcdekbbhndnaaDoor.glyphUnlike
open Go.ChangeShapes Go.WideShapes Go.ChangeAt Go.RowKit

set_option maxRecDepth 100000 in
set_option maxHeartbeats 1000000 in
theorem walk (a b : Int) (w : World) (ha : (Lit.int .i32 a).wf = true) (hb : (Lit.int .i32 b).wf = true) (hT : Tabs w) :
    Calls Tryd.prog 6 #[.int .i32 a, .int .i32 b] w fun e w' => e = .returned (.bool true) ∧ Below w.heap.size w w' := by
  have HT := Lib.hid hT
  have hia := bounds_i32 ha
  have hib := bounds_i32 hb
  clear hT ha hb
  have out : ∀ r : Int, (r < 96 ∨ 126 < r) → GM.amo r 96 126 = false := fun r h => by rw [GM.amo_not]; exact h
  have inn : ∀ k : Nat, k < 31 → GM.amo (96 + (k : Int)) 96 126 = true := fun k h => by rw [GM.amo_iff]; omega
  rcases (show (a < 96 ∨ 126 < a) ∨ ∃ k : Nat, k < 31 ∧ a = 96 + (k : Int) by rcases rune_part a with h | h | h; exact .inl (.inl h); exact .inl (.inr h); exact .inr h) with h | ⟨i, hi, rfl⟩
  · have f1 := out a h
    clear h out inn hia hib
    go_enter Tryd.func6, Tryd.ntmps6
    go_wp2_with fail
    refine (fit_ok _ HT.out).mono ?_
    rintro e w1 ⟨rfl, hb1⟩
    have HB1 := Lib.hid hb1
    clear hb1
    go_wp2_with fail
    refine (lamong_ok _ a 96 126).mono ?_
    rintro e w2 ⟨rfl, hw⟩
    rw [hw]
    clear hw w2
    go_wp2_with fail
    go_ret
    exact ⟨rfl, HB1.out⟩
  · rcases (show (b < 96 ∨ 126 < b) ∨ ∃ k : Nat, k < 31 ∧ b = 96 + (k : Int) by rcases rune_part b with h | h | h; exact .inl (.inl h); exact .inl (.inr h); exact .inr h) with h | ⟨j, hj, rfl⟩
    · have f1 := inn i hi
      have f2 := out b h
      clear h out inn hia hib
      go_enter Tryd.func6, Tryd.ntmps6
      go_wp2_with fail
      refine (fit_ok _ HT.out).mono ?_
      rintro e w1 ⟨rfl, hb1⟩
      have HB1 := Lib.hid hb1
      clear hb1
      go_wp2_with fail
      refine (lamong_ok _ (96 + (i : Int)) 96 126).mono ?_
      rintro e w2 ⟨rfl, hw⟩
      rw [hw]
      clear hw w2
      go_wp2_with fail
      refine (lamong_ok _ b 96 126).mono ?_
      rintro e w2 ⟨rfl, hw⟩
      rw [hw]
      clear hw w2
      go_wp2_with fail
      go_ret
      exact ⟨rfl, HB1.out⟩
    · have f1 := inn i hi
      have f2 := inn j hj
      have H1 := Lib.hid (fun v : World => fun hv : Tabs v => drawn_ok v hv (96 + (i : Int)) hia)
      have H2 := Lib.hid (fun v : World => fun hv : Tabs v => drawn_ok v hv (96 + (j : Int)) hib)
      rw [GM.drawn_in i hi] at H1
      rw [GM.drawn_in j hj] at H2
      have HE := Lib.hid (GM.sign_eq i j hi hj)
      clear out inn hia hib
      generalize GM.signT.getD i 0 = x at *
      generalize GM.signT.getD j 0 = y at *
      go_enter Tryd.func6, Tryd.ntmps6
      go_wp2_with fail
      refine (fit_ok _ HT.out).mono ?_
      rintro e w1 ⟨rfl, hb1⟩
      have HB1 := Lib.hid hb1
      have HT1 := Lib.hid (HT.out.on hb1 HT.out.room)
      clear hb1
      go_wp2_with fail
      refine (lamong_ok _ (96 + (i : Int)) 96 126).mono ?_
      rintro e w2 ⟨rfl, hw⟩
      rw [hw]
      clear hw w2
      go_wp2_with fail
      refine (lamong_ok _ (96 + (j : Int)) 96 126).mono ?_
      rintro e w2 ⟨rfl, hw⟩
      rw [hw]
      clear hw w2
      go_wp2_with fail
      refine (H1.out _ HT1.out).mono ?_
      rintro e w2 ⟨rfl, hw⟩
      rw [hw]
      clear hw w2
      go_wp2_with fail
      refine (H2.out _ HT1.out).mono ?_
      rintro e w2 ⟨rfl, hw⟩
      rw [hw]
      clear hw w2
      go_wp2_with fail
      go_ret
      have key : ((96 + (i : Int) == 96 + (j : Int)) : Bool) = (i == j) := by
        rw [Bool.eq_iff_iff]
        simp
        omega
      refine ⟨?_, HB1.out⟩
      show Ending.returned (.bool ((x == y) == (96 + (i : Int) == 96 + (j : Int)))) = _
      rw [HE.out, key]
      simp

theorem own : ownKnob Tryd.prog.godebug = none := by kernel_rfl
theorem laidOut : laidOutB Tryd.prog = true := by kernel_rfl

set_option maxRecDepth 100000 in
theorem lifted (os : Os) (started : os.Started) (H : Type) (enc : TypeId × Value → H) :
    ReturnsInHanded {} Tryd.checked os 6 .any (fun w args => (Rows.glyphUnlikeSpec.pre enc Tryd.prog Tryd.f6 Rows.glyphUnlikeRow.domain false w args ∧ laidMetH Tryd.prog Rows.glyphUnlikeRow.laid w) ∧ sizedMet enc Tryd.prog Tryd.f6 (OpenSpec.ofChange Rows.glyphUnlikeSpec) false w args)
      (Rows.glyphUnlikeSpec.post enc Tryd.prog Tryd.f6 false true false false) := by
  refine returnsInHanded_of_change_and (C := Tryd.checked) (X := fun w _ => laidMetH Tryd.prog Rows.glyphUnlikeRow.laid w) (fun _ _ _ hh h => h.of_heap hh) own started (by kernel_rfl) Tryd.func6
    (ChangeSpec.witness_shaped (enc := enc) (C := Tryd.checked) (os := os) (X := fun w _ => laidMetH Tryd.prog Rows.glyphUnlikeRow.laid w) false (start7 os) #[.int .i32 0, .int .i32 0] 8 rfl (World.shaped_of_RefB (by kernel_rfl) (by kernel_rfl)) (by kernel_rfl) (by kernel_rfl) (by kernel_rfl) (met_glyphUnlike os _)) ?_
  intro W base args ds gs before hval0 hW _ _ hL _
  have hval : ∀ (j : Nat) t v, Tryd.f6.params[j]? = some t → args[j]? = some v → Value.okWide Tryd.prog W .any base t v := hval0
  have hW' := hW
  obtain ⟨p, q, hA0, hV, rfl, hfz, hnd⟩ := hW
  have hA : DataW.TrodAll enc Tryd.prog W 0 (fun _ => true) true Tryd.f6.params.toList args.toList ds p := hA0
  rw [Tryd.params6] at hA hval
  obtain ⟨v0, vs0, d0, ds0, p0, q0, hargs, rfl, rfl, h0, r0⟩ := trodAll_cons hA
  obtain ⟨v1, vs1, d1, ds1, p1, q1, rfl, rfl, rfl, h1, r1⟩ := trodAll_cons r0
  obtain ⟨rfl, rfl, rfl⟩ := trodAll_nil r1
  obtain rfl : args = #[v0, v1] := by cases args; simp_all
  obtain ⟨rfl, rfl⟩ := trodVars_none hV
  obtain ⟨a0, rfl, rfl, rfl, w0⟩ := open_int Tryd.underlying21 (hval 0 21 v0 rfl rfl) h0
  obtain ⟨a1, rfl, rfl, rfl, w1⟩ := open_int Tryd.underlying21 (hval 1 21 v1 rfl rfl) h1
  clear hA0 hval0
  refine (walk a0 a1 W w0 w1 (tabs_glyphUnlike hL)).mono fun e W' ⟨he, bel⟩ => ?_
  subst he
  exact ⟨_, rfl, _, _, _, [], _, [], hW', trodAll_mk1 (shut_bool Tryd.underlying4 _), (trodAll_cons_mk (shut_int Tryd.underlying21 w0) (trodAll_cons_mk (shut_int Tryd.underlying21 w1) trodAll_mk0)), rfl, bel.frame _, fun h => by cases h⟩

theorem over : Rows.glyphUnlikeRow.holds Tryd.pinned (OpenSpec.ofChange Rows.glyphUnlikeSpec) :=
  OpenClaim.holds_of_wide 6 Tryd.f6 rfl rfl rfl rfl rfl rfl rfl ⟨rfl, rfl, rfl, rfl, rfl⟩ rfl rfl rfl rfl rfl (by kernel_rfl) Tryd.func6 (by kernel_rfl)
    (of_decide_eq_true (by kernel_rfl)) (by unfold Func.isWrapper; first | (rw [if_pos (by decide +kernel)]; kernel_rfl) | (rw [if_neg (by decide +kernel)]; exact ⟨rfl, rfl⟩))
    (fun os started H enc _ => lifted os started H enc)

theorem cardOver : Rows.GlyphUnlikeCardSaid :=
  Claim7.holds_tied_plain_at .later [] [.data, .data] true (true, "10824ea1b9618df5ce116815e75e58dfba85015eb6e90174928aa14099a72120") false
    over (fun _ h => by cases h) (by kernel_rfl) (fun _ h => by cases h) glyphUnlike_row_tie rfl ⟨rfl, rfl⟩ (by kernel_rfl) rfl
    (fun f fn hf hfn => by
      obtain rfl : f = 6 := Option.some.inj ((show Tryd.prog.funcNamed Rows.glyphUnlikeRow.func = some 6 by kernel_rfl).symm.trans hf) |>.symm
      obtain rfl : fn = Tryd.f6 := (Option.some.inj (Tryd.func6.symm.trans hfn)).symm
      exact ⟨by kernel_rfl, fun j t ht => by
        rw [Tryd.params6] at ht
        have hm : t ∈ [21, 21] := by simpa using Array.mem_of_getElem? ht
        have hall : ([21, 21].all fun u => !Tryd.prog.wantsStandIn u) = true := by kernel_rfl
        exact (show Tryd.prog.wantsStandIn t = false by simpa using List.all_eq_true.1 hall t hm)⟩)
    (by kernel_rfl)

end Go.Proofs.YtgfcdekbbhndnaaDoor.glyphUnlike
namespace Go.Proofs.YtgfcdekbbhndnaaDoor
theorem glyphUnlike_holds : Rows.GlyphUnlikeCardSaid := glyphUnlike.cardOver
end Go.Proofs.YtgfcdekbbhndnaaDoor
