/-
  CastWrites: what is exported is written as the document says. For every two numbers and every slice of events; the library's listed variables as the program's text lays them.
-/
import Derived.Test.YtciogdhapogolaaDoorAFit
import Derived.Test.YtciogdhapogolaaDoorAWrite
import Derived.Test.YtciogdhapogolaaDoorETame
import Derived.Test.YtciogdhapogolaaDoorEOpen
import Derived.Test.YtciogdhapogolaaDoorACond
import Derived.Test.YtciogdhapogolaaDoorCards
import Derived.Test.YtciogdhapogolaaDoorTie
import Derived.OpenShut
import Derived.HandedFrom
import Derived.ChangeSame
import Derived.ChangeVars
import Derived.JoinedOf
import Derived.JoinedAt
namespace Go.Proofs.YtciogdhapogolaaDoor.castWrites
open Go.ChangeShapes Go.WideShapes Go.ChangeAt Go.RowKit Go.Lib EM
set_option maxRecDepth 100000

theorem big (x y : Int) (A : Option Addr) (n c : Nat) (w : World) (h : 60 < n) (hF : Fms w) :
    Calls Tryd.prog 4 #[.int .i64 x, .int .i64 y, .slice A n c] w fun e w' => e = .returned (.bool true) ∧ Below w.heap.size w w' := by
  have g : decide ((60 : Int) < (n : Int)) = true := by simp; omega
  have HF := Lib.hid (afit_ok w hF)
  clear h hF
  go_enter Tryd.func4, Tryd.ntmps4
  go_wp2_with fail
  refine HF.out.mono ?_
  rintro e w1 ⟨rfl, b1⟩
  have HB1 := Lib.hid b1
  clear b1
  go_wp2_with fail
  go_ret
  exact ⟨rfl, HB1.out⟩

set_option maxHeartbeats 4000000 in
theorem core (x y : Int) (A : Option Addr) (c : Nat) (l : List Ev) (w : World) (hl : l.length ≤ 60) (hr : evE.Row w w.heap.size A l) (hF : Fms w) :
    Calls Tryd.prog 4 #[.int .i64 x, .int .i64 y, .slice A l.length c] w fun e w' => e = .returned (.bool true) ∧ Below w.heap.size w w' := by
  have g : decide ((60 : Int) < (l.length : Int)) = false := by simp; omega
  have HFit := Lib.hid (afit_ok w hF)
  have HF := Lib.hid hF
  have HR := Lib.hid hr
  have HLB := Lib.hid (tameL_list l 0 (Int.le_refl _) (by omega))
  have hlen : (tameL 0 l).length ≤ 60 := by rw [tameL_len]; exact hl
  have a1 := i64_and62 x
  have a2 := i64_and62 y
  obtain ⟨p, hp⟩ : ∃ p, p = x % 4611686018427387904 := ⟨_, rfl⟩
  obtain ⟨q, hq⟩ : ∃ q, q = y % 4611686018427387904 := ⟨_, rfl⟩
  rw [← hp] at a1
  rw [← hq] at a2
  have p0 : 0 ≤ p ∧ p ≤ 4611686018427387903 := by omega
  have q0 : 0 ≤ q ∧ q ≤ 4611686018427387903 := by omega
  clear hr hF hp hq
  go_enter Tryd.func4, Tryd.ntmps4
  go_wp2_with fail
  refine HFit.out.mono ?_
  rintro e wf ⟨rfl, b1⟩
  have HBF := Lib.hid b1
  have hzf := b1.size
  clear b1 HFit
  have HTA := Lib.hid (tame_ok wf l A c w.heap.size (HR.out.below HBF.out) hzf (by omega))
  go_wp2_with fail
  refine HTA.out.mono ?_
  rintro e wt ⟨v, rfl, ho, hbt⟩
  obtain ⟨AL, cL, hv, -, -, -, hrL⟩ := ho.row
  subst hv
  have HBT := Lib.hid (below_next HBF.out hbt)
  have HFT := Lib.hid (HF.out.on HBT.out)
  clear ho hbt HTA
  generalize tameL 0 l = L at *
  have HE := Lib.hid (export_ok wt p q p0.1 (by omega) q0.1 (by omega) HFT.out L AL cL wt.heap.size hrL (Nat.le_refl _) (by omega) (AM.listB_right HLB.out))
  have HRL := Lib.hid hrL
  clear hrL
  go_wp2_with fail
  refine HE.out.mono ?_
  rintro e we ⟨rfl, bE⟩
  have HW := Lib.hid (write_ok we p q p0.1 (by omega) q0.1 (by omega) (HFT.out.on bE) L AL cL wt.heap.size (HRL.out.below bE) bE.size (by omega) (fits_list HLB.out))
  have HBE := Lib.hid (below_next HBT.out bE)
  clear bE HE
  generalize AM.castB p.toNat q.toNat L = S at *
  go_wp2_with fail
  refine HW.out.mono ?_
  rintro e ww ⟨rfl, bW⟩
  have HBW := Lib.hid (below_next HBE.out bW)
  clear bW HW
  go_wp2_with fail
  go_ret
  exact ⟨by simp, HBW.out⟩
theorem walk (x y : Int) (A : Option Addr) (len cap : Nat) (w : World) (_ : (Lit.int .i64 x).wf = true) (_ : (Lit.int .i64 y).wf = true) (h1 : IsEvs w A len cap) (hF : Fms w) :
    Calls Tryd.prog 4 #[.int .i64 x, .int .i64 y, .slice A len cap] w fun e w' => e = .returned (.bool true) ∧ Below w.heap.size w w' := by
  obtain ⟨l, rfl, _, hr⟩ := h1
  by_cases h : 60 < l.length
  · exact big x y A l.length cap w h hF
  · exact core x y A cap l w (by omega) hr hF

theorem own : ownKnob Tryd.prog.godebug = none := by kernel_rfl
theorem laidOut : laidOutB Tryd.prog = true := by kernel_rfl

set_option maxRecDepth 100000 in
theorem lifted (os : Os) (started : os.Started) (H : Type) (enc : TypeId × Value → H) :
    ReturnsInHanded {} Tryd.checked os 4 .any (fun w args => (Rows.castWritesSpec.pre enc Tryd.prog Tryd.f4 Rows.castWritesRow.domain false w args ∧ laidMetH Tryd.prog Rows.castWritesRow.laid w) ∧ sizedMet enc Tryd.prog Tryd.f4 (OpenSpec.ofChange Rows.castWritesSpec) false w args)
      (Rows.castWritesSpec.post enc Tryd.prog Tryd.f4 false true false false) := by
  refine returnsInHanded_of_change_and (C := Tryd.checked) (X := fun w _ => laidMetH Tryd.prog Rows.castWritesRow.laid w) (fun _ _ _ hh h => h.of_heap hh) own started (by kernel_rfl) Tryd.func4
    (ChangeSpec.witness_shaped (enc := enc) (C := Tryd.checked) (os := os) (X := fun w _ => laidMetH Tryd.prog Rows.castWritesRow.laid w) false (start3 os) #[.int .i64 0, .int .i64 0, .slice none 0 0] 8 rfl (World.shaped_of_RefB (by kernel_rfl) (by kernel_rfl)) (by kernel_rfl) (by kernel_rfl) (by kernel_rfl) (met_castWrites os _)) ?_
  intro W base args ds gs before hval0 hW _ _ hL _
  have hval : ∀ (j : Nat) t v, Tryd.f4.params[j]? = some t → args[j]? = some v → Value.okWide Tryd.prog W .any base t v := hval0
  have hW' := hW
  obtain ⟨p, q, hA0, hV, rfl, hfz, hnd⟩ := hW
  have hA : DataW.TrodAll enc Tryd.prog W 0 (fun _ => true) true Tryd.f4.params.toList args.toList ds p := hA0
  rw [Tryd.params4] at hA hval
  obtain ⟨v0, vs0, d0, ds0, p0, q0, hargs, rfl, rfl, h0, r0⟩ := trodAll_cons hA
  obtain ⟨v1, vs1, d1, ds1, p1, q1, rfl, rfl, rfl, h1, r1⟩ := trodAll_cons r0
  obtain ⟨v2, vs2, d2, ds2, p2, q2, rfl, rfl, rfl, h2, r2⟩ := trodAll_cons r1
  obtain ⟨rfl, rfl, rfl⟩ := trodAll_nil r2
  obtain rfl : args = #[v0, v1, v2] := by cases args; simp_all
  obtain ⟨rfl, rfl⟩ := trodVars_none hV
  obtain ⟨a0, rfl, rfl, rfl, w0⟩ := open_int Tryd.underlying3 (hval 0 3 v0 rfl rfl) h0
  obtain ⟨a1, rfl, rfl, rfl, w1⟩ := open_int Tryd.underlying3 (hval 1 3 v1 rfl rfl) h1
  obtain ⟨a2, len2, cap2, rfl⟩ := okWide_slice Tryd.underlying22 (hval 2 22 v2 rfl rfl)
  have k2 := h2
  have lt2 : ∀ x ∈ p2, x.block < W.heap.size := by obtain ⟨m, hm⟩ := k2; exact DataW.trod_lt m _ _ _ hm
  have w2 : IsEvs W a2 len2 cap2 := by
    obtain ⟨fuel, hf⟩ := h2
    exact evs_in hf
  clear hA0 hval0
  refine (walk a0 a1 a2 len2 cap2 W w0 w1 w2 (fmt_castWrites hL)).mono fun e W' ⟨he, bel⟩ => ?_
  subst he
  exact ⟨_, rfl, _, _, _, [], _, [], hW', trodAll_mk1 (shut_bool Tryd.underlying4 _), (trodAll_cons_mk (shut_int Tryd.underlying3 w0) (trodAll_cons_mk (shut_int Tryd.underlying3 w1) (trodAll_cons_mk (Below.trod laidOut (by kernel_rfl) (of_decide_eq_true (by kernel_rfl)) k2 bel lt2) trodAll_mk0))), rfl, bel.frame _, fun h => by cases h⟩

theorem over : Rows.castWritesRow.holds Tryd.pinned (OpenSpec.ofChange Rows.castWritesSpec) :=
  OpenClaim.holds_of_wide 4 Tryd.f4 rfl rfl rfl rfl rfl rfl rfl ⟨rfl, rfl, rfl, rfl, rfl⟩ rfl rfl rfl rfl rfl (by kernel_rfl) Tryd.func4 (by kernel_rfl)
    (of_decide_eq_true (by kernel_rfl)) (by unfold Func.isWrapper; first | (rw [if_pos (by decide +kernel)]; kernel_rfl) | (rw [if_neg (by decide +kernel)]; exact ⟨rfl, rfl⟩))
    (fun os started H enc _ => lifted os started H enc)

theorem cardOver : Rows.CastWritesCardSaid :=
  Claim7.holds_tied_plain_at .later [] [.data, .data, .data, .data] true (true, "c6e7e47a1f1e57c57a0815cad320a6b635bbc7f44d9a19289eecbaf634c8865e") true
    over (fun _ h => by cases h) (by kernel_rfl) (fun _ h => by cases h) castWrites_row_tie rfl ⟨rfl, rfl⟩ (by kernel_rfl) rfl
    (fun f fn hf hfn => by
      obtain rfl : f = 4 := Option.some.inj ((show Tryd.prog.funcNamed Rows.castWritesRow.func = some 4 by kernel_rfl).symm.trans hf) |>.symm
      obtain rfl : fn = Tryd.f4 := (Option.some.inj (Tryd.func4.symm.trans hfn)).symm
      exact ⟨by kernel_rfl, fun j t ht => by
        rw [Tryd.params4] at ht
        have hm : t ∈ [3, 3, 22] := by simpa using Array.mem_of_getElem? ht
        have hall : ([3, 3, 22].all fun u => !Tryd.prog.wantsStandIn u) = true := by kernel_rfl
        exact (show Tryd.prog.wantsStandIn t = false by simpa using List.all_eq_true.1 hall t hm)⟩)
    (by kernel_rfl)

end Go.Proofs.YtciogdhapogolaaDoor.castWrites
namespace Go.Proofs.YtciogdhapogolaaDoor
theorem castWrites_holds : Rows.CastWritesCardSaid := castWrites.cardOver
end Go.Proofs.YtciogdhapogolaaDoor
