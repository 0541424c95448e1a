/-
  VarySigns: for every int n and every uint64 u the law answers true: Zag brings back what Zig made, Zig what Zag made, and Zig's numbers are those of the document. No condition.
-/
import Derived.Test.YtapabeahgciikaaVFit
import Derived.ProofKit
import Derived.OpenShut
namespace Go.Proofs.Ytapabeahgciikaa.varySigns
open Go.ChangeShapes Go.WideShapes Go.ChangeAt Go.RowKit

set_option maxRecDepth 100000 in
set_option maxHeartbeats 400000 in
theorem walk (a0 a1 : Int) (w : World) (w0 : (Lit.int .i64 a0).wf = true) (w1 : (Lit.int .u64 a1).wf = true) :
    Calls Try.prog 5 #[.int .i64 a0, .int .u64 a1] w fun e w' => e = .returned (.bool true) ∧ Below w.heap.size w w' := by
  have h0 := bounds_i64 w0
  have h1 := bounds_u64 w1
  clear w0 w1
  have z1 := zag_zig a0
  have z2 := zig_zag h1.1
  have r1 := zig_range h0.1 h0.2
  have r2 := zag_range h1.1 h1.2
  have Z1 := Lib.hid z1; have Z2 := Lib.hid z2
  clear z1 z2
  by_cases hs : a0 < 0
  · have e : zig a0 = -(a0 + 1) * 2 + 1 := by unfold zig; rw [if_neg (by omega)]; omega
    have E := Lib.hid e; clear e
    go_enter Try.func5, Try.ntmps5
    go_wp2_with fail
    refine (fit_any _).mono ?_
    rintro e w1 ⟨rfl, hb⟩
    have HB := Lib.hid hb; clear hb
    go_wp2_with fail
    refine (zig_any a0 _ h0.1 h0.2).mono ?_
    rintro e w2 ⟨rfl, rfl⟩
    go_wp2_with fail
    refine (zag_any (zig a0) _ r1.1 r1.2).mono ?_
    rintro e w3 ⟨rfl, rfl⟩
    rw [Z1.out, E.out]
    go_wp2_with fail
    refine (zag_any a1 _ h1.1 h1.2).mono ?_
    rintro e w4 ⟨rfl, rfl⟩
    go_wp2_with fail
    refine (zig_any (zag a1) _ r2.1 r2.2).mono ?_
    rintro e w5 ⟨rfl, rfl⟩
    rw [Z2.out]
    go_wp2
    go_ret
    exact ⟨rfl, HB.out⟩
  · have e : zig a0 = a0 * 2 := by unfold zig; rw [if_pos (by omega)]; omega
    have E := Lib.hid e; clear e
    go_enter Try.func5, Try.ntmps5
    go_wp2_with fail
    refine (fit_any _).mono ?_
    rintro e w1 ⟨rfl, hb⟩
    have HB := Lib.hid hb; clear hb
    go_wp2_with fail
    refine (zig_any a0 _ h0.1 h0.2).mono ?_
    rintro e w2 ⟨rfl, rfl⟩
    go_wp2_with fail
    refine (zag_any (zig a0) _ r1.1 r1.2).mono ?_
    rintro e w3 ⟨rfl, rfl⟩
    rw [Z1.out, E.out]
    go_wp2_with fail
    refine (zag_any a1 _ h1.1 h1.2).mono ?_
    rintro e w4 ⟨rfl, rfl⟩
    go_wp2_with fail
    refine (zig_any (zag a1) _ r2.1 r2.2).mono ?_
    rintro e w5 ⟨rfl, rfl⟩
    rw [Z2.out]
    go_wp2
    go_ret
    exact ⟨rfl, HB.out⟩

theorem own : ownKnob Try.prog.godebug = none := by kernel_rfl
theorem laidOut : laidOutB Try.prog = true := by kernel_rfl

set_option maxRecDepth 100000 in
theorem lifted (os : Os) (started : os.Started) (H : Type) (enc : TypeId × Value → H) :
    ReturnsInHanded {} Try.checked os 5 .any (Rows.varySignsSpec.pre6 enc Try.prog Try.f5 Rows.varySignsRow.domain false) (Rows.varySignsSpec.post enc Try.prog Try.f5 false true false false) := by
  refine returnsInHanded_of_change (C := Try.checked) own started (by kernel_rfl) Try.func5
    (ChangeSpec.witness6 (enc := enc) (C := Try.checked) false ⟨#[], #[.int .i64 0, .int .u64 0], []⟩ 8 (by kernel_rfl) (by kernel_rfl) (by kernel_rfl) (by kernel_rfl)) ?_
  intro W base args ds gs before hval0 hW hcnd _
  have hval : ∀ (j : Nat) t v, Try.f5.params[j]? = some t → args[j]? = some v → Value.okWide Try.prog W .any base t v := hval0
  have hW' := hW
  obtain ⟨p, q, hA0, hV, rfl, hfz, hnd⟩ := hW
  have hA : DataW.TrodAll enc Try.prog W 0 (fun _ => true) true Try.f5.params.toList args.toList ds p := hA0
  rw [Try.params5] at hA hval
  obtain ⟨v0, vs0, d0, ds0, p0, q0, hargs, rfl, rfl, h0, r0⟩ := trodAll_cons hA
  obtain ⟨v1, vs1, d1, ds1, p1, q1, rfl, rfl, rfl, h1, r1⟩ := trodAll_cons r0
  obtain ⟨rfl, rfl, rfl⟩ := trodAll_nil r1
  obtain rfl : args = #[v0, v1] := by cases args; simp_all
  obtain ⟨rfl, rfl⟩ := trodVars_none hV
  obtain ⟨a0, rfl, rfl, rfl, w0⟩ := open_int Try.underlying3 (hval 0 3 v0 rfl rfl) h0
  obtain ⟨a1, rfl, rfl, rfl, w1⟩ := open_int Try.underlying26 (hval 1 26 v1 rfl rfl) h1
  clear hA0 hval0
  refine (walk a0 a1 W w0 w1).mono fun e W' ⟨he, bel⟩ => ?_
  subst he
  exact ⟨_, rfl, _, _, _, [], _, [], hW', trodAll_mk1 (shut_bool Try.underlying4 _), (trodAll_cons_mk (shut_int Try.underlying3 w0) (trodAll_cons_mk (shut_int Try.underlying26 w1) trodAll_mk0)), rfl, bel.frame _, fun h => by cases h⟩

theorem over : Rows.varySignsRow.holds Try.pinned (OpenSpec.ofChange Rows.varySignsSpec) :=
  OpenClaim.holds_of_wide 5 Try.f5 rfl rfl rfl rfl rfl rfl rfl ⟨rfl, rfl, rfl, rfl, rfl⟩ rfl rfl rfl rfl rfl (by kernel_rfl) Try.func5 (by kernel_rfl)
    (of_decide_eq_true (by kernel_rfl)) (by unfold Func.isWrapper; first | (rw [if_pos (by decide +kernel)]; kernel_rfl) | (rw [if_neg (by decide +kernel)]; exact ⟨rfl, rfl⟩))
    (fun os started H enc _ => lifted os started H enc)

end Go.Proofs.Ytapabeahgciikaa.varySigns
namespace Go.Proofs.Ytapabeahgciikaa
theorem varySigns_holds : Rows.VarySignsSaid := varySigns.over
end Go.Proofs.Ytapabeahgciikaa
