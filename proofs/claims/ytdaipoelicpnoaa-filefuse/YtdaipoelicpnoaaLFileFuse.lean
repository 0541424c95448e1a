/-
  FileFuse: for all numbers and calls the law answers true: behind as many changes as its fuse was set to a store goes down, and not ahead of that; nothing changes then. No condition.
-/
import Derived.Test.YtdaipoelicpnoaaFFuse
import Derived.ProofKit
import Derived.OpenShut
namespace Go.Proofs.Ytdaipoelicpnoaa.fileFuse
open Go.ChangeShapes Go.WideShapes Go.ChangeAt Go.RowKit FM

set_option maxRecDepth 100000 in
set_option maxHeartbeats 1000000 in
theorem long (a0 : Int) (A : Option Addr) (cs : List CallV) (cap : Nat) (w : World) (h : Row5 w w.heap.size A cs) (hm : cs.length ≤ maxLen) (hs : shortL cs = false) :
    Calls Try.prog 5 #[.int .i64 a0, .slice A cs.length cap] w fun e w' => e = .returned (.bool true) ∧ Below w.heap.size w w' := by
  have HH := Lib.hid h
  have HF := Lib.hid (fit_ok w)
  clear h
  go_enter Try.func5, Try.ntmps5
  go_wp2_with fail
  refine HF.out.mono ?_
  rintro e w1 ⟨rfl, hb1⟩
  have HB1 := Lib.hid hb1
  clear hb1
  go_wp2_with fail
  refine (short_ok w1 A cs cap (HH.out.below HB1.out) hm).mono ?_
  rintro e w2 ⟨rfl, hb2⟩
  rw [hs]
  have HB2 := Lib.hid hb2
  clear hb2
  go_wp2
  go_ret
  exact ⟨rfl, HB1.out.trans (HB2.out.mono HB1.out.size)⟩

set_option maxRecDepth 100000 in
set_option maxHeartbeats 2000000 in
theorem main (a0 : Int) (A : Option Addr) (cs : List CallV) (cap : Nat) (w : World) (h : Row5 w w.heap.size A cs) (hm : cs.length ≤ maxLen) (hs : shortL cs = true) :
    Calls Try.prog 5 #[.int .i64 a0, .slice A cs.length cap] w fun e w' => e = .returned (.bool true) ∧ Below w.heap.size w w' := by
  have HH := Lib.hid h
  have HF := Lib.hid (fit_ok w)
  obtain ⟨hl, hsh⟩ := short_all hs
  have HSH := Lib.hid hsh
  obtain ⟨q, hq, hand⟩ := low6 a0
  clear h hsh
  go_enter Try.func5, Try.ntmps5
  go_wp2_with fail
  refine HF.out.mono ?_
  rintro e w1 ⟨rfl, hb1⟩
  have HB1 := Lib.hid hb1
  clear hb1
  go_wp2_with fail
  refine (short_ok w1 A cs cap (HH.out.below HB1.out) hm).mono ?_
  rintro e w2 ⟨rfl, hb2⟩
  rw [hs]
  have HB2 := Lib.hid (HB1.out.trans (hb2.mono HB1.out.size))
  clear hb2
  go_wp2_with fail
  refine (new_ok w2 1048576 (by omega)).mono ?_
  rintro e w3 ⟨sb, rfl, h3, hb3⟩
  have HL3 := Lib.hid (Loop.start HB2.out h3 hb3)
  clear h3 hb3
  go_wp2_with fail
  refine (sto_fuse HL3.out.sto (q : Int) (by omega)).mono ?_
  rintro e w4 ⟨rfl, h4, hf4⟩
  have HL4 := Lib.hid (HL3.out.fuse h4 hf4)
  clear h4 hf4
  go_wp2
  go_loopw [0, 24] (fun v u wr => ∃ (i n : Nat) (S : Nat → Prop) (s : St), i ≤ cs.length ∧ u = .int .i64 (i : Int) ∧ v = .int .i64 (n : Int) ∧ n ≤ 63 ∧ Loop w wr S sb s i ∧ (s.down = false → s.fuse = (n : Int)))
    (fun _ u _ => cs.length - (intOf u).toNat)
  case atStart => exact ⟨0, q, _, _, Nat.zero_le _, rfl, rfl, by omega, HL4.out, fun _ => rfl⟩
  case round =>
    obtain ⟨i, n, S, s, hi, rfl, rfl, hn, hL, hfs⟩ := hrel
    have HL := Lib.hid hL; have HQ := Lib.hid hfs
    clear hL hfs
    by_cases hlt : i < cs.length
    · obtain ⟨b, off, hA, g1, g2, g3, g4, g5, hok⟩ := HH.out.call HL.out.below hlt
      subst hA
      have hd1 := (HSH.out i hlt).1
      obtain ⟨c, hce⟩ : ∃ c, c = cs[i] := ⟨_, rfl⟩
      rw [← hce] at g1 g2 g3 g4 g5 hok hd1
      have HOK := Lib.hid hok
      clear hok hce
      have hba : Below wr.heap.size wr (wr.alloc (.cells #[.int .i64 c.kind, .int .i64 c.n, .string c.name, .string c.to, .slice c.A c.data.length c.cap] 33)) := (Below.refl _ _).alloc (Nat.le_refl _) _
      have HLa := Lib.hid (HL.out.moved hba)
      have HCa := Lib.hid (CallAt.alloc wr c)
      have hnS : ¬ S wr.heap.size := fun hs => by have := HL.out.sto.lt _ hs; omega
      have HNS := Lib.hid hnS
      clear hba hnS
      go_wp2_with fail
      refine (kind_ok _ c).mono ?_
      rintro e wk ⟨rfl, hbk⟩
      have HLk := Lib.hid (HLa.out.moved hbk)
      have HCk := Lib.hid (HCa.out.below hbk)
      clear hbk g1 g2 g3 g4 g5
      have k0 := HCk.out.k0; have k1 := HCk.out.k1; have k2 := HCk.out.k2; have k3 := HCk.out.k3; have k4 := HCk.out.k4
      by_cases hk6 : 6 ≤ c.k
      · have d1 : decide ((6 : Int) ≤ (c.k : Int)) = true := decide_eq_true (by omega)
        clear k0 k1 k2 k3 k4
        go_wp2
        go_roundw
        case rel => exact ⟨i + 1, n, _, _, by omega, by go_num, rfl, hn, HLk.out.later, HQ.out⟩
        case measure => simp [intOf]; omega
      · have d1 : decide ((6 : Int) ≤ (c.k : Int)) = false := decide_eq_false (by omega)
        go_wp2_with fail
        refine (sto_used HLk.out.sto (by have := HLk.out.used; omega)).mono ?_
        rintro e wb ⟨rfl, hbb⟩
        have HLb := Lib.hid (HLk.out.moved hbb)
        have HCb := Lib.hid (HCk.out.below hbb)
        clear hbb k0 k1 k2 k3 k4
        have k0 := HCb.out.k0; have k1 := HCb.out.k1; have k2 := HCb.out.k2; have k3 := HCb.out.k3; have k4 := HCb.out.k4
        have hub : used s ≤ 1000000 := by have := HLb.out.used; omega
        have HUP := Lib.hid (sto_up HLb.out.sto)
        rcases hdn : s.down with _ | _
        · rw [hdn] at HUP
          have hfu := HQ.out hdn
          go_wp2_with fail
          refine HUP.out.mono ?_
          rintro e wx ⟨rfl, hwx⟩
          rw [hwx]
          clear hwx wx
          go_wp2_with fail
          refine (do_ok wb S sb s c w.heap.size HLb.out.sto (HLb.out.fits HOK.out (by omega) (by omega))).mono ?_
          rintro e wc hac
          have HLc := Lib.hid (HLb.out.step (by omega) hac)
          obtain ⟨rfl, _, _⟩ := hac
          clear k0 k1 k2 k3 k4
          have hcases := step_up (c := c) (by omega) hdn (by omega)
          obtain ⟨r, hr⟩ : ∃ r, r = step s c := ⟨_, rfl⟩
          rw [← hr] at hcases HLc ⊢
          clear hr
          rcases hcases with ⟨e1, e2, e3, e4⟩ | ⟨e1, e2, e3, e4⟩ | ⟨e1, e2, e3, e4, e5⟩
          · rw [e1]
            have dn : ((n : Int) == 0) = false := beq_eq_false_iff_ne.2 (by omega)
            have hn1 : 1 ≤ n := by omega
            have E4 := Lib.hid e4
            clear e2 e4 e1
            go_wp2_with fail
            refine (sto_up HLc.out.sto).mono ?_
            rintro e wy ⟨rfl, hwy⟩
            rw [hwy, e3]
            clear hwy wy
            go_wp2
            go_roundw
            case rel => exact ⟨i + 1, n - 1, _, _, by omega, by go_num, by go_num, by omega, HLc.out, fun _ => by rw [E4.out]; omega⟩
            case measure => simp [intOf]; omega
          · rw [e1]
            have hn0 : n = 0 := by omega
            subst hn0
            clear e1 e2
            go_wp2_with fail
            refine (sto_up HLc.out.sto).mono ?_
            rintro e wy ⟨rfl, hwy⟩
            rw [hwy, e3]
            clear hwy wy
            go_wp2_with fail
            refine (sto_used HLc.out.sto (by have := HLc.out.used; omega)).mono ?_
            rintro e wd ⟨rfl, hbwd⟩
            rw [e4]
            have HLd := Lib.hid (HLc.out.moved hbwd)
            clear hbwd
            go_wp2
            go_roundw
            case rel => exact ⟨i + 1, 0, _, _, by omega, by go_num, by go_num, by omega, HLd.out, fun hh => by rw [e3] at hh; cases hh⟩
            case measure => simp [intOf]; omega
          · have dn0 : ((r.1 : Int) == 0) = false := beq_eq_false_iff_ne.2 (by omega)
            have dn8 : ((r.1 : Int) == 8) = false := beq_eq_false_iff_ne.2 (by omega)
            have E4 := Lib.hid e4
            clear e1 e2 e4
            go_wp2_with fail
            refine (sto_up HLc.out.sto).mono ?_
            rintro e wy ⟨rfl, hwy⟩
            rw [hwy, e3]
            clear hwy wy
            go_wp2_with fail
            refine (sto_used HLc.out.sto (by have := HLc.out.used; omega)).mono ?_
            rintro e wd ⟨rfl, hbwd⟩
            rw [e5]
            have HLd := Lib.hid (HLc.out.moved hbwd)
            clear hbwd
            go_wp2
            go_roundw
            case rel => exact ⟨i + 1, n, _, _, by omega, by go_num, by go_num, by omega, HLd.out, fun _ => by rw [E4.out]; exact hfu⟩
            case measure => simp [intOf]; omega
        · rw [hdn] at HUP
          go_wp2_with fail
          refine HUP.out.mono ?_
          rintro e wx ⟨rfl, hwx⟩
          rw [hwx]
          clear hwx wx
          go_wp2_with fail
          refine (do_ok wb S sb s c w.heap.size HLb.out.sto (HLb.out.fits HOK.out (by omega) (by omega))).mono ?_
          rintro e wc hac
          have HLc := Lib.hid (HLb.out.step (by omega) hac)
          obtain ⟨rfl, _, _⟩ := hac
          clear k0 k1 k2 k3 k4
          rw [step_down (by omega) hdn] at HLc ⊢
          go_wp2_with fail
          refine (sto_up HLc.out.sto).mono ?_
          rintro e wy ⟨rfl, hwy⟩
          rw [hwy, show ((8, s) : Nat × St).2.down = true from hdn]
          clear hwy wy
          go_wp2_with fail
          refine (sto_used HLc.out.sto (by have := HLc.out.used; omega)).mono ?_
          rintro e wd ⟨rfl, hbwd⟩
          have HLd := Lib.hid (HLc.out.moved hbwd)
          clear hbwd
          go_wp2
          go_roundw
          case rel => exact ⟨i + 1, n, _, _, by omega, by go_num, by go_num, by omega, HLd.out, fun hh => by rw [show ((8, s) : Nat × St).2.down = true from hdn] at hh; cases hh⟩
          case measure => simp [intOf]; omega
    · go_wp2_with fail
      refine (sto_crash0 HL.out.sto (by have := HL.out.files; omega) (by have := HL.out.used; omega)).mono ?_
      rintro e w5 hc5
      have HL5 := Lib.hid (HL.out.crash hc5)
      obtain ⟨rfl, _, _⟩ := hc5
      have hup5 : (FM.crash s []).down = false := rfl
      go_wp2_with fail
      refine (sto_up HL5.out.sto).mono ?_
      rintro e wy ⟨rfl, hwy⟩
      rw [hwy, hup5]
      clear hwy wy
      go_wp2_with fail
      refine (append_ok w5 _ sb (FM.crash s []) ⟨#[122]⟩ (by unfold maxLen; decide) none [] 0 0 HL5.out.sto (by have := HL5.out.files; omega) (by have := HL5.out.used; omega) HL5.out.room (by simp) Row.nil (Nat.zero_le _) (fun _ => rfl) (fun hp => absurd hp (by simp)) (by simp)).mono ?_
      rintro e w6 ⟨rfl, h6, hf6⟩
      have hz : (append (FM.crash s []) (ByteArray.mk #[122]).data.toList []).1 = 0 := append_none rfl (by show (-1 : Int) < 0; omega) (by decide) [] (Nat.zero_le _)
      rw [hz]
      have HB6 := Lib.hid (HL5.out.below.trans (hf6.below HL5.out.below.size HL5.out.new))
      clear h6 hf6 hz
      go_wp2
      go_ret
      exact ⟨rfl, HB6.out⟩

theorem walk (a0 : Int) (a1 : Option Addr) (len1 cap1 : Nat) (w : World) (_w0 : (Lit.int .i64 a0).wf = true) (w1 : IsCalls w a1 len1) :
    Calls Try.prog 5 #[.int .i64 a0, .slice a1 len1 cap1] w fun e w' => e = .returned (.bool true) ∧ Below w.heap.size w w' := by
  obtain ⟨cs, rfl, hm, h⟩ := w1
  rcases hs : shortL cs with _ | _
  · exact long a0 a1 cs cap1 w h hm hs
  · exact main a0 a1 cs cap1 w h hm hs

theorem own : ownKnob Try.prog.godebug = none := by kernel_rfl
theorem laidOut : laidOutB Try.prog = true := by kernel_rfl

set_option maxRecDepth 100000 in
theorem lifted (os : Os) (started : os.Started) (H : Type) (enc : TypeId × Value → H) :
    ReturnsInHanded {} Try.checked os 5 .any (Rows.fileFuseSpec.pre6 enc Try.prog Try.f5 Rows.fileFuseRow.domain false) (Rows.fileFuseSpec.post enc Try.prog Try.f5 false true false false) := by
  refine returnsInHanded_of_change (C := Try.checked) own started (by kernel_rfl) Try.func5
    (ChangeSpec.witness6 (enc := enc) (C := Try.checked) false ⟨#[], #[.int .i64 0, .slice none 0 0], []⟩ 8 (by kernel_rfl) (by kernel_rfl) (by kernel_rfl) (by kernel_rfl)) ?_
  intro W base args ds gs before hval0 hW hcnd _
  have hval : ∀ (j : Nat) t v, Try.f5.params[j]? = some t → args[j]? = some v → Value.okWide Try.prog W .any base t v := hval0
  have hW' := hW
  obtain ⟨p, q, hA0, hV, rfl, hfz, hnd⟩ := hW
  have hA : DataW.TrodAll enc Try.prog W 0 (fun _ => true) true Try.f5.params.toList args.toList ds p := hA0
  rw [Try.params5] at hA hval
  obtain ⟨v0, vs0, d0, ds0, p0, q0, hargs, rfl, rfl, h0, r0⟩ := trodAll_cons hA
  obtain ⟨v1, vs1, d1, ds1, p1, q1, rfl, rfl, rfl, h1, r1⟩ := trodAll_cons r0
  obtain ⟨rfl, rfl, rfl⟩ := trodAll_nil r1
  obtain rfl : args = #[v0, v1] := by cases args; simp_all
  obtain ⟨rfl, rfl⟩ := trodVars_none hV
  obtain ⟨a0, rfl, rfl, rfl, w0⟩ := open_int Try.underlying3 (hval 0 3 v0 rfl rfl) h0
  obtain ⟨a1, len1, cap1, rfl⟩ := okWide_slice Try.underlying22 (hval 1 22 v1 rfl rfl)
  have k1 := h1
  have lt1 : ∀ x ∈ p1, x.block < W.heap.size := by obtain ⟨m, hm⟩ := k1; exact DataW.trod_lt m _ _ _ hm
  have w1 : IsCalls W a1 len1 := by
    obtain ⟨fuel, hf⟩ := h1
    exact calls_in hf
  clear hA0 hval0
  refine (walk a0 a1 len1 cap1 W w0 w1).mono fun e W' ⟨he, bel⟩ => ?_
  subst he
  exact ⟨_, rfl, _, _, _, [], _, [], hW', trodAll_mk1 (shut_bool Try.underlying4 _), (trodAll_cons_mk (shut_int Try.underlying3 w0) (trodAll_cons_mk (Below.trod laidOut (by kernel_rfl) (of_decide_eq_true (by kernel_rfl)) k1 bel lt1) trodAll_mk0)), rfl, bel.frame _, fun h => by cases h⟩

theorem over : Rows.fileFuseRow.holds Try.pinned (OpenSpec.ofChange Rows.fileFuseSpec) :=
  OpenClaim.holds_of_wide 5 Try.f5 rfl rfl rfl rfl rfl rfl rfl ⟨rfl, rfl, rfl, rfl, rfl⟩ rfl rfl rfl rfl rfl (by kernel_rfl) Try.func5 (by kernel_rfl)
    (of_decide_eq_true (by kernel_rfl)) (by unfold Func.isWrapper; first | (rw [if_pos (by decide +kernel)]; kernel_rfl) | (rw [if_neg (by decide +kernel)]; exact ⟨rfl, rfl⟩))
    (fun os started H enc _ => lifted os started H enc)

end Go.Proofs.Ytdaipoelicpnoaa.fileFuse
namespace Go.Proofs.Ytdaipoelicpnoaa
theorem fileFuse_holds : Rows.FileFuseSaid := fileFuse.over
end Go.Proofs.Ytdaipoelicpnoaa
