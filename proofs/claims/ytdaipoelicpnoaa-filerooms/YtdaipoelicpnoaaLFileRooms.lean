/-
  FileRooms: for all quotas and calls the law answers true: files never have more bytes than may be, and an append is refused just where it would make more. No condition.
-/
import Derived.Test.YtdaipoelicpnoaaFSto
import Derived.ProofKit
import Derived.OpenShut
namespace Go.Proofs.Ytdaipoelicpnoaa.fileRooms
open Go.ChangeShapes Go.WideShapes Go.ChangeAt Go.RowKit FM

set_option maxRecDepth 100000 in
set_option maxHeartbeats 1000000 in
theorem long (a0 : Int) (A : Option Addr) (cs : List CallV) (cap : Nat) (w : World) (h : Row5 w w.heap.size A cs) (hm : cs.length ≤ maxLen) (hs : shortL cs = false) :
    Calls Try.prog 6 #[.int .i64 a0, .slice A cs.length cap] w fun e w' => e = .returned (.bool true) ∧ Below w.heap.size w w' := by
  have HH := Lib.hid h
  have HF := Lib.hid (fit_ok w)
  clear h
  go_enter Try.func6, Try.ntmps6
  go_wp2_with fail
  refine HF.out.mono ?_
  rintro e w1 ⟨rfl, hb1⟩
  have HB1 := Lib.hid hb1
  clear hb1
  go_wp2_with fail
  refine (short_ok w1 A cs cap (HH.out.below HB1.out) hm).mono ?_
  rintro e w2 ⟨rfl, hb2⟩
  rw [hs]
  have HB2 := Lib.hid hb2
  clear hb2
  go_wp2
  go_ret
  exact ⟨rfl, HB1.out.trans (HB2.out.mono HB1.out.size)⟩

set_option maxRecDepth 100000 in
set_option maxHeartbeats 2000000 in
theorem main (a0 : Int) (A : Option Addr) (cs : List CallV) (cap : Nat) (w : World) (ha : a0 ≤ 9223372036854775807) (h : Row5 w w.heap.size A cs) (hm : cs.length ≤ maxLen) (hs : shortL cs = true) :
    Calls Try.prog 6 #[.int .i64 a0, .slice A cs.length cap] w fun e w' => e = .returned (.bool true) ∧ Below w.heap.size w w' := by
  have HH := Lib.hid h
  have HF := Lib.hid (fit_ok w)
  obtain ⟨hl, hsh⟩ := short_all hs
  have HSH := Lib.hid hsh
  obtain ⟨q, hq, hmx⟩ : ∃ q : Nat, q = a0.toNat ∧ max a0 0 = (q : Int) := ⟨a0.toNat, rfl, by omega⟩
  have hq9 : q < 9223372036854775808 := by omega
  have HQ0 := Lib.hid hq
  clear h hsh hq
  go_enter Try.func6, Try.ntmps6
  go_wp2_with fail
  refine HF.out.mono ?_
  rintro e w1 ⟨rfl, hb1⟩
  have HB1 := Lib.hid hb1
  clear hb1
  go_wp2_with fail
  refine (short_ok w1 A cs cap (HH.out.below HB1.out) hm).mono ?_
  rintro e w2 ⟨rfl, hb2⟩
  rw [hs]
  have HB2 := Lib.hid (HB1.out.trans (hb2.mono HB1.out.size))
  clear hb2
  go_wp2_with fail
  refine (new_ok w2 a0 ha).mono ?_
  rintro e w3 ⟨sb, rfl, h3, hb3⟩
  have HL3 := Lib.hid (Loop.start HB2.out h3 hb3)
  clear h3 hb3
  go_wp2
  go_loopw [23] (fun u wr => ∃ (i : Nat) (S : Nat → Prop) (s : St), i ≤ cs.length ∧ u = .int .i64 (i : Int) ∧ Loop w wr S sb s i ∧ s.quota = q)
    (fun u _ => cs.length - (intOf u).toNat)
  case atStart => exact ⟨0, _, _, Nat.zero_le _, rfl, HL3.out, HQ0.out.symm⟩
  case round =>
    obtain ⟨i, S, s, hi, rfl, hL, hqs⟩ := hrel
    have HL := Lib.hid hL; have HQ := Lib.hid hqs
    clear hL hqs
    by_cases hlt : i < cs.length
    · obtain ⟨b, off, hA, g1, g2, g3, g4, g5, hok⟩ := HH.out.call HL.out.below hlt
      subst hA
      have hd1 := (HSH.out i hlt).1
      obtain ⟨c, hce⟩ : ∃ c, c = cs[i] := ⟨_, rfl⟩
      rw [← hce] at g1 g2 g3 g4 g5 hok hd1
      have HOK := Lib.hid hok
      clear hok hce
      have hba : Below wr.heap.size wr (wr.alloc (.cells #[.int .i64 c.kind, .int .i64 c.n, .string c.name, .string c.to, .slice c.A c.data.length c.cap] 33)) := (Below.refl _ _).alloc (Nat.le_refl _) _
      have HLa := Lib.hid (HL.out.moved hba)
      have HCa := Lib.hid (CallAt.alloc wr c)
      have hnS : ¬ S wr.heap.size := fun hs => by have := HL.out.sto.lt _ hs; omega
      have HNS := Lib.hid hnS
      clear hba hnS
      go_wp2_with fail
      refine (sto_used HLa.out.sto (by have := HLa.out.used; omega)).mono ?_
      rintro e wb ⟨rfl, hbb⟩
      have HLb := Lib.hid (HLa.out.moved hbb)
      have HCb := Lib.hid (HCa.out.below hbb)
      clear hbb
      have HUP := Lib.hid (sto_up HLb.out.sto)
      obtain ⟨up, hup⟩ : ∃ up, up = !s.down := ⟨_, rfl⟩
      rw [← hup] at HUP
      have HU := Lib.hid hup
      clear hup
      have k0 := HCb.out.k0; have k1 := HCb.out.k1; have k2 := HCb.out.k2; have k3 := HCb.out.k3; have k4 := HCb.out.k4
      clear g1 g2 g3 g4 g5
      go_wp2_with fail
      refine HUP.out.mono ?_
      rintro e wx ⟨rfl, hwx⟩
      rw [hwx]
      clear hwx wx
      go_wp2_with fail
      refine (do_ok wb S sb s c w.heap.size HLb.out.sto (HLb.out.fits HOK.out (by omega) (by omega))).mono ?_
      rintro e wc hac
      have HLc := Lib.hid (HLb.out.step (by omega) hac)
      have HCc := Lib.hid (HCb.out.fr hac.2.2 HNS.out)
      obtain ⟨rfl, _, _⟩ := hac
      clear k0 k1 k2 k3 k4
      have k0 := HCc.out.k0; have k1 := HCc.out.k1; have k2 := HCc.out.k2; have k3 := HCc.out.k3; have k4 := HCc.out.k4
      go_wp2_with fail
      refine (kind_ok wc c).mono ?_
      rintro e wd ⟨rfl, hbd⟩
      have HLd := Lib.hid (HLc.out.moved hbd)
      have HCd := Lib.hid (HCc.out.below hbd)
      clear k0 k1 k2 k3 k4 hbd
      have k2 := HCd.out.k2; have k4 := HCd.out.k4
      have hroom : used (step s c).2 ≤ q := by have := HLd.out.room; rw [step_quota, HQ.out] at this; exact this
      have d5 : decide ((q : Int) < (used (step s c).2 : Int)) = false := decide_eq_false (by omega)
      have d6 : decide (((used (step s c).2 : Nat) : Int) < 0) = false := decide_eq_false (by omega)
      have hur : used s ≤ q := by have := HL.out.room; rw [HQ.out] at this; exact this
      by_cases hk2 : c.k < 2
      · have d1 : decide ((c.k : Int) < 2) = true := decide_eq_true (by omega)
        rcases hup : up with _ | _
        · subst hup
          go_wp2_with fail
          refine (sto_used HLd.out.sto (by have := HLd.out.used; omega)).mono ?_
          rintro e we ⟨rfl, hbe⟩
          have HLe := Lib.hid (HLd.out.moved hbe)
          clear hbe
          go_wp2_with fail
          refine (sto_used HLe.out.sto (by have := HLe.out.used; omega)).mono ?_
          rintro e wf ⟨rfl, hbf⟩
          have HLf := Lib.hid (HLe.out.moved hbf)
          clear hbf
          go_wp2
          go_roundw
          case rel => exact ⟨i + 1, _, _, by omega, by go_num, HLf.out, by rw [step_quota]; exact HQ.out⟩
          case measure => simp [intOf]; omega
        · subst hup
          have hdn : s.down = false := by have := HU.out; rcases hd : s.down with _ | _; rfl; rw [hd] at this; cases this
          have HR := Lib.hid (right_ok wd c.name)
          rcases hin : isName c.name.data.toList with _ | _
          · rw [hin] at HR
            go_wp2_with fail
            refine HR.out.mono ?_
            rintro e wy ⟨rfl, hwy⟩
            rw [hwy]
            clear hwy wy
            go_wp2_with fail
            refine (sto_used HLd.out.sto (by have := HLd.out.used; omega)).mono ?_
            rintro e we ⟨rfl, hbe⟩
            have HLe := Lib.hid (HLd.out.moved hbe)
            clear hbe
            go_wp2_with fail
            refine (sto_used HLe.out.sto (by have := HLe.out.used; omega)).mono ?_
            rintro e wf ⟨rfl, hbf⟩
            have HLf := Lib.hid (HLe.out.moved hbf)
            clear hbf
            go_wp2
            go_roundw
            case rel => exact ⟨i + 1, _, _, by omega, by go_num, HLf.out, by rw [step_quota]; exact HQ.out⟩
            case measure => simp [intOf]; omega
          · rw [hin] at HR
            have hfull : (step s c).1 = 5 ↔ s.quota - used s < c.data.length := by rw [step_append hk2]; exact append_full hdn hin
            rw [HQ.out] at hfull
            obtain ⟨full, hfu⟩ : ∃ full : Bool, full = decide (q - used s < c.data.length) := ⟨_, rfl⟩
            have d2 : (((step s c).1 : Int) == 5) = full := by
              rw [hfu, Bool.eq_iff_iff, beq_iff_eq, decide_eq_true_eq, ← hfull]; omega
            have d3 : decide (((q : Int) - (used s : Int)) < (c.data.length : Int)) = full := by
              rw [hfu, Bool.eq_iff_iff, decide_eq_true_eq, decide_eq_true_eq]; omega
            clear hfu hfull
            go_wp2_with fail
            refine HR.out.mono ?_
            rintro e wy ⟨rfl, hwy⟩
            rw [hwy]
            clear hwy wy
            go_wp2_with fail
            refine (sto_used HLd.out.sto (by have := HLd.out.used; omega)).mono ?_
            rintro e we ⟨rfl, hbe⟩
            have HLe := Lib.hid (HLd.out.moved hbe)
            clear hbe
            go_wp2_with fail
            refine (sto_used HLe.out.sto (by have := HLe.out.used; omega)).mono ?_
            rintro e wf ⟨rfl, hbf⟩
            have HLf := Lib.hid (HLe.out.moved hbf)
            clear hbf
            go_wp2
            go_roundw
            case rel => exact ⟨i + 1, _, _, by omega, by go_num, HLf.out, by rw [step_quota]; exact HQ.out⟩
            case measure => simp [intOf]; omega
      · have d1 : decide ((c.k : Int) < 2) = false := decide_eq_false (by omega)
        go_wp2_with fail
        refine (sto_used HLd.out.sto (by have := HLd.out.used; omega)).mono ?_
        rintro e we ⟨rfl, hbe⟩
        have HLe := Lib.hid (HLd.out.moved hbe)
        clear hbe
        go_wp2_with fail
        refine (sto_used HLe.out.sto (by have := HLe.out.used; omega)).mono ?_
        rintro e wf ⟨rfl, hbf⟩
        have HLf := Lib.hid (HLe.out.moved hbf)
        clear hbf
        go_wp2
        go_roundw
        case rel => exact ⟨i + 1, _, _, by omega, by go_num, HLf.out, by rw [step_quota]; exact HQ.out⟩
        case measure => simp [intOf]; omega
    · go_wp2
      go_ret
      exact ⟨rfl, HL.out.below⟩

theorem walk (a0 : Int) (a1 : Option Addr) (len1 cap1 : Nat) (w : World) (w0 : (Lit.int .i64 a0).wf = true) (w1 : IsCalls w a1 len1) :
    Calls Try.prog 6 #[.int .i64 a0, .slice a1 len1 cap1] w fun e w' => e = .returned (.bool true) ∧ Below w.heap.size w w' := by
  obtain ⟨cs, rfl, hm, h⟩ := w1
  have hb := bounds_i64 w0
  rcases hs : shortL cs with _ | _
  · exact long a0 a1 cs cap1 w h hm hs
  · exact main a0 a1 cs cap1 w (by omega) h hm hs

theorem own : ownKnob Try.prog.godebug = none := by kernel_rfl
theorem laidOut : laidOutB Try.prog = true := by kernel_rfl

set_option maxRecDepth 100000 in
theorem lifted (os : Os) (started : os.Started) (H : Type) (enc : TypeId × Value → H) :
    ReturnsInHanded {} Try.checked os 6 .any (Rows.fileRoomsSpec.pre6 enc Try.prog Try.f6 Rows.fileRoomsRow.domain false) (Rows.fileRoomsSpec.post enc Try.prog Try.f6 false true false false) := by
  refine returnsInHanded_of_change (C := Try.checked) own started (by kernel_rfl) Try.func6
    (ChangeSpec.witness6 (enc := enc) (C := Try.checked) false ⟨#[], #[.int .i64 0, .slice none 0 0], []⟩ 8 (by kernel_rfl) (by kernel_rfl) (by kernel_rfl) (by kernel_rfl)) ?_
  intro W base args ds gs before hval0 hW hcnd _
  have hval : ∀ (j : Nat) t v, Try.f6.params[j]? = some t → args[j]? = some v → Value.okWide Try.prog W .any base t v := hval0
  have hW' := hW
  obtain ⟨p, q, hA0, hV, rfl, hfz, hnd⟩ := hW
  have hA : DataW.TrodAll enc Try.prog W 0 (fun _ => true) true Try.f6.params.toList args.toList ds p := hA0
  rw [Try.params6] at hA hval
  obtain ⟨v0, vs0, d0, ds0, p0, q0, hargs, rfl, rfl, h0, r0⟩ := trodAll_cons hA
  obtain ⟨v1, vs1, d1, ds1, p1, q1, rfl, rfl, rfl, h1, r1⟩ := trodAll_cons r0
  obtain ⟨rfl, rfl, rfl⟩ := trodAll_nil r1
  obtain rfl : args = #[v0, v1] := by cases args; simp_all
  obtain ⟨rfl, rfl⟩ := trodVars_none hV
  obtain ⟨a0, rfl, rfl, rfl, w0⟩ := open_int Try.underlying3 (hval 0 3 v0 rfl rfl) h0
  obtain ⟨a1, len1, cap1, rfl⟩ := okWide_slice Try.underlying22 (hval 1 22 v1 rfl rfl)
  have k1 := h1
  have lt1 : ∀ x ∈ p1, x.block < W.heap.size := by obtain ⟨m, hm⟩ := k1; exact DataW.trod_lt m _ _ _ hm
  have w1 : IsCalls W a1 len1 := by
    obtain ⟨fuel, hf⟩ := h1
    exact calls_in hf
  clear hA0 hval0
  refine (walk a0 a1 len1 cap1 W w0 w1).mono fun e W' ⟨he, bel⟩ => ?_
  subst he
  exact ⟨_, rfl, _, _, _, [], _, [], hW', trodAll_mk1 (shut_bool Try.underlying4 _), (trodAll_cons_mk (shut_int Try.underlying3 w0) (trodAll_cons_mk (Below.trod laidOut (by kernel_rfl) (of_decide_eq_true (by kernel_rfl)) k1 bel lt1) trodAll_mk0)), rfl, bel.frame _, fun h => by cases h⟩

theorem over : Rows.fileRoomsRow.holds Try.pinned (OpenSpec.ofChange Rows.fileRoomsSpec) :=
  OpenClaim.holds_of_wide 6 Try.f6 rfl rfl rfl rfl rfl rfl rfl ⟨rfl, rfl, rfl, rfl, rfl⟩ rfl rfl rfl rfl rfl (by kernel_rfl) Try.func6 (by kernel_rfl)
    (of_decide_eq_true (by kernel_rfl)) (by unfold Func.isWrapper; first | (rw [if_pos (by decide +kernel)]; kernel_rfl) | (rw [if_neg (by decide +kernel)]; exact ⟨rfl, rfl⟩))
    (fun os started H enc _ => lifted os started H enc)

end Go.Proofs.Ytdaipoelicpnoaa.fileRooms
namespace Go.Proofs.Ytdaipoelicpnoaa
theorem fileRooms_holds : Rows.FileRoomsSaid := fileRooms.over
end Go.Proofs.Ytdaipoelicpnoaa
