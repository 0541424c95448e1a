/-
  FileSures: for all calls, bytes and further calls the law answers true: what was synced lasts, whatever is appended, fused and crashes behind that. No condition.
-/
import Derived.Test.YtdaipoelicpnoaaFSures
import Derived.BigQuiet
import Derived.Deep.QuietTactic
import Derived.ProofKit
import Derived.OpenShut
namespace Go.Proofs.Ytdaipoelicpnoaa.fileSures
open Go.ChangeShapes Go.WideShapes Go.ChangeAt Go.RowKit FM

set_option maxRecDepth 100000 in
set_option maxHeartbeats 1000000 in
theorem long0 (A : Option Addr) (cs : List CallV) (cap : Nat) (A1 : Option Addr) (l : List Nat) (c1 : Nat) (A2 : Option Addr) (ms : List CallV) (cap2 : Nat) (w : World) (h : Row5 w w.heap.size A cs) (hm : cs.length ≤ maxLen) (_h2 : Row5 w w.heap.size A2 ms) (_hm2 : ms.length ≤ maxLen) (hs : shortL cs = false) :
    Calls Try.prog 4 #[.slice A cs.length cap, .slice A1 l.length c1, .slice A2 ms.length cap2] w fun e w' => e = .returned (.bool true) ∧ Below w.heap.size w w' := by
  have HH := Lib.hid h
  have HF := Lib.hid (fit_ok w)
  clear h
  go_enter Try.func4, Try.ntmps4
  go_wp2_with fail
  refine HF.out.mono ?_
  rintro e w1 ⟨rfl, hb1⟩
  have HB1 := Lib.hid hb1
  clear hb1
  go_wp2_with fail
  refine (short_ok w1 A cs cap (HH.out.below HB1.out) hm).mono ?_
  rintro e w2 ⟨rfl, hb2⟩
  rw [hs]
  have HB2 := Lib.hid (HB1.out.trans (hb2.mono HB1.out.size))
  clear hb2
  go_wp2
  go_ret
  exact ⟨rfl, HB2.out⟩

set_option maxRecDepth 100000 in
set_option maxHeartbeats 1000000 in
theorem long1 (A : Option Addr) (cs : List CallV) (cap : Nat) (A1 : Option Addr) (l : List Nat) (c1 : Nat) (A2 : Option Addr) (ms : List CallV) (cap2 : Nat) (w : World) (h : Row5 w w.heap.size A cs) (hm : cs.length ≤ maxLen) (h2 : Row5 w w.heap.size A2 ms) (hm2 : ms.length ≤ maxLen) (hs : shortL cs = true) (hs2 : shortL ms = false) :
    Calls Try.prog 4 #[.slice A cs.length cap, .slice A1 l.length c1, .slice A2 ms.length cap2] w fun e w' => e = .returned (.bool true) ∧ Below w.heap.size w w' := by
  have HH := Lib.hid h
  have HM := Lib.hid h2
  have HF := Lib.hid (fit_ok w)
  clear h h2
  go_enter Try.func4, Try.ntmps4
  go_wp2_with fail
  refine HF.out.mono ?_
  rintro e w1 ⟨rfl, hb1⟩
  have HB1 := Lib.hid hb1
  clear hb1
  go_wp2_with fail
  refine (short_ok w1 A cs cap (HH.out.below HB1.out) hm).mono ?_
  rintro e w2 ⟨rfl, hb2⟩
  rw [hs]
  have HB2 := Lib.hid (HB1.out.trans (hb2.mono HB1.out.size))
  clear hb2
  go_wp2_with fail
  refine (short_ok w2 A2 ms cap2 (HM.out.below HB2.out) hm2).mono ?_
  rintro e w3 ⟨rfl, hb3⟩
  rw [hs2]
  have HB3 := Lib.hid (HB2.out.trans (hb3.mono HB2.out.size))
  clear hb3
  go_wp2
  go_ret
  exact ⟨rfl, HB3.out⟩

set_option maxRecDepth 100000 in
set_option maxHeartbeats 1000000 in
theorem long2 (A : Option Addr) (cs : List CallV) (cap : Nat) (A1 : Option Addr) (l : List Nat) (c1 : Nat) (A2 : Option Addr) (ms : List CallV) (cap2 : Nat) (w : World) (h : Row5 w w.heap.size A cs) (hm : cs.length ≤ maxLen) (h2 : Row5 w w.heap.size A2 ms) (hm2 : ms.length ≤ maxLen) (hs : shortL cs = true) (hs2 : shortL ms = true) (hl : 200 < l.length) :
    Calls Try.prog 4 #[.slice A cs.length cap, .slice A1 l.length c1, .slice A2 ms.length cap2] w fun e w' => e = .returned (.bool true) ∧ Below w.heap.size w w' := by
  have HH := Lib.hid h
  have HM := Lib.hid h2
  have HF := Lib.hid (fit_ok w)
  have dl : decide ((200 : Int) < (l.length : Int)) = true := decide_eq_true (by omega)
  clear h h2
  go_enter Try.func4, Try.ntmps4
  go_wp2_with fail
  refine HF.out.mono ?_
  rintro e w1 ⟨rfl, hb1⟩
  have HB1 := Lib.hid hb1
  clear hb1
  go_wp2_with fail
  refine (short_ok w1 A cs cap (HH.out.below HB1.out) hm).mono ?_
  rintro e w2 ⟨rfl, hb2⟩
  rw [hs]
  have HB2 := Lib.hid (HB1.out.trans (hb2.mono HB1.out.size))
  clear hb2
  go_wp2_with fail
  refine (short_ok w2 A2 ms cap2 (HM.out.below HB2.out) hm2).mono ?_
  rintro e w3 ⟨rfl, hb3⟩
  rw [hs2]
  have HB3 := Lib.hid (HB2.out.trans (hb3.mono HB2.out.size))
  clear hb3
  go_wp2
  go_ret
  exact ⟨rfl, HB3.out⟩

set_option maxRecDepth 100000 in
set_option maxHeartbeats 4000000 in
theorem main (A : Option Addr) (cs : List CallV) (cap : Nat) (A1 : Option Addr) (l : List Nat) (c1 : Nat) (A2 : Option Addr) (ms : List CallV) (cap2 : Nat) (w : World) (h : Row5 w w.heap.size A cs) (hm : cs.length ≤ maxLen) (h2 : Row5 w w.heap.size A2 ms) (hm2 : ms.length ≤ maxLen) (hs : shortL cs = true) (hs2 : shortL ms = true) (hl : l.length ≤ 200) (hr : Row w w.heap.size .u8 A1 l) (hA1 : A1 = none → c1 = 0) (hsm : ∀ x ∈ l, x < 256) :
    Calls Try.prog 4 #[.slice A cs.length cap, .slice A1 l.length c1, .slice A2 ms.length cap2] w fun e w' => e = .returned (.bool true) ∧ Below w.heap.size w w' := by
  have HH := Lib.hid h
  have HM := Lib.hid h2
  have HF := Lib.hid (fit_ok w)
  have dl : decide ((200 : Int) < (l.length : Int)) = false := decide_eq_false (by omega)
  obtain ⟨hl1, hsh⟩ := short_all hs
  obtain ⟨hl2, hsh2⟩ := short_all hs2
  have HSH := Lib.hid hsh; have HSH2 := Lib.hid hsh2; have HR := Lib.hid hr; have HSM := Lib.hid hsm
  clear h h2 hsh hsh2 hr hsm
  go_enter Try.func4, Try.ntmps4
  go_wp2_with fail
  refine HF.out.mono ?_
  rintro e w1 ⟨rfl, hb1⟩
  have HB1 := Lib.hid hb1
  clear hb1
  go_wp2_with fail
  refine (short_ok w1 A cs cap (HH.out.below HB1.out) hm).mono ?_
  rintro e w2 ⟨rfl, hb2⟩
  rw [hs]
  have HB2 := Lib.hid (HB1.out.trans (hb2.mono HB1.out.size))
  clear hb2
  go_wp2_with fail
  refine (short_ok w2 A2 ms cap2 (HM.out.below HB2.out) hm2).mono ?_
  rintro e w3 ⟨rfl, hb3⟩
  rw [hs2]
  have HB3 := Lib.hid (HB2.out.trans (hb3.mono HB2.out.size))
  clear hb3
  go_wp2_with fail
  refine (new_ok w3 1048576 (by omega)).mono ?_
  rintro e w4 ⟨sb, rfl, h4, hb4⟩
  have HL4 := Lib.hid (Loop.start HB3.out h4 hb4)
  clear h4 hb4
  go_wp2
  go_loopw [35] (fun u wr => ∃ (i : Nat) (S : Nat → Prop) (s : St), i ≤ cs.length ∧ u = .int .i64 (i : Int) ∧ Loop w wr S sb s i ∧ s.quota = 1048576)
    (fun u _ => cs.length - (intOf u).toNat)
  case atStart => exact ⟨0, _, _, Nat.zero_le _, rfl, HL4.out, rfl⟩
  case round =>
    obtain ⟨i, S, s, hi, rfl, hL, hqs⟩ := hrel
    have HL := Lib.hid hL; have HQ := Lib.hid hqs
    clear hL hqs
    by_cases hlt : i < cs.length
    · obtain ⟨b, off, hA, g1, g2, g3, g4, g5, hok⟩ := HH.out.call HL.out.below hlt
      subst hA
      have hd1 := (HSH.out i hlt).1
      obtain ⟨c, hce⟩ : ∃ c, c = cs[i] := ⟨_, rfl⟩
      rw [← hce] at g1 g2 g3 g4 g5 hok hd1
      have HOK := Lib.hid hok
      clear hok hce
      have hba : Below wr.heap.size wr (wr.alloc (.cells #[.int .i64 c.kind, .int .i64 c.n, .string c.name, .string c.to, .slice c.A c.data.length c.cap] 33)) := (Below.refl _ _).alloc (Nat.le_refl _) _
      have HLa := Lib.hid (HL.out.moved hba)
      clear hba
      go_wp2_with fail
      refine (do_ok _ S sb s c w.heap.size HLa.out.sto (HLa.out.fits HOK.out (by omega) (by omega))).mono ?_
      rintro e wc hac
      have HLc := Lib.hid (HLa.out.step (by omega) hac)
      obtain ⟨rfl, _, _⟩ := hac
      clear g1 g2 g3 g4 g5
      go_wp2
      go_roundw
      case rel => exact ⟨i + 1, _, _, by omega, by go_num, HLc.out, by rw [step_quota]; exact HQ.out⟩
      case measure => simp [intOf]; omega
    · have hil : i ≤ 100 := by omega
      go_wp2_with fail
      clear hlt hi
      refine (sto_crash0 HL.out.sto (by have := HL.out.files; omega) (by have := HL.out.used; omega)).mono ?_
      rintro e w5 hc5
      have HL5 := Lib.hid (HL.out.crash hc5)
      obtain ⟨rfl, _, _⟩ := hc5
      have hq5 : (FM.crash s []).quota = 1048576 := HQ.out
      have hd5 : (FM.crash s []).down = false := rfl
      have hf5 : (FM.crash s []).fuse < 0 := by show (-1 : Int) < 0; omega
      generalize wider S wr w5 = S5 at *
      generalize FM.crash s [] = s5 at *
      have hsv := saved (n := [115, 117, 114, 101]) hd5 hf5 (by decide) l (by have := HL5.out.used; omega)
      obtain ⟨W, hW⟩ : ∃ W, W = (fileOf s5 [115, 117, 114, 101]).data ++ l := ⟨_, rfl⟩
      rw [← hW] at hsv
      obtain ⟨e1, e2, e3, e4⟩ := hsv
      have E4 := Lib.hid e4; have HW := Lib.hid hW
      clear e4 hW HQ hd5 hf5 hq5
      go_wp2_with fail
      refine (append_ok w5 S5 sb s5 ⟨#[115, 117, 114, 101]⟩ (by unfold maxLen; decide) A1 l c1 w.heap.size HL5.out.sto (by have := HL5.out.files; omega) (by have := HL5.out.used; omega) HL5.out.room (by omega) (HR.out.below HL5.out.below) HL5.out.below.size hA1
        (fun hp a ha e => by have h1 := HR.out.block_lt hp ha; have h2 := HL5.out.new _ HL5.out.sto.sb; omega) HSM.out).mono ?_
      rintro e w6 ha6
      have hst6 : step s5 ⟨0, 0, ⟨#[115, 117, 114, 101]⟩, ByteArray.empty, A1, c1, l⟩ = append s5 [115, 117, 114, 101] l := step_append (show ((0 : Int) % 8).toNat < 2 by decide)
      have HL6 : Hid (Loop w w6 (wider S5 w5 w6) sb (append s5 [115, 117, 114, 101] l).2 (i + 1)) := Lib.hid (by
        have := HL5.out.step (c := ⟨0, 0, ⟨#[115, 117, 114, 101]⟩, ByteArray.empty, A1, c1, l⟩) (w1 := w6) (e := e) hl (by rw [hst6]; exact ha6)
        rw [hst6] at this
        exact this)
      obtain ⟨rfl, _, _⟩ := ha6
      rw [show (append s5 (ByteArray.mk #[115, 117, 114, 101]).data.toList l).1 = 0 from e1]
      clear hst6 e1
      generalize wider S5 w5 w6 = S6 at *
      generalize (append s5 [115, 117, 114, 101] l).2 = s6 at *
      go_wp2_with fail
      refine (sync_ok w6 S6 sb s6 ⟨#[115, 117, 114, 101]⟩ (by unfold maxLen; decide) HL6.out.sto (by have := HL6.out.files; omega) (by have := HL6.out.used; omega)).mono ?_
      rintro e w7 ha7
      have hst7 : step s6 ⟨2, 0, ⟨#[115, 117, 114, 101]⟩, ByteArray.empty, none, 0, []⟩ = sync s6 [115, 117, 114, 101] := by unfold step; rw [if_pos (by decide)]
      have HL7 : Hid (Loop w w7 (wider S6 w6 w7) sb (sync s6 [115, 117, 114, 101]).2 (i + 1 + 1)) := Lib.hid (by
        have := HL6.out.step (c := ⟨2, 0, ⟨#[115, 117, 114, 101]⟩, ByteArray.empty, none, 0, []⟩) (w1 := w7) (e := e) (by simp) (by rw [hst7]; exact ha7)
        rw [hst7] at this
        exact this)
      obtain ⟨rfl, _, _⟩ := ha7
      rw [show (sync s6 (ByteArray.mk #[115, 117, 114, 101]).data.toList).1 = 0 from e2]
      clear hst7 e2
      generalize wider S6 w6 w7 = S7 at *
      generalize (sync s6 [115, 117, 114, 101]).2 = s7 at *
      go_wp2_with fail
      refine (sto_read HL7.out.sto ⟨#[115, 117, 114, 101]⟩ (by unfold maxLen; decide) (by have := HL7.out.used; omega)).mono ?_
      rintro e w8 ⟨v8, rfl, ho8, hb8⟩
      rw [show readV s7 (ByteArray.mk #[115, 117, 114, 101]).data.toList = (W, 0) from e3] at ho8 ⊢
      obtain ⟨A8, c8, rfl, hlc8, _, hA8, _⟩ := ho8.form
      have HK8 : Hid (Kept w8 S7 (.slice A8 W.length c8) W) := Lib.hid ⟨ho8.mono (Nat.zero_le _), fun k hk hs => by
        have h1 := ho8.lt k hk
        have h2 := HL7.out.sto.lt k hs
        omega⟩
      have HL8 := Lib.hid (HL7.out.moved hb8)
      have hWl : W.length ≤ 1000000 := by
        have h1 := sto_file_le HL8.out.sto [115, 117, 114, 101]
        obtain ⟨f, h2, _, _, h4⟩ := E4.out
        have h5 := congrArg List.length h4
        unfold fileOf at h1
        rw [h2] at h1
        simp only [Option.getD_some] at h1
        rw [List.length_take] at h5
        have := HL8.out.used
        omega
      have hlW : l.length ≤ W.length := by rw [HW.out]; simp
      have hdr : W.drop (W.length - l.length) = l := by rw [HW.out]; simp
      have HD := Lib.hid hdr
      clear ho8 hb8 e3 hdr
      go_wp2
      go_loopw [61] (fun u wr => ∃ (j : Nat) (S : Nat → Prop) (s : St), j ≤ ms.length ∧ u = .int .i64 (j : Int) ∧ Loop w wr S sb s (i + 1 + 1 + j) ∧ Kept wr S (.slice A8 W.length c8) W ∧ Lasts s [115, 117, 114, 101] W)
        (fun u _ => ms.length - (intOf u).toNat)
      case atStart => exact ⟨0, _, _, Nat.zero_le _, rfl, HL8.out, HK8.out, E4.out⟩
      case round =>
        obtain ⟨j, S9, s9, hj, rfl, hL9, hK9, hE9⟩ := hrel
        have HL9 := Lib.hid hL9; have HK9 := Lib.hid hK9; have HE9 := Lib.hid hE9
        clear hL9 hK9 hE9
        by_cases hjl : j < ms.length
        · obtain ⟨b, off, hA, g1, g2, g3, g4, g5, hok⟩ := HM.out.call HL9.out.below hjl
          subst hA
          have hd1 := (HSH2.out j hjl).1
          obtain ⟨c, hce⟩ : ∃ c, c = ms[j] := ⟨_, rfl⟩
          rw [← hce] at g1 g2 g3 g4 g5 hok hd1
          have HOK := Lib.hid hok
          clear hok hce
          have hba : Below wr.heap.size wr (wr.alloc (.cells #[.int .i64 c.kind, .int .i64 c.n, .string c.name, .string c.to, .slice c.A c.data.length c.cap] 33)) := (Below.refl _ _).alloc (Nat.le_refl _) _
          have HLa := Lib.hid (HL9.out.moved hba)
          have HKa := Lib.hid (HK9.out.below hba)
          have HCa := Lib.hid (CallAt.alloc wr c)
          clear hba
          go_wp2_with fail
          refine (kind_ok _ c).mono ?_
          rintro e wk ⟨rfl, hbk⟩
          have HLk := Lib.hid (HLa.out.moved hbk)
          have HKk := Lib.hid (HKa.out.below hbk)
          have HCk := Lib.hid (HCa.out.below hbk)
          clear hbk g1 g2 g3 g4 g5
          have k0 := HCk.out.k0; have k1 := HCk.out.k1; have k2 := HCk.out.k2; have k3 := HCk.out.k3; have k4 := HCk.out.k4
          by_cases hk2 : c.k < 2
          · have d1 : decide ((c.k : Int) < 2) = true := decide_eq_true (by omega)
            have hkk : c.k < 2 ∨ 5 < c.k := .inl hk2
            go_wp2_with fail
            refine (do_ok wk S9 sb s9 c w.heap.size HLk.out.sto (HLk.out.fits HOK.out (by omega) (by omega))).mono ?_
            rintro e wc hac
            have HLc := Lib.hid (HLk.out.step (by omega) hac)
            have HKc := Lib.hid (HKk.out.fr hac.2.2)
            obtain ⟨rfl, _, _⟩ := hac
            clear k0 k1 k2 k3 k4
            go_wp2
            go_roundw
            case rel => exact ⟨j + 1, _, _, by omega, by go_num, HLc.out, HKc.out, HE9.out.step hkk⟩
            case measure => simp [intOf]; omega
          · have d1 : decide ((c.k : Int) < 2) = false := decide_eq_false (by omega)
            by_cases hk5 : 5 < c.k
            · have d2 : decide ((5 : Int) < (c.k : Int)) = true := decide_eq_true (by omega)
              have hkk : c.k < 2 ∨ 5 < c.k := .inr hk5
              go_wp2_with fail
              refine (do_ok wk S9 sb s9 c w.heap.size HLk.out.sto (HLk.out.fits HOK.out (by omega) (by omega))).mono ?_
              rintro e wc hac
              have HLc := Lib.hid (HLk.out.step (by omega) hac)
              have HKc := Lib.hid (HKk.out.fr hac.2.2)
              obtain ⟨rfl, _, _⟩ := hac
              clear k0 k1 k2 k3 k4
              go_wp2
              go_roundw
              case rel => exact ⟨j + 1, _, _, by omega, by go_num, HLc.out, HKc.out, HE9.out.step hkk⟩
              case measure => simp [intOf]; omega
            · have d2 : decide ((5 : Int) < (c.k : Int)) = false := decide_eq_false (by omega)
              clear k0 k1 k2 k3 k4
              go_wp2
              go_roundw
              case rel => exact ⟨j + 1, _, _, by omega, by go_num, HLk.out.later, HKk.out, HE9.out⟩
              case measure => simp [intOf]; omega
        · go_wp2_with fail
          refine (sto_crash0 HL9.out.sto (by have := HL9.out.files; omega) (by have := HL9.out.used; omega)).mono ?_
          rintro e w10 hc10
          have HL10 := Lib.hid (HL9.out.crash hc10)
          have HK10 := Lib.hid (HK9.out.fr hc10.2.2)
          obtain ⟨rfl, _, _⟩ := hc10
          have hE10 := HE9.out.crash []
          have hd10 : (FM.crash s9 []).down = false := rfl
          generalize FM.crash s9 [] = s10 at *
          generalize wider S9 wr w10 = S10 at *
          obtain ⟨r1, r2, r3⟩ := hE10.read hd10
          go_wp2_with fail
          refine (sto_read HL10.out.sto ⟨#[115, 117, 114, 101]⟩ (by unfold maxLen; decide) (by have := HL10.out.used; omega)).mono ?_
          rintro e w11 ⟨v11, rfl, ho11, hb11⟩
          rw [show (readV s10 (ByteArray.mk #[115, 117, 114, 101]).data.toList).2 = 0 from r1]
          have ho11 : Own w11 w10.heap.size v11 (readV s10 [115, 117, 114, 101]).1 := ho11
          obtain ⟨X, hX⟩ : ∃ X, X = (readV s10 [115, 117, 114, 101]).1 := ⟨_, rfl⟩
          rw [← hX] at r2 r3 ho11
          obtain ⟨A11, c11, rfl, hlc11, _, _, hrX⟩ := ho11.form
          have hk11 := HK10.out.below hb11
          obtain ⟨A8', c8', hv8, _, _, _, hrW⟩ := hk11.own.form
          simp only [Value.slice.injEq] at hv8
          obtain ⟨rfl, -, rfl⟩ := hv8
          have HL11 := Lib.hid (HL10.out.moved hb11)
          have hrl : Row w11 w.heap.size .u8 A1 l := HR.out.below HL11.out.below
          obtain ⟨k, hk⟩ : ∃ k, k = W.length - l.length := ⟨_, rfl⟩
          have hdrop := HD.out
          rw [← hk] at hdrop
          have hrXW := hrX.take W.length
          rw [r3] at hrXW
          have hrWl := hrW.cut (j := k) (cap := c8) (by omega) (by omega)
          rw [hdrop] at hrWl
          have q1 : ∀ V, (Instr.slice 31 (.slice A11 X.length c11) none (some (.int .i64 (W.length : Int))) none).run Try.prog V = .ok (.slice A11 W.length c11) V := fun V => run_head A11 X.length c11 W.length V (by omega)
          have q2 : ∀ n, (convert 31 9 (.slice A11 W.length c11)).run Try.prog (w11.drewN n) = .ok (.string (str W)) (w11.drewN n) := fun n => run_string A11 W c11 _ _ (hrXW.drewN n)
          have q3 : ∀ n, (convert 31 9 (.slice A8 W.length c8)).run Try.prog (w11.drewN n) = .ok (.string (str W)) (w11.drewN n) := fun n => run_string A8 W c8 _ _ (hrW.drewN n)
          have hkk : (W.length : Int) - (l.length : Int) = (k : Int) := by omega
          have q4 : ∀ V, (Instr.slice 31 (.slice A8 W.length c8) (some (.int .i64 (k : Int))) none none).run Try.prog V = .ok (.slice (cutA A8 c8 k) l.length (c8 - k)) V := fun V => by
            have := run_cut A8 W.length c8 k V (by omega)
            rw [show W.length - k = l.length by omega] at this
            exact this
          have q5 : ∀ n, (convert 31 9 (.slice (cutA A8 c8 k) l.length (c8 - k))).run Try.prog (w11.drewN n) = .ok (.string (str l)) (w11.drewN n) := fun n => run_string _ l _ _ _ (hrWl.drewN n)
          have q6 : ∀ n, (convert 31 9 (.slice A1 l.length c1)).run Try.prog (w11.drewN n) = .ok (.string (str l)) (w11.drewN n) := fun n => run_string A1 l c1 _ _ (hrl.drewN n)
          have d1 : decide ((l.length : Int) ≤ (W.length : Int)) = true := decide_eq_true (by omega)
          have d2 : decide ((W.length : Int) ≤ (X.length : Int)) = true := decide_eq_true (by omega)
          have hXl : X.length ≤ 1000000 := by
            have h1 := sto_file_le HL11.out.sto [115, 117, 114, 101]
            have h2 : X.length ≤ (fileOf s10 [115, 117, 114, 101]).data.length := by
              rw [hX]; unfold readV; rw [hd10]; simp only [Bool.false_eq_true, if_false]; split <;> simp
            have := HL11.out.used
            omega
          clear hX r1 r3 ho11 hk11 hrX hrW hrXW hrWl hrl hdrop hE10 hd10 hb11 hk
          go_wp2
          go_quiet (fail)
          go_wp2
          go_ret
          exact ⟨rfl, below_drewN HL11.out.below _⟩

theorem walk (a0 : Option Addr) (len0 cap0 : Nat) (a1 : Option Addr) (len1 cap1 : Nat) (z1 : List Int) (a2 : Option Addr) (len2 cap2 : Nat) (w : World) (w0 : IsCalls w a0 len0) (w1 : IsRow .u8 w a1 len1 cap1 z1) (w2 : IsCalls w a2 len2) :
    Calls Try.prog 4 #[.slice a0 len0 cap0, .slice a1 len1 cap1, .slice a2 len2 cap2] w fun e w' => e = .returned (.bool true) ∧ Below w.heap.size w w' := by
  obtain ⟨cs, rfl, hm, h⟩ := w0
  obtain ⟨ms, rfl, hm2, h2⟩ := w2
  obtain ⟨l, rfl, hcm, hlc, hA, hr, hl⟩ := came w1 top_u8
  rcases hs : shortL cs with _ | _
  · exact long0 a0 cs cap0 a1 l cap1 a2 ms cap2 w h hm h2 hm2 hs
  · rcases hs2 : shortL ms with _ | _
    · exact long1 a0 cs cap0 a1 l cap1 a2 ms cap2 w h hm h2 hm2 hs hs2
    · by_cases hll : 200 < l.length
      · exact long2 a0 cs cap0 a1 l cap1 a2 ms cap2 w h hm h2 hm2 hs hs2 hll
      · exact main a0 cs cap0 a1 l cap1 a2 ms cap2 w h hm h2 hm2 hs hs2 (by omega) hr hA hl

theorem own : ownKnob Try.prog.godebug = none := by kernel_rfl
theorem laidOut : laidOutB Try.prog = true := by kernel_rfl

set_option maxRecDepth 100000 in
theorem lifted (os : Os) (started : os.Started) (H : Type) (enc : TypeId × Value → H) :
    ReturnsInHanded {} Try.checked os 4 .any (Rows.fileSuresSpec.pre6 enc Try.prog Try.f4 Rows.fileSuresRow.domain false) (Rows.fileSuresSpec.post enc Try.prog Try.f4 false true false false) := by
  refine returnsInHanded_of_change (C := Try.checked) own started (by kernel_rfl) Try.func4
    (ChangeSpec.witness6 (enc := enc) (C := Try.checked) false ⟨#[], #[.slice none 0 0, .slice none 0 0, .slice none 0 0], []⟩ 8 (by kernel_rfl) (by kernel_rfl) (by kernel_rfl) (by kernel_rfl)) ?_
  intro W base args ds gs before hval0 hW hcnd _
  have hval : ∀ (j : Nat) t v, Try.f4.params[j]? = some t → args[j]? = some v → Value.okWide Try.prog W .any base t v := hval0
  have hW' := hW
  obtain ⟨p, q, hA0, hV, rfl, hfz, hnd⟩ := hW
  have hA : DataW.TrodAll enc Try.prog W 0 (fun _ => true) true Try.f4.params.toList args.toList ds p := hA0
  rw [Try.params4] at hA hval
  obtain ⟨v0, vs0, d0, ds0, p0, q0, hargs, rfl, rfl, h0, r0⟩ := trodAll_cons hA
  obtain ⟨v1, vs1, d1, ds1, p1, q1, rfl, rfl, rfl, h1, r1⟩ := trodAll_cons r0
  obtain ⟨v2, vs2, d2, ds2, p2, q2, rfl, rfl, rfl, h2, r2⟩ := trodAll_cons r1
  obtain ⟨rfl, rfl, rfl⟩ := trodAll_nil r2
  obtain rfl : args = #[v0, v1, v2] := by cases args; simp_all
  obtain ⟨rfl, rfl⟩ := trodVars_none hV
  obtain ⟨a0, len0, cap0, rfl⟩ := okWide_slice Try.underlying22 (hval 0 22 v0 rfl rfl)
  have k0 := h0
  have lt0 : ∀ x ∈ p0, x.block < W.heap.size := by obtain ⟨m, hm⟩ := k0; exact DataW.trod_lt m _ _ _ hm
  have w0 : IsCalls W a0 len0 := by
    obtain ⟨fuel, hf⟩ := h0
    exact calls_in hf
  obtain ⟨a1, len1, cap1, rfl⟩ := okWide_slice Try.underlying31 (hval 1 31 v1 rfl rfl)
  have k1 := h1
  have lt1 : ∀ x ∈ p1, x.block < W.heap.size := by obtain ⟨m, hm⟩ := k1; exact DataW.trod_lt m _ _ _ hm
  obtain ⟨z1, w1⟩ : ∃ zs, IsRow .u8 W a1 len1 cap1 zs := by
    obtain ⟨fuel, hf⟩ := h1
    rcases open_ints Try.underlying31 Try.underlying5 (by kernel_rfl) hf with ⟨hcs, _⟩ | ⟨x, l, c, zs, hcs, _, hl, hm, hz, _, hcell, hwz⟩
    · simp [Value.cells] at hcs
      obtain ⟨rfl, rfl, rfl⟩ := hcs
      exact ⟨[], .inl ⟨rfl, rfl, rfl, rfl⟩⟩
    · simp [Value.cells] at hcs
      obtain ⟨rfl, rfl, rfl⟩ := hcs
      exact ⟨zs, .inr ⟨_, rfl, hl, hm, by simpa using hz, hcell, hwz⟩⟩
  obtain ⟨a2, len2, cap2, rfl⟩ := okWide_slice Try.underlying22 (hval 2 22 v2 rfl rfl)
  have k2 := h2
  have lt2 : ∀ x ∈ p2, x.block < W.heap.size := by obtain ⟨m, hm⟩ := k2; exact DataW.trod_lt m _ _ _ hm
  have w2 : IsCalls W a2 len2 := by
    obtain ⟨fuel, hf⟩ := h2
    exact calls_in hf
  clear hA0 hval0
  refine (walk a0 len0 cap0 a1 len1 cap1 z1 a2 len2 cap2 W w0 w1 w2).mono fun e W' ⟨he, bel⟩ => ?_
  subst he
  exact ⟨_, rfl, _, _, _, [], _, [], hW', trodAll_mk1 (shut_bool Try.underlying4 _), (trodAll_cons_mk (Below.trod laidOut (by kernel_rfl) (of_decide_eq_true (by kernel_rfl)) k0 bel lt0) (trodAll_cons_mk (Below.trod laidOut (by kernel_rfl) (of_decide_eq_true (by kernel_rfl)) k1 bel lt1) (trodAll_cons_mk (Below.trod laidOut (by kernel_rfl) (of_decide_eq_true (by kernel_rfl)) k2 bel lt2) trodAll_mk0))), rfl, bel.frame _, fun h => by cases h⟩

theorem over : Rows.fileSuresRow.holds Try.pinned (OpenSpec.ofChange Rows.fileSuresSpec) :=
  OpenClaim.holds_of_wide 4 Try.f4 rfl rfl rfl rfl rfl rfl rfl ⟨rfl, rfl, rfl, rfl, rfl⟩ rfl rfl rfl rfl rfl (by kernel_rfl) Try.func4 (by kernel_rfl)
    (of_decide_eq_true (by kernel_rfl)) (by unfold Func.isWrapper; first | (rw [if_pos (by decide +kernel)]; kernel_rfl) | (rw [if_neg (by decide +kernel)]; exact ⟨rfl, rfl⟩))
    (fun os started H enc _ => lifted os started H enc)

end Go.Proofs.Ytdaipoelicpnoaa.fileSures
namespace Go.Proofs.Ytdaipoelicpnoaa
theorem fileSures_holds : Rows.FileSuresSaid := fileSures.over
end Go.Proofs.Ytdaipoelicpnoaa
