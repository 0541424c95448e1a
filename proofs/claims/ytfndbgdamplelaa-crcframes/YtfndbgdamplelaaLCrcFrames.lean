/-
  CrcFrames: for every list of bytes' lists and all bytes behind them the law answers true: frames come back, one behind the other, and what is no frame ends them. No condition.
-/
import Derived.Test.YtfndbgdamplelaaCShort
import Derived.Test.YtfndbgdamplelaaCSplit
import Derived.ProofKit
import Derived.OpenShut
import Derived.Deep.Matrix
import Derived.Deep.QuietTactic
import Derived.BigQuiet
namespace Go.Proofs.Ytfndbgdamplelaa.crcFrames
open Go.ChangeShapes Go.WideShapes Go.ChangeAt Go.RowKit

theorem frames_small (ls : List (List Nat)) (h1 : ls.length ≤ 20) (h2 : ∀ x ∈ ls, x.length ≤ 300) : (CM.frames ls).length ≤ 6280 := by
  have : (CM.frames ls).length ≤ ls.length * 314 := by
    clear h1
    induction ls with
    | nil => simp [CM.frames]
    | cons x l ih =>
      rw [CM.frames_cons, List.length_append, List.length_cons, CM.frame_len]
      have := ih fun y hy => h2 y (by simp [hy])
      have := h2 x (by simp)
      have := VM.enc_len64 (n := x.length) (by omega)
      omega
  omega

set_option maxRecDepth 100000 in
set_option maxHeartbeats 2000000 in
theorem small (A A2 : Option Addr) (c c2 : Nat) (ls : List (List Nat)) (m : List Nat) (w : World) (hl : ∀ x ∈ ls, ∀ n ∈ x, n < 256) (hm : ∀ n ∈ m, n < 256) (hs : shortB ls = true) (hlm : m.length ≤ c2) (hcm2 : c2 ≤ maxLen)
    (hr : Row2 w w.heap.size A ls) (hr2 : Row w w.heap.size .u8 A2 m) (hA2 : A2 = none → c2 = 0) :
    Calls Try.prog 3 #[.slice A ls.length c, .slice A2 m.length c2] w fun e w' => e = .returned (.bool true) ∧ Below w.heap.size w w' := by
  obtain ⟨h20, h300⟩ := of_decide_eq_true hs
  unfold maxLen at hcm2
  have HS := Lib.hid hs; have HR := Lib.hid hr; have HR2 := Lib.hid hr2; have HL := Lib.hid hl; have HM := Lib.hid hm; have H3 := Lib.hid h300; have HA2 := Lib.hid hA2
  clear hs hr hr2 hl hm h300 hA2
  go_enter Try.func3, Try.ntmps3
  go_wp2_with fail
  refine (fit_any _).mono ?_
  rintro e w1 ⟨rfl, hb⟩
  have hz1 := hb.size
  have HB := Lib.hid hb; clear hb
  go_wp2_with fail
  refine (short_any A c ls _ w.heap.size (by unfold maxLen; omega) (HR.out.below HB.out)).mono ?_
  rintro e w2 ⟨rfl, rfl⟩
  rw [HS.out]
  go_wp2
  go_loopw [5, 18] (fun u i wr => ∃ k : Nat, k ≤ ls.length ∧ i = .int .i64 k ∧ Own wr w.heap.size u (CM.frames (ls.take k)) ∧ Below w.heap.size w wr)
    (fun _ i _ => ls.length - (intOf i).toNat)
  case atStart => exact ⟨0, Nat.zero_le _, rfl, Own.nil _ _, HB.out⟩
  case round =>
    obtain ⟨k, hk, rfl, ho, hbw⟩ := hrel
    have hzr := hbw.size
    have HO := Lib.hid ho; have HBW := Lib.hid hbw; clear ho hbw
    by_cases hlt : k < ls.length
    · obtain ⟨b, off, A', c', rfl, hbb, hcell, hrow, hA', hc1, hc2⟩ := (HR.out.below HBW.out).at_ hlt
      have hgk : ls.getD k [] = ls[k] := by simp [hlt]
      have hmem : ls.getD k [] ∈ ls := by rw [hgk]; exact List.getElem_mem _
      have htk : CM.frames (ls.take (k + 1)) = CM.frames (ls.take k) ++ CM.frame (ls.getD k []) := by rw [List.take_succ_eq_append_getElem hlt, hgk, CM.frames_snoc]
      have hfl := frames_small (ls.take k) (by rw [List.length_take]; omega) (fun x hx => H3.out x (List.mem_of_mem_take hx))
      have hx3 := H3.out _ hmem
      have hxb := HL.out _ hmem
      have HT := Lib.hid htk; have HROW := Lib.hid hrow; have HA' := Lib.hid hA'; have HXB := Lib.hid hxb
      clear htk hmem hgk hrow hA' hxb
      generalize ls.getD k [] = x at *
      go_wp2_with fail
      refine (frame_grow _ (CM.frames (ls.take k)) A' c' x _ w.heap.size HXB.out (by omega) (by omega) (HROW.out.mono hzr) HA'.out HO.out (by omega)).mono ?_
      rintro e w3 ⟨v', rfl, ho1, hg1⟩
      have HO1 := Lib.hid ho1; have HB1 := Lib.hid (HBW.out.trans (hg1.below HO.out hzr)); clear ho1 hg1
      go_wp2
      go_roundw
      case rel => exact ⟨k + 1, by omega, by go_num, by rw [HT.out]; exact HO1.out, HB1.out⟩
      case measure => simp [intOf]; omega
    · have hfl := frames_small ls h20 H3.out
      have ho2 := HO.out
      rw [List.take_of_length_le (by omega)] at ho2
      obtain ⟨Av, cv, hv, hcl, hcmx, hAv, hrv⟩ := ho2.form
      have HRV := Lib.hid hrv; have HAV := Lib.hid hAv; have HO2 := Lib.hid ho2
      clear ho2 hrv HO hAv
      subst hv
      have hq : ∃ q : List Nat, q.length ≤ 4 ∧ (∀ n ∈ q, n < 256) ∧ Row w w.heap.size .u8 A2 q ∧ ((m.length ≤ 4 ∧ m.length = q.length) ∨ (4 < m.length ∧ 4 = q.length)) := by
        by_cases h4 : m.length ≤ 4
        · exact ⟨m, h4, HM.out, HR2.out, .inl ⟨h4, rfl⟩⟩
        · exact ⟨m.take 4, by rw [List.length_take]; omega, fun n hn => HM.out n (List.mem_of_mem_take hn), HR2.out.take 4, .inr ⟨by omega, by rw [List.length_take]; omega⟩⟩
      obtain ⟨q, hq4, hqb, hqr, hq⟩ := hq
      have HQB := Lib.hid hqb; have HQR := Lib.hid hqr; clear hqb hqr
      rcases hq with ⟨h4, hq⟩ | ⟨h4, hq⟩
      all_goals
        have HQ := Lib.hid hq; clear hq
        go_wp2_with (first | (at_builtin; refine wpList_append_g rfl (.const (.slice none 0 0)) (.tmp 32) rfl w.heap.size _ [] rfl (Own.nil _ _) Av (CM.frames ls) _ cv wr.heap.size rfl rfl HRV.out HAV.out (by simp; omega) hzr ?_; intro v3 w3 ho3 hg3; have HO3 := Lib.hid ho3; have HB3 := Lib.hid (HBW.out.trans (hg3.below (Own.nil wr w.heap.size) hzr)); clear ho3 hg3) | (at_builtin; refine wpList_append_g rfl (.tmp 33) (.tmp 34) rfl w.heap.size _ _ rfl HO3.out A2 q _ c2 w.heap.size HQ.out rfl (HQR.out.below HB3.out) HA2.out (by simp; omega) HB3.out.size ?_; intro v4 w4 ho4 hg4; have HO4 := Lib.hid ho4; have HB4 := Lib.hid (HB3.out.trans (hg4.below HO3.out HB3.out.size)); clear ho4 hg4))
        have ho5 : Own w4 w.heap.size v4 (CM.frames ls ++ q) := HO4.out
        obtain ⟨A4, c4, hv4, hcl4, hcm4, hA4, hr4⟩ := ho5.form
        have hlen4 : (CM.frames ls ++ q).length ≤ 6284 := by rw [List.length_append]; omega
        have hby : ∀ x ∈ CM.frames ls ++ q, x < 256 := fun x hx => (List.mem_append.1 hx).elim (CM.frames_byte HL.out x) (HQB.out x)
        have HQN := Lib.hid (CM.next_short q HQB.out (by omega))
        have HLS : Hid (∀ x ∈ ls, x.length < 18446744073709551616 ∧ ∀ c ∈ x, c < 256) := fun x hx => ⟨by have := H3.out x hx; omega, HL.out x hx⟩
        rw [hv4]
        generalize ht : CM.frames ls ++ q = t at *
        have HT := Lib.hid ht; have HR4 := Lib.hid hr4; have HBY := Lib.hid hby
        clear ht hr4 hby ho5 hv4 HO4 HO3
        refine (split_row A4 c4 t w4 (by omega) hcl4 hcm4 HR4.out HBY.out).mono ?_
        rintro e w5 ⟨v5, ls5, rest, rfl, he5, hn5, hls5, ho5, hb5⟩
        rw [← HT.out] at he5
        obtain ⟨hls, _⟩ := CM.frames_unique ls ls5 q rest HLS.out hls5 HQN.out hn5 he5
        subst hls
        obtain ⟨A5, c5, hv5, hcl5, hcm5, hA5, hr5⟩ := ho5.form
        rw [hv5]
        have HB5 := Lib.hid (HB4.out.trans (hb5.mono HB4.out.size)); have HR5 := Lib.hid hr5
        clear he5 hn5 hls5 ho5 hb5 hv5 hr5 hA5 hA4 HT HR4 HBY HQN HLS
        go_wp2
        go_loopw [52] (fun i wq => ∃ k n : Nat, k ≤ ls.length ∧ i = .int .i64 k ∧ wq = w5.drewN n) (fun i _ => ls.length - (intOf i).toNat)
        case atStart => exact ⟨0, 0, Nat.zero_le _, rfl, rfl⟩
        case round =>
          obtain ⟨k5, n5, hk5, rfl, rfl⟩ := hrel
          by_cases hlt5 : k5 < ls.length
          · obtain ⟨b6, off6, A6, c6, rfl, _, hcell6, hrow6, hA6, hc61, hc62⟩ := (HR.out.below HB5.out).at_ hlt5
            obtain ⟨b7, off7, A7, c7, rfl, _, hcell7, hrow7, hA7, hc71, hc72⟩ := HR5.out.at_ hlt5
            generalize ls.getD k5 [] = x at *
            have hs6 : ∀ n, (convert 23 9 (.slice A6 x.length c6)).run Try.prog (w5.drewN n) = .ok (.string (str x)) (w5.drewN n) := fun n => run_string A6 x c6 _ _ (hrow6.drewN n)
            have hs7 : ∀ n, (convert 23 9 (.slice A7 x.length c7)).run Try.prog (w5.drewN n) = .ok (.string (str x)) (w5.drewN n) := fun n => run_string A7 x c7 _ _ (hrow7.drewN n)
            clear hrow6 hrow7 hA6 hA7
            go_wp2
            go_quiet (fail)
            go_wp2
            go_roundw
            case rel => exact ⟨k5 + 1, _, by omega, by go_num, rfl⟩
            case measure => simp [intOf]; omega
          · go_wp2
            go_ret
            exact ⟨rfl, below_drewN HB5.out _⟩

theorem walk (a0 : Option Addr) (len0 cap0 : Nat) (a1 : Option Addr) (len1 cap1 : Nat) (z1 : List Int) (w : World) (w0 : IsRow2 .u8 w a0 len0 cap0) (w1 : IsRow .u8 w a1 len1 cap1 z1) :
    Calls Try.prog 3 #[.slice a0 len0 cap0, .slice a1 len1 cap1] w fun e w' => e = .returned (.bool true) ∧ Below w.heap.size w w' := by
  obtain ⟨ls, rfl, hcm, hlc, hA, hr, hl⟩ := came2 w0
  obtain ⟨m, rfl, hcm2, hlc2, hA2, hr2, hm⟩ := came w1 top_u8
  by_cases hs : shortB ls = true
  · exact small a0 a1 cap0 cap1 ls m w hl hm hs hlc2 hcm2 hr hr2 hA2
  · have HS := Lib.hid (Bool.eq_false_iff.2 hs)
    have HR := Lib.hid hr
    clear hs w0 w1 hr hr2 hl hm hA hA2
    go_enter Try.func3, Try.ntmps3
    go_wp2_with fail
    refine (fit_any _).mono ?_
    rintro e w1 ⟨rfl, hb⟩
    have HB := Lib.hid hb; clear hb
    go_wp2_with fail
    refine (short_any a0 cap0 ls _ w.heap.size (by omega) (HR.out.below HB.out)).mono ?_
    rintro e w2 ⟨rfl, rfl⟩
    rw [HS.out]
    go_wp2
    go_ret
    exact ⟨rfl, HB.out⟩

theorem own : ownKnob Try.prog.godebug = none := by kernel_rfl
theorem laidOut : laidOutB Try.prog = true := by kernel_rfl

set_option maxRecDepth 100000 in
theorem lifted (os : Os) (started : os.Started) (H : Type) (enc : TypeId × Value → H) :
    ReturnsInHanded {} Try.checked os 3 .any (Rows.crcFramesSpec.pre6 enc Try.prog Try.f3 Rows.crcFramesRow.domain false) (Rows.crcFramesSpec.post enc Try.prog Try.f3 false true false false) := by
  refine returnsInHanded_of_change (C := Try.checked) own started (by kernel_rfl) Try.func3
    (ChangeSpec.witness6 (enc := enc) (C := Try.checked) false ⟨#[], #[.slice none 0 0, .slice none 0 0], []⟩ 8 (by kernel_rfl) (by kernel_rfl) (by kernel_rfl) (by kernel_rfl)) ?_
  intro W base args ds gs before hval0 hW hcnd _
  have hval : ∀ (j : Nat) t v, Try.f3.params[j]? = some t → args[j]? = some v → Value.okWide Try.prog W .any base t v := hval0
  have hW' := hW
  obtain ⟨p, q, hA0, hV, rfl, hfz, hnd⟩ := hW
  have hA : DataW.TrodAll enc Try.prog W 0 (fun _ => true) true Try.f3.params.toList args.toList ds p := hA0
  rw [Try.params3] at hA hval
  obtain ⟨v0, vs0, d0, ds0, p0, q0, hargs, rfl, rfl, h0, r0⟩ := trodAll_cons hA
  obtain ⟨v1, vs1, d1, ds1, p1, q1, rfl, rfl, rfl, h1, r1⟩ := trodAll_cons r0
  obtain ⟨rfl, rfl, rfl⟩ := trodAll_nil r1
  obtain rfl : args = #[v0, v1] := by cases args; simp_all
  obtain ⟨rfl, rfl⟩ := trodVars_none hV
  obtain ⟨a0, len0, cap0, rfl⟩ := okWide_slice Try.underlying22 (hval 0 22 v0 rfl rfl)
  have k0 := h0
  have lt0 : ∀ x ∈ p0, x.block < W.heap.size := by obtain ⟨m, hm⟩ := k0; exact DataW.trod_lt m _ _ _ hm
  have w0 : IsRow2 .u8 W a0 len0 cap0 := by
    obtain ⟨fuel, hf⟩ := h0
    rcases Go.Deep.open_int_rows Try.underlying22 Try.underlying23 Try.underlying5 (by kernel_rfl) (by kernel_rfl) hf with ⟨hcs, _⟩ | ⟨x, l, c, A, L, C, Z, hcs, _, hl, hm, _, hx⟩
    · simp [Value.cells] at hcs
      obtain ⟨rfl, rfl, rfl⟩ := hcs
      exact .inl ⟨rfl, rfl, rfl⟩
    · simp [Value.cells] at hcs
      obtain ⟨rfl, rfl, rfl⟩ := hcs
      exact .inr ⟨_, A, L, C, Z, rfl, hl, hm, fun r hr => by obtain ⟨g1, g2, g3, g4, g5, g6, g7⟩ := hx r hr; exact ⟨g1, g2, g3, g4, g5, g6, fun a' ha' => (g7 a' ha').2⟩⟩
  obtain ⟨a1, len1, cap1, rfl⟩ := okWide_slice Try.underlying23 (hval 1 23 v1 rfl rfl)
  have k1 := h1
  have lt1 : ∀ x ∈ p1, x.block < W.heap.size := by obtain ⟨m, hm⟩ := k1; exact DataW.trod_lt m _ _ _ hm
  obtain ⟨z1, w1⟩ : ∃ zs, IsRow .u8 W a1 len1 cap1 zs := by
    obtain ⟨fuel, hf⟩ := h1
    rcases open_ints Try.underlying23 Try.underlying5 (by kernel_rfl) hf with ⟨hcs, _⟩ | ⟨x, l, c, zs, hcs, _, hl, hm, hz, _, hcell, hwz⟩
    · simp [Value.cells] at hcs
      obtain ⟨rfl, rfl, rfl⟩ := hcs
      exact ⟨[], .inl ⟨rfl, rfl, rfl, rfl⟩⟩
    · simp [Value.cells] at hcs
      obtain ⟨rfl, rfl, rfl⟩ := hcs
      exact ⟨zs, .inr ⟨_, rfl, hl, hm, by simpa using hz, hcell, hwz⟩⟩
  clear hA0 hval0
  refine (walk a0 len0 cap0 a1 len1 cap1 z1 W w0 w1).mono fun e W' ⟨he, bel⟩ => ?_
  subst he
  exact ⟨_, rfl, _, _, _, [], _, [], hW', trodAll_mk1 (shut_bool Try.underlying4 _), (trodAll_cons_mk (Below.trod laidOut (by kernel_rfl) (of_decide_eq_true (by kernel_rfl)) k0 bel lt0) (trodAll_cons_mk (Below.trod laidOut (by kernel_rfl) (of_decide_eq_true (by kernel_rfl)) k1 bel lt1) trodAll_mk0)), rfl, bel.frame _, fun h => by cases h⟩

theorem over : Rows.crcFramesRow.holds Try.pinned (OpenSpec.ofChange Rows.crcFramesSpec) :=
  OpenClaim.holds_of_wide 3 Try.f3 rfl rfl rfl rfl rfl rfl rfl ⟨rfl, rfl, rfl, rfl, rfl⟩ rfl rfl rfl rfl rfl (by kernel_rfl) Try.func3 (by kernel_rfl)
    (of_decide_eq_true (by kernel_rfl)) (by unfold Func.isWrapper; first | (rw [if_pos (by decide +kernel)]; kernel_rfl) | (rw [if_neg (by decide +kernel)]; exact ⟨rfl, rfl⟩))
    (fun os started H enc _ => lifted os started H enc)

end Go.Proofs.Ytfndbgdamplelaa.crcFrames
namespace Go.Proofs.Ytfndbgdamplelaa
theorem crcFrames_holds : Rows.CrcFramesSaid := crcFrames.over
end Go.Proofs.Ytfndbgdamplelaa
