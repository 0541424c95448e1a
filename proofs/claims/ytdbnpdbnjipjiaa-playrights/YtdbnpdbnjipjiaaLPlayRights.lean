/-
  PlayRights: a player is made just of a right list, from a time that may be, at a speed that may be. For every slice of events and every three numbers. No condition.
-/
import Derived.Test.YtdbnpdbnjipjiaaYFit
import Derived.Test.YtdbnpdbnjipjiaaYUntil
import Derived.Test.YtdbnpdbnjipjiaaYOpen
import Derived.Test.YtdbnpdbnjipjiaaERList
import Derived.ProofKit
import Derived.OpenShut
namespace Go.Proofs.Ytdbnpdbnjipjiaa.playRights
open Go.ChangeShapes Go.WideShapes Go.ChangeAt Go.RowKit Go.Lib EM PM
set_option maxRecDepth 100000

theorem big (A : Option Addr) (n c : Nat) (s p q : Int) (w : World) (h : 60 < n) :
    Calls Try.prog 7 #[.slice A n c, .agg #[.int .i64 s, .int .i64 p, .int .i64 q]] w fun e w' => e = .returned (.bool true) ∧ Below w.heap.size w w' := by
  have g : decide ((60 : Int) < (n : Int)) = true := by simp; omega
  obtain ⟨w1, hw1⟩ : ∃ w1, w1 = w.alloc (.cells #[.int .i64 s, .int .i64 p, .int .i64 q] 23) := ⟨_, rfl⟩
  have hb1 : Below w.heap.size w w1 := by rw [hw1]; exact (Below.refl _ _).alloc (Nat.le_refl _) _
  have W1 := Lib.hid hw1
  have HB1 := Lib.hid hb1
  have HF := Lib.hid (pfit_ok w1)
  clear hw1 hb1
  go_enter Try.func7, Try.ntmps7
  go_wp2_with fail
  rw [← W1.out]
  refine HF.out.mono ?_
  rintro e w2 ⟨rfl, b2⟩
  have HB2 := Lib.hid (below_next HB1.out b2)
  clear b2
  go_wp2_with fail
  go_ret
  exact ⟨rfl, HB2.out⟩

set_option maxHeartbeats 4000000 in
theorem core (A : Option Addr) (c : Nat) (l : List Ev) (s p q : Int) (w : World) (hl : l.length ≤ 60) (hA : A = none → c = 0) (hr : evE.Row w w.heap.size A l) :
    Calls Try.prog 7 #[.slice A l.length c, .agg #[.int .i64 s, .int .i64 p, .int .i64 q]] w fun e w' => e = .returned (.bool true) ∧ Below w.heap.size w w' := by
  have g : decide ((60 : Int) < (l.length : Int)) = false := by simp; omega
  obtain ⟨w1, hw1⟩ : ∃ w1, w1 = w.alloc (.cells #[.int .i64 s, .int .i64 p, .int .i64 q] 23) := ⟨_, rfl⟩
  have hb1 : Below w.heap.size w w1 := by rw [hw1]; exact (Below.refl _ _).alloc (Nat.le_refl _) _
  have hz1 : w1.heap.size = w.heap.size + 1 := by rw [hw1]; simp
  have ht1 : ThreeIn w1 w.heap.size s p q := by rw [hw1]; exact ThreeIn.fresh w s p q
  have W1 := Lib.hid hw1
  have HB1 := Lib.hid hb1
  have HF := Lib.hid (pfit_ok w1)
  have HT1 := Lib.hid ht1
  have HR := Lib.hid hr
  clear hw1 hb1 hr ht1
  go_enter Try.func7, Try.ntmps7
  go_wp2_with fail
  rw [← W1.out]
  refine HF.out.mono ?_
  rintro e w2 ⟨rfl, b2⟩
  have HB2 := Lib.hid (below_next HB1.out b2)
  have HT2 := Lib.hid (HT1.out.below b2)
  have hz2 := b2.size
  clear b2 HF
  obtain ⟨c0, c1, c2⟩ := HT2.out.cells
  rcases hm : mayP l s p q with _ | _
  · have HN := Lib.hid (new_bad w2 l A c w.heap.size s p q (HR.out.below HB2.out) HB2.out.size (by omega) hm)
    have HRS := Lib.hid (fun v => rrightS_ok v p q)
    go_wp2_with fail
    refine HN.out.mono ?_
    rintro e w3 ⟨rfl, b3⟩
    have HB3 := Lib.hid (below_next HB2.out b3)
    have HT3 := Lib.hid (HT2.out.below b3)
    have HL := Lib.hid (rlist_ok w3 l A c w.heap.size (HR.out.below HB3.out) HB3.out.size (by omega))
    clear b3 HN c0 c1 c2
    rcases hlb : listB 0 l with _ | _
    · rw [hlb] at HL
      clear hlb hm
      go_wp2_with fail
      refine HL.out.mono ?_
      rintro e w4 ⟨rfl, b4⟩
      have HB4 := Lib.hid (below_next HB3.out b4)
      clear b4
      go_wp2_with fail
      go_ret
      exact ⟨rfl, HB4.out⟩
    · rw [hlb] at HL
      by_cases h0 : 0 ≤ s
      · have g0 : decide (s < 0) = false := decide_eq_false (by omega)
        by_cases h1 : s < 4611686018427387904
        · have g1 : decide (4611686018427387903 < s) = false := decide_eq_false (by omega)
          have hrs : rightS p q = false := by
            rcases h2 : rightS p q with _ | _
            · rfl
            · rw [mayP_iff.2 ⟨h0, h1, h2, hlb⟩] at hm; cases hm
          rw [hrs] at HRS
          clear hlb hm hrs
          go_wp2_with fail
          refine HL.out.mono ?_
          rintro e w4 ⟨rfl, b4⟩
          have HB4 := Lib.hid (below_next HB3.out b4)
          obtain ⟨c0, c1, c2⟩ := (HT3.out.below b4).cells
          clear b4
          go_wp2_with fail
          refine (HRS.out w4).mono ?_
          rintro e w5 ⟨rfl, hw⟩
          rw [hw]
          clear hw w5
          go_wp2_with fail
          go_ret
          exact ⟨rfl, HB4.out⟩
        · have g1 : decide (4611686018427387903 < s) = true := decide_eq_true (by omega)
          clear hlb hm
          go_wp2_with fail
          refine HL.out.mono ?_
          rintro e w4 ⟨rfl, b4⟩
          have HB4 := Lib.hid (below_next HB3.out b4)
          obtain ⟨c0, c1, c2⟩ := (HT3.out.below b4).cells
          clear b4
          go_wp2_with fail
          go_ret
          exact ⟨rfl, HB4.out⟩
      · have g0 : decide (s < 0) = true := decide_eq_true (by omega)
        clear hlb hm
        go_wp2_with fail
        refine HL.out.mono ?_
        rintro e w4 ⟨rfl, b4⟩
        have HB4 := Lib.hid (below_next HB3.out b4)
        obtain ⟨c0, c1, c2⟩ := (HT3.out.below b4).cells
        clear b4
        go_wp2_with fail
        go_ret
        exact ⟨rfl, HB4.out⟩
  · have ok := mayP_ok (by omega) hm
    obtain ⟨h0, h1, hrs, hlb⟩ := mayP_iff.1 hm
    have g0 : decide (s < 0) = false := decide_eq_false (by omega)
    have g1 : decide (4611686018427387903 < s) = false := decide_eq_false (by omega)
    have HN := Lib.hid (new_good w2 l A c w.heap.size s p q (HR.out.below HB2.out) hA HB2.out.size (by omega) hm)
    have HRS := Lib.hid (fun v => rrightS_ok v p q)
    rw [hrs] at HRS
    have HNOW := Lib.hid (fun v g A c (h : PlAt v g A c (new l s p q)) => now_ok v g c A _ h ok)
    rw [new_now l s p q h1] at HNOW
    have hul := upTo_le l s
    have HLEFT := Lib.hid (fun v g A c (h : PlAt v g A c (new l s p q)) => left_ok v g c A _ h (show l.length ≤ 1000 by omega) hul)
    have HPAU := Lib.hid (fun v g A c (h : PlAt v g A c (new l s p q)) => paused_ok v g c A _ h)
    have HUN := Lib.hid (fun v (h : evE.Row v w.heap.size A l) => runtil_same v l A c w.heap.size s h (by omega))
    rw [show (new l s p q).l = l from rfl, show (new l s p q).told = upTo l s from rfl] at HLEFT
    rw [show (new l s p q).paused = false from rfl] at HPAU
    clear hm ok hrs
    generalize new l s p q = P at *
    generalize upTo l s = u at *
    go_wp2_with fail
    refine HN.out.mono ?_
    rintro e w3 ⟨gg, A3, c3, rfl, hg3, hp3, b3, -⟩
    have HB3 := Lib.hid (below_next HB2.out b3)
    have HT3 := Lib.hid (HT2.out.below b3)
    have HP3 := Lib.hid hp3
    have HL := Lib.hid (rlist_ok w3 l A c w.heap.size (HR.out.below HB3.out) HB3.out.size (by omega))
    rw [hlb] at HL
    clear b3 hp3 HN c0 c1 c2 hlb
    go_wp2_with fail
    refine HL.out.mono ?_
    rintro e w4 ⟨rfl, b4⟩
    have HB4 := Lib.hid (below_next HB3.out b4)
    obtain ⟨c0, c1, c2⟩ := (HT3.out.below b4).cells
    have HP4 := Lib.hid (HP3.out.next b4)
    have HR4 := Lib.hid (HR.out.below HB4.out)
    clear b4
    go_wp2_with fail
    refine (HRS.out w4).mono ?_
    rintro e w5 ⟨rfl, hw⟩
    rw [hw]
    clear hw w5
    go_wp2_with fail
    go_quiet (first | (go_at_call 21; exact Calls.quiet_of (HNOW.out _ gg A3 c3 HP4.out)) | (go_at_call 23; exact Calls.quiet_of (HLEFT.out _ gg A3 c3 HP4.out)) | (go_at_call 24; exact Calls.quiet_of_same (HPAU.out _ gg A3 c3 HP4.out)) | (go_at_call 25; exact Calls.quiet_of_same (HUN.out _ HR4.out)))
    go_wp2_with fail
    go_ret
    exact ⟨rfl, below_drewN HB4.out _⟩

theorem walk (A : Option Addr) (len cap : Nat) (s p q : Int) (w : World) (hw : IsEvs w A len cap) :
    Calls Try.prog 7 #[.slice A len cap, .agg #[.int .i64 s, .int .i64 p, .int .i64 q]] w fun e w' => e = .returned (.bool true) ∧ Below w.heap.size w w' := by
  obtain ⟨l, rfl, h2, h3⟩ := hw
  by_cases h : 60 < l.length
  · exact big A l.length cap s p q w h
  · exact core A cap l s p q w (by omega) h2 h3

theorem own : ownKnob Try.prog.godebug = none := by kernel_rfl
theorem laidOut : laidOutB Try.prog = true := by kernel_rfl

set_option maxRecDepth 100000 in
theorem lifted (os : Os) (started : os.Started) (H : Type) (enc : TypeId × Value → H) :
    ReturnsInHanded {} Try.checked os 7 .any (Rows.playRightsSpec.pre6 enc Try.prog Try.f7 Rows.playRightsRow.domain false) (Rows.playRightsSpec.post enc Try.prog Try.f7 false true false false) := by
  refine returnsInHanded_of_change (C := Try.checked) own started (by kernel_rfl) Try.func7
    (ChangeSpec.witness6 (enc := enc) (C := Try.checked) false ⟨#[], #[.slice none 0 0, .agg #[.int .i64 0, .int .i64 0, .int .i64 0]], []⟩ 8 (by kernel_rfl) (by kernel_rfl) (by kernel_rfl) (by kernel_rfl)) ?_
  intro W base args ds gs before hval0 hW hcnd _
  have hval : ∀ (j : Nat) t v, Try.f7.params[j]? = some t → args[j]? = some v → Value.okWide Try.prog W .any base t v := hval0
  have hW' := hW
  obtain ⟨p, q, hA0, hV, rfl, hfz, hnd⟩ := hW
  have hA : DataW.TrodAll enc Try.prog W 0 (fun _ => true) true Try.f7.params.toList args.toList ds p := hA0
  rw [Try.params7] at hA hval
  obtain ⟨v0, vs0, d0, ds0, p0, q0, hargs, rfl, rfl, h0, r0⟩ := trodAll_cons hA
  obtain ⟨v1, vs1, d1, ds1, p1, q1, rfl, rfl, rfl, h1, r1⟩ := trodAll_cons r0
  obtain ⟨rfl, rfl, rfl⟩ := trodAll_nil r1
  obtain rfl : args = #[v0, v1] := by cases args; simp_all
  obtain ⟨rfl, rfl⟩ := trodVars_none hV
  obtain ⟨a0, len0, cap0, rfl⟩ := okWide_slice Try.underlying22 (hval 0 22 v0 rfl rfl)
  have k0 := h0
  have lt0 : ∀ x ∈ p0, x.block < W.heap.size := by obtain ⟨m, hm⟩ := k0; exact DataW.trod_lt m _ _ _ hm
  have w0 : IsEvs W a0 len0 cap0 := by
    obtain ⟨fuel, hf⟩ := h0
    exact evs_in hf
  have k1 := h1
  have lt1 : ∀ x ∈ p1, x.block < W.heap.size := by obtain ⟨m, hm⟩ := k1; exact DataW.trod_lt m _ _ _ hm
  obtain ⟨a1, b1, c1, rfl⟩ := open_three (hval 1 23 v1 rfl rfl) h1
  clear hA0 hval0
  refine (walk a0 len0 cap0 a1 b1 c1 W w0).mono fun e W' ⟨he, bel⟩ => ?_
  subst he
  exact ⟨_, rfl, _, _, _, [], _, [], hW', trodAll_mk1 (shut_bool Try.underlying4 _), (trodAll_cons_mk (Below.trod laidOut (by kernel_rfl) (of_decide_eq_true (by kernel_rfl)) k0 bel lt0) (trodAll_cons_mk (Below.trod laidOut (by kernel_rfl) (of_decide_eq_true (by kernel_rfl)) k1 bel lt1) trodAll_mk0)), rfl, bel.frame _, fun h => by cases h⟩

theorem over : Rows.playRightsRow.holds Try.pinned (OpenSpec.ofChange Rows.playRightsSpec) :=
  OpenClaim.holds_of_wide 7 Try.f7 rfl rfl rfl rfl rfl rfl rfl ⟨rfl, rfl, rfl, rfl, rfl⟩ rfl rfl rfl rfl rfl (by kernel_rfl) Try.func7 (by kernel_rfl)
    (of_decide_eq_true (by kernel_rfl)) (by unfold Func.isWrapper; first | (rw [if_pos (by decide +kernel)]; kernel_rfl) | (rw [if_neg (by decide +kernel)]; exact ⟨rfl, rfl⟩))
    (fun os started H enc _ => lifted os started H enc)

end Go.Proofs.Ytdbnpdbnjipjiaa.playRights
namespace Go.Proofs.Ytdbnpdbnjipjiaa
theorem playRights_holds : Rows.PlayRightsSaid := playRights.over
end Go.Proofs.Ytdbnpdbnjipjiaa
