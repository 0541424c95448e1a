/-
  GridFits: a line that is made shorter is its beginning, mended; one that is made longer has blank cells behind. For every line and number; the package's and the library's tables as the program's text lays them.
-/
import Derived.Test.YtbpkklcegiiheaaDoorDFitL
import Derived.Test.YtbpkklcegiiheaaDoorDLawK
import Derived.Test.YtbpkklcegiiheaaDoorDCond
import Derived.Test.YtbpkklcegiiheaaDoorKRMend
import Derived.Test.YtbpkklcegiiheaaDoorKOpen
import Derived.Test.YtbpkklcegiiheaaDoorCards
import Derived.Test.YtbpkklcegiiheaaDoorTie
import Derived.OpenShut
import Derived.HandedFrom
import Derived.ChangeSame
import Derived.ChangeVars
import Derived.JoinedOf
import Derived.JoinedAt
namespace Go.Proofs.YtbpkklcegiiheaaDoor.gridFits
open Go.ChangeShapes Go.WideShapes Go.ChangeAt Go.RowKit KM

theorem build_rune32 (w : World) : (Instr.build 37 #[(0, .int .i32 32)]).run Tryd.prog w = .ok (.agg #[.int .i32 32, .bool false, .bool false, .bool false, .int .i64 0, .int .i64 0]) w := by kernel_rfl
/-- The law's own line. -/
def wantL (l : List Cel) (n : Nat) : List Cel := l.take n ++ KM.blanks (n - l.length) KM.zero
theorem wantL_len (l : List Cel) (n : Nat) : (wantL l n).length = n := by simp [wantL, blanks_len]; omega
theorem wantL_in (l : List Cel) (k : Nat) (h : k < l.length) : wantL l (k + 1) = wantL l k ++ [l[k]] := by
  unfold wantL
  rw [show k + 1 - l.length = 0 by omega, show k - l.length = 0 by omega, List.take_succ_eq_append_getElem h]
  simp [KM.blanks]
theorem wantL_out (l : List Cel) (k : Nat) (h : l.length ≤ k) : wantL l (k + 1) = wantL l k ++ [⟨32, KM.zero⟩] := by
  unfold wantL
  rw [show k + 1 - l.length = (k - l.length) + 1 by omega, List.take_of_length_le (by omega), List.take_of_length_le h, List.append_assoc]
  congr 1
  unfold KM.blanks
  rw [List.replicate_succ']
  rfl

set_option maxRecDepth 100000 in
set_option maxHeartbeats 4000000 in
theorem core (A : Option Addr) (c : Nat) (l : List Cel) (W : Int) (w : World) (hA : A = none → c = 0) (hr : celE.Row w w.heap.size A l) (hT : Tabs w) :
    Calls Tryd.prog 9 #[.slice A l.length c, .int .i64 W] w fun e w' => e = .returned (.bool true) ∧ Below w.heap.size w w' := by
  have HT := Lib.hid hT
  have HR := Lib.hid hr
  have HA := Lib.hid hA
  have HFIT := Lib.hid (fit_ok w hT)
  clear hT hr hA
  by_cases h3 : 200 < l.length
  · have g : decide ((200 : Int) < (l.length : Int)) = true := by simp; omega
    go_enter Tryd.func9, Tryd.ntmps9
    go_wp2_with fail
    refine HFIT.out.mono ?_
    rintro e w1 ⟨rfl, b1⟩
    have HB1 := Lib.hid b1
    clear b1
    go_wp2_with fail
    go_ret
    exact ⟨rfl, HB1.out⟩
  · have g : decide ((200 : Int) < (l.length : Int)) = false := by simp; omega
    go_enter Tryd.func9, Tryd.ntmps9
    go_wp2_with fail
    refine HFIT.out.mono ?_
    rintro e w1 ⟨rfl, b1⟩
    have HB1 := Lib.hid b1
    have HT1 := Lib.hid (HT.out.on b1 HT.out.room)
    have z1 := b1.size
    clear b1
    go_wp2_with fail
    refine (tame_ok w1 l A c w.heap.size (HR.out.below HB1.out) z1 (by omega)).mono ?_
    have hlt : (l.map tameC).length ≤ 200 := by rw [List.length_map]; omega
    have HTM := Lib.hid (tameL_tame l)
    generalize l.map tameC = t at *
    rintro e w2 ⟨v2, rfl, o2, b2⟩
    obtain ⟨A2, c2, rfl, _, _, hA2, r2⟩ := o2.row
    have HR2 := Lib.hid r2
    have HA2 := Lib.hid hA2
    have HT2 := Lib.hid (HT1.out.on b2 HT1.out.room)
    have HB2 := Lib.hid (below_next HB1.out b2)
    have z2 := b2.size
    clear b2 r2 o2 hA2
    go_wp2_with fail
    refine (rmend_ok w2 t A2 c2 w2.heap.size HR2.out HA2.out (by omega)).mono ?_
    have hml : (mend t).length ≤ 200 := by rw [mend_len]; exact hlt
    have HMT := Lib.hid (mend_tame t HTM.out)
    generalize mend t = m at *
    rintro e w3 ⟨v3, rfl, o3, b3⟩
    obtain ⟨A3, c3, rfl, hc3, _, hA3, r3⟩ := o3.row
    have HR3 := Lib.hid r3
    have HA3 := Lib.hid hA3
    have HT3 := Lib.hid (HT2.out.on b3 HT2.out.room)
    have HB3 := Lib.hid (below_next HB2.out b3)
    have z3 := b3.size
    clear b3 r3 o3 hA3
    obtain ⟨W', hW'⟩ : ∃ x, x = min (max W (-1)) 300 := ⟨_, rfl⟩
    obtain ⟨n, hn⟩ := Int.eq_ofNat_of_zero_le (show 0 ≤ max W' 0 by omega)
    have hn3 : n ≤ 300 := by omega
    have HFL : Hid (∀ v, Tabs v → celE.Row v v.heap.size A3 m → Calls Tryd.prog 29 #[.slice A3 m.length c3, .int .i64 W'] v (CelsPost v (fitL m n))) := Lib.hid (fun v hv hrv => by
      rcases (show W' = -1 ∨ W' = (n : Int) by omega) with h | h
      · have hn0 : n = 0 := by omega
        have e : fitL m n = [] := by rw [hn0]; unfold fitL; simp [KM.blanks, mend, mendP]
        rw [e]
        exact fitL_neg v m A3 c3 W' (by omega)
      · rw [h]
        exact fitL_ok' v hv m A3 c3 v.heap.size n hrv HA3.out (Nat.le_refl _) (by omega) hc3 (by omega))
    have HFO := Lib.hid (fitL_ok n HMT.out)
    have hwl : mend (wantL m n) = fitL m n := (fitL_eq m n).symm
    have HWL := Lib.hid hwl
    have HW := Lib.hid hW'
    have HN := Lib.hid hn
    have hmax : max W' 0 = (n : Int) := hn
    have hbr := fun w => build_rune32 w
    clear hwl hW' hn
    go_wp2_with fail
    refine (within_ok w3 W (-1) 300).mono ?_
    rw [← HW.out]
    rintro e w4 ⟨rfl, hw4⟩
    rw [hw4]
    clear hw4 w4
    go_wp2_with fail
    go_loopw [5, 21] (fun u i wr => ∃ k : Nat, k ≤ n ∧ i = .int .i64 (k : Int) ∧ Below w3.heap.size w3 wr ∧ celE.Own wr w3.heap.size u (wantL m k)) (fun _ i _ => n - (RowKit.intOf i).toNat)
    case atStart => exact ⟨0, Nat.zero_le _, rfl, Below.refl _ _, by unfold wantL; simpa [KM.blanks] using El.Own.nil _ _⟩
    case round =>
      obtain ⟨k, hk, rfl, hb, ho⟩ := hrel
      have HB := Lib.hid hb
      have HO := Lib.hid ho
      have hz := hb.size
      have hrow := HR3.out.below hb
      clear hb ho
      by_cases hlt : k < n
      · have g1 : decide ((k : Int) < (n : Int)) = true := by simp; omega
        have gn : decide (k < n) = true := by simp; omega
        have hlm := wantL_len m k
        obtain ⟨w4, hw4⟩ : ∃ w4, w4 = wr.alloc (.cells #[.int .i32 32, .bool false, .bool false, .bool false, .int .i64 0, .int .i64 0] 37) := ⟨_, rfl⟩
        have hb4 : Below wr.heap.size wr w4 := by rw [hw4]; exact (Below.refl _ _).alloc (Nat.le_refl _) _
        have hz4 : w4.heap.size = wr.heap.size + 1 := by rw [hw4]; simp
        have hc4 : CelAt w4 wr.heap.size ⟨32, KM.zero⟩ := by rw [hw4]; exact CelAt.fresh wr ⟨32, KM.zero⟩
        have W4 := Lib.hid hw4
        have HB4 := Lib.hid (HB.out.trans (hb4.mono hz))
        have HO4 := Lib.hid (HO.out.below hb4)
        have hrow4 := (HR3.out.below HB4.out)
        by_cases hin : k < m.length
        · have g2 : decide ((k : Int) < (m.length : Int)) = true := by simp; omega
          have gm : decide (k < m.length) = true := by simp; omega
          have hin' : (k : Int) < (m.length : Int) := by omega
          obtain ⟨b, off, rfl, _, q0, q1, q2, q3, q4, q5⟩ := cel_at hrow4 hin
          have hsucc := wantL_in m k hin
          generalize wantL m k = L at *
          generalize hcd : m[k] = cd at *
          have HSU := Lib.hid hsucc
          obtain ⟨c0, c1, c2, c3, c4, c5⟩ := hc4.cells
          have f0 := hc4.thaw 0; have f1 := hc4.thaw 1; have f2 := hc4.thaw 2; have f3 := hc4.thaw 3; have f4 := hc4.thaw 4; have f5 := hc4.thaw 5
          simp only [KM.zero] at c0 c1 c2 c3 c4 c5
          have HFIN := Lib.hid (fun c : Cel => show CelAt (setCel w4 wr.heap.size 0 c) wr.heap.size c ∧ Below wr.heap.size wr (setCel w4 wr.heap.size 0 c) from by
            refine ⟨?_, hb4.trans ((setCel_fr (S := fun j => wr.heap.size ≤ j) w4 wr.heap.size 0 c (Nat.le_refl _)).below (by omega) (fun j hj => hj))⟩
            have h1 := setRune_at hc4 c.rune
            exact setSt_at h1 c.sty.bold c.sty.under c.sty.turned c.sty.fore c.sty.back)
          clear hcd hsucc hrow hrow4 hw4 hb4 hc4
          obtain ⟨r, ⟨bo, u, t', f, ba⟩⟩ := cd
          simp only at q0 q1 q2 q3 q4 q5
          go_upto_region 12 with fail
          rw [← W4.out]
          go_upto_region 14 with fail
          obtain ⟨s1, s2⟩ := HFIN.out ⟨r, ⟨bo, u, t', f, ba⟩⟩
          obtain ⟨w5, hw5⟩ : ∃ w5, w5 = setCel w4 wr.heap.size 0 ⟨r, ⟨bo, u, t', f, ba⟩⟩ := ⟨_, rfl⟩
          rw [← hw5] at s1 s2
          unfold setCel at hw5
          simp only [Nat.zero_add] at hw5
          rw [← hw5]
          have HC5 := Lib.hid s1
          have HO5 := Lib.hid (HO.out.below s2)
          have HB5 := Lib.hid (HB.out.trans (s2.mono hz))
          have hz5 := s2.size
          clear s1 s2 hw5 c0 c1 c2 c3 c4 c5 f0 f1 f2 f3 f4 f5 q0 q1 q2 q3 q4 q5
          obtain ⟨e0, e1, e2, e3, e4, e5⟩ := HC5.out.cells
          simp only at e0 e1 e2 e3 e4 e5
          go_wp2_with (at_builtin; refine celE.wp_append1 rfl (.tmp 33) (.tmp 35) rfl w3.heap.size _ L rfl HO5.out ⟨r, ⟨bo, u, t', f, ba⟩⟩ #[.int .i32 r, .bool bo, .bool u, .bool t', .int .i64 f, .int .i64 ba] 37 rfl rfl ?c1 ?c2 (by omega) ?_)
          case c1 => simp only [celE]; omega
          case c2 => unfold maxLen; omega
          intro v1 y1 ho1 hg1
          have HO1 := Lib.hid ho1
          have HB1' := Lib.hid (HB5.out.trans (HO5.out.grow_below hg1 (by omega)))
          clear ho1 hg1
          go_wp2_with fail
          go_roundw
          case rel => exact ⟨k + 1, by omega, by simp, HB1'.out, by rw [HSU.out]; exact HO1.out⟩
          case measure => simp [RowKit.intOf]; omega
        · have g2 : decide ((k : Int) < (m.length : Int)) = false := by simp; omega
          have gm : decide (k < m.length) = false := by simp; omega
          have hsucc := wantL_out m k (by omega)
          generalize wantL m k = L at *
          have HSU := Lib.hid hsucc
          have HC5 := Lib.hid hc4
          have HO5 := HO4
          have HB5 := HB4
          have hz5 : wr.heap.size ≤ w4.heap.size := by omega
          clear hsucc hrow hrow4 hw4 hb4 hc4 hz4
          go_upto_region 12 with fail
          rw [← W4.out]
          go_upto_region 14 with fail
          obtain ⟨e0, e1, e2, e3, e4, e5⟩ := HC5.out.cells
          simp only [KM.zero] at e0 e1 e2 e3 e4 e5
          go_wp2_with (at_builtin; refine celE.wp_append1 rfl (.tmp 33) (.tmp 35) rfl w3.heap.size _ L rfl HO5.out ⟨32, KM.zero⟩ #[.int .i32 32, .bool false, .bool false, .bool false, .int .i64 0, .int .i64 0] 37 rfl rfl ?c1 ?c2 (by omega) ?_)
          case c1 => simp only [celE]; omega
          case c2 => unfold maxLen; omega
          intro v1 y1 ho1 hg1
          have HO1 := Lib.hid ho1
          have HB1' := Lib.hid (HB5.out.trans (HO5.out.grow_below hg1 (by omega)))
          clear ho1 hg1
          go_wp2_with fail
          go_roundw
          case rel => exact ⟨k + 1, by omega, by simp, HB1'.out, by rw [HSU.out]; exact HO1.out⟩
          case measure => simp [RowKit.intOf]; omega
      · have g1 : decide ((k : Int) < (n : Int)) = false := by simp; omega
        have gn : decide (k < n) = false := by simp; omega
        obtain rfl : k = n := by omega
        have HT4 := Lib.hid (HT3.out.on HB.out HT3.out.room)
        have HB34 := HB
        obtain ⟨Aw, cw, hu, _, _, hAw, rw_⟩ := HO.out.row
        rw [wantL_len] at hu
        have HRW := Lib.hid rw_
        have HAW := Lib.hid hAw
        have HR34 := Lib.hid (hrow.mono hz)
        rw [hu]
        clear hu rw_ hAw hrow
        go_wp2_with fail
        refine (HFL.out wr HT4.out HR34.out).mono ?_
        rintro e w5 ⟨v5, rfl, o5, b5⟩
        obtain ⟨A5, c5, hv5, _, _, _, r5⟩ := o5.row
        rw [fitL_len] at hv5
        have HR5 := Lib.hid r5
        have HB5 := Lib.hid (below_next HB.out b5)
        have HRW5 := Lib.hid (HRW.out.below b5)
        have HT5 := Lib.hid (HT4.out.on b5 HT4.out.room)
        have z5 := b5.size
        have hrm := rmend_ok w5 (wantL m k) Aw cw wr.heap.size HRW5.out HAW.out (by rw [wantL_len]; omega)
        rw [wantL_len, HWL.out] at hrm
        have HRM := Lib.hid hrm
        rw [hv5]
        clear o5 r5 hv5 b5 hrm
        go_wp2_with fail
        refine HRM.out.mono ?_
        rintro e w6 ⟨v6, rfl, o6, b6⟩
        obtain ⟨A6, c6, hv6, _, _, _, r6⟩ := o6.row
        rw [fitL_len] at hv6
        have HR6 := Lib.hid r6
        have HB6 := Lib.hid (below_next HB5.out b6)
        have HR56 := Lib.hid ((HR5.out.below b6).mono b6.size)
        have HT6 := Lib.hid (HT5.out.on b6 HT5.out.room)
        have z6 := b6.size
        have hsm := same_ok w6 (fitL m k) (fitL m k) A5 A6 c5 c6 w6.heap.size HR56.out HR6.out (Nat.le_refl _) (by rw [fitL_len]; omega) (by rw [fitL_len]; omega)
        rw [fitL_len, show decide (fitL m k = fitL m k) = true by simp] at hsm
        have HSM := Lib.hid hsm
        rw [hv6]
        clear o6 r6 hv6 b6 hsm
        go_wp2_with fail
        refine HSM.out.mono ?_
        rintro e w7 ⟨rfl, b7⟩
        have HB7 := Lib.hid (below_next HB6.out b7)
        have hwh := whole_ok w7 (HT6.out.on b7 HT6.out.room) (fitL m k) A5 c5 w7.heap.size ((HR56.out.below b7).mono b7.size) (Nat.le_refl _) (by rw [fitL_len]; omega)
        rw [fitL_len, HFO.out.whole] at hwh
        have HWH := Lib.hid hwh
        clear b7 hwh
        go_wp2_with fail
        refine HWH.out.mono ?_
        rintro e w8 ⟨rfl, b8⟩
        have HB8 := Lib.hid (HB3.out.trans ((below_next HB7.out b8).mono HB3.out.size))
        clear b8
        go_wp2_with fail
        go_ret
        exact ⟨rfl, HB8.out⟩
theorem walk (A : Option Addr) (len cap : Nat) (W : Int) (w : World) (hw : IsCels w A len cap) (_hW : (Lit.int .i64 W).wf = true) (hT : Tabs w) :
    Calls Tryd.prog 9 #[.slice A len cap, .int .i64 W] w fun e w' => e = .returned (.bool true) ∧ Below w.heap.size w w' := by
  obtain ⟨l, rfl, h1, h2⟩ := hw
  exact core A cap l W w h1 h2 hT

theorem own : ownKnob Tryd.prog.godebug = none := by kernel_rfl
theorem laidOut : laidOutB Tryd.prog = true := by kernel_rfl

set_option maxRecDepth 100000 in
theorem lifted (os : Os) (started : os.Started) (H : Type) (enc : TypeId × Value → H) :
    ReturnsInHanded {} Tryd.checked os 9 .any (fun w args => (Rows.gridFitsSpec.pre enc Tryd.prog Tryd.f9 Rows.gridFitsRow.domain false w args ∧ laidMetH Tryd.prog Rows.gridFitsRow.laid w) ∧ sizedMet enc Tryd.prog Tryd.f9 (OpenSpec.ofChange Rows.gridFitsSpec) false w args)
      (Rows.gridFitsSpec.post enc Tryd.prog Tryd.f9 false true false false) := by
  refine returnsInHanded_of_change_and (C := Tryd.checked) (X := fun w _ => laidMetH Tryd.prog Rows.gridFitsRow.laid w) (fun _ _ _ hh h => h.of_heap hh) own started (by kernel_rfl) Tryd.func9
    (ChangeSpec.witness_shaped (enc := enc) (C := Tryd.checked) (os := os) (X := fun w _ => laidMetH Tryd.prog Rows.gridFitsRow.laid w) false (start9 os) #[.slice none 0 0, .int .i64 0] 8 rfl (World.shaped_of_RefB (by kernel_rfl) (by kernel_rfl)) (by kernel_rfl) (by kernel_rfl) (by kernel_rfl) (met_gridFits os _)) ?_
  intro W base args ds gs before hval0 hW _ _ hL _
  have hval : ∀ (j : Nat) t v, Tryd.f9.params[j]? = some t → args[j]? = some v → Value.okWide Tryd.prog W .any base t v := hval0
  have hW' := hW
  obtain ⟨p, q, hA0, hV, rfl, hfz, hnd⟩ := hW
  have hA : DataW.TrodAll enc Tryd.prog W 0 (fun _ => true) true Tryd.f9.params.toList args.toList ds p := hA0
  rw [Tryd.params9] at hA hval
  obtain ⟨v0, vs0, d0, ds0, p0, q0, hargs, rfl, rfl, h0, r0⟩ := trodAll_cons hA
  obtain ⟨v1, vs1, d1, ds1, p1, q1, rfl, rfl, rfl, h1, r1⟩ := trodAll_cons r0
  obtain ⟨rfl, rfl, rfl⟩ := trodAll_nil r1
  obtain rfl : args = #[v0, v1] := by cases args; simp_all
  obtain ⟨rfl, rfl⟩ := trodVars_none hV
  obtain ⟨a0, len0, cap0, rfl⟩ := okWide_slice Tryd.underlying23 (hval 0 23 v0 rfl rfl)
  have k0 := h0
  have lt0 : ∀ x ∈ p0, x.block < W.heap.size := by obtain ⟨m, hm⟩ := k0; exact DataW.trod_lt m _ _ _ hm
  have w0 : IsCels W a0 len0 cap0 := by
    obtain ⟨fuel, hf⟩ := h0
    exact cels_in hf
  obtain ⟨a1, rfl, rfl, rfl, w1⟩ := open_int Tryd.underlying3 (hval 1 3 v1 rfl rfl) h1
  clear hA0 hval0
  refine (walk a0 len0 cap0 a1 W w0 w1 (tabs_gridFits hL)).mono fun e W' ⟨he, bel⟩ => ?_
  subst he
  exact ⟨_, rfl, _, _, _, [], _, [], hW', trodAll_mk1 (shut_bool Tryd.underlying4 _), (trodAll_cons_mk (Below.trod laidOut (by kernel_rfl) (of_decide_eq_true (by kernel_rfl)) k0 bel lt0) (trodAll_cons_mk (shut_int Tryd.underlying3 w1) trodAll_mk0)), rfl, bel.frame _, fun h => by cases h⟩

theorem over : Rows.gridFitsRow.holds Tryd.pinned (OpenSpec.ofChange Rows.gridFitsSpec) :=
  OpenClaim.holds_of_wide 9 Tryd.f9 rfl rfl rfl rfl rfl rfl rfl ⟨rfl, rfl, rfl, rfl, rfl⟩ rfl rfl rfl rfl rfl (by kernel_rfl) Tryd.func9 (by kernel_rfl)
    (of_decide_eq_true (by kernel_rfl)) (by unfold Func.isWrapper; first | (rw [if_pos (by decide +kernel)]; kernel_rfl) | (rw [if_neg (by decide +kernel)]; exact ⟨rfl, rfl⟩))
    (fun os started H enc _ => lifted os started H enc)

theorem cardOver : Rows.GridFitsCardSaid :=
  Claim7.holds_tied_plain_at .later [] [.data, .data, .pinned] true (true, "f146deda77bc3999c62c82da70115e9c71b62d2033ceffcf0b29ca91f6fa214a") false
    over (fun _ h => by cases h) (by kernel_rfl) (fun _ h => by cases h) gridFits_row_tie rfl ⟨rfl, rfl⟩ (by kernel_rfl) rfl
    (fun f fn hf hfn => by
      obtain rfl : f = 9 := Option.some.inj ((show Tryd.prog.funcNamed Rows.gridFitsRow.func = some 9 by kernel_rfl).symm.trans hf) |>.symm
      obtain rfl : fn = Tryd.f9 := (Option.some.inj (Tryd.func9.symm.trans hfn)).symm
      exact ⟨by kernel_rfl, fun j t ht => by
        rw [Tryd.params9] at ht
        have hm : t ∈ [23, 3] := by simpa using Array.mem_of_getElem? ht
        have hall : ([23, 3].all fun u => !Tryd.prog.wantsStandIn u) = true := by kernel_rfl
        exact (show Tryd.prog.wantsStandIn t = false by simpa using List.all_eq_true.1 hall t hm)⟩)
    (by kernel_rfl)

end Go.Proofs.YtbpkklcegiiheaaDoor.gridFits
namespace Go.Proofs.YtbpkklcegiiheaaDoor
theorem gridFits_holds : Rows.GridFitsCardSaid := gridFits.cardOver
end Go.Proofs.YtbpkklcegiiheaaDoor
