/-
  GridWholes: whatever is done, all lines of a grid, and all that go out, are whole. For every size, line and deeds; the package's and the library's tables as the program's text lays them.
-/
import Derived.Test.YtbpkklcegiiheaaDoorDFitL
import Derived.Test.YtbpkklcegiiheaaDoorDFill
import Derived.Test.YtbpkklcegiiheaaDoorDWholeL
import Derived.Test.YtbpkklcegiiheaaDoorDDo
import Derived.Test.YtbpkklcegiiheaaDoorDOpenA
import Derived.Test.YtbpkklcegiiheaaDoorDCond
import Derived.Test.YtbpkklcegiiheaaDoorCards
import Derived.Test.YtbpkklcegiiheaaDoorTie
import Derived.OpenShut
import Derived.HandedFrom
import Derived.ChangeSame
import Derived.ChangeVars
import Derived.JoinedOf
import Derived.JoinedAt
namespace Go.Proofs.YtbpkklcegiiheaaDoor.gridWholes
open Go.ChangeShapes Go.WideShapes Go.ChangeAt Go.RowKit KM

theorem gdo_len {g : Gr} (h : g.Ok) (d : De) : (gdo g d).2.length ≤ 60 := by
  have h1 := h.len
  have h2 := h.h2
  unfold gdo gresize gup
  repeat' split
  all_goals simp
  all_goals omega

set_option maxRecDepth 100000 in
set_option maxHeartbeats 4000000 in
theorem core (x y : Int) (A : Option Addr) (c : Nat) (l : List Cel) (D : Option Addr) (dc : Nat) (ds : List De) (w : World) (hr : celE.Row w w.heap.size A l) (hd : deE.Row w w.heap.size D ds) (hT : Tabs w) :
    Calls Tryd.prog 4 #[.agg #[.int .i64 x, .int .i64 y], .slice A l.length c, .slice D ds.length dc] w fun e w' => e = .returned (.bool true) ∧ Below w.heap.size w w' := by
  obtain ⟨w1, hw1⟩ : ∃ w1, w1 = w.alloc (.cells #[.int .i64 x, .int .i64 y] 22) := ⟨_, rfl⟩
  have hb1 : Below w.heap.size w w1 := by rw [hw1]; exact (Below.refl _ _).alloc (Nat.le_refl _) _
  have hc1 : w1.heap[w.heap.size]? = some (.cells #[.int .i64 x, .int .i64 y] 22 (0, 0)) := by rw [hw1]; exact heap_alloc_new w _
  have HC1 := Lib.hid hc1
  have HB1 := Lib.hid hb1
  have W1 := Lib.hid hw1
  have HR := Lib.hid hr
  have HD := Lib.hid hd
  have HT := Lib.hid hT
  have HFIT := Lib.hid (fit_ok w1 (hT.on hb1 hT.room))
  clear hw1 hb1 hc1 hr hd hT
  by_cases h1 : 2000 < l.length
  · have g : decide ((2000 : Int) < (l.length : Int)) = true := by simp; omega
    go_enter Tryd.func4, Tryd.ntmps4
    go_wp2_with fail
    rw [← W1.out]
    refine HFIT.out.mono ?_
    rintro e w2 ⟨rfl, b2⟩
    have HB2 := Lib.hid (below_next HB1.out b2)
    clear b2
    go_wp2_with fail
    go_ret
    exact ⟨rfl, HB2.out⟩
  by_cases h2 : 60 < ds.length
  · have g : decide ((2000 : Int) < (l.length : Int)) = false := by simp; omega
    have g' : decide ((60 : Int) < (ds.length : Int)) = true := by simp; omega
    go_enter Tryd.func4, Tryd.ntmps4
    go_wp2_with fail
    rw [← W1.out]
    refine HFIT.out.mono ?_
    rintro e w2 ⟨rfl, b2⟩
    have HB2 := Lib.hid (below_next HB1.out b2)
    clear b2
    go_wp2_with fail
    go_ret
    exact ⟨rfl, HB2.out⟩
  have g : decide ((2000 : Int) < (l.length : Int)) = false := by simp; omega
  have g' : decide ((60 : Int) < (ds.length : Int)) = false := by simp; omega
  go_enter Tryd.func4, Tryd.ntmps4
  go_wp2_with fail
  rw [← W1.out]
  refine HFIT.out.mono ?_
  rintro e w2 ⟨rfl, b2⟩
  have hc2 := (b2.block w.heap.size (Array.getElem?_eq_some_iff.1 HC1.out).1).trans HC1.out
  have q0 : w2.cell? ⟨w.heap.size, 0, none⟩ = some (.int .i64 x) := by simp [World.cell?, hc2]
  have q1 : w2.cell? ⟨w.heap.size, 1, none⟩ = some (.int .i64 y) := by simp [World.cell?, hc2]
  have HB2 := Lib.hid (below_next HB1.out b2)
  have z2 := HB2.out.size
  clear b2 hc2
  go_wp2_with fail
  have hl2 : l.length ≤ 2000 := by omega
  refine (fill_ok w2 (HT.out.on HB2.out HT.out.room) x y A c l ((HR.out.below HB2.out).mono z2) hl2).mono ?_
  rintro e w3 ⟨p, g0, rfl, ⟨⟨F0, hat0, hF0⟩, hb3⟩, hok0, -, -⟩
  have HAT0 := Lib.hid hat0
  have HF0 := Lib.hid (fun q (hq : q ∈ F0) => Nat.le_trans z2 (hF0 q hq))
  have HOK0 := Lib.hid hok0
  have HB3 := Lib.hid (below_next HB2.out hb3)
  clear hat0 hF0 hok0 hb3 q0 q1
  go_wp2_with fail
  go_loopw [30] (fun j wr => ∃ (k : Nat) (F : List Nat) (g : Gr), k ≤ ds.length ∧ j = .int .i64 (k : Int) ∧ Below w.heap.size w wr ∧ GridAt wr F p g ∧ (∀ q ∈ F, w.heap.size ≤ q) ∧ g.Ok) (fun j _ => ds.length - (RowKit.intOf j).toNat)
  case atStart => exact ⟨0, F0, g0, Nat.zero_le _, rfl, HB3.out, HAT0.out, HF0.out, HOK0.out⟩
  case round =>
    obtain ⟨k, F, g, hk, rfl, hbr, hat, hF, hok⟩ := hrel
    have HBR := Lib.hid hbr
    have HAT := Lib.hid hat
    have HF := Lib.hid hF
    have HOK := Lib.hid hok
    have zr := hbr.size
    have HTR := Lib.hid (HT.out.on hbr HT.out.room)
    clear hbr hat hF hok
    by_cases hlt : k < ds.length
    · have g1 : decide ((k : Int) < (ds.length : Int)) = true := by simp; omega
      have gm : decide (k < ds.length) = true := by simp; omega
      obtain ⟨b, off, rfl, _, q0, q1, q2, q3, q4, q5, q6, q7, q8, q9⟩ := de_at (HD.out.below HBR.out) hlt
      generalize hcd : ds[k] = cd at *
      obtain ⟨w4, hw4⟩ : ∃ w4, w4 = wr.alloc (.cells #[.int .i64 cd.kind, .int .i64 cd.a, .int .i64 cd.b, .int .i64 cd.c, .int .i32 cd.cel.rune, .bool cd.cel.sty.bold, .bool cd.cel.sty.under, .bool cd.cel.sty.turned, .int .i64 cd.cel.sty.fore, .int .i64 cd.cel.sty.back] 39) := ⟨_, rfl⟩
      have hb4 : Below wr.heap.size wr w4 := by rw [hw4]; exact (Below.refl _ _).alloc (Nat.le_refl _) _
      have hd4 : DeIn w4 wr.heap.size cd := by rw [hw4]; exact DeIn.fresh wr cd
      have W4 := Lib.hid hw4
      have HD4 := Lib.hid hd4
      have hdo := do_ok w4 (HTR.out.on hb4 HTR.out.room) (HAT.out.below hb4) HOK.out cd
      have HB4 := Lib.hid (below_next HBR.out hb4)
      have hgo := gdo_ok HOK.out cd
      have hgl := gdo_len HOK.out cd
      have hgw := HOK.out.w2
      generalize gdo g cd = R at *
      obtain ⟨g', out⟩ := R
      simp only at hgo hgl
      have HDO := Lib.hid hdo
      have HGO := Lib.hid hgo
      clear hcd hw4 hb4 hd4 hdo hgo
      obtain ⟨kd, ea, eb, ec, ⟨r, ⟨bo, u, t', f, ba⟩⟩⟩ := cd
      simp only [deV] at *
      go_upto_region 9 with fail
      rw [← W4.out]
      clear q0 q1 q2 q3 q4 q5 q6 q7 q8 q9
      obtain ⟨q0, q1, q2, q3, q4, q5, q6, q7, q8, q9⟩ := HD4.out.cells
      simp only at q0 q1 q2 q3 q4 q5 q6 q7 q8 q9
      go_wp2_with fail
      refine HDO.out.mono ?_
      rintro e w5 ⟨A5, c5, F5, rfl, hat5, hF5, hfr5, hout5, _⟩
      have HAT5 := Lib.hid hat5
      have HB5 := Lib.hid (HB4.out.trans (hfr5.below HB4.out.size HF.out))
      have z45 := HB4.out.size
      have HF5 : Hid (∀ q ∈ F5, w.heap.size ≤ q) := Lib.hid (fun q hq => by rcases hF5 q hq with h | h; exact HF.out q h; omega)
      have HOUT := Lib.hid hout5
      have HT5 := Lib.hid (HT.out.on HB5.out HT.out.room)
      clear hat5 hF5 hfr5 hout5 q0 q1 q2 q3 q4 q5 q6 q7 q8 q9
      go_wp2_with fail
      go_loopw [38] (fun j ws => ∃ i : Nat, i ≤ out.length ∧ j = .int .i64 (i : Int) ∧ Below w5.heap.size w5 ws) (fun j _ => out.length - (RowKit.intOf j).toNat)
      case atStart => exact ⟨0, Nat.zero_le _, rfl, Below.refl _ _⟩
      case round =>
        obtain ⟨i, hi, rfl, hbs⟩ := hrel
        have HBS := Lib.hid hbs
        clear hbs
        by_cases hlt2 : i < out.length
        · have g2 : decide ((i : Int) < (out.length : Int)) = true := by simp; omega
          have gn : decide (i < out.length) = true := by simp; omega
          obtain ⟨bo', oo, Ao, co, rfl, _, d0, r0, _⟩ := (HOUT.out.below HBS.out).at_ (j := i) hlt2
          have hlo := HGO.out.2 out[i] (List.getElem_mem _)
          have hwh := whole_ok wr (HT5.out.on HBS.out HT5.out.room) out[i] Ao co wr.heap.size r0 (Nat.le_refl _) (by rw [hlo.len]; omega)
          rw [hlo.whole] at hwh
          have HWH := Lib.hid hwh
          clear hlo hwh r0
          generalize out[i].length = ol at *
          go_wp2_with fail
          refine HWH.out.mono ?_
          rintro e w6 ⟨rfl, b6⟩
          have HB6 := Lib.hid (below_next HBS.out b6)
          clear b6
          go_wp2_with fail
          go_roundw
          case rel => exact ⟨i + 1, by omega, by simp, HB6.out⟩
          case measure => simp [RowKit.intOf]; omega
        · have g2 : decide ((i : Int) < (out.length : Int)) = false := by simp; omega
          have gn : decide (i < out.length) = false := by simp; omega
          have HAT6 := Lib.hid (HAT5.out.below HBS.out)
          have HB6 := Lib.hid (HB5.out.trans (HBS.out.mono HB5.out.size))
          obtain ⟨hb, hc, L, hG, _⟩ := HAT6.out
          have HLW := Lib.hid (lwhole_ok wr (HT5.out.on HBS.out HT5.out.room) hG HGO.out.1)
          clear hG
          go_wp2_with fail
          refine HLW.out.mono ?_
          rintro e w7 ⟨rfl, b7⟩
          have HB7 := Lib.hid (below_next HB6.out b7)
          have HAT7 := Lib.hid (HAT6.out.below b7)
          clear b7
          go_wp2_with fail
          go_roundw
          case rel => exact ⟨k + 1, F5, g', by omega, by simp, HB7.out, HAT7.out, HF5.out, HGO.out.1⟩
          case measure => simp [RowKit.intOf]; omega
    · have g1 : decide ((k : Int) < (ds.length : Int)) = false := by simp; omega
      have gm : decide (k < ds.length) = false := by simp; omega
      obtain ⟨hb, hc, L, hG, _⟩ := HAT.out
      have HLW := Lib.hid (lwhole_ok wr HTR.out hG HOK.out)
      clear hG
      go_wp2_with fail
      refine HLW.out.mono ?_
      rintro e w7 ⟨rfl, b7⟩
      have HB7 := Lib.hid (below_next HBR.out b7)
      clear b7
      go_wp2_with fail
      go_ret
      exact ⟨rfl, HB7.out⟩
theorem walk (x y : Int) (A : Option Addr) (len cap : Nat) (D : Option Addr) (len2 cap2 : Nat) (w : World) (h1 : IsCels w A len cap) (h2 : IsDeeds w D len2 cap2) (hT : Tabs w) :
    Calls Tryd.prog 4 #[.agg #[.int .i64 x, .int .i64 y], .slice A len cap, .slice D len2 cap2] w fun e w' => e = .returned (.bool true) ∧ Below w.heap.size w w' := by
  obtain ⟨l, rfl, _, hr⟩ := h1
  obtain ⟨ds, rfl, _, hd⟩ := h2
  exact core x y A cap l D cap2 ds w hr hd hT

theorem own : ownKnob Tryd.prog.godebug = none := by kernel_rfl
theorem laidOut : laidOutB Tryd.prog = true := by kernel_rfl

set_option maxRecDepth 100000 in
theorem lifted (os : Os) (started : os.Started) (H : Type) (enc : TypeId × Value → H) :
    ReturnsInHanded {} Tryd.checked os 4 .any (fun w args => (Rows.gridWholesSpec.pre enc Tryd.prog Tryd.f4 Rows.gridWholesRow.domain false w args ∧ laidMetH Tryd.prog Rows.gridWholesRow.laid w) ∧ sizedMet enc Tryd.prog Tryd.f4 (OpenSpec.ofChange Rows.gridWholesSpec) false w args)
      (Rows.gridWholesSpec.post enc Tryd.prog Tryd.f4 false true false false) := by
  refine returnsInHanded_of_change_and (C := Tryd.checked) (X := fun w _ => laidMetH Tryd.prog Rows.gridWholesRow.laid w) (fun _ _ _ hh h => h.of_heap hh) own started (by kernel_rfl) Tryd.func4
    (ChangeSpec.witness_shaped (enc := enc) (C := Tryd.checked) (os := os) (X := fun w _ => laidMetH Tryd.prog Rows.gridWholesRow.laid w) false (start9 os) #[.agg #[.int .i64 0, .int .i64 0], .slice none 0 0, .slice none 0 0] 8 rfl (World.shaped_of_RefB (by kernel_rfl) (by kernel_rfl)) (by kernel_rfl) (by kernel_rfl) (by kernel_rfl) (met_gridWholes os _)) ?_
  intro W base args ds gs before hval0 hW _ _ hL _
  have hval : ∀ (j : Nat) t v, Tryd.f4.params[j]? = some t → args[j]? = some v → Value.okWide Tryd.prog W .any base t v := hval0
  have hW' := hW
  obtain ⟨p, q, hA0, hV, rfl, hfz, hnd⟩ := hW
  have hA : DataW.TrodAll enc Tryd.prog W 0 (fun _ => true) true Tryd.f4.params.toList args.toList ds p := hA0
  rw [Tryd.params4] at hA hval
  obtain ⟨v0, vs0, d0, ds0, p0, q0, hargs, rfl, rfl, h0, r0⟩ := trodAll_cons hA
  obtain ⟨v1, vs1, d1, ds1, p1, q1, rfl, rfl, rfl, h1, r1⟩ := trodAll_cons r0
  obtain ⟨v2, vs2, d2, ds2, p2, q2, rfl, rfl, rfl, h2, r2⟩ := trodAll_cons r1
  obtain ⟨rfl, rfl, rfl⟩ := trodAll_nil r2
  obtain rfl : args = #[v0, v1, v2] := by cases args; simp_all
  obtain ⟨rfl, rfl⟩ := trodVars_none hV
  have k0 := h0
  have lt0 : ∀ x ∈ p0, x.block < W.heap.size := by obtain ⟨m, hm⟩ := k0; exact DataW.trod_lt m _ _ _ hm
  obtain ⟨a0, b0, rfl⟩ := open_two (hval 0 22 v0 rfl rfl) h0
  obtain ⟨a1, len1, cap1, rfl⟩ := okWide_slice Tryd.underlying23 (hval 1 23 v1 rfl rfl)
  have k1 := h1
  have lt1 : ∀ x ∈ p1, x.block < W.heap.size := by obtain ⟨m, hm⟩ := k1; exact DataW.trod_lt m _ _ _ hm
  have w1 : IsCels W a1 len1 cap1 := by
    obtain ⟨fuel, hf⟩ := h1
    exact cels_in hf
  obtain ⟨a2, len2, cap2, rfl⟩ := okWide_slice Tryd.underlying24 (hval 2 24 v2 rfl rfl)
  have k2 := h2
  have lt2 : ∀ x ∈ p2, x.block < W.heap.size := by obtain ⟨m, hm⟩ := k2; exact DataW.trod_lt m _ _ _ hm
  have w2 : IsDeeds W a2 len2 cap2 := by
    obtain ⟨fuel, hf⟩ := h2
    exact deeds_in hf
  clear hA0 hval0
  refine (walk a0 b0 a1 len1 cap1 a2 len2 cap2 W w1 w2 (tabs_gridWholes hL)).mono fun e W' ⟨he, bel⟩ => ?_
  subst he
  exact ⟨_, rfl, _, _, _, [], _, [], hW', trodAll_mk1 (shut_bool Tryd.underlying4 _), (trodAll_cons_mk (Below.trod laidOut (by kernel_rfl) (of_decide_eq_true (by kernel_rfl)) k0 bel lt0) (trodAll_cons_mk (Below.trod laidOut (by kernel_rfl) (of_decide_eq_true (by kernel_rfl)) k1 bel lt1) (trodAll_cons_mk (Below.trod laidOut (by kernel_rfl) (of_decide_eq_true (by kernel_rfl)) k2 bel lt2) trodAll_mk0))), rfl, bel.frame _, fun h => by cases h⟩

theorem over : Rows.gridWholesRow.holds Tryd.pinned (OpenSpec.ofChange Rows.gridWholesSpec) :=
  OpenClaim.holds_of_wide 4 Tryd.f4 rfl rfl rfl rfl rfl rfl rfl ⟨rfl, rfl, rfl, rfl, rfl⟩ rfl rfl rfl rfl rfl (by kernel_rfl) Tryd.func4 (by kernel_rfl)
    (of_decide_eq_true (by kernel_rfl)) (by unfold Func.isWrapper; first | (rw [if_pos (by decide +kernel)]; kernel_rfl) | (rw [if_neg (by decide +kernel)]; exact ⟨rfl, rfl⟩))
    (fun os started H enc _ => lifted os started H enc)

theorem cardOver : Rows.GridWholesCardSaid :=
  Claim7.holds_tied_plain_at .later [] [.data, .data, .pinned] true (true, "f146deda77bc3999c62c82da70115e9c71b62d2033ceffcf0b29ca91f6fa214a") false
    over (fun _ h => by cases h) (by kernel_rfl) (fun _ h => by cases h) gridWholes_row_tie rfl ⟨rfl, rfl⟩ (by kernel_rfl) rfl
    (fun f fn hf hfn => by
      obtain rfl : f = 4 := Option.some.inj ((show Tryd.prog.funcNamed Rows.gridWholesRow.func = some 4 by kernel_rfl).symm.trans hf) |>.symm
      obtain rfl : fn = Tryd.f4 := (Option.some.inj (Tryd.func4.symm.trans hfn)).symm
      exact ⟨by kernel_rfl, fun j t ht => by
        rw [Tryd.params4] at ht
        have hm : t ∈ [22, 23, 24] := by simpa using Array.mem_of_getElem? ht
        have hall : ([22, 23, 24].all fun u => !Tryd.prog.wantsStandIn u) = true := by kernel_rfl
        exact (show Tryd.prog.wantsStandIn t = false by simpa using List.all_eq_true.1 hall t hm)⟩)
    (by kernel_rfl)

end Go.Proofs.YtbpkklcegiiheaaDoor.gridWholes
namespace Go.Proofs.YtbpkklcegiiheaaDoor
theorem gridWholes_holds : Rows.GridWholesCardSaid := gridWholes.cardOver
end Go.Proofs.YtbpkklcegiiheaaDoor
