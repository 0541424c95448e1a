/-
  GridRuns: deed by deed a grid has the cells that the document says, and the lines go out that it says. For every size, line and deeds; the package's and the library's tables as the program's text lays them.
-/
import Derived.Test.YtbpkklcegiiheaaDoorDModU
import Derived.Test.YtbpkklcegiiheaaDoorDModV
import Derived.Test.YtbpkklcegiiheaaDoorDModX
import Derived.Test.YtbpkklcegiiheaaDoorDFitL
import Derived.Test.YtbpkklcegiiheaaDoorDWholeL
import Derived.Test.YtbpkklcegiiheaaDoorDCopy
import Derived.Test.YtbpkklcegiiheaaDoorDLawP
import Derived.Test.YtbpkklcegiiheaaDoorDCond
import Derived.Test.YtbpkklcegiiheaaDoorCards
import Derived.Test.YtbpkklcegiiheaaDoorTie
import Derived.OpenShut
import Derived.HandedFrom
import Derived.ChangeSame
import Derived.ChangeVars
import Derived.JoinedOf
import Derived.JoinedAt
namespace Go.Proofs.YtbpkklcegiiheaaDoor.gridRuns
open Go.ChangeShapes Go.WideShapes Go.ChangeAt Go.RowKit KM

theorem gdo_len {g : Gr} (h : g.Ok) (d : De) : (gdo g d).2.length ≤ 60 := by
  have h1 := h.len
  have h2 := h.h2
  unfold gdo gresize gup
  repeat' split
  all_goals simp
  all_goals omega
/-- The model's do, whatever the deed. -/
theorem mdo_ok (w : World) {N : Nat → Prop} {A : Option Addr} {g : Gr} (hok : g.Ok) (h : LinesAt w N A g.ls) (c : Nat) (hcap : g.ls.length ≤ c) (d : De) :
    Calls Tryd.prog 14 #[.slice A g.ls.length c, deV d] w (ModPost w N (gdo g d).1 (gdo g d).2) := by
  have hk := d.k_lt
  rcases (by omega : d.k = 0 ∨ d.k = 1 ∨ d.k = 2 ∨ d.k = 3 ∨ d.k = 4 ∨ d.k = 5 ∨ d.k = 6) with e | e | e | e | e | e | e
  · exact mdo_ok0 w hok h c hcap d e
  · exact mdo_ok1 w hok h c hcap d e
  · have := mdo_ok2 w hok h c hcap d e
    have h2 : gdo g d = gup g d.a d.b d.c (stame d.cel.sty) := by unfold gdo; simp [e]
    rw [h2]; exact this
  · have := mdo_ok3 w hok h c hcap d e
    have h2 : gdo g d = (gdown g d.a d.b d.c (stame d.cel.sty), []) := by unfold gdo; simp [e]
    rw [h2]; exact this
  · exact mdo_ok4 w hok h c hcap d e
  · exact mdo_ok5 w hok h c hcap d e
  · have := mdo_ok6 w hok h c hcap d e
    have h2 : gdo g d = gresize g d.a d.b d.c := by unfold gdo; simp [e]
    rw [h2]; exact this

set_option maxRecDepth 100000 in
set_option maxHeartbeats 4000000 in
theorem core (x y : Int) (A : Option Addr) (c : Nat) (l : List Cel) (D : Option Addr) (dc : Nat) (ds : List De) (w : World) (hr : celE.Row w w.heap.size A l) (hd : deE.Row w w.heap.size D ds) (hT : Tabs w) :
    Calls Tryd.prog 3 #[.agg #[.int .i64 x, .int .i64 y], .slice A l.length c, .slice D ds.length dc] w fun e w' => e = .returned (.bool true) ∧ Below w.heap.size w w' := by
  obtain ⟨w1, hw1⟩ : ∃ w1, w1 = w.alloc (.cells #[.int .i64 x, .int .i64 y] 22) := ⟨_, rfl⟩
  have hb1 : Below w.heap.size w w1 := by rw [hw1]; exact (Below.refl _ _).alloc (Nat.le_refl _) _
  have hc1 : TwoIn w1 w.heap.size x y := by rw [hw1]; exact TwoIn.fresh w x y
  have HC1 := Lib.hid hc1
  have HB1 := Lib.hid hb1
  have W1 := Lib.hid hw1
  have HR := Lib.hid hr
  have HD := Lib.hid hd
  have HT := Lib.hid hT
  have HFIT := Lib.hid (fit_ok w1 (hT.on hb1 hT.room))
  clear hw1 hb1 hc1 hr hd hT
  by_cases h1 : 2000 < l.length
  · have g : decide ((2000 : Int) < (l.length : Int)) = true := by simp; omega
    go_enter Tryd.func3, Tryd.ntmps3
    go_wp2_with fail
    rw [← W1.out]
    refine HFIT.out.mono ?_
    rintro e w2 ⟨rfl, b2⟩
    have HB2 := Lib.hid (below_next HB1.out b2)
    clear b2
    go_wp2_with fail
    go_ret
    exact ⟨rfl, HB2.out⟩
  by_cases h2 : 60 < ds.length
  · have g : decide ((2000 : Int) < (l.length : Int)) = false := by simp; omega
    have g' : decide ((60 : Int) < (ds.length : Int)) = true := by simp; omega
    go_enter Tryd.func3, Tryd.ntmps3
    go_wp2_with fail
    rw [← W1.out]
    refine HFIT.out.mono ?_
    rintro e w2 ⟨rfl, b2⟩
    have HB2 := Lib.hid (below_next HB1.out b2)
    clear b2
    go_wp2_with fail
    go_ret
    exact ⟨rfl, HB2.out⟩
  have g : decide ((2000 : Int) < (l.length : Int)) = false := by simp; omega
  have g' : decide ((60 : Int) < (ds.length : Int)) = false := by simp; omega
  have h31 := and31 x
  have h31' := and31 y
  obtain ⟨X, hX⟩ : ∃ X, X = x % 32 := ⟨_, rfl⟩
  obtain ⟨Y, hY⟩ : ∃ Y, Y = y % 32 := ⟨_, rfl⟩
  rw [← hX] at h31
  rw [← hY] at h31'
  have hX0 : 0 ≤ X ∧ X < 32 := by omega
  have hY0 : 0 ≤ Y ∧ Y < 32 := by omega
  have hwX : IntKind.i64.wrap (X + 1) = X + 1 := by rw [IntKind.wrap_i64]; omega
  have hwY : IntKind.i64.wrap (Y + 1) = Y + 1 := by rw [IntKind.wrap_i64]; omega
  clear hX hY
  go_enter Tryd.func3, Tryd.ntmps3
  go_wp2_with fail
  rw [← W1.out]
  refine HFIT.out.mono ?_
  rintro e w2 ⟨rfl, b2⟩
  obtain ⟨q0, q1⟩ := (HC1.out.below b2).cells
  have HB2 := Lib.hid (below_next HB1.out b2)
  have z2 := HB2.out.size
  clear b2
  go_wp2_with fail
  have hl2 : l.length ≤ 2000 := by omega
  refine (fill_ok w2 (HT.out.on HB2.out HT.out.room) (X + 1) (Y + 1) A c l ((HR.out.below HB2.out).mono z2) hl2).mono ?_
  rintro e w3 ⟨p, g0, rfl, ⟨⟨F0, hat0, hF0⟩, hb3⟩, hok0, -, -⟩
  have HF0 := Lib.hid (fun q (hq : q ∈ F0) => Nat.le_trans z2 (hF0 q hq))
  have HOK0 := Lib.hid hok0
  have HB3 := Lib.hid (below_next HB2.out hb3)
  have HT3 := Lib.hid (HT.out.on HB3.out HT.out.room)
  obtain ⟨hb0, hc0, L0, hG0, hfo0⟩ := hat0
  have HG3 := Lib.hid hG0
  have HFO := Lib.hid hfo0
  have HWH := Lib.hid (lwhole_ok w3 HT3.out hG0 hok0)
  clear hF0 hok0 hb3 q0 q1 hG0 hfo0 hwX hwY h31 h31' hX0 hY0
  go_wp2_with fail
  refine HWH.out.mono ?_
  rintro e w4 ⟨rfl, hb4⟩
  have HB4 := Lib.hid (below_next HB3.out hb4)
  have HAT4 := Lib.hid (show GridAt w4 F0 p g0 from ⟨hb0, hc0, L0, HG3.out.below hb4, HFO.out⟩)
  have HCP := Lib.hid (copy_ok w4 HAT4.out HOK0.out)
  clear hb4
  go_wp2_with fail
  refine HCP.out.mono ?_
  rintro e w5 ⟨p2, rfl, ⟨⟨F2, hat2, hF2⟩, hb5⟩⟩
  have HB5 := Lib.hid (below_next HB4.out hb5)
  have HAT5 := Lib.hid (HAT4.out.below hb5)
  obtain ⟨hb2, hc2, L2, hG2, hfo2⟩ := hat2
  have p22 := hG2.cell2
  have hL2 : L2.length = g0.ls.length := hG2.len
  rw [hL2] at p22
  have HCC := Lib.hid (show g0.ls.length ≤ hc2 by rw [← hL2]; exact hG2.hcap)
  have HLN := Lib.hid (hG2.linesAt.mono (N' := fun k => k ∉ F0) (fun k _ hk hm => by
    rw [← hfo2] at hk
    have := hF2 k hk
    have := HAT4.out.lt k hm
    omega))
  generalize hgl0 : g0.ls.length = gl0 at *
  have HGL0 := Lib.hid hgl0
  clear hF2 hb5 hG2 hfo2 hL2 hgl0
  go_wp2_with fail
  clear p22
  go_loopw [8, 43] (fun m j wr => ∃ (k : Nat) (F : List Nat) (g : Gr) (A : Option Addr) (c : Nat), k ≤ ds.length ∧ j = .int .i64 (k : Int) ∧ m = .slice A g.ls.length c ∧ g.ls.length ≤ c ∧ Below w.heap.size w wr ∧ GridAt wr F p g ∧ (∀ q ∈ F, w.heap.size ≤ q) ∧ g.Ok ∧ LinesAt wr (fun k => k ∉ F) A g.ls) (fun _ j _ => ds.length - (RowKit.intOf j).toNat)
  case atStart => exact ⟨0, F0, g0, some ⟨hb2, 0, none⟩, hc2, Nat.zero_le _, rfl, by rw [HGL0.out], by rw [HGL0.out]; exact HCC.out, HB5.out, HAT5.out, HF0.out, HOK0.out, HLN.out⟩
  case round =>
    obtain ⟨k, F, g, Am, cm, hk, rfl, hm, hcm, hbr, hat, hF, hok, hln⟩ := hrel
    have HBR := Lib.hid hbr
    have HAT := Lib.hid hat
    have HF := Lib.hid hF
    have HLT := Lib.hid hat.lt
    have HOK := Lib.hid hok
    have zr := hbr.size
    have HTR := Lib.hid (HT.out.on hbr HT.out.room)
    have HMD := Lib.hid (fun (v : World) (hv : Below wr.heap.size wr v) (d : De) => mdo_ok v hok (hln.below hv) cm hcm d)
    clear hbr hat hF hok hln hcm
    subst hm
    by_cases hlt : k < ds.length
    · have g1 : decide ((k : Int) < (ds.length : Int)) = true := by simp; omega
      have gm : decide (k < ds.length) = true := by simp; omega
      obtain ⟨b, off, rfl, _, q0, q1, q2, q3, q4, q5, q6, q7, q8, q9⟩ := de_at (HD.out.below HBR.out) hlt
      generalize hcd : ds[k] = cd at *
      obtain ⟨w4, hw4⟩ : ∃ w4, w4 = wr.alloc (.cells #[.int .i64 cd.kind, .int .i64 cd.a, .int .i64 cd.b, .int .i64 cd.c, .int .i32 cd.cel.rune, .bool cd.cel.sty.bold, .bool cd.cel.sty.under, .bool cd.cel.sty.turned, .int .i64 cd.cel.sty.fore, .int .i64 cd.cel.sty.back] 39) := ⟨_, rfl⟩
      have hb4 : Below wr.heap.size wr w4 := by rw [hw4]; exact (Below.refl _ _).alloc (Nat.le_refl _) _
      have hd4 : DeIn w4 wr.heap.size cd := by rw [hw4]; exact DeIn.fresh wr cd
      have hz4 : wr.heap.size < w4.heap.size := hd4.lt
      have W4 := Lib.hid hw4
      have HD4 := Lib.hid hd4
      have HMD4 := Lib.hid (HMD.out w4 hb4 cd)
      have HDO := Lib.hid (fun (v : World) (hv : Below wr.heap.size wr v) => do_ok v (HTR.out.on hv HTR.out.room) (HAT.out.below hv) HOK.out cd)
      have HBW4 := Lib.hid hb4
      have hgo := gdo_ok HOK.out cd
      have hgl := gdo_len HOK.out cd
      have hgw := HOK.out.w2
      generalize gdo g cd = R at *
      obtain ⟨g', ou⟩ := R
      simp only at hgo hgl
      have HGO := Lib.hid hgo
      clear hcd hw4 hb4 hd4 hgo HMD
      have hok' := HGO.out.1
      have hlen' := hok'.len
      have hh1' := hok'.h1
      have hh60' := hok'.h2
      have HOK' := Lib.hid hok'
      have HLEN' := Lib.hid hlen'
      clear hok' hlen'
      obtain ⟨kd, ea, eb, ec, ⟨r, ⟨bo, u, t', f, ba⟩⟩⟩ := cd
      simp only [deV] at *
      generalize hgln : g.ls.length = gln at *
      clear hgln
      go_upto_region 12 with fail
      rw [← W4.out]
      clear q0 q1 q2 q3 q4 q5 q6 q7 q8 q9
      obtain ⟨q0, q1, q2, q3, q4, q5, q6, q7, q8, q9⟩ := HD4.out.cells
      simp only at q0 q1 q2 q3 q4 q5 q6 q7 q8 q9
      go_wp2_with fail
      refine HMD4.out.mono ?_
      rintro e w5 ⟨A1, c1, A2, c2, rfl, hc1, hl1, hl2, hb5⟩
      have HC1' := Lib.hid hc1
      have HBW5 := Lib.hid (HBW4.out.trans (hb5.mono HBW4.out.size))
      have HD5 := Lib.hid (HD4.out.below hb5)
      have z45 := hb5.size
      obtain ⟨w6, hw6⟩ : ∃ w6, w6 = w5.drew := ⟨_, rfl⟩
      have hb6 : Below w5.heap.size w5 w6 := by rw [hw6]; exact (Below.refl _ _).drew
      have z56 := hb6.size
      have HBW6 := Lib.hid (HBW5.out.trans (hb6.mono HBW5.out.size))
      have HD6 := Lib.hid (HD5.out.below hb6)
      have hnF : ∀ k, k < w5.heap.size → (k ∉ F ∨ w4.heap.size ≤ k) → k ∉ F := fun k _ hn hm => by
        rcases hn with hn | hn
        · exact hn hm
        · have := HLT.out k hm; omega
      have HL1 := Lib.hid ((hl1.mono (N' := fun k => k ∉ F) hnF).below hb6)
      have HL2 := Lib.hid ((hl2.mono (N' := fun k => k ∉ F) hnF).below hb6)
      have W6 := Lib.hid hw6
      have HDO6 := Lib.hid (HDO.out w6 HBW6.out)
      clear hc1 hl1 hl2 hb5 hb6 hw6 hnF HDO q0 q1 q2 q3 q4 q5 q6 q7 q8 q9
      have hgl1 : 0 < g'.ls.length := by rw [HLEN'.out]; omega
      obtain ⟨b1, off1, A0, c0, hA1, hb1l, hh0, -, -⟩ := HL1.out.at_ (j := 0) hgl1
      have hw0 : (g'.ls[0]'hgl1).length = g'.w := (HGO.out.1.row _ (List.getElem_mem _)).len
      have hb1F : b1 ∉ F := by
        obtain ⟨b', off', e', _, hn', _⟩ := HL1.out hgl1
        rw [hA1] at e'
        simp only [Option.some.injEq, Addr.mk.injEq, and_true] at e'
        rw [e'.1]; exact hn'
      rw [hw0] at hh0
      have HB1F := Lib.hid hb1F
      have HB1L := Lib.hid hb1l
      have HH0 : Hid (w6.cell? ⟨b1, off1, none⟩ = some (.slice A0 g'.w c0)) := Lib.hid hh0
      obtain ⟨W1, hW1⟩ : ∃ W1, W1 = g'.w := ⟨_, rfl⟩
      have HW1 := Lib.hid hW1
      rw [← hW1] at HH0
      obtain ⟨gl1, hgl1'⟩ : ∃ n, n = g'.ls.length := ⟨_, rfl⟩
      have HGL1 := Lib.hid hgl1'
      have hgl60 : gl1 ≤ 60 := by rw [hgl1', HLEN'.out]; exact hh60'
      have hgl0 : 0 < gl1 := by omega
      have hgl0n : 0 < gl1 := hgl0
      clear hb1F hb1l hh0 hw0 hW1
      subst hA1
      have hS6 : (w6.cell? ⟨wr.heap.size, 0, none⟩ = some (.int .i64 kd) ∧ w6.cell? ⟨wr.heap.size, 1, none⟩ = some (.int .i64 ea) ∧ w6.cell? ⟨wr.heap.size, 2, none⟩ = some (.int .i64 eb) ∧ w6.cell? ⟨wr.heap.size, 3, none⟩ = some (.int .i64 ec) ∧ w6.cell? ⟨wr.heap.size, 4, none⟩ = some (.int .i32 r) ∧ w6.cell? ⟨wr.heap.size, 5, none⟩ = some (.bool bo) ∧ w6.cell? ⟨wr.heap.size, 6, none⟩ = some (.bool u) ∧ w6.cell? ⟨wr.heap.size, 7, none⟩ = some (.bool t') ∧ w6.cell? ⟨wr.heap.size, 8, none⟩ = some (.int .i64 f) ∧ w6.cell? ⟨wr.heap.size, 9, none⟩ = some (.int .i64 ba)) ∧ w6.cell? ⟨b1, off1, none⟩ = some (.slice A0 W1 c0) := ⟨HD6.out.cells, HH0.out⟩
      rw [← hgl1'] at HC1'
      simp only [← hgl1']
      clear hgl1 hgl1'
      go_upto_region 13 with fail
      refine wp_region_noPanic ?_
      refine wp_region_held_drew (S := fun v => (v.cell? ⟨wr.heap.size, 0, none⟩ = some (.int .i64 kd) ∧ v.cell? ⟨wr.heap.size, 1, none⟩ = some (.int .i64 ea) ∧ v.cell? ⟨wr.heap.size, 2, none⟩ = some (.int .i64 eb) ∧ v.cell? ⟨wr.heap.size, 3, none⟩ = some (.int .i64 ec) ∧ v.cell? ⟨wr.heap.size, 4, none⟩ = some (.int .i32 r) ∧ v.cell? ⟨wr.heap.size, 5, none⟩ = some (.bool bo) ∧ v.cell? ⟨wr.heap.size, 6, none⟩ = some (.bool u) ∧ v.cell? ⟨wr.heap.size, 7, none⟩ = some (.bool t') ∧ v.cell? ⟨wr.heap.size, 8, none⟩ = some (.int .i64 f) ∧ v.cell? ⟨wr.heap.size, 9, none⟩ = some (.int .i64 ba)) ∧ v.cell? ⟨b1, off1, none⟩ = some (.slice A0 W1 c0)) (by kernel_rfl) (by rw [← W6.out]; exact hS6) (fun hHeld => ?_)
      rw [← W6.out]
      refine wpAnyH_take (i := 0) (v := ?va0) rfl (by kernel_rfl) (by kernel_rfl) (by kernel_rfl) (fun _ _ _ h => h) (Or.inl ⟨by rfl, ?ha0⟩) (by assumption) ?_
      case ha0 => intro w hSw; (try dsimp only at hSw); go_simp; try with_reducible rfl
      simp only [List.getElem_toArray, List.getElem_cons_zero, Act.put, List.setIfInBounds_toArray, List.set_cons_zero, List.set_cons_succ]
      refine wpAnyH_take (i := 1) (v := ?va1) rfl (by kernel_rfl) (by kernel_rfl) (by kernel_rfl) (fun _ _ _ h => h) (Or.inl ⟨by rfl, ?ha1⟩) (by assumption) ?_
      case ha1 => intro w hSw; (try dsimp only at hSw); go_simp; try with_reducible rfl
      simp only [List.getElem_toArray, List.getElem_cons_succ, List.getElem_cons_zero, Act.put, List.setIfInBounds_toArray, List.set_cons_zero, List.set_cons_succ]
      refine wpAnyH_take (i := 3) (v := ?va3) rfl (by kernel_rfl) (by kernel_rfl) (by kernel_rfl) (fun _ _ _ h => h) (Or.inl ⟨by rfl, ?ha3⟩) (by assumption) ?_
      case ha3 => intro w hSw; (try dsimp only at hSw); go_simp; try with_reducible rfl
      simp only [List.getElem_toArray, List.getElem_cons_succ, List.getElem_cons_zero, Act.put, List.setIfInBounds_toArray, List.set_cons_zero, List.set_cons_succ]
      refine wpAnyH_ready (rs := [2]) (by kernel_rfl) (by simp) ?_
      refine AllReadyH.cons rfl (fun K hK => ?_) AllReadyH.nil
      go_simp
      refine HDO6.out.mono ?_
      rintro e w7 ⟨A7, c7, F7, rfl, hat7, hF7, hfr7, hout7, _⟩
      have z67 := hfr7.size
      have zw6 := HBW6.out.size
      have hqF : wr.heap.size ∉ F := fun hm => by have := HLT.out _ hm; omega
      have hS7 : (w7.cell? ⟨wr.heap.size, 0, none⟩ = some (.int .i64 kd) ∧ w7.cell? ⟨wr.heap.size, 1, none⟩ = some (.int .i64 ea) ∧ w7.cell? ⟨wr.heap.size, 2, none⟩ = some (.int .i64 eb) ∧ w7.cell? ⟨wr.heap.size, 3, none⟩ = some (.int .i64 ec) ∧ w7.cell? ⟨wr.heap.size, 4, none⟩ = some (.int .i32 r) ∧ w7.cell? ⟨wr.heap.size, 5, none⟩ = some (.bool bo) ∧ w7.cell? ⟨wr.heap.size, 6, none⟩ = some (.bool u) ∧ w7.cell? ⟨wr.heap.size, 7, none⟩ = some (.bool t') ∧ w7.cell? ⟨wr.heap.size, 8, none⟩ = some (.int .i64 f) ∧ w7.cell? ⟨wr.heap.size, 9, none⟩ = some (.int .i64 ba)) ∧ w7.cell? ⟨b1, off1, none⟩ = some (.slice A0 W1 c0) := by
        refine ⟨(HD6.out.keep (hfr7.block _ HD6.out.lt hqF)).cells, ?_⟩
        exact (World.cell?_of_block (w := w6) (a := ⟨b1, off1, none⟩) (hfr7.block b1 HB1L.out HB1F.out)).trans HH0.out
      have HS7 := Lib.hid hS7
      have hF7n : ∀ k, k < w6.heap.size → k ∉ F → k ∉ F ∧ k ∉ F7 := fun k hk hn => ⟨hn, fun hm => by
        rcases hF7 k hm with h | h
        · exact hn h
        · omega⟩
      have HL17 := Lib.hid ((HL1.out.mono (N' := fun k => k ∉ F ∧ k ∉ F7) hF7n).fr hfr7 (fun k _ hn => hn.1))
      have HL27 := Lib.hid ((HL2.out.mono (N' := fun k => k ∉ F ∧ k ∉ F7) hF7n).fr hfr7 (fun k _ hn => hn.1))
      have HAT7 := Lib.hid hat7
      have HO7 := Lib.hid hout7
      have HF7 := Lib.hid (fun q (hq : q ∈ F7) => show w.heap.size ≤ q from by
        rcases hF7 q hq with h | h
        · exact HF.out q h
        · omega)
      have HB7 := Lib.hid ((HBR.out.trans (HBW6.out.mono zr)).trans (hfr7.below (by omega) HF.out))
      have hso : ∀ l ∈ ou, l.length ≤ 1000 := fun l hl => by rw [(HGO.out.2 l hl).len]; omega
      have hsg : ∀ l ∈ g'.ls, l.length ≤ 1000 := HGO.out.1.short
      have hq1 := lequal_ok w7 ou ou A7 A2 c7 c2 HO7.out HL27.out hso hso (by omega) (by omega)
      rw [show decide (ou = ou) = true by simp] at hq1
      have HQ1 := Lib.hid hq1
      have HSG := Lib.hid hsg
      clear hat7 hF7 hfr7 hout7 hF7n hq1 hso hsg hqF
      dsimp only
      refine hK.out _ _ ?_ (fun hHeld => ?_)
      · exact hS7
      clear hK K
      refine wpAnyH_ready (rs := [4]) (by kernel_rfl) (by simp) ?_
      refine AllReadyH.cons rfl (fun K hK => ?_) AllReadyH.nil
      go_simp
      refine HQ1.out.mono ?_
      rintro e w8 ⟨rfl, k8⟩
      have HB78 := Lib.hid k8
      have hSB : ∀ v, Below w7.heap.size w7 v → (v.cell? ⟨wr.heap.size, 0, none⟩ = some (.int .i64 kd) ∧ v.cell? ⟨wr.heap.size, 1, none⟩ = some (.int .i64 ea) ∧ v.cell? ⟨wr.heap.size, 2, none⟩ = some (.int .i64 eb) ∧ v.cell? ⟨wr.heap.size, 3, none⟩ = some (.int .i64 ec) ∧ v.cell? ⟨wr.heap.size, 4, none⟩ = some (.int .i32 r) ∧ v.cell? ⟨wr.heap.size, 5, none⟩ = some (.bool bo) ∧ v.cell? ⟨wr.heap.size, 6, none⟩ = some (.bool u) ∧ v.cell? ⟨wr.heap.size, 7, none⟩ = some (.bool t') ∧ v.cell? ⟨wr.heap.size, 8, none⟩ = some (.int .i64 f) ∧ v.cell? ⟨wr.heap.size, 9, none⟩ = some (.int .i64 ba)) ∧ v.cell? ⟨b1, off1, none⟩ = some (.slice A0 W1 c0) := fun v hv => by
        have hq7 : wr.heap.size < w7.heap.size := by omega
        have hb17 : b1 < w7.heap.size := Nat.lt_of_lt_of_le HB1L.out z67
        obtain ⟨⟨s0, s1, s2, s3, s4, s5, s6, s7, s8, s9⟩, s10⟩ := HS7.out
        exact ⟨⟨(hv.cell (p := ⟨wr.heap.size, 0, none⟩) hq7).trans s0, (hv.cell (p := ⟨wr.heap.size, 1, none⟩) hq7).trans s1, (hv.cell (p := ⟨wr.heap.size, 2, none⟩) hq7).trans s2, (hv.cell (p := ⟨wr.heap.size, 3, none⟩) hq7).trans s3, (hv.cell (p := ⟨wr.heap.size, 4, none⟩) hq7).trans s4, (hv.cell (p := ⟨wr.heap.size, 5, none⟩) hq7).trans s5, (hv.cell (p := ⟨wr.heap.size, 6, none⟩) hq7).trans s6, (hv.cell (p := ⟨wr.heap.size, 7, none⟩) hq7).trans s7, (hv.cell (p := ⟨wr.heap.size, 8, none⟩) hq7).trans s8, (hv.cell (p := ⟨wr.heap.size, 9, none⟩) hq7).trans s9⟩, (hv.cell (p := ⟨b1, off1, none⟩) hb17).trans s10⟩
      have HSB := Lib.hid hSB
      have hS8 := HSB.out w8 k8
      obtain ⟨hb, hc, L, hG, hfo⟩ := HAT7.out.below k8
      have HG8 := Lib.hid hG
      have HFO8 := Lib.hid hfo
      have e2 := hG.cell2
      have hLl : L.length = gl1 := by rw [HGL1.out]; exact hG.len
      rw [hLl] at e2
      have HLL := Lib.hid hLl
      clear k8 hSB hG hfo hLl
      dsimp only
      refine hK.out _ _ ?_ (fun hHeld => ?_)
      · exact hS8
      clear hK K
      refine wpAnyH_take (i := 5) (v := ?vb5) rfl (by kernel_rfl) (by kernel_rfl) (by kernel_rfl) (fun _ _ _ h => h) (Or.inl ⟨by rfl, ?hb5⟩) (by assumption) ?_
      case hb5 => intro w hSw; (try dsimp only at hSw); go_simp; try with_reducible rfl
      simp only [List.getElem_toArray, List.getElem_cons_succ, List.getElem_cons_zero, Act.put, List.setIfInBounds_toArray, List.set_cons_zero, List.set_cons_succ]
      refine wpAnyH_take (i := 6) (v := ?vb6) rfl (by kernel_rfl) (by kernel_rfl) (by kernel_rfl) (fun _ _ _ h => h) (Or.inl ⟨by rfl, ?hb6⟩) (by assumption) ?_
      case hb6 => intro w hSw; (try dsimp only at hSw); go_simp; try with_reducible rfl
      simp only [List.getElem_toArray, List.getElem_cons_succ, List.getElem_cons_zero, Act.put, List.setIfInBounds_toArray, List.set_cons_zero, List.set_cons_succ]
      refine wpAnyH_take (i := 7) (v := ?vb7) rfl (by kernel_rfl) (by kernel_rfl) (by kernel_rfl) (fun _ _ _ h => h) (Or.inl ⟨by rfl, ?hb7⟩) (by assumption) ?_
      case hb7 => intro w hSw; (try dsimp only at hSw); go_simp; try with_reducible rfl
      simp only [List.getElem_toArray, List.getElem_cons_succ, List.getElem_cons_zero, Act.put, List.setIfInBounds_toArray, List.set_cons_zero, List.set_cons_succ]
      refine wpAnyH_take (i := 8) (v := ?vb8) rfl (by kernel_rfl) (by kernel_rfl) (by kernel_rfl) (fun _ _ _ h => h) (Or.inl ⟨by rfl, ?hb8⟩) (by assumption) ?_
      case hb8 => intro w hSw; (try dsimp only at hSw); go_simp; try with_reducible rfl
      simp only [List.getElem_toArray, List.getElem_cons_succ, List.getElem_cons_zero, Act.put, List.setIfInBounds_toArray, List.set_cons_zero, List.set_cons_succ]
      refine wpAnyH_take (i := 9) (v := ?vb9) rfl (by kernel_rfl) (by kernel_rfl) (by kernel_rfl) (fun _ _ _ h => h) (Or.inl ⟨by rfl, ?hb9⟩) (by assumption) ?_
      case hb9 => intro w hSw; (try dsimp only at hSw); go_simp; try with_reducible rfl
      simp only [List.getElem_toArray, List.getElem_cons_succ, List.getElem_cons_zero, Act.put, List.setIfInBounds_toArray, List.set_cons_zero, List.set_cons_succ]
      refine wpAnyH_take (i := 11) (v := ?vb11) rfl (by kernel_rfl) (by kernel_rfl) (by kernel_rfl) (fun _ _ _ h => h) (Or.inl ⟨by rfl, ?hb11⟩) (by assumption) ?_
      case hb11 => intro w hSw; (try dsimp only at hSw); go_simp; try with_reducible rfl
      simp only [List.getElem_toArray, List.getElem_cons_succ, List.getElem_cons_zero, Act.put, List.setIfInBounds_toArray, List.set_cons_zero, List.set_cons_succ]
      refine wpAnyH_ready (rs := [10]) (by kernel_rfl) (by simp) ?_
      refine AllReadyH.cons rfl (fun K hK => ?_) AllReadyH.nil
      go_simp
      refine hK.out _ _ ?_ (fun hHeld => ?_)
      · exact hS8
      clear hK K
      have hq2 := lequal_ok w8 g'.ls g'.ls (some ⟨hb, 0, none⟩) (some ⟨b1, off1, none⟩) hc c1 HG8.out.linesAt (HL17.out.below HB78.out) HSG.out HSG.out (by rw [← HGL1.out]; omega) (by rw [← HGL1.out]; omega)
      rw [show decide (g'.ls = g'.ls) = true by simp, ← HGL1.out] at hq2
      have HQ2 := Lib.hid hq2
      clear hq2 e2
      refine wpAnyH_ready (rs := [12]) (by kernel_rfl) (by simp) ?_
      refine AllReadyH.cons rfl (fun K hK => ?_) AllReadyH.nil
      go_simp
      refine HQ2.out.mono ?_
      rintro e w9 ⟨rfl, k9⟩
      have HB79 := Lib.hid (below_next HB78.out k9)
      have HG9 := Lib.hid (HG8.out.below k9)
      have hS9 := HSB.out w9 HB79.out
      have e0 : w9.cell? ⟨p, 0, none⟩ = some (.int .i64 (W1 : Int)) := by rw [HW1.out]; exact HG9.out.cell0
      have e1 : w9.cell? ⟨p, 1, none⟩ = some (.int .i64 (gl1 : Int)) := by rw [HGL1.out, HLEN'.out]; exact HG9.out.cell1
      clear k9
      dsimp only
      refine hK.out _ _ ?_ (fun hHeld => ?_)
      · exact hS9
      clear hK K
      refine wpAnyH_take (i := 13) (v := ?vc13) rfl (by kernel_rfl) (by kernel_rfl) (by kernel_rfl) (fun _ _ _ h => h) (Or.inl ⟨by rfl, ?hc13⟩) (by assumption) ?_
      case hc13 => intro w hSw; (try dsimp only at hSw); go_simp; try with_reducible rfl
      simp only [List.getElem_toArray, List.getElem_cons_succ, List.getElem_cons_zero, Act.put, List.setIfInBounds_toArray, List.set_cons_zero, List.set_cons_succ]
      refine wpAnyH_take (i := 14) (v := ?vc14) rfl (by kernel_rfl) (by kernel_rfl) (by kernel_rfl) (fun _ _ _ h => h) (Or.inl ⟨by rfl, ?hc14⟩) (by assumption) ?_
      case hc14 => intro w hSw; (try dsimp only at hSw); go_simp; try with_reducible rfl
      simp only [List.getElem_toArray, List.getElem_cons_succ, List.getElem_cons_zero, Act.put, List.setIfInBounds_toArray, List.set_cons_zero, List.set_cons_succ]
      refine wpAnyH_take (i := 15) (v := ?vc15) rfl (by kernel_rfl) (by kernel_rfl) (by kernel_rfl) (fun _ _ _ h => h) (Or.inl ⟨by rfl, ?hc15⟩) (by assumption) ?_
      case hc15 => intro w hSw; (try dsimp only at hSw); go_simp; try with_reducible rfl
      simp only [List.getElem_toArray, List.getElem_cons_succ, List.getElem_cons_zero, Act.put, List.setIfInBounds_toArray, List.set_cons_zero, List.set_cons_succ]
      refine wpAnyH_take (i := 16) (v := ?vc16) rfl (by kernel_rfl) (by kernel_rfl) (by kernel_rfl) (fun _ _ _ h => h) (Or.inl ⟨by rfl, ?hc16⟩) (by assumption) ?_
      case hc16 => intro w hSw; (try dsimp only at hSw); go_simp; try with_reducible rfl
      simp only [List.getElem_toArray, List.getElem_cons_succ, List.getElem_cons_zero, Act.put, List.setIfInBounds_toArray, List.set_cons_zero, List.set_cons_succ]
      refine wpAnyH_take (i := 17) (v := ?vc17) rfl (by kernel_rfl) (by kernel_rfl) (by kernel_rfl) (fun _ _ _ h => h) (Or.inl ⟨by rfl, ?hc17⟩) (by assumption) ?_
      case hc17 => intro w hSw; (try dsimp only at hSw); go_simp; try with_reducible rfl
      simp only [List.getElem_toArray, List.getElem_cons_succ, List.getElem_cons_zero, Act.put, List.setIfInBounds_toArray, List.set_cons_zero, List.set_cons_succ]
      refine wpAnyH_take (i := 18) (v := ?vc18) rfl (by kernel_rfl) (by kernel_rfl) (by kernel_rfl) (fun _ _ _ h => h) (Or.inl ⟨by rfl, ?hc18⟩) (by assumption) ?_
      case hc18 => intro w hSw; (try dsimp only at hSw); go_simp; try with_reducible rfl
      simp only [List.getElem_toArray, List.getElem_cons_succ, List.getElem_cons_zero, Act.put, List.setIfInBounds_toArray, List.set_cons_zero, List.set_cons_succ]
      refine wpAnyH_take (i := 20) (v := ?vc20) rfl (by kernel_rfl) (by kernel_rfl) (by kernel_rfl) (fun _ _ _ h => h) (Or.inl ⟨by rfl, ?hc20⟩) (by assumption) ?_
      case hc20 => intro w hSw; (try dsimp only at hSw); go_simp; try with_reducible rfl
      simp only [List.getElem_toArray, List.getElem_cons_succ, List.getElem_cons_zero, Act.put, List.setIfInBounds_toArray, List.set_cons_zero, List.set_cons_succ]
      refine wpAnyH_take (i := 21) (v := ?vc21) rfl (by kernel_rfl) (by kernel_rfl) (by kernel_rfl) (fun _ _ _ h => h) (Or.inl ⟨by rfl, ?hc21⟩) (by assumption) ?_
      case hc21 => intro w hSw; (try dsimp only at hSw); go_simp; try with_reducible rfl
      simp only [List.getElem_toArray, List.getElem_cons_succ, List.getElem_cons_zero, Act.put, List.setIfInBounds_toArray, List.set_cons_zero, List.set_cons_succ]
      refine wpAnyH_take (i := 22) (v := ?vc22) rfl (by kernel_rfl) (by kernel_rfl) (by kernel_rfl) (fun _ _ _ h => h) (Or.inl ⟨by rfl, ?hc22⟩) (by assumption) ?_
      case hc22 => intro w hSw; (try dsimp only at hSw); go_simp; try with_reducible rfl
      simp only [List.getElem_toArray, List.getElem_cons_succ, List.getElem_cons_zero, Act.put, List.setIfInBounds_toArray, List.set_cons_zero, List.set_cons_succ]
      refine wpAnyH_take (i := 23) (v := ?vc23) rfl (by kernel_rfl) (by kernel_rfl) (by kernel_rfl) (fun _ _ _ h => h) (Or.inl ⟨by rfl, ?hc23⟩) (by assumption) ?_
      case hc23 => intro w hSw; (try dsimp only at hSw); go_simp; try with_reducible rfl
      simp only [List.getElem_toArray, List.getElem_cons_succ, List.getElem_cons_zero, Act.put, List.setIfInBounds_toArray, List.set_cons_zero, List.set_cons_succ]
      refine wpAnyH_ready (rs := [19]) (by kernel_rfl) (by simp) ?_
      refine AllReadyH.cons rfl (fun K hK => ?_) AllReadyH.nil
      go_simp
      refine hK.out _ _ ?_ (fun hHeld => ?_)
      · exact hS9
      clear hK K
      refine wpAnyH_take (i := 24) (v := ?vd24) rfl (by kernel_rfl) (by kernel_rfl) (by kernel_rfl) (fun _ _ _ h => h) (Or.inl ⟨by rfl, ?hd24⟩) (by assumption) ?_
      case hd24 => intro w hSw; (try dsimp only at hSw); go_simp; try with_reducible rfl
      simp only [List.getElem_toArray, List.getElem_cons_succ, List.getElem_cons_zero, Act.put, List.setIfInBounds_toArray, List.set_cons_zero, List.set_cons_succ]
      refine wpAnyH_take (i := 25) (v := ?vd25) rfl (by kernel_rfl) (by kernel_rfl) (by kernel_rfl) (fun _ _ _ h => h) (Or.inl ⟨by rfl, ?hd25⟩) (by assumption) ?_
      case hd25 => intro w hSw; (try dsimp only at hSw); go_simp; try with_reducible rfl
      simp only [List.getElem_toArray, List.getElem_cons_succ, List.getElem_cons_zero, Act.put, List.setIfInBounds_toArray, List.set_cons_zero, List.set_cons_succ]
      refine wpAnyH_take (i := 26) (v := ?vd26) rfl (by kernel_rfl) (by kernel_rfl) (by kernel_rfl) (fun _ _ _ h => h) (Or.inl ⟨by rfl, ?hd26⟩) (by assumption) ?_
      case hd26 => intro w hSw; (try dsimp only at hSw); go_simp; try with_reducible rfl
      simp only [List.getElem_toArray, List.getElem_cons_succ, List.getElem_cons_zero, Act.put, List.setIfInBounds_toArray, List.set_cons_zero, List.set_cons_succ]
      refine wpAnyH_take (i := 27) (v := ?vd27) rfl (by kernel_rfl) (by kernel_rfl) (by kernel_rfl) (fun _ _ _ h => h) (Or.inl ⟨by rfl, ?hd27⟩) (by assumption) ?_
      case hd27 => intro w hSw; (try dsimp only at hSw); go_simp; try with_reducible rfl
      simp only [List.getElem_toArray, List.getElem_cons_succ, List.getElem_cons_zero, Act.put, List.setIfInBounds_toArray, List.set_cons_zero, List.set_cons_succ]
      refine wpAnyH_take (i := 28) (v := ?vd28) rfl (by kernel_rfl) (by kernel_rfl) (by kernel_rfl) (fun _ _ _ h => h) (Or.inl ⟨by rfl, ?hd28⟩) (by assumption) ?_
      case hd28 => intro w hSw; (try dsimp only at hSw); go_simp; try with_reducible rfl
      simp only [List.getElem_toArray, List.getElem_cons_succ, List.getElem_cons_zero, Act.put, List.setIfInBounds_toArray, List.set_cons_zero, List.set_cons_succ]
      refine wpAnyH_take (i := 29) (v := ?vd29) rfl (by kernel_rfl) (by kernel_rfl) (by kernel_rfl) (fun _ _ _ h => h) (Or.inl ⟨by rfl, ?hd29⟩) (by assumption) ?_
      case hd29 => intro w hSw; (try dsimp only at hSw); go_simp; try with_reducible rfl
      simp only [List.getElem_toArray, List.getElem_cons_succ, List.getElem_cons_zero, Act.put, List.setIfInBounds_toArray, List.set_cons_zero, List.set_cons_succ]
      refine wpAnyH_take (i := 31) (v := ?vd31) rfl (by kernel_rfl) (by kernel_rfl) (by kernel_rfl) (fun _ _ _ h => h) (Or.inl ⟨by rfl, ?hd31⟩) (by assumption) ?_
      case hd31 => intro w hSw; (try dsimp only at hSw); go_simp; try with_reducible rfl
      simp only [List.getElem_toArray, List.getElem_cons_succ, List.getElem_cons_zero, Act.put, List.setIfInBounds_toArray, List.set_cons_zero, List.set_cons_succ]
      refine wpAnyH_take (i := 32) (v := ?vd32) rfl (by kernel_rfl) (by kernel_rfl) (by kernel_rfl) (fun _ _ _ h => h) (Or.inl ⟨by rfl, ?hd32⟩) (by assumption) ?_
      case hd32 => intro w hSw; (try dsimp only at hSw); go_simp; try with_reducible rfl
      simp only [List.getElem_toArray, List.getElem_cons_succ, List.getElem_cons_zero, Act.put, List.setIfInBounds_toArray, List.set_cons_zero, List.set_cons_succ]
      refine wpAnyH_ready (rs := [30]) (by kernel_rfl) (by simp) ?_
      refine AllReadyH.cons rfl (fun K hK => ?_) AllReadyH.nil
      go_simp
      refine hK.out _ _ ?_ (fun hHeld => ?_)
      · exact hS9
      clear hK K
      refine wpAnyH_take (i := 33) (v := ?ve33) rfl (by kernel_rfl) (by kernel_rfl) (by kernel_rfl) (fun _ _ _ h => h) (Or.inl ⟨by rfl, ?he33⟩) (by assumption) ?_
      case he33 => intro w hSw; (try dsimp only at hSw); go_simp; try with_reducible rfl
      simp only [List.getElem_toArray, List.getElem_cons_succ, List.getElem_cons_zero, Act.put, List.setIfInBounds_toArray, List.set_cons_zero, List.set_cons_succ]
      refine wpAnyH_take (i := 34) (v := ?ve34) rfl (by kernel_rfl) (by kernel_rfl) (by kernel_rfl) (fun _ _ _ h => h) (Or.inl ⟨by rfl, ?he34⟩) (by assumption) ?_
      case he34 => intro w hSw; (try dsimp only at hSw); go_simp; try with_reducible rfl
      simp only [List.getElem_toArray, List.getElem_cons_succ, List.getElem_cons_zero, Act.put, List.setIfInBounds_toArray, List.set_cons_zero, List.set_cons_succ]
      refine wpAnyH_done (by kernel_rfl) ?_ _
      refine NoPanic.normal ?_
      clear hHeld hS6 hS7 hS8 hS9 e0 e1
      have HB9 := Lib.hid (HB7.out.trans (HB79.out.mono HB7.out.size))
      have HL9 := Lib.hid ((HL17.out.below HB79.out).mono (N' := fun k => k ∉ F7) (fun k _ hn => hn.2))
      go_wp2_with fail
      go_roundw
      case rel => exact ⟨k + 1, F7, g', some ⟨b1, off1, none⟩, c1, by omega, by simp, by rw [HGL1.out], by rw [← HGL1.out]; exact HC1'.out, HB9.out, ⟨hb, hc, L, HG9.out, HFO8.out⟩, HF7.out, HGO.out.1, HL9.out⟩
      case measure => simp [RowKit.intOf]; omega
    · have g1 : decide ((k : Int) < (ds.length : Int)) = false := by simp; omega
      have gm : decide (k < ds.length) = false := by simp; omega
      go_wp2_with fail
      go_ret
      exact ⟨rfl, HBR.out⟩
theorem walk (x y : Int) (A : Option Addr) (len cap : Nat) (D : Option Addr) (len2 cap2 : Nat) (w : World) (h1 : IsCels w A len cap) (h2 : IsDeeds w D len2 cap2) (hT : Tabs w) :
    Calls Tryd.prog 3 #[.agg #[.int .i64 x, .int .i64 y], .slice A len cap, .slice D len2 cap2] w fun e w' => e = .returned (.bool true) ∧ Below w.heap.size w w' := by
  obtain ⟨l, rfl, _, hr⟩ := h1
  obtain ⟨ds, rfl, _, hd⟩ := h2
  exact core x y A cap l D cap2 ds w hr hd hT

theorem own : ownKnob Tryd.prog.godebug = none := by kernel_rfl
theorem laidOut : laidOutB Tryd.prog = true := by kernel_rfl

set_option maxRecDepth 100000 in
theorem lifted (os : Os) (started : os.Started) (H : Type) (enc : TypeId × Value → H) :
    ReturnsInHanded {} Tryd.checked os 3 .any (fun w args => (Rows.gridRunsSpec.pre enc Tryd.prog Tryd.f3 Rows.gridRunsRow.domain false w args ∧ laidMetH Tryd.prog Rows.gridRunsRow.laid w) ∧ sizedMet enc Tryd.prog Tryd.f3 (OpenSpec.ofChange Rows.gridRunsSpec) false w args)
      (Rows.gridRunsSpec.post enc Tryd.prog Tryd.f3 false true false false) := by
  refine returnsInHanded_of_change_and (C := Tryd.checked) (X := fun w _ => laidMetH Tryd.prog Rows.gridRunsRow.laid w) (fun _ _ _ hh h => h.of_heap hh) own started (by kernel_rfl) Tryd.func3
    (ChangeSpec.witness_shaped (enc := enc) (C := Tryd.checked) (os := os) (X := fun w _ => laidMetH Tryd.prog Rows.gridRunsRow.laid w) false (start9 os) #[.agg #[.int .i64 0, .int .i64 0], .slice none 0 0, .slice none 0 0] 8 rfl (World.shaped_of_RefB (by kernel_rfl) (by kernel_rfl)) (by kernel_rfl) (by kernel_rfl) (by kernel_rfl) (met_gridRuns os _)) ?_
  intro W base args ds gs before hval0 hW _ _ hL _
  have hval : ∀ (j : Nat) t v, Tryd.f3.params[j]? = some t → args[j]? = some v → Value.okWide Tryd.prog W .any base t v := hval0
  have hW' := hW
  obtain ⟨p, q, hA0, hV, rfl, hfz, hnd⟩ := hW
  have hA : DataW.TrodAll enc Tryd.prog W 0 (fun _ => true) true Tryd.f3.params.toList args.toList ds p := hA0
  rw [Tryd.params3] at hA hval
  obtain ⟨v0, vs0, d0, ds0, p0, q0, hargs, rfl, rfl, h0, r0⟩ := trodAll_cons hA
  obtain ⟨v1, vs1, d1, ds1, p1, q1, rfl, rfl, rfl, h1, r1⟩ := trodAll_cons r0
  obtain ⟨v2, vs2, d2, ds2, p2, q2, rfl, rfl, rfl, h2, r2⟩ := trodAll_cons r1
  obtain ⟨rfl, rfl, rfl⟩ := trodAll_nil r2
  obtain rfl : args = #[v0, v1, v2] := by cases args; simp_all
  obtain ⟨rfl, rfl⟩ := trodVars_none hV
  have k0 := h0
  have lt0 : ∀ x ∈ p0, x.block < W.heap.size := by obtain ⟨m, hm⟩ := k0; exact DataW.trod_lt m _ _ _ hm
  obtain ⟨a0, b0, rfl⟩ := open_two (hval 0 22 v0 rfl rfl) h0
  obtain ⟨a1, len1, cap1, rfl⟩ := okWide_slice Tryd.underlying23 (hval 1 23 v1 rfl rfl)
  have k1 := h1
  have lt1 : ∀ x ∈ p1, x.block < W.heap.size := by obtain ⟨m, hm⟩ := k1; exact DataW.trod_lt m _ _ _ hm
  have w1 : IsCels W a1 len1 cap1 := by
    obtain ⟨fuel, hf⟩ := h1
    exact cels_in hf
  obtain ⟨a2, len2, cap2, rfl⟩ := okWide_slice Tryd.underlying24 (hval 2 24 v2 rfl rfl)
  have k2 := h2
  have lt2 : ∀ x ∈ p2, x.block < W.heap.size := by obtain ⟨m, hm⟩ := k2; exact DataW.trod_lt m _ _ _ hm
  have w2 : IsDeeds W a2 len2 cap2 := by
    obtain ⟨fuel, hf⟩ := h2
    exact deeds_in hf
  clear hA0 hval0
  refine (walk a0 b0 a1 len1 cap1 a2 len2 cap2 W w1 w2 (tabs_gridRuns hL)).mono fun e W' ⟨he, bel⟩ => ?_
  subst he
  exact ⟨_, rfl, _, _, _, [], _, [], hW', trodAll_mk1 (shut_bool Tryd.underlying4 _), (trodAll_cons_mk (Below.trod laidOut (by kernel_rfl) (of_decide_eq_true (by kernel_rfl)) k0 bel lt0) (trodAll_cons_mk (Below.trod laidOut (by kernel_rfl) (of_decide_eq_true (by kernel_rfl)) k1 bel lt1) (trodAll_cons_mk (Below.trod laidOut (by kernel_rfl) (of_decide_eq_true (by kernel_rfl)) k2 bel lt2) trodAll_mk0))), rfl, bel.frame _, fun h => by cases h⟩

theorem over : Rows.gridRunsRow.holds Tryd.pinned (OpenSpec.ofChange Rows.gridRunsSpec) :=
  OpenClaim.holds_of_wide 3 Tryd.f3 rfl rfl rfl rfl rfl rfl rfl ⟨rfl, rfl, rfl, rfl, rfl⟩ rfl rfl rfl rfl rfl (by kernel_rfl) Tryd.func3 (by kernel_rfl)
    (of_decide_eq_true (by kernel_rfl)) (by unfold Func.isWrapper; first | (rw [if_pos (by decide +kernel)]; kernel_rfl) | (rw [if_neg (by decide +kernel)]; exact ⟨rfl, rfl⟩))
    (fun os started H enc _ => lifted os started H enc)

theorem cardOver : Rows.GridRunsCardSaid :=
  Claim7.holds_tied_plain_at .later [] [.data, .data, .pinned] true (true, "f146deda77bc3999c62c82da70115e9c71b62d2033ceffcf0b29ca91f6fa214a") false
    over (fun _ h => by cases h) (by kernel_rfl) (fun _ h => by cases h) gridRuns_row_tie rfl ⟨rfl, rfl⟩ (by kernel_rfl) rfl
    (fun f fn hf hfn => by
      obtain rfl : f = 3 := Option.some.inj ((show Tryd.prog.funcNamed Rows.gridRunsRow.func = some 3 by kernel_rfl).symm.trans hf) |>.symm
      obtain rfl : fn = Tryd.f3 := (Option.some.inj (Tryd.func3.symm.trans hfn)).symm
      exact ⟨by kernel_rfl, fun j t ht => by
        rw [Tryd.params3] at ht
        have hm : t ∈ [22, 23, 24] := by simpa using Array.mem_of_getElem? ht
        have hall : ([22, 23, 24].all fun u => !Tryd.prog.wantsStandIn u) = true := by kernel_rfl
        exact (show Tryd.prog.wantsStandIn t = false by simpa using List.all_eq_true.1 hall t hm)⟩)
    (by kernel_rfl)

end Go.Proofs.YtbpkklcegiiheaaDoor.gridRuns
namespace Go.Proofs.YtbpkklcegiiheaaDoor
theorem gridRuns_holds : Rows.GridRunsCardSaid := gridRuns.cardOver
end Go.Proofs.YtbpkklcegiiheaaDoor
