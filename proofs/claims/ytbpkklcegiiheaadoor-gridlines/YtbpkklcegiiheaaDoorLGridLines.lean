/-
  GridLines: lines that go up and then down again leave all lines outside as they were. For every size, line and numbers; the package's and the library's tables as the program's text lays them.
-/
import Derived.Test.YtbpkklcegiiheaaDoorDLinesM
import Derived.Deep.QuietTactic
import Derived.BigQuiet
import Derived.Test.YtbpkklcegiiheaaDoorKTame
import Derived.Test.YtbpkklcegiiheaaDoorKSame
import Derived.Test.YtbpkklcegiiheaaDoorDCond
import Derived.Test.YtbpkklcegiiheaaDoorCards
import Derived.Test.YtbpkklcegiiheaaDoorTie
import Derived.OpenShut
import Derived.HandedFrom
import Derived.ChangeSame
import Derived.ChangeVars
import Derived.JoinedOf
import Derived.JoinedAt
namespace Go.Proofs.YtbpkklcegiiheaaDoor.gridLines
open Go.ChangeShapes Go.WideShapes Go.ChangeAt Go.RowKit KM

set_option maxRecDepth 100000 in
set_option maxHeartbeats 4000000 in
theorem core (x y : Int) (A : Option Addr) (c : Nat) (l : List Cel) (n0 n1 n2 : Int) (w : World) (hr : celE.Row w w.heap.size A l) (hT : Tabs w) :
    Calls Tryd.prog 5 #[.agg #[.int .i64 x, .int .i64 y], .slice A l.length c, .agg #[.int .i64 n0, .int .i64 n1, .int .i64 n2]] w fun e w' => e = .returned (.bool true) ∧ Below w.heap.size w w' := by
  obtain ⟨w0, hw0⟩ : ∃ w0, w0 = w.alloc (.cells #[.int .i64 x, .int .i64 y] 22) := ⟨_, rfl⟩
  have hb0 : Below w.heap.size w w0 := by rw [hw0]; exact (Below.refl _ _).alloc (Nat.le_refl _) _
  have hc0 : TwoIn w0 w.heap.size x y := by rw [hw0]; exact TwoIn.fresh w x y
  obtain ⟨w1, hw1⟩ : ∃ w1, w1 = w0.alloc (.cells #[.int .i64 n0, .int .i64 n1, .int .i64 n2] 46) := ⟨_, rfl⟩
  have hb01 : Below w0.heap.size w0 w1 := by rw [hw1]; exact (Below.refl _ _).alloc (Nat.le_refl _) _
  have z0 : w0.heap.size = w.heap.size + 1 := by rw [hw0]; simp
  have hd1 : ThreeIn w1 (w.heap.size + 1) n0 n1 n2 := by rw [← z0, hw1]; exact ThreeIn.fresh w0 n0 n1 n2
  have hb1 := below_next hb0 hb01
  have HC1 := Lib.hid (hc0.below hb01)
  have HD1 := Lib.hid hd1
  have HB1 := Lib.hid hb1
  have W0 := Lib.hid hw0
  have W1 := Lib.hid hw1
  have HR := Lib.hid hr
  have HT := Lib.hid hT
  have HFIT := Lib.hid (fit_ok w1 (hT.on hb1 hT.room))
  clear hw0 hb0 hc0 hw1 hb01 hd1 hb1 hr hT z0
  by_cases h1 : 2000 < l.length
  · have g : decide ((2000 : Int) < (l.length : Int)) = true := by simp; omega
    go_enter Tryd.func5, Tryd.ntmps5
    go_wp2_with fail
    rw [← W0.out, ← W1.out]
    refine HFIT.out.mono ?_
    rintro e w2 ⟨rfl, b2⟩
    have HB2 := Lib.hid (below_next HB1.out b2)
    clear b2
    go_wp2_with fail
    go_ret
    exact ⟨rfl, HB2.out⟩
  have g : decide ((2000 : Int) < (l.length : Int)) = false := by simp; omega
  have h31 := and31 x
  have h31' := and31 y
  obtain ⟨X, hX⟩ : ∃ X, X = x % 32 := ⟨_, rfl⟩
  obtain ⟨Y, hY⟩ : ∃ Y, Y = y % 32 := ⟨_, rfl⟩
  rw [← hX] at h31
  rw [← hY] at h31'
  have hX0 : 0 ≤ X ∧ X < 32 := by omega
  have hY0 : 0 ≤ Y ∧ Y < 32 := by omega
  have hwX : IntKind.i64.wrap (X + 1) = X + 1 := by rw [IntKind.wrap_i64]; omega
  have hwY : IntKind.i64.wrap (Y + 1) = Y + 1 := by rw [IntKind.wrap_i64]; omega
  have hbs := fun w => build_zstyle w
  clear hX hY
  go_enter Tryd.func5, Tryd.ntmps5
  go_wp2_with fail
  rw [← W0.out, ← W1.out]
  refine HFIT.out.mono ?_
  rintro e w2 ⟨rfl, b2⟩
  obtain ⟨q0, q1⟩ := (HC1.out.below b2).cells
  have HD2 := Lib.hid (HD1.out.below b2)
  have HB2 := Lib.hid (below_next HB1.out b2)
  have z2 := HB2.out.size
  have z2' : w.heap.size + 1 < w2.heap.size := HD2.out.lt
  clear b2
  go_wp2_with fail
  have hl2 : l.length ≤ 2000 := by omega
  refine (fill_ok w2 (HT.out.on HB2.out HT.out.room) (X + 1) (Y + 1) A c l ((HR.out.below HB2.out).mono z2) hl2).mono ?_
  rintro e w3 ⟨p, g0, rfl, ⟨⟨F0, hat0, hF0⟩, hb3⟩, hok0, -, -⟩
  have HF0 := Lib.hid hF0
  have HOK0 := Lib.hid hok0
  have HD3 := Lib.hid (HD2.out.below hb3)
  have HB3 := Lib.hid (below_next HB2.out hb3)
  have z23 := hb3.size
  have HCP := Lib.hid (copy_ok w3 hat0 hok0)
  have HAT3 := Lib.hid hat0
  have HL3 := Lib.hid hat0.lt
  obtain ⟨TT, EE, NN, hTT, hEE, hNN, hTH, hEH, hTNH, hout, hg2⟩ := lines_math hok0 n0 n1 n2
  obtain ⟨H, hH⟩ : ∃ H, H = g0.h := ⟨_, rfl⟩
  have hH60 : H ≤ 60 := by rw [hH]; exact hok0.h2
  rw [← hH] at hTT hEE hTH hEH hTNH
  have HH := Lib.hid hH
  have HOUT := Lib.hid hout
  have HG2 := Lib.hid hg2
  clear hat0 hF0 hok0 hb3 q0 q1 hH hout hg2
  go_wp2_with fail
  refine HCP.out.mono ?_
  rintro e w4 ⟨p2, rfl, ⟨⟨F2, hat2, hF2⟩, hb4⟩⟩
  have HF2 := Lib.hid hF2
  have HAT42 := Lib.hid hat2
  have HL4 := Lib.hid hat2.lt
  have HAT4 := Lib.hid (HAT3.out.below hb4)
  have HD4 := Lib.hid (HD3.out.below hb4)
  have HB4 := Lib.hid (below_next HB3.out hb4)
  have z34 := hb4.size
  clear hat2 hF2 hb4
  obtain ⟨q0, q1, q2⟩ := HD4.out.cells
  have p1 : w4.cell? ⟨p, 1, none⟩ = some (.int .i64 (H : Int)) := by
    obtain ⟨hb, hc, L, hG, _⟩ := HAT4.out
    rw [HH.out]; exact hG.cell1
  have HWA : Hid (∀ v, Calls Tryd.prog 18 #[.int .i64 n0, .int .i64 0, .int .i64 (H : Int)] v fun e w' => e = .returned (.int .i64 (TT : Int)) ∧ w' = v) := Lib.hid (fun v => by have := within_ok v n0 0 H; rwa [hTT] at this)
  have HWB : Hid (∀ v, Calls Tryd.prog 18 #[.int .i64 n1, .int .i64 0, .int .i64 (H : Int)] v fun e w' => e = .returned (.int .i64 (EE : Int)) ∧ w' = v) := Lib.hid (fun v => by have := within_ok v n1 0 H; rwa [hEE] at this)
  obtain ⟨ET, hET⟩ : ∃ z, z = (EE : Int) - (TT : Int) := ⟨_, rfl⟩
  have HWC : Hid (∀ v, Calls Tryd.prog 18 #[.int .i64 n2, .int .i64 0, .int .i64 (max ET 0)] v fun e w' => e = .returned (.int .i64 (NN : Int)) ∧ w' = v) := Lib.hid (fun v => by have := within_ok v n2 0 (max ((EE : Int) - (TT : Int)) 0); rw [hNN] at this; rw [hET]; exact this)
  have hsub : (EE : Int) - (TT : Int) = ET := hET.symm
  have hwET : IntKind.i64.wrap ET = ET := by rw [IntKind.wrap_i64]; omega
  clear hTT hEE hNN hET
  go_upto_region 7 with fail
  go_quiet (first | (go_at_call 18; exact Calls.quiet_of_same (HWA.out _)) | (go_at_call 18; exact Calls.quiet_of_same (HWB.out _)))
  clear q0 q1 q2 p1
  go_upto_region 8 with fail
  generalize hw5 : w4.drewN _ = w5
  have hb45 : Below w4.heap.size w4 w5 := by rw [← hw5]; exact below_drewN (Below.refl _ _) _
  have z45 := hb45.size
  have HAT52 := Lib.hid (HAT42.out.below hb45)
  have HAT5 := Lib.hid (HAT4.out.below hb45)
  have HD5 := Lib.hid (HD4.out.below hb45)
  have HB5 := Lib.hid (below_next HB4.out hb45)
  clear hw5 hb45
  obtain ⟨q0, q1, q2⟩ := HD5.out.cells
  go_wp2_with fail
  refine (HWC.out w5).mono ?_
  rintro e w6 ⟨rfl, hw6⟩
  rw [hw6]
  clear hw6 w6
  have HUP := Lib.hid (up_ok w5 HAT5.out HOK0.out n0 n1 n2 zero)
  have hok1 := (gup_ok HOK0.out n0 n1 n2 (s := zero) rfl).1
  have hwh := gup_w (g := g0) n0 n1 n2 zero
  have hout := HOUT.out
  have hg2 := HG2.out
  generalize gup g0 n0 n1 n2 zero = R at *
  obtain ⟨g1, out⟩ := R
  simp only at hok1 hwh hout hg2
  have HOK1 := Lib.hid hok1
  have HGL := Lib.hid hg2
  have HGW := Lib.hid hwh
  have hOL : out.length = NN := by rw [hout, List.length_take, List.length_drop, HOK0.out.len, ← HH.out]; omega
  have HOL := Lib.hid hOL
  have HOE := Lib.hid hout
  simp only [styV, zero] at HUP
  clear HOUT HG2 hok1 hwh hg2 hout hOL
  go_wp2_with fail
  refine HUP.out.mono ?_
  rintro e w6 ⟨A6, c6, F1, rfl, hat6, hF1, hfr6, hout6, _⟩
  have z56 := hfr6.size
  have hF0w : ∀ k ∈ F0, w.heap.size ≤ k := fun k hk => by have := HF0.out k hk; omega
  have HB6 := Lib.hid (HB5.out.trans (hfr6.below HB5.out.size hF0w))
  have HF1 := Lib.hid (fun k (hk : k ∈ F1) => show w2.heap.size ≤ k ∧ (k < w3.heap.size ∨ w5.heap.size ≤ k) from by
    rcases hF1 k hk with h | h
    · exact ⟨HF0.out k h, .inl (HL3.out k h)⟩
    · exact ⟨by have := HB2.out.size; omega, .inr h⟩)
  have HAT62 := Lib.hid (HAT52.out.fr hfr6 (fun k hk hm => by have := HF2.out k hk; have := HL3.out k hm; omega))
  have HD6 := Lib.hid (HD5.out.keep (hfr6.block _ HD5.out.lt (fun hm => by have := HF0.out _ hm; omega)))
  have HAT6 := Lib.hid hat6
  have HOUT6 := Lib.hid hout6
  have HDN := Lib.hid (down_ok w6 hat6 HOK1.out n0 n1 n2 zero)
  have hok2 := gdown_ok HOK1.out n0 n1 n2 (s := zero) rfl
  have hwh2 : (gdown g1 n0 n1 n2 zero).h = g0.h := by rw [← HGW.out.2]; unfold gdown; split <;> rfl
  have hgl := HGL.out
  generalize gdown g1 n0 n1 n2 zero = g2 at *
  have HOK2 := Lib.hid hok2
  have HGH2 := Lib.hid hwh2
  have HGL2 := Lib.hid hgl
  simp only [styV, zero] at HDN
  rw [HOL.out]
  clear hat6 hF1 hfr6 hout6 hok2 hwh2 hgl HGL q0 q1 q2 hF0w
  obtain ⟨q0, q1, q2⟩ := HD6.out.cells
  go_wp2_with fail
  refine HDN.out.mono ?_
  rintro e w7 ⟨rfl, ⟨⟨F3, hat7, hF3⟩, hfr7⟩⟩
  have z67 := hfr7.size
  have hF1w : ∀ k ∈ F1, w.heap.size ≤ k := fun k hk => by have := HF1.out k hk; omega
  have HB7 := Lib.hid (HB6.out.trans (hfr7.below HB6.out.size hF1w))
  have HAT72 := Lib.hid (HAT62.out.fr hfr7 (fun k hk hm => by have := HF2.out k hk; have := HL4.out k hk; have := (HF1.out k hm).2; omega))
  have HOUT7 := Lib.hid (HOUT6.out.fr hfr7 (fun k _ hk => hk))
  have HAT7 := Lib.hid hat7
  have HT7 := Lib.hid (HT.out.on HB7.out HT.out.room)
  clear hat7 hF3 hfr7 hF1w q0 q1 q2
  obtain ⟨hb, hc, L, hG, _⟩ := HAT7.out
  obtain ⟨hb2, hc2, L2, hG2, _⟩ := HAT72.out
  have HG := Lib.hid hG
  have HGB := Lib.hid hG2
  have hlL : L.length = H := by rw [hG.len, HOK2.out.len, HGH2.out, HH.out]
  have hlL2 : L2.length = H := by rw [hG2.len, HOK0.out.len, HH.out]
  have HLL := Lib.hid hlL
  have HLL2 := Lib.hid hlL2
  have p1 : w7.cell? ⟨p, 1, none⟩ = some (.int .i64 (H : Int)) := by rw [HH.out, ← HGH2.out]; exact hG.cell1
  clear hG hG2 hlL hlL2
  go_wp2_with fail
  clear p1
  go_loopw [13, 78] (fun _ v wr => ∃ i : Nat, i ≤ H ∧ v = .int .i64 (i : Int) ∧ Below w7.heap.size w7 wr) (fun _ v _ => H - (RowKit.intOf v).toNat)
  case atStart => exact ⟨0, Nat.zero_le _, rfl, Below.refl _ _⟩
  case round =>
    obtain ⟨i, hi, rfl, hbr⟩ := hrel
    have HBR := Lib.hid hbr
    clear hbr
    by_cases hlt : i < H
    · have g1' : decide ((i : Int) < (H : Int)) = true := by simp; omega
      have gm : decide (i < H) = true := by simp; omega
      have hrow2 : i < L2.length := by rw [HLL2.out]; exact hlt
      have hrow : i < L.length := by rw [HLL.out]; exact hlt
      have hln := lines_at HOK0.out (by rw [← HH.out]; exact hTNH) HGL2.out (i := i) (by rw [← HH.out]; exact hlt)
      have HLN := Lib.hid hln
      have hgl2 : (g0.line i).length ≤ 60 := by rw [(HOK0.out.line (y := i) (by rw [← HH.out]; exact hlt)).len]; exact HOK0.out.w2
      have HI : (i : Int) < (H : Int) := by omega
      have hwT : IntKind.i64.wrap ((TT : Int) + (NN : Int)) = ((TT + NN : Nat) : Int) := by rw [IntKind.wrap_i64]; omega
      obtain ⟨wd, hwd⟩ : ∃ wd, wd = wr.drew := ⟨_, rfl⟩
      have hbd : Below wr.heap.size wr wd := by rw [hwd]; exact (Below.refl _ _).drew
      have HBD := Lib.hid (HBR.out.trans (hbd.mono HBR.out.size))
      have HG8 := Lib.hid (HG.out.below HBD.out)
      have HGB8 := Lib.hid (HGB.out.below HBD.out)
      have WD := Lib.hid hwd
      have e2 := HGB8.out.cell2
      have eh := HGB8.out.hcell' hrow2
      have er := HGB8.out.rowR hrow2
      rw [HLL2.out] at e2
      have ER := Lib.hid er
      clear hln hwd hbd er
      generalize L2[i].b = lb2 at *
      generalize L2[i].c = lc2 at *
      by_cases hin : TT ≤ i ∧ i < TT + NN
      · have gd2 : decide ((TT : Int) ≤ (i : Int)) = true := by simp; omega
        have gd3 : decide ((i : Int) < ((TT + NN : Nat) : Int)) = true := by simp; omega
        have g2n : decide (TT ≤ i) = true := by simp; omega
        have g3n : decide (i < TT + NN) = true := by simp; omega
        obtain ⟨j, hj⟩ : ∃ j, j = i - TT := ⟨_, rfl⟩
        have hjN : j < NN := by omega
        have hjI : (j : Int) < (NN : Int) := by omega
        have hsj : (i : Int) - (TT : Int) = (j : Int) := by omega
        have hwj : IntKind.i64.wrap (j : Int) = (j : Int) := by rw [IntKind.wrap_i64]; omega
        obtain ⟨bo, oo, ao, co, hA6, _, d0, r0, _⟩ := (HOUT7.out.below HBD.out).at_ (j := j) (by rw [HOL.out]; exact hjN)
        have hoj : out[j]'(by rw [HOL.out]; exact hjN) = g0.line i := by
          have h1 : out[j]? = g0.ls[i]? := by
            rw [HOE.out, List.getElem?_take, if_pos hjN, List.getElem?_drop, show TT + j = i by omega]
          have h2 : i < g0.ls.length := by rw [HOK0.out.len, ← HH.out]; exact hlt
          rw [List.getElem?_eq_getElem (by rw [HOL.out]; exact hjN), List.getElem?_eq_getElem h2] at h1
          rw [Gr_line_eq h2]
          exact Option.some.inj h1
        rw [hoj] at d0 r0
        have RO := Lib.hid r0
        have htx : gtext g2 i = [] := by
          unfold gtext
          rw [if_pos ((Gr.there_iff g2 0 i).2 ⟨⟨by omega, by have := HOK2.out.w1; omega⟩, by omega, by rw [HGH2.out, ← HH.out]; exact HI⟩), Int.toNat_natCast, HLN.out, if_pos hin, text_blanks]
        have HTX := Lib.hid (text_ok wd HG8.out HOK2.out i)
        rw [htx] at HTX
        have HSA := Lib.hid (fun (v : World) (hv : Below wd.heap.size wd v) => show Calls Tryd.prog 22 #[.slice ao (g0.line i).length co, .slice (some ⟨lb2, 0, none⟩) (g0.line i).length lc2] v fun e w' => e = .returned (.bool true) ∧ Below v.heap.size v w' from by
          have := same_ok v (g0.line i) (g0.line i) ao (some ⟨lb2, 0, none⟩) co lc2 v.heap.size ((RO.out.below hv).mono hv.size) ((ER.out.below hv).mono hv.size) (Nat.le_refl _) (by omega) (by omega)
          rwa [show decide (g0.line i = g0.line i) = true by simp] at this)
        subst hA6
        generalize (g0.line i).length = rl at *
        have hbo := World.block_lt_of_cell? wd _ d0
        have hpl2 : p2 < wd.heap.size := HGB8.out.lt p2 (by simp [foot])
        have hhl2 : hb2 < wd.heap.size := HGB8.out.lt hb2 (by simp [foot])
        have HSK := Lib.hid (fun (v : World) (hv : Below wd.heap.size wd v) => show v.cell? ⟨bo, oo + j, none⟩ = some (.slice ao rl co) ∧ v.cell? ⟨p2, 2, none⟩ = some (.slice (some ⟨hb2, 0, none⟩) H hc2) ∧ v.cell? ⟨hb2, i, none⟩ = some (.slice (some ⟨lb2, 0, none⟩) rl lc2) from ⟨(hv.cell (p := ⟨bo, oo + j, none⟩) hbo).trans d0, (hv.cell (p := ⟨p2, 2, none⟩) hpl2).trans e2, (hv.cell (p := ⟨hb2, i, none⟩) hhl2).trans eh⟩)
        have hSd := HSK.out wd (Below.refl _ _)
        clear hj hoj r0 htx d0 e2 eh
        go_upto_region 17 with fail
        refine wp_region_noPanic ?_
        refine wp_region_held_drew (S := fun v => v.cell? ⟨bo, oo + j, none⟩ = some (.slice ao rl co) ∧ v.cell? ⟨p2, 2, none⟩ = some (.slice (some ⟨hb2, 0, none⟩) H hc2) ∧ v.cell? ⟨hb2, i, none⟩ = some (.slice (some ⟨lb2, 0, none⟩) rl lc2)) (by kernel_rfl) (by rw [← WD.out]; exact hSd) (fun hHeld => ?_)
        rw [← WD.out]
        refine wpAnyH_take (i := 0) (v := ?vt0) rfl (by kernel_rfl) (by kernel_rfl) (by kernel_rfl) (fun _ _ _ h => h) (Or.inl ⟨by rfl, ?ht0⟩) (by assumption) ?_
        case ht0 => intro w hSw; (try dsimp only at hSw); go_simp; try with_reducible rfl
        simp only [List.getElem_toArray, List.getElem_cons_zero, Act.put, List.setIfInBounds_toArray, List.set_cons_zero, List.set_cons_succ]
        refine wpAnyH_take (i := 1) (v := ?vt1) rfl (by kernel_rfl) (by kernel_rfl) (by kernel_rfl) (fun _ _ _ h => h) (Or.inl ⟨by rfl, ?ht1⟩) (by assumption) ?_
        case ht1 => intro w hSw; (try dsimp only at hSw); go_simp; try with_reducible rfl
        simp only [List.getElem_toArray, List.getElem_cons_succ, List.getElem_cons_zero, Act.put, List.setIfInBounds_toArray, List.set_cons_zero, List.set_cons_succ]
        refine wpAnyH_ready (rs := [2]) (by kernel_rfl) (by simp) ?_
        refine AllReadyH.cons rfl (fun K hK => ?_) AllReadyH.nil
        go_simp
        refine HTX.out.mono ?_
        rintro e v1 ⟨rfl, k1⟩
        have K1 := Lib.hid k1
        have hS1 := HSK.out v1 k1
        clear k1
        dsimp only
        refine hK.out _ _ ?_ (fun hHeld => ?_)
        · exact hS1
        clear hK K
        refine wpAnyH_take (i := 3) (v := ?vu3) rfl (by kernel_rfl) (by kernel_rfl) (by kernel_rfl) (fun _ _ _ h => h) (Or.inl ⟨by rfl, ?hu3⟩) (by assumption) ?_
        case hu3 => intro w hSw; (try dsimp only at hSw); go_simp; try with_reducible rfl
        simp only [List.getElem_toArray, List.getElem_cons_succ, List.getElem_cons_zero, Act.put, List.setIfInBounds_toArray, List.set_cons_zero, List.set_cons_succ]
        refine wpAnyH_take (i := 4) (v := ?vu4) rfl (by kernel_rfl) (by kernel_rfl) (by kernel_rfl) (fun _ _ _ h => h) (Or.inl ⟨by rfl, ?hu4⟩) (by assumption) ?_
        case hu4 => intro w hSw; (try dsimp only at hSw); go_simp; try with_reducible rfl
        simp only [List.getElem_toArray, List.getElem_cons_succ, List.getElem_cons_zero, Act.put, List.setIfInBounds_toArray, List.set_cons_zero, List.set_cons_succ]
        refine wpAnyH_take (i := 5) (v := ?vu5) rfl (by kernel_rfl) (by kernel_rfl) (by kernel_rfl) (fun _ _ _ h => h) (Or.inl ⟨by rfl, ?hu5⟩) (by assumption) ?_
        case hu5 => intro w hSw; (try dsimp only at hSw); go_simp; try with_reducible rfl
        simp only [List.getElem_toArray, List.getElem_cons_succ, List.getElem_cons_zero, Act.put, List.setIfInBounds_toArray, List.set_cons_zero, List.set_cons_succ]
        refine wpAnyH_take (i := 6) (v := ?vu6) rfl (by kernel_rfl) (by kernel_rfl) (by kernel_rfl) (fun _ _ _ h => h) (Or.inl ⟨by rfl, ?hu6⟩) (by assumption) ?_
        case hu6 => intro w hSw; (try dsimp only at hSw); go_simp; try with_reducible rfl
        simp only [List.getElem_toArray, List.getElem_cons_succ, List.getElem_cons_zero, Act.put, List.setIfInBounds_toArray, List.set_cons_zero, List.set_cons_succ]
        refine wpAnyH_take (i := 7) (v := ?vu7) rfl (by kernel_rfl) (by kernel_rfl) (by kernel_rfl) (fun _ _ _ h => h) (Or.inl ⟨by rfl, ?hu7⟩) (by assumption) ?_
        case hu7 => intro w hSw; (try dsimp only at hSw); go_simp; try with_reducible rfl
        simp only [List.getElem_toArray, List.getElem_cons_succ, List.getElem_cons_zero, Act.put, List.setIfInBounds_toArray, List.set_cons_zero, List.set_cons_succ]
        refine wpAnyH_take (i := 8) (v := ?vu8) rfl (by kernel_rfl) (by kernel_rfl) (by kernel_rfl) (fun _ _ _ h => h) (Or.inl ⟨by rfl, ?hu8⟩) (by assumption) ?_
        case hu8 => intro w hSw; (try dsimp only at hSw); go_simp; try with_reducible rfl
        simp only [List.getElem_toArray, List.getElem_cons_succ, List.getElem_cons_zero, Act.put, List.setIfInBounds_toArray, List.set_cons_zero, List.set_cons_succ]
        refine wpAnyH_take (i := 9) (v := ?vu9) rfl (by kernel_rfl) (by kernel_rfl) (by kernel_rfl) (fun _ _ _ h => h) (Or.inl ⟨by rfl, ?hu9⟩) (by assumption) ?_
        case hu9 => intro w hSw; (try dsimp only at hSw); go_simp; try with_reducible rfl
        simp only [List.getElem_toArray, List.getElem_cons_succ, List.getElem_cons_zero, Act.put, List.setIfInBounds_toArray, List.set_cons_zero, List.set_cons_succ]
        refine wpAnyH_take (i := 10) (v := ?vu10) rfl (by kernel_rfl) (by kernel_rfl) (by kernel_rfl) (fun _ _ _ h => h) (Or.inl ⟨by rfl, ?hu10⟩) (by assumption) ?_
        case hu10 => intro w hSw; (try dsimp only at hSw); go_simp; try with_reducible rfl
        simp only [List.getElem_toArray, List.getElem_cons_succ, List.getElem_cons_zero, Act.put, List.setIfInBounds_toArray, List.set_cons_zero, List.set_cons_succ]
        refine wpAnyH_take (i := 11) (v := ?vu11) rfl (by kernel_rfl) (by kernel_rfl) (by kernel_rfl) (fun _ _ _ h => h) (Or.inl ⟨by rfl, ?hu11⟩) (by assumption) ?_
        case hu11 => intro w hSw; (try dsimp only at hSw); go_simp; try with_reducible rfl
        simp only [List.getElem_toArray, List.getElem_cons_succ, List.getElem_cons_zero, Act.put, List.setIfInBounds_toArray, List.set_cons_zero, List.set_cons_succ]
        refine wpAnyH_take (i := 12) (v := ?vu12) rfl (by kernel_rfl) (by kernel_rfl) (by kernel_rfl) (fun _ _ _ h => h) (Or.inl ⟨by rfl, ?hu12⟩) (by assumption) ?_
        case hu12 => intro w hSw; (try dsimp only at hSw); go_simp; try with_reducible rfl
        simp only [List.getElem_toArray, List.getElem_cons_succ, List.getElem_cons_zero, Act.put, List.setIfInBounds_toArray, List.set_cons_zero, List.set_cons_succ]
        refine wpAnyH_take (i := 13) (v := ?vu13) rfl (by kernel_rfl) (by kernel_rfl) (by kernel_rfl) (fun _ _ _ h => h) (Or.inl ⟨by rfl, ?hu13⟩) (by assumption) ?_
        case hu13 => intro w hSw; (try dsimp only at hSw); go_simp; try with_reducible rfl
        simp only [List.getElem_toArray, List.getElem_cons_succ, List.getElem_cons_zero, Act.put, List.setIfInBounds_toArray, List.set_cons_zero, List.set_cons_succ]
        refine wpAnyH_take (i := 14) (v := ?vu14) rfl (by kernel_rfl) (by kernel_rfl) (by kernel_rfl) (fun _ _ _ h => h) (Or.inl ⟨by rfl, ?hu14⟩) (by assumption) ?_
        case hu14 => intro w hSw; (try dsimp only at hSw); go_simp; try with_reducible rfl
        simp only [List.getElem_toArray, List.getElem_cons_succ, List.getElem_cons_zero, Act.put, List.setIfInBounds_toArray, List.set_cons_zero, List.set_cons_succ]
        refine wpAnyH_take (i := 15) (v := ?vu15) rfl (by kernel_rfl) (by kernel_rfl) (by kernel_rfl) (fun _ _ _ h => h) (Or.inl ⟨by rfl, ?hu15⟩) (by assumption) ?_
        case hu15 => intro w hSw; (try dsimp only at hSw); go_simp; try with_reducible rfl
        simp only [List.getElem_toArray, List.getElem_cons_succ, List.getElem_cons_zero, Act.put, List.setIfInBounds_toArray, List.set_cons_zero, List.set_cons_succ]
        refine wpAnyH_take (i := 16) (v := ?vu16) rfl (by kernel_rfl) (by kernel_rfl) (by kernel_rfl) (fun _ _ _ h => h) (Or.inl ⟨by rfl, ?hu16⟩) (by assumption) ?_
        case hu16 => intro w hSw; (try dsimp only at hSw); go_simp; try with_reducible rfl
        simp only [List.getElem_toArray, List.getElem_cons_succ, List.getElem_cons_zero, Act.put, List.setIfInBounds_toArray, List.set_cons_zero, List.set_cons_succ]
        refine wpAnyH_take (i := 17) (v := ?vu17) rfl (by kernel_rfl) (by kernel_rfl) (by kernel_rfl) (fun _ _ _ h => h) (Or.inl ⟨by rfl, ?hu17⟩) (by assumption) ?_
        case hu17 => intro w hSw; (try dsimp only at hSw); go_simp; try with_reducible rfl
        simp only [List.getElem_toArray, List.getElem_cons_succ, List.getElem_cons_zero, Act.put, List.setIfInBounds_toArray, List.set_cons_zero, List.set_cons_succ]
        refine wpAnyH_ready (rs := [18]) (by kernel_rfl) (by simp) ?_
        refine AllReadyH.cons rfl (fun K hK => ?_) AllReadyH.nil
        go_simp
        refine (HSA.out v1 K1.out).mono ?_
        rintro e v2 ⟨rfl, k2⟩
        have K2 := Lib.hid (below_next K1.out k2)
        have hS2 := HSK.out v2 K2.out
        clear k2
        dsimp only
        refine hK.out _ _ ?_ (fun hHeld => ?_)
        · exact hS2
        clear hK K
        refine wpAnyH_take (i := 19) (v := ?vv19) rfl (by kernel_rfl) (by kernel_rfl) (by kernel_rfl) (fun _ _ _ h => h) (Or.inl ⟨by rfl, ?hv19⟩) (by assumption) ?_
        case hv19 => intro w hSw; (try dsimp only at hSw); go_simp; try with_reducible rfl
        simp only [List.getElem_toArray, List.getElem_cons_succ, List.getElem_cons_zero, Act.put, List.setIfInBounds_toArray, List.set_cons_zero, List.set_cons_succ]
        refine wpAnyH_take (i := 20) (v := ?vv20) rfl (by kernel_rfl) (by kernel_rfl) (by kernel_rfl) (fun _ _ _ h => h) (Or.inl ⟨by rfl, ?hv20⟩) (by assumption) ?_
        case hv20 => intro w hSw; (try dsimp only at hSw); go_simp; try with_reducible rfl
        simp only [List.getElem_toArray, List.getElem_cons_succ, List.getElem_cons_zero, Act.put, List.setIfInBounds_toArray, List.set_cons_zero, List.set_cons_succ]
        refine wpAnyH_done (by kernel_rfl) ?_ _
        refine NoPanic.normal ?_
        clear hHeld hSd hS1 hS2
        go_wp2_with fail
        go_roundw
        case rel => exact ⟨i + 1, by omega, by simp, HBD.out.trans (K2.out.mono HBD.out.size)⟩
        case measure => simp [RowKit.intOf]; omega
      · have HLN2 : Hid (g2.line i = g0.line i) := Lib.hid (by rw [HLN.out, if_neg hin])
        have f2 := HG8.out.cell2
        have fh := HG8.out.hcell' hrow
        have fr := HG8.out.rowR hrow
        rw [HLL.out] at f2
        rw [HLN2.out] at fh fr
        have FR := Lib.hid fr
        generalize L[i].b = lb at *
        generalize L[i].c = lc at *
        have HSA := Lib.hid (fun (v : World) (hv : Below wd.heap.size wd v) => show Calls Tryd.prog 22 #[.slice (some ⟨lb, 0, none⟩) (g0.line i).length lc, .slice (some ⟨lb2, 0, none⟩) (g0.line i).length lc2] v fun e w' => e = .returned (.bool true) ∧ Below v.heap.size v w' from by
          have := same_ok v (g0.line i) (g0.line i) (some ⟨lb, 0, none⟩) (some ⟨lb2, 0, none⟩) lc lc2 v.heap.size ((FR.out.below hv).mono hv.size) ((ER.out.below hv).mono hv.size) (Nat.le_refl _) (by omega) (by omega)
          rwa [show decide (g0.line i = g0.line i) = true by simp] at this)
        generalize (g0.line i).length = rl at *
        have hpl2 : p2 < wd.heap.size := HGB8.out.lt p2 (by simp [foot])
        have hhl2 : hb2 < wd.heap.size := HGB8.out.lt hb2 (by simp [foot])
        have hpl : p < wd.heap.size := HG8.out.lt p (by simp [foot])
        have hhl : hb < wd.heap.size := HG8.out.lt hb (by simp [foot])
        have HSK := Lib.hid (fun (v : World) (hv : Below wd.heap.size wd v) => show v.cell? ⟨p, 2, none⟩ = some (.slice (some ⟨hb, 0, none⟩) H hc) ∧ v.cell? ⟨hb, i, none⟩ = some (.slice (some ⟨lb, 0, none⟩) rl lc) ∧ v.cell? ⟨p2, 2, none⟩ = some (.slice (some ⟨hb2, 0, none⟩) H hc2) ∧ v.cell? ⟨hb2, i, none⟩ = some (.slice (some ⟨lb2, 0, none⟩) rl lc2) from ⟨(hv.cell (p := ⟨p, 2, none⟩) hpl).trans f2, (hv.cell (p := ⟨hb, i, none⟩) hhl).trans fh, (hv.cell (p := ⟨p2, 2, none⟩) hpl2).trans e2, (hv.cell (p := ⟨hb2, i, none⟩) hhl2).trans eh⟩)
        have hSd := HSK.out wd (Below.refl _ _)
        clear fr e2 eh f2 fh
        by_cases hlo : TT ≤ i
        · have gd2 : decide ((TT : Int) ≤ (i : Int)) = true := by simp; omega
          have gd3 : decide ((i : Int) < ((TT + NN : Nat) : Int)) = false := by simp; omega
          have g2n : decide (TT ≤ i) = true := by simp; omega
          have g3n : decide (i < TT + NN) = false := by simp; omega
          go_upto_region 19 with fail
          refine wp_region_noPanic ?_
          refine wp_region_held_drew (S := fun v => v.cell? ⟨p, 2, none⟩ = some (.slice (some ⟨hb, 0, none⟩) H hc) ∧ v.cell? ⟨hb, i, none⟩ = some (.slice (some ⟨lb, 0, none⟩) rl lc) ∧ v.cell? ⟨p2, 2, none⟩ = some (.slice (some ⟨hb2, 0, none⟩) H hc2) ∧ v.cell? ⟨hb2, i, none⟩ = some (.slice (some ⟨lb2, 0, none⟩) rl lc2)) (by kernel_rfl) (by rw [← WD.out]; exact hSd) (fun hHeld => ?_)
          rw [← WD.out]
          refine wpAnyH_take (i := 0) (v := ?vp0) rfl (by kernel_rfl) (by kernel_rfl) (by kernel_rfl) (fun _ _ _ h => h) (Or.inl ⟨by rfl, ?hp0⟩) (by assumption) ?_
          case hp0 => intro w hSw; (try dsimp only at hSw); go_simp; try with_reducible rfl
          simp only [List.getElem_toArray, List.getElem_cons_zero, Act.put, List.setIfInBounds_toArray, List.set_cons_zero, List.set_cons_succ]
          refine wpAnyH_take (i := 1) (v := ?vp1) rfl (by kernel_rfl) (by kernel_rfl) (by kernel_rfl) (fun _ _ _ h => h) (Or.inl ⟨by rfl, ?hp1⟩) (by assumption) ?_
          case hp1 => intro w hSw; (try dsimp only at hSw); go_simp; try with_reducible rfl
          simp only [List.getElem_toArray, List.getElem_cons_succ, List.getElem_cons_zero, Act.put, List.setIfInBounds_toArray, List.set_cons_zero, List.set_cons_succ]
          refine wpAnyH_take (i := 2) (v := ?vp2) rfl (by kernel_rfl) (by kernel_rfl) (by kernel_rfl) (fun _ _ _ h => h) (Or.inl ⟨by rfl, ?hp2⟩) (by assumption) ?_
          case hp2 => intro w hSw; (try dsimp only at hSw); go_simp; try with_reducible rfl
          simp only [List.getElem_toArray, List.getElem_cons_succ, List.getElem_cons_zero, Act.put, List.setIfInBounds_toArray, List.set_cons_zero, List.set_cons_succ]
          refine wpAnyH_take (i := 3) (v := ?vp3) rfl (by kernel_rfl) (by kernel_rfl) (by kernel_rfl) (fun _ _ _ h => h) (Or.inl ⟨by rfl, ?hp3⟩) (by assumption) ?_
          case hp3 => intro w hSw; (try dsimp only at hSw); go_simp; try with_reducible rfl
          simp only [List.getElem_toArray, List.getElem_cons_succ, List.getElem_cons_zero, Act.put, List.setIfInBounds_toArray, List.set_cons_zero, List.set_cons_succ]
          refine wpAnyH_take (i := 4) (v := ?vp4) rfl (by kernel_rfl) (by kernel_rfl) (by kernel_rfl) (fun _ _ _ h => h) (Or.inl ⟨by rfl, ?hp4⟩) (by assumption) ?_
          case hp4 => intro w hSw; (try dsimp only at hSw); go_simp; try with_reducible rfl
          simp only [List.getElem_toArray, List.getElem_cons_succ, List.getElem_cons_zero, Act.put, List.setIfInBounds_toArray, List.set_cons_zero, List.set_cons_succ]
          refine wpAnyH_take (i := 5) (v := ?vp5) rfl (by kernel_rfl) (by kernel_rfl) (by kernel_rfl) (fun _ _ _ h => h) (Or.inl ⟨by rfl, ?hp5⟩) (by assumption) ?_
          case hp5 => intro w hSw; (try dsimp only at hSw); go_simp; try with_reducible rfl
          simp only [List.getElem_toArray, List.getElem_cons_succ, List.getElem_cons_zero, Act.put, List.setIfInBounds_toArray, List.set_cons_zero, List.set_cons_succ]
          refine wpAnyH_take (i := 6) (v := ?vp6) rfl (by kernel_rfl) (by kernel_rfl) (by kernel_rfl) (fun _ _ _ h => h) (Or.inl ⟨by rfl, ?hp6⟩) (by assumption) ?_
          case hp6 => intro w hSw; (try dsimp only at hSw); go_simp; try with_reducible rfl
          simp only [List.getElem_toArray, List.getElem_cons_succ, List.getElem_cons_zero, Act.put, List.setIfInBounds_toArray, List.set_cons_zero, List.set_cons_succ]
          refine wpAnyH_take (i := 7) (v := ?vp7) rfl (by kernel_rfl) (by kernel_rfl) (by kernel_rfl) (fun _ _ _ h => h) (Or.inl ⟨by rfl, ?hp7⟩) (by assumption) ?_
          case hp7 => intro w hSw; (try dsimp only at hSw); go_simp; try with_reducible rfl
          simp only [List.getElem_toArray, List.getElem_cons_succ, List.getElem_cons_zero, Act.put, List.setIfInBounds_toArray, List.set_cons_zero, List.set_cons_succ]
          refine wpAnyH_take (i := 8) (v := ?vp8) rfl (by kernel_rfl) (by kernel_rfl) (by kernel_rfl) (fun _ _ _ h => h) (Or.inl ⟨by rfl, ?hp8⟩) (by assumption) ?_
          case hp8 => intro w hSw; (try dsimp only at hSw); go_simp; try with_reducible rfl
          simp only [List.getElem_toArray, List.getElem_cons_succ, List.getElem_cons_zero, Act.put, List.setIfInBounds_toArray, List.set_cons_zero, List.set_cons_succ]
          refine wpAnyH_take (i := 9) (v := ?vp9) rfl (by kernel_rfl) (by kernel_rfl) (by kernel_rfl) (fun _ _ _ h => h) (Or.inl ⟨by rfl, ?hp9⟩) (by assumption) ?_
          case hp9 => intro w hSw; (try dsimp only at hSw); go_simp; try with_reducible rfl
          simp only [List.getElem_toArray, List.getElem_cons_succ, List.getElem_cons_zero, Act.put, List.setIfInBounds_toArray, List.set_cons_zero, List.set_cons_succ]
          refine wpAnyH_take (i := 10) (v := ?vp10) rfl (by kernel_rfl) (by kernel_rfl) (by kernel_rfl) (fun _ _ _ h => h) (Or.inl ⟨by rfl, ?hp10⟩) (by assumption) ?_
          case hp10 => intro w hSw; (try dsimp only at hSw); go_simp; try with_reducible rfl
          simp only [List.getElem_toArray, List.getElem_cons_succ, List.getElem_cons_zero, Act.put, List.setIfInBounds_toArray, List.set_cons_zero, List.set_cons_succ]
          refine wpAnyH_take (i := 11) (v := ?vp11) rfl (by kernel_rfl) (by kernel_rfl) (by kernel_rfl) (fun _ _ _ h => h) (Or.inl ⟨by rfl, ?hp11⟩) (by assumption) ?_
          case hp11 => intro w hSw; (try dsimp only at hSw); go_simp; try with_reducible rfl
          simp only [List.getElem_toArray, List.getElem_cons_succ, List.getElem_cons_zero, Act.put, List.setIfInBounds_toArray, List.set_cons_zero, List.set_cons_succ]
          refine wpAnyH_take (i := 12) (v := ?vp12) rfl (by kernel_rfl) (by kernel_rfl) (by kernel_rfl) (fun _ _ _ h => h) (Or.inl ⟨by rfl, ?hp12⟩) (by assumption) ?_
          case hp12 => intro w hSw; (try dsimp only at hSw); go_simp; try with_reducible rfl
          simp only [List.getElem_toArray, List.getElem_cons_succ, List.getElem_cons_zero, Act.put, List.setIfInBounds_toArray, List.set_cons_zero, List.set_cons_succ]
          refine wpAnyH_take (i := 13) (v := ?vp13) rfl (by kernel_rfl) (by kernel_rfl) (by kernel_rfl) (fun _ _ _ h => h) (Or.inl ⟨by rfl, ?hp13⟩) (by assumption) ?_
          case hp13 => intro w hSw; (try dsimp only at hSw); go_simp; try with_reducible rfl
          simp only [List.getElem_toArray, List.getElem_cons_succ, List.getElem_cons_zero, Act.put, List.setIfInBounds_toArray, List.set_cons_zero, List.set_cons_succ]
          refine wpAnyH_ready (rs := [14]) (by kernel_rfl) (by simp) ?_
          refine AllReadyH.cons rfl (fun K hK => ?_) AllReadyH.nil
          go_simp
          refine (HSA.out wd (Below.refl _ _)).mono ?_
          rintro e v1 ⟨rfl, k1⟩
          have K1 := Lib.hid k1
          have hS1 := HSK.out v1 k1
          clear k1
          dsimp only
          refine hK.out _ _ ?_ (fun hHeld => ?_)
          · exact hS1
          clear hK K
          refine wpAnyH_take (i := 15) (v := ?vpx15) rfl (by kernel_rfl) (by kernel_rfl) (by kernel_rfl) (fun _ _ _ h => h) (Or.inl ⟨by rfl, ?hpx15⟩) (by assumption) ?_
          case hpx15 => intro w hSw; (try dsimp only at hSw); go_simp; try with_reducible rfl
          simp only [List.getElem_toArray, List.getElem_cons_succ, List.getElem_cons_zero, Act.put, List.setIfInBounds_toArray, List.set_cons_zero, List.set_cons_succ]
          refine wpAnyH_done (by kernel_rfl) ?_ _
          refine NoPanic.normal ?_
          clear hHeld hSd hS1
          go_wp2_with fail
          go_roundw
          case rel => exact ⟨i + 1, by omega, by simp, HBD.out.trans (K1.out.mono HBD.out.size)⟩
          case measure => simp [RowKit.intOf]; omega
        · have gd2 : decide ((TT : Int) ≤ (i : Int)) = false := by simp; omega
          have g2n : decide (TT ≤ i) = false := by simp; omega
          go_upto_region 19 with fail
          refine wp_region_noPanic ?_
          refine wp_region_held_drew (S := fun v => v.cell? ⟨p, 2, none⟩ = some (.slice (some ⟨hb, 0, none⟩) H hc) ∧ v.cell? ⟨hb, i, none⟩ = some (.slice (some ⟨lb, 0, none⟩) rl lc) ∧ v.cell? ⟨p2, 2, none⟩ = some (.slice (some ⟨hb2, 0, none⟩) H hc2) ∧ v.cell? ⟨hb2, i, none⟩ = some (.slice (some ⟨lb2, 0, none⟩) rl lc2)) (by kernel_rfl) (by rw [← WD.out]; exact hSd) (fun hHeld => ?_)
          rw [← WD.out]
          refine wpAnyH_take (i := 0) (v := ?vq0) rfl (by kernel_rfl) (by kernel_rfl) (by kernel_rfl) (fun _ _ _ h => h) (Or.inl ⟨by rfl, ?hq0⟩) (by assumption) ?_
          case hq0 => intro w hSw; (try dsimp only at hSw); go_simp; try with_reducible rfl
          simp only [List.getElem_toArray, List.getElem_cons_zero, Act.put, List.setIfInBounds_toArray, List.set_cons_zero, List.set_cons_succ]
          refine wpAnyH_take (i := 1) (v := ?vq1) rfl (by kernel_rfl) (by kernel_rfl) (by kernel_rfl) (fun _ _ _ h => h) (Or.inl ⟨by rfl, ?hq1⟩) (by assumption) ?_
          case hq1 => intro w hSw; (try dsimp only at hSw); go_simp; try with_reducible rfl
          simp only [List.getElem_toArray, List.getElem_cons_succ, List.getElem_cons_zero, Act.put, List.setIfInBounds_toArray, List.set_cons_zero, List.set_cons_succ]
          refine wpAnyH_take (i := 2) (v := ?vq2) rfl (by kernel_rfl) (by kernel_rfl) (by kernel_rfl) (fun _ _ _ h => h) (Or.inl ⟨by rfl, ?hq2⟩) (by assumption) ?_
          case hq2 => intro w hSw; (try dsimp only at hSw); go_simp; try with_reducible rfl
          simp only [List.getElem_toArray, List.getElem_cons_succ, List.getElem_cons_zero, Act.put, List.setIfInBounds_toArray, List.set_cons_zero, List.set_cons_succ]
          refine wpAnyH_take (i := 3) (v := ?vq3) rfl (by kernel_rfl) (by kernel_rfl) (by kernel_rfl) (fun _ _ _ h => h) (Or.inl ⟨by rfl, ?hq3⟩) (by assumption) ?_
          case hq3 => intro w hSw; (try dsimp only at hSw); go_simp; try with_reducible rfl
          simp only [List.getElem_toArray, List.getElem_cons_succ, List.getElem_cons_zero, Act.put, List.setIfInBounds_toArray, List.set_cons_zero, List.set_cons_succ]
          refine wpAnyH_take (i := 4) (v := ?vq4) rfl (by kernel_rfl) (by kernel_rfl) (by kernel_rfl) (fun _ _ _ h => h) (Or.inl ⟨by rfl, ?hq4⟩) (by assumption) ?_
          case hq4 => intro w hSw; (try dsimp only at hSw); go_simp; try with_reducible rfl
          simp only [List.getElem_toArray, List.getElem_cons_succ, List.getElem_cons_zero, Act.put, List.setIfInBounds_toArray, List.set_cons_zero, List.set_cons_succ]
          refine wpAnyH_take (i := 5) (v := ?vq5) rfl (by kernel_rfl) (by kernel_rfl) (by kernel_rfl) (fun _ _ _ h => h) (Or.inl ⟨by rfl, ?hq5⟩) (by assumption) ?_
          case hq5 => intro w hSw; (try dsimp only at hSw); go_simp; try with_reducible rfl
          simp only [List.getElem_toArray, List.getElem_cons_succ, List.getElem_cons_zero, Act.put, List.setIfInBounds_toArray, List.set_cons_zero, List.set_cons_succ]
          refine wpAnyH_take (i := 6) (v := ?vq6) rfl (by kernel_rfl) (by kernel_rfl) (by kernel_rfl) (fun _ _ _ h => h) (Or.inl ⟨by rfl, ?hq6⟩) (by assumption) ?_
          case hq6 => intro w hSw; (try dsimp only at hSw); go_simp; try with_reducible rfl
          simp only [List.getElem_toArray, List.getElem_cons_succ, List.getElem_cons_zero, Act.put, List.setIfInBounds_toArray, List.set_cons_zero, List.set_cons_succ]
          refine wpAnyH_take (i := 7) (v := ?vq7) rfl (by kernel_rfl) (by kernel_rfl) (by kernel_rfl) (fun _ _ _ h => h) (Or.inl ⟨by rfl, ?hq7⟩) (by assumption) ?_
          case hq7 => intro w hSw; (try dsimp only at hSw); go_simp; try with_reducible rfl
          simp only [List.getElem_toArray, List.getElem_cons_succ, List.getElem_cons_zero, Act.put, List.setIfInBounds_toArray, List.set_cons_zero, List.set_cons_succ]
          refine wpAnyH_take (i := 8) (v := ?vq8) rfl (by kernel_rfl) (by kernel_rfl) (by kernel_rfl) (fun _ _ _ h => h) (Or.inl ⟨by rfl, ?hq8⟩) (by assumption) ?_
          case hq8 => intro w hSw; (try dsimp only at hSw); go_simp; try with_reducible rfl
          simp only [List.getElem_toArray, List.getElem_cons_succ, List.getElem_cons_zero, Act.put, List.setIfInBounds_toArray, List.set_cons_zero, List.set_cons_succ]
          refine wpAnyH_take (i := 9) (v := ?vq9) rfl (by kernel_rfl) (by kernel_rfl) (by kernel_rfl) (fun _ _ _ h => h) (Or.inl ⟨by rfl, ?hq9⟩) (by assumption) ?_
          case hq9 => intro w hSw; (try dsimp only at hSw); go_simp; try with_reducible rfl
          simp only [List.getElem_toArray, List.getElem_cons_succ, List.getElem_cons_zero, Act.put, List.setIfInBounds_toArray, List.set_cons_zero, List.set_cons_succ]
          refine wpAnyH_take (i := 10) (v := ?vq10) rfl (by kernel_rfl) (by kernel_rfl) (by kernel_rfl) (fun _ _ _ h => h) (Or.inl ⟨by rfl, ?hq10⟩) (by assumption) ?_
          case hq10 => intro w hSw; (try dsimp only at hSw); go_simp; try with_reducible rfl
          simp only [List.getElem_toArray, List.getElem_cons_succ, List.getElem_cons_zero, Act.put, List.setIfInBounds_toArray, List.set_cons_zero, List.set_cons_succ]
          refine wpAnyH_take (i := 11) (v := ?vq11) rfl (by kernel_rfl) (by kernel_rfl) (by kernel_rfl) (fun _ _ _ h => h) (Or.inl ⟨by rfl, ?hq11⟩) (by assumption) ?_
          case hq11 => intro w hSw; (try dsimp only at hSw); go_simp; try with_reducible rfl
          simp only [List.getElem_toArray, List.getElem_cons_succ, List.getElem_cons_zero, Act.put, List.setIfInBounds_toArray, List.set_cons_zero, List.set_cons_succ]
          refine wpAnyH_take (i := 12) (v := ?vq12) rfl (by kernel_rfl) (by kernel_rfl) (by kernel_rfl) (fun _ _ _ h => h) (Or.inl ⟨by rfl, ?hq12⟩) (by assumption) ?_
          case hq12 => intro w hSw; (try dsimp only at hSw); go_simp; try with_reducible rfl
          simp only [List.getElem_toArray, List.getElem_cons_succ, List.getElem_cons_zero, Act.put, List.setIfInBounds_toArray, List.set_cons_zero, List.set_cons_succ]
          refine wpAnyH_take (i := 13) (v := ?vq13) rfl (by kernel_rfl) (by kernel_rfl) (by kernel_rfl) (fun _ _ _ h => h) (Or.inl ⟨by rfl, ?hq13⟩) (by assumption) ?_
          case hq13 => intro w hSw; (try dsimp only at hSw); go_simp; try with_reducible rfl
          simp only [List.getElem_toArray, List.getElem_cons_succ, List.getElem_cons_zero, Act.put, List.setIfInBounds_toArray, List.set_cons_zero, List.set_cons_succ]
          refine wpAnyH_ready (rs := [14]) (by kernel_rfl) (by simp) ?_
          refine AllReadyH.cons rfl (fun K hK => ?_) AllReadyH.nil
          go_simp
          refine (HSA.out wd (Below.refl _ _)).mono ?_
          rintro e v1 ⟨rfl, k1⟩
          have K1 := Lib.hid k1
          have hS1 := HSK.out v1 k1
          clear k1
          dsimp only
          refine hK.out _ _ ?_ (fun hHeld => ?_)
          · exact hS1
          clear hK K
          refine wpAnyH_take (i := 15) (v := ?vqx15) rfl (by kernel_rfl) (by kernel_rfl) (by kernel_rfl) (fun _ _ _ h => h) (Or.inl ⟨by rfl, ?hqx15⟩) (by assumption) ?_
          case hqx15 => intro w hSw; (try dsimp only at hSw); go_simp; try with_reducible rfl
          simp only [List.getElem_toArray, List.getElem_cons_succ, List.getElem_cons_zero, Act.put, List.setIfInBounds_toArray, List.set_cons_zero, List.set_cons_succ]
          refine wpAnyH_done (by kernel_rfl) ?_ _
          refine NoPanic.normal ?_
          clear hHeld hSd hS1
          go_wp2_with fail
          go_roundw
          case rel => exact ⟨i + 1, by omega, by simp, HBD.out.trans (K1.out.mono HBD.out.size)⟩
          case measure => simp [RowKit.intOf]; omega
    · have g1' : decide ((i : Int) < (H : Int)) = false := by simp; omega
      have gm : decide (i < H) = false := by simp; omega
      go_wp2_with fail
      go_ret
      exact ⟨rfl, HB7.out.trans (HBR.out.mono HB7.out.size)⟩
theorem walk (x y : Int) (A : Option Addr) (len cap : Nat) (n0 n1 n2 : Int) (w : World) (h1 : IsCels w A len cap) (hT : Tabs w) :
    Calls Tryd.prog 5 #[.agg #[.int .i64 x, .int .i64 y], .slice A len cap, .agg #[.int .i64 n0, .int .i64 n1, .int .i64 n2]] w fun e w' => e = .returned (.bool true) ∧ Below w.heap.size w w' := by
  obtain ⟨l, rfl, _, hr⟩ := h1
  exact core x y A cap l n0 n1 n2 w hr hT

theorem own : ownKnob Tryd.prog.godebug = none := by kernel_rfl
theorem laidOut : laidOutB Tryd.prog = true := by kernel_rfl

set_option maxRecDepth 100000 in
theorem lifted (os : Os) (started : os.Started) (H : Type) (enc : TypeId × Value → H) :
    ReturnsInHanded {} Tryd.checked os 5 .any (fun w args => (Rows.gridLinesSpec.pre enc Tryd.prog Tryd.f5 Rows.gridLinesRow.domain false w args ∧ laidMetH Tryd.prog Rows.gridLinesRow.laid w) ∧ sizedMet enc Tryd.prog Tryd.f5 (OpenSpec.ofChange Rows.gridLinesSpec) false w args)
      (Rows.gridLinesSpec.post enc Tryd.prog Tryd.f5 false true false false) := by
  refine returnsInHanded_of_change_and (C := Tryd.checked) (X := fun w _ => laidMetH Tryd.prog Rows.gridLinesRow.laid w) (fun _ _ _ hh h => h.of_heap hh) own started (by kernel_rfl) Tryd.func5
    (ChangeSpec.witness_shaped (enc := enc) (C := Tryd.checked) (os := os) (X := fun w _ => laidMetH Tryd.prog Rows.gridLinesRow.laid w) false (start9 os) #[.agg #[.int .i64 0, .int .i64 0], .slice none 0 0, .agg #[.int .i64 0, .int .i64 0, .int .i64 0]] 8 rfl (World.shaped_of_RefB (by kernel_rfl) (by kernel_rfl)) (by kernel_rfl) (by kernel_rfl) (by kernel_rfl) (met_gridLines os _)) ?_
  intro W base args ds gs before hval0 hW _ _ hL _
  have hval : ∀ (j : Nat) t v, Tryd.f5.params[j]? = some t → args[j]? = some v → Value.okWide Tryd.prog W .any base t v := hval0
  have hW' := hW
  obtain ⟨p, q, hA0, hV, rfl, hfz, hnd⟩ := hW
  have hA : DataW.TrodAll enc Tryd.prog W 0 (fun _ => true) true Tryd.f5.params.toList args.toList ds p := hA0
  rw [Tryd.params5] at hA hval
  obtain ⟨v0, vs0, d0, ds0, p0, q0, hargs, rfl, rfl, h0, r0⟩ := trodAll_cons hA
  obtain ⟨v1, vs1, d1, ds1, p1, q1, rfl, rfl, rfl, h1, r1⟩ := trodAll_cons r0
  obtain ⟨v2, vs2, d2, ds2, p2, q2, rfl, rfl, rfl, h2, r2⟩ := trodAll_cons r1
  obtain ⟨rfl, rfl, rfl⟩ := trodAll_nil r2
  obtain rfl : args = #[v0, v1, v2] := by cases args; simp_all
  obtain ⟨rfl, rfl⟩ := trodVars_none hV
  have k0 := h0
  have lt0 : ∀ x ∈ p0, x.block < W.heap.size := by obtain ⟨m, hm⟩ := k0; exact DataW.trod_lt m _ _ _ hm
  obtain ⟨a0, b0, rfl⟩ := open_two (hval 0 22 v0 rfl rfl) h0
  obtain ⟨a1, len1, cap1, rfl⟩ := okWide_slice Tryd.underlying23 (hval 1 23 v1 rfl rfl)
  have k1 := h1
  have lt1 : ∀ x ∈ p1, x.block < W.heap.size := by obtain ⟨m, hm⟩ := k1; exact DataW.trod_lt m _ _ _ hm
  have w1 : IsCels W a1 len1 cap1 := by
    obtain ⟨fuel, hf⟩ := h1
    exact cels_in hf
  have k2 := h2
  have lt2 : ∀ x ∈ p2, x.block < W.heap.size := by obtain ⟨m, hm⟩ := k2; exact DataW.trod_lt m _ _ _ hm
  obtain ⟨a2, b2, c2, rfl⟩ := open_three (hval 2 46 v2 rfl rfl) h2
  clear hA0 hval0
  refine (walk a0 b0 a1 len1 cap1 a2 b2 c2 W w1 (tabs_gridLines hL)).mono fun e W' ⟨he, bel⟩ => ?_
  subst he
  exact ⟨_, rfl, _, _, _, [], _, [], hW', trodAll_mk1 (shut_bool Tryd.underlying4 _), (trodAll_cons_mk (Below.trod laidOut (by kernel_rfl) (of_decide_eq_true (by kernel_rfl)) k0 bel lt0) (trodAll_cons_mk (Below.trod laidOut (by kernel_rfl) (of_decide_eq_true (by kernel_rfl)) k1 bel lt1) (trodAll_cons_mk (Below.trod laidOut (by kernel_rfl) (of_decide_eq_true (by kernel_rfl)) k2 bel lt2) trodAll_mk0))), rfl, bel.frame _, fun h => by cases h⟩

theorem over : Rows.gridLinesRow.holds Tryd.pinned (OpenSpec.ofChange Rows.gridLinesSpec) :=
  OpenClaim.holds_of_wide 5 Tryd.f5 rfl rfl rfl rfl rfl rfl rfl ⟨rfl, rfl, rfl, rfl, rfl⟩ rfl rfl rfl rfl rfl (by kernel_rfl) Tryd.func5 (by kernel_rfl)
    (of_decide_eq_true (by kernel_rfl)) (by unfold Func.isWrapper; first | (rw [if_pos (by decide +kernel)]; kernel_rfl) | (rw [if_neg (by decide +kernel)]; exact ⟨rfl, rfl⟩))
    (fun os started H enc _ => lifted os started H enc)

theorem cardOver : Rows.GridLinesCardSaid :=
  Claim7.holds_tied_plain_at .later [] [.data, .data, .pinned] true (true, "f146deda77bc3999c62c82da70115e9c71b62d2033ceffcf0b29ca91f6fa214a") false
    over (fun _ h => by cases h) (by kernel_rfl) (fun _ h => by cases h) gridLines_row_tie rfl ⟨rfl, rfl⟩ (by kernel_rfl) rfl
    (fun f fn hf hfn => by
      obtain rfl : f = 5 := Option.some.inj ((show Tryd.prog.funcNamed Rows.gridLinesRow.func = some 5 by kernel_rfl).symm.trans hf) |>.symm
      obtain rfl : fn = Tryd.f5 := (Option.some.inj (Tryd.func5.symm.trans hfn)).symm
      exact ⟨by kernel_rfl, fun j t ht => by
        rw [Tryd.params5] at ht
        have hm : t ∈ [22, 23, 46] := by simpa using Array.mem_of_getElem? ht
        have hall : ([22, 23, 46].all fun u => !Tryd.prog.wantsStandIn u) = true := by kernel_rfl
        exact (show Tryd.prog.wantsStandIn t = false by simpa using List.all_eq_true.1 hall t hm)⟩)
    (by kernel_rfl)

end Go.Proofs.YtbpkklcegiiheaaDoor.gridLines
namespace Go.Proofs.YtbpkklcegiiheaaDoor
theorem gridLines_holds : Rows.GridLinesCardSaid := gridLines.cardOver
end Go.Proofs.YtbpkklcegiiheaaDoor
