/-
  GridSizes: a greater grid has all that a smaller one had, and back again it is the same. For every size, line and numbers; the package's and the library's tables as the program's text lays them.
-/
import Derived.Test.YtbpkklcegiiheaaDoorDSizeM
import Derived.Test.YtbpkklcegiiheaaDoorDLawP
import Derived.Deep.QuietTactic
import Derived.Deep.CutRange
import Derived.BigQuiet
import Derived.Test.YtbpkklcegiiheaaDoorKTame
import Derived.Test.YtbpkklcegiiheaaDoorKSame
import Derived.Test.YtbpkklcegiiheaaDoorDCond
import Derived.Test.YtbpkklcegiiheaaDoorCards
import Derived.Test.YtbpkklcegiiheaaDoorTie
import Derived.OpenShut
import Derived.HandedFrom
import Derived.ChangeSame
import Derived.ChangeVars
import Derived.JoinedOf
import Derived.JoinedAt
namespace Go.Proofs.YtbpkklcegiiheaaDoor.gridSizes
open Go.ChangeShapes Go.WideShapes Go.ChangeAt Go.RowKit KM

theorem UpPost.none {w w' : World} {F : List Nat} {p : Nat} {g' : Gr} {e : Ending} (h : UpPost w F p (g', []) e w') : ∃ (A : Option Addr) (c : Nat) (F' : List Nat), e = .returned (.slice A 0 c) ∧ GridAt w' F' p g' ∧ (∀ k ∈ F', k ∈ F ∨ w.heap.size ≤ k) ∧ Fr (· ∈ F) w w' := by
  obtain ⟨A, c, F', h1, h2, h3, h4, _, _⟩ := h
  exact ⟨A, c, F', h1, h2, h3, h4⟩
theorem setCel_below {w w0 : World} {b B : Nat} (h : Below B w0 w) (hb : B ≤ b) (c : Cel) : Below B w0 (setCel w b 0 c) := by
  unfold setCel
  exact (((((h.setCell (p := ⟨b, 0, none⟩) hb _).setCell (p := ⟨b, 0 + 1, none⟩) hb _).setCell (p := ⟨b, 0 + 2, none⟩) hb _).setCell (p := ⟨b, 0 + 3, none⟩) hb _).setCell (p := ⟨b, 0 + 4, none⟩) hb _).setCell (p := ⟨b, 0 + 5, none⟩) hb _

set_option maxRecDepth 100000 in
set_option maxHeartbeats 4000000 in
theorem core (x y : Int) (A : Option Addr) (c : Nat) (l : List Cel) (m0 m1 : Int) (w : World) (hr : celE.Row w w.heap.size A l) (hT : Tabs w) :
    Calls Tryd.prog 6 #[.agg #[.int .i64 x, .int .i64 y], .slice A l.length c, .agg #[.int .i64 m0, .int .i64 m1]] w fun e w' => e = .returned (.bool true) ∧ Below w.heap.size w w' := by
  obtain ⟨w0, hw0⟩ : ∃ w0, w0 = w.alloc (.cells #[.int .i64 x, .int .i64 y] 22) := ⟨_, rfl⟩
  have hb0 : Below w.heap.size w w0 := by rw [hw0]; exact (Below.refl _ _).alloc (Nat.le_refl _) _
  have hc0 : TwoIn w0 w.heap.size x y := by rw [hw0]; exact TwoIn.fresh w x y
  obtain ⟨w1, hw1⟩ : ∃ w1, w1 = w0.alloc (.cells #[.int .i64 m0, .int .i64 m1] 22) := ⟨_, rfl⟩
  have hb01 : Below w0.heap.size w0 w1 := by rw [hw1]; exact (Below.refl _ _).alloc (Nat.le_refl _) _
  have z0 : w0.heap.size = w.heap.size + 1 := by rw [hw0]; simp
  have hd1 : TwoIn w1 (w.heap.size + 1) m0 m1 := by rw [← z0, hw1]; exact TwoIn.fresh w0 m0 m1
  have hb1 := below_next hb0 hb01
  have HC1 := Lib.hid (hc0.below hb01)
  have HD1 := Lib.hid hd1
  have HB1 := Lib.hid hb1
  have W0 := Lib.hid hw0
  have W1 := Lib.hid hw1
  have HR := Lib.hid hr
  have HT := Lib.hid hT
  have HFIT := Lib.hid (fit_ok w1 (hT.on hb1 hT.room))
  clear hw0 hb0 hc0 hw1 hb01 hd1 hb1 hr hT z0
  by_cases h1 : 2000 < l.length
  · have g : decide ((2000 : Int) < (l.length : Int)) = true := by simp; omega
    go_enter Tryd.func6, Tryd.ntmps6
    go_wp2_with fail
    rw [← W0.out, ← W1.out]
    refine HFIT.out.mono ?_
    rintro e w2 ⟨rfl, b2⟩
    have HB2 := Lib.hid (below_next HB1.out b2)
    clear b2
    go_wp2_with fail
    go_ret
    exact ⟨rfl, HB2.out⟩
  have g : decide ((2000 : Int) < (l.length : Int)) = false := by simp; omega
  have h31 := and31 x
  have h31' := and31 y
  obtain ⟨X, hX⟩ : ∃ X, X = x % 32 := ⟨_, rfl⟩
  obtain ⟨Y, hY⟩ : ∃ Y, Y = y % 32 := ⟨_, rfl⟩
  rw [← hX] at h31
  rw [← hY] at h31'
  have hX0 : 0 ≤ X ∧ X < 32 := by omega
  have hY0 : 0 ≤ Y ∧ Y < 32 := by omega
  have hwX : IntKind.i64.wrap (X + 1) = X + 1 := by rw [IntKind.wrap_i64]; omega
  have hwY : IntKind.i64.wrap (Y + 1) = Y + 1 := by rw [IntKind.wrap_i64]; omega
  clear hX hY
  go_enter Tryd.func6, Tryd.ntmps6
  go_wp2_with fail
  rw [← W0.out, ← W1.out]
  refine HFIT.out.mono ?_
  rintro e w2 ⟨rfl, b2⟩
  obtain ⟨q0, q1⟩ := (HC1.out.below b2).cells
  have HD2 := Lib.hid (HD1.out.below b2)
  have HB2 := Lib.hid (below_next HB1.out b2)
  have z2 := HB2.out.size
  have z2' : w.heap.size + 1 < w2.heap.size := HD2.out.lt
  clear b2
  go_wp2_with fail
  have hl2 : l.length ≤ 2000 := by omega
  refine (fill_ok w2 (HT.out.on HB2.out HT.out.room) (X + 1) (Y + 1) A c l ((HR.out.below HB2.out).mono z2) hl2).mono ?_
  rintro e w3 ⟨p, g0, rfl, ⟨⟨F0, hat0, hF0⟩, hb3⟩, hok0, hgw0, hgh0⟩
  have hgw : g0.w ≤ 32 := by rw [hgw0]; unfold nr; omega
  have hgh : g0.h ≤ 32 := by rw [hgh0]; unfold nr; omega
  have hgw1 := hok0.w1
  have hgh1 := hok0.h1
  have HF0 := Lib.hid hF0
  have HOK0 := Lib.hid hok0
  have HD3 := Lib.hid (HD2.out.below hb3)
  have HB3 := Lib.hid (below_next HB2.out hb3)
  have z23 := hb3.size
  have HCP := Lib.hid (copy_ok w3 hat0 hok0)
  have HAT3 := Lib.hid hat0
  have HL3 := Lib.hid hat0.lt
  clear hat0 hF0 hok0 hb3 q0 q1 hgw0 hgh0 hwX hwY h31 h31' hX0 hY0
  go_wp2_with fail
  refine HCP.out.mono ?_
  rintro e w4 ⟨p2, rfl, ⟨⟨F2, hat2, hF2⟩, hb4⟩⟩
  have HF2 := Lib.hid hF2
  have HAT42 := Lib.hid hat2
  have HL4 := Lib.hid hat2.lt
  have HAT4 := Lib.hid (HAT3.out.below hb4)
  have HD4 := Lib.hid (HD3.out.below hb4)
  have HB4 := Lib.hid (below_next HB3.out hb4)
  have z34 := hb4.size
  clear hat2 hF2 hb4
  obtain ⟨q0, q1⟩ := HD4.out.cells
  have h15 := and15 m0
  have h15' := and15 m1
  obtain ⟨M0, hM0⟩ := Int.eq_ofNat_of_zero_le (show 0 ≤ m0 % 16 by omega)
  obtain ⟨M1, hM1⟩ := Int.eq_ofNat_of_zero_le (show 0 ≤ m1 % 16 by omega)
  have hM0' : M0 < 16 := by omega
  have hM1' : M1 < 16 := by omega
  rw [hM0] at h15
  rw [hM1] at h15'
  obtain ⟨W, hW⟩ : ∃ W, W = g0.w + M0 := ⟨_, rfl⟩
  obtain ⟨H, hH⟩ : ∃ H, H = g0.h + M1 := ⟨_, rfl⟩
  have hWI : IntKind.i64.wrap ((g0.w : Int) + (M0 : Int)) = (W : Int) := by rw [IntKind.wrap_i64]; omega
  have hHI : IntKind.i64.wrap ((g0.h : Int) + (M1 : Int)) = (H : Int) := by rw [IntKind.wrap_i64]; omega
  have hW0 : g0.w ≤ W := by omega
  have hW60 : W ≤ 60 := by omega
  have hW1 : 1 ≤ W := by omega
  have hH0 : g0.h ≤ H := by omega
  have hH60 : H ≤ 60 := by omega
  have hH1 : 1 ≤ H := by omega
  have p0 : w4.cell? ⟨p, 0, none⟩ = some (.int .i64 (g0.w : Int)) := by
    obtain ⟨hb, hc, L, hG, _⟩ := HAT4.out
    exact hG.cell0
  have p1 : w4.cell? ⟨p, 1, none⟩ = some (.int .i64 (g0.h : Int)) := by
    obtain ⟨hb, hc, L, hG, _⟩ := HAT4.out
    exact hG.cell1
  clear hM0 hM1 hW hH
  go_upto_region 7 with fail
  go_quiet (fail)
  clear q0 q1 p0 p1 h15 h15' hWI hHI
  go_upto_region 8 with fail
  generalize hw5 : w4.drewN _ = w5
  have hb45 : Below w4.heap.size w4 w5 := by rw [← hw5]; exact below_drewN (Below.refl _ _) _
  have z45 := hb45.size
  have HAT52 := Lib.hid (HAT42.out.below hb45)
  have HAT5 := Lib.hid (HAT4.out.below hb45)
  have HB5 := Lib.hid (below_next HB4.out hb45)
  have HT5 := Lib.hid (HT.out.on HB5.out HT.out.room)
  clear hw5 hb45
  have hrs := resize_ok w5 HT5.out HAT5.out HOK0.out (W : Int) (H : Int) 0
  rw [gresize_big HOK0.out hW1 hW60 hH1 hH60] at hrs
  have HRS := Lib.hid hrs
  have HOKB := Lib.hid (big_ok HOK0.out hW1 hW60 hH1 hH60)
  have HBK := Lib.hid (big_back HOK0.out hW0 hW60 hH0 hH60)
  have HGAT := Lib.hid (fun (i k : Nat) (hi : i < W) (hk : k < H) => gat_big HOK0.out hW0 hH0 hi hk)
  have hBW : (big g0 W H).w = W := rfl
  have hBH : (big g0 W H).h = H := rfl
  have HBW := Lib.hid hBW
  have HBH := Lib.hid hBH
  clear hrs hBW hBH
  generalize big g0 W H = gb at *
  go_wp2_with fail
  refine HRS.out.mono ?_
  rintro e w6 hup
  obtain ⟨A6, c6, F6, rfl, hat6, hF6, hfr6⟩ := UpPost.none hup
  have z56 := hfr6.size
  have hF0w : ∀ k ∈ F0, w.heap.size ≤ k := fun k hk => by have := HF0.out k hk; omega
  have HB6 := Lib.hid (HB5.out.trans (hfr6.below HB5.out.size hF0w))
  have HF6 := Lib.hid (fun k (hk : k ∈ F6) => show w2.heap.size ≤ k ∧ (k < w3.heap.size ∨ w5.heap.size ≤ k) from by
    rcases hF6 k hk with h | h
    · exact ⟨HF0.out k h, .inl (HL3.out k h)⟩
    · exact ⟨by have := HB2.out.size; omega, .inr h⟩)
  have HAT62 := Lib.hid (HAT52.out.fr hfr6 (fun k hk hm => by have := HF2.out k hk; have := HL3.out k hm; omega))
  have HAT6 := Lib.hid hat6
  have HT6 := Lib.hid (HT.out.on HB6.out HT.out.room)
  clear hup hat6 hF6 hfr6 hF0w
  obtain ⟨hb, hc, L, hG, hfoot⟩ := HAT6.out
  obtain ⟨hb2, hc2, L2, hG2, hfoot2⟩ := HAT62.out
  have HG := Lib.hid hG
  have HG2 := Lib.hid hG2
  have HFT := Lib.hid hfoot
  have HFT2 := Lib.hid hfoot2
  have p0 : w6.cell? ⟨p, 0, none⟩ = some (.int .i64 (W : Int)) := by rw [← HBW.out]; exact hG.cell0
  have p1 : w6.cell? ⟨p, 1, none⟩ = some (.int .i64 (H : Int)) := by rw [← HBH.out]; exact hG.cell1
  have HWH := Lib.hid (lwhole_ok w6 HT6.out hG HOKB.out)
  clear hG hG2 hfoot hfoot2
  go_wp2_with fail
  refine HWH.out.mono ?_
  rintro e w7 ⟨rfl, hb7⟩
  have HB7 := Lib.hid (below_next HB6.out hb7)
  have HT7 := Lib.hid (HT.out.on HB7.out HT.out.room)
  have HG7 := Lib.hid (HG.out.below hb7)
  have HGG7 := Lib.hid (HG2.out.below hb7)
  have z67 := hb7.size
  clear hb7 p0 p1
  go_wp2_with fail
  go_loopw [75] (fun v wr => ∃ k : Nat, k ≤ H ∧ v = .int .i64 (k : Int) ∧ Below w7.heap.size w7 wr) (fun v _ => H - (RowKit.intOf v).toNat)
  case atStart => exact ⟨0, Nat.zero_le _, rfl, Below.refl _ _⟩
  case round =>
    obtain ⟨k, hk, rfl, hbr⟩ := hrel
    have HBR := Lib.hid hbr
    clear hbr
    by_cases hlt : k < H
    · have g1' : decide ((k : Int) < (H : Int)) = true := by simp; omega
      have gm : decide (k < H) = true := by simp; omega
      go_wp2_with fail
      go_loopw [79] (fun v ws => ∃ i : Nat, i ≤ W ∧ v = .int .i64 (i : Int) ∧ Below w7.heap.size w7 ws) (fun v _ => W - (RowKit.intOf v).toNat)
      case atStart => exact ⟨0, Nat.zero_le _, rfl, HBR.out⟩
      case round =>
        obtain ⟨i, hi, rfl, hbs⟩ := hrel
        have HBS := Lib.hid hbs
        clear hbs
        by_cases hlt2 : i < W
        · have g2 : decide ((i : Int) < (W : Int)) = true := by simp; omega
          have gn : decide (i < W) = true := by simp; omega
          have hgat := HGAT.out i k hlt2 hlt
          obtain ⟨wA, hwA⟩ : ∃ wA, wA = wr.alloc (.cells #[.int .i32 32, .bool false, .bool false, .bool false, .int .i64 0, .int .i64 0] 37) := ⟨_, rfl⟩
          have hbA : Below wr.heap.size wr wA := by rw [hwA]; exact (Below.refl _ _).alloc (Nat.le_refl _) _
          have hcA : CelAt wA wr.heap.size ⟨32, zero⟩ := by rw [hwA]; exact CelAt.fresh wr ⟨32, zero⟩
          have hzA : wA.heap.size = wr.heap.size + 1 := by rw [hwA]; simp
          have HZA := Lib.hid hzA
          have HBA := Lib.hid hbA
          have HCA := Lib.hid hcA
          have WA := Lib.hid hwA
          have HGA := Lib.hid (HG7.out.below (HBS.out.trans (hbA.mono HBS.out.size)))
          have HGGA := Lib.hid (HGG7.out.below (HBS.out.trans (hbA.mono HBS.out.size)))
          have HATG := Lib.hid (fun (v : World) (hv : Below w7.heap.size w7 v) => at_ok v (HG7.out.below hv) HOKB.out (i : Int) (k : Int))
          have HATW := Lib.hid (fun (v : World) (hv : Below w7.heap.size w7 v) => at_ok v (HGG7.out.below hv) HOK0.out (i : Int) (k : Int))
          have HBWA := Lib.hid (HBS.out.trans (hbA.mono HBS.out.size))
          have s0 := HGGA.out.cell0
          have s1 := HGGA.out.cell1
          generalize gat gb (i : Int) (k : Int) = want at *
          generalize gat g0 (i : Int) (k : Int) = gt at *
          have hbz := fun w => build_rune w 32
          clear hwA hbA hcA hzA
          go_upto_region 17 with fail
          rw [← WA.out]
          go_cut [96] from 80 to 107 (fun o wc => o = .bool (decide (i < g0.w ∧ k < g0.h)) ∧ wc = wA)
          case first =>
            by_cases hx : i < g0.w
            · have d1 : decide ((i : Int) < (g0.w : Int)) = true := by simp; omega
              have d3 : decide (i < g0.w) = true := by simp; omega
              by_cases hy : k < g0.h
              · have d2 : decide ((k : Int) < (g0.h : Int)) = true := by simp; omega
                have d4 : decide (k < g0.h) = true := by simp; omega
                go_wp2_with fail
                go_meet
                case rel => exact ⟨congrArg Value.bool (decide_eq_true (And.intro hx hy)).symm, rfl⟩
              · have d2 : decide ((k : Int) < (g0.h : Int)) = false := by simp; omega
                have d4 : decide (k < g0.h) = false := by simp; omega
                go_wp2_with fail
                go_meet
                case rel => exact ⟨congrArg Value.bool (decide_eq_false (fun h => hy h.2)).symm, rfl⟩
            · have d1 : decide ((i : Int) < (g0.w : Int)) = false := by simp; omega
              have d3 : decide (i < g0.w) = false := by simp; omega
              go_wp2_with fail
              go_meet
              case rel => exact ⟨congrArg Value.bool (decide_eq_false (fun h => hx h.1)).symm, rfl⟩
          case rest =>
            obtain ⟨ho, hwc⟩ := hcut
            rw [ho, hwc]
            clear ho hwc wc s0 s1
            obtain ⟨B, hB⟩ : ∃ B, B = decide (i < g0.w ∧ k < g0.h) := ⟨_, rfl⟩
            rw [← hB]
            go_upto_if 96 with fail
            go_cut [] from 80 to 107 (fun wc => CelAt wc wr.heap.size want ∧ Below wr.heap.size wr wc)
            case first =>
              by_cases hin : i < g0.w ∧ k < g0.h
              · obtain rfl : B = true := by rw [hB]; exact decide_eq_true hin
                rw [if_pos hin] at hgat
                subst hgat
                clear hB
                go_wp2_with fail
                refine (HATW.out wA HBWA.out).mono ?_
                rintro e v1 ⟨rfl, k1⟩
                have hc1 := HCA.out.below k1 HCA.out.lt
                obtain ⟨c0, c1, c2, c3, c4, c5⟩ := hc1.cells
                have f0 := hc1.thaw 0; have f1 := hc1.thaw 1; have f2 := hc1.thaw 2; have f3 := hc1.thaw 3; have f4 := hc1.thaw 4; have f5 := hc1.thaw 5
                have HC1' := Lib.hid hc1
                have K1 := Lib.hid (HBA.out.trans (k1.mono HBA.out.size))
                clear hc1 k1
                obtain ⟨r, ⟨bo, u, t, f, ba⟩⟩ := want
                simp only [celV] at *
                go_wp2_with fail
                go_meet
                case rel =>
                  exact ⟨setCel_at HC1'.out ⟨r, ⟨bo, u, t, f, ba⟩⟩, setCel_below K1.out (Nat.le_refl _) ⟨r, ⟨bo, u, t, f, ba⟩⟩⟩
              · obtain rfl : B = false := by rw [hB]; exact decide_eq_false hin
                rw [if_neg hin] at hgat
                subst hgat
                clear hB
                go_wp2_with fail
                go_meet
                case rel => exact ⟨HCA.out, HBA.out⟩
            case rest =>
              obtain ⟨hcx, hbx⟩ := hcut
              obtain ⟨w9, hw9⟩ : ∃ w9, w9 = wc.drew := ⟨_, rfl⟩
              have hbd : Below wc.heap.size wc w9 := by rw [hw9]; exact (Below.refl _ _).drew
              have hc9 := hcx.below hbd hcx.lt
              have HB9 := Lib.hid (HBS.out.trans ((hbx.trans (hbd.mono hbx.size)).mono HBS.out.size))
              have HA9 := Lib.hid (HATG.out w9 HB9.out)
              have W9 := Lib.hid hw9
              have hql := hc9.lt
              obtain ⟨c0, c1, c2, c3, c4, c5⟩ := hc9.cells
              obtain ⟨r, ⟨bo, u, t, f, ba⟩⟩ := want
              have heq := fun w => run_eqC w ⟨r, ⟨bo, u, t, f, ba⟩⟩ ⟨r, ⟨bo, u, t, f, ba⟩⟩
              rw [show decide ((⟨r, ⟨bo, u, t, f, ba⟩⟩ : Cel) = ⟨r, ⟨bo, u, t, f, ba⟩⟩) = true by simp] at heq
              simp only [celV] at *
              have HSK := Lib.hid (fun (v : World) (hv : Below w9.heap.size w9 v) => show v.cell? ⟨wr.heap.size, 0, none⟩ = some (.int .i32 r) ∧ v.cell? ⟨wr.heap.size, 1, none⟩ = some (.bool bo) ∧ v.cell? ⟨wr.heap.size, 2, none⟩ = some (.bool u) ∧ v.cell? ⟨wr.heap.size, 3, none⟩ = some (.bool t) ∧ v.cell? ⟨wr.heap.size, 4, none⟩ = some (.int .i64 f) ∧ v.cell? ⟨wr.heap.size, 5, none⟩ = some (.int .i64 ba) from ⟨(hv.cell (p := ⟨wr.heap.size, 0, none⟩) hql).trans c0, (hv.cell (p := ⟨wr.heap.size, 1, none⟩) hql).trans c1, (hv.cell (p := ⟨wr.heap.size, 2, none⟩) hql).trans c2, (hv.cell (p := ⟨wr.heap.size, 3, none⟩) hql).trans c3, (hv.cell (p := ⟨wr.heap.size, 4, none⟩) hql).trans c4, (hv.cell (p := ⟨wr.heap.size, 5, none⟩) hql).trans c5⟩)
              have hS9 := HSK.out w9 (Below.refl _ _)
              clear hcx hbx hbd hc9 hql hw9 c0 c1 c2 c3 c4 c5 hgat
              go_upto_region 19 with fail
              refine wp_region_noPanic ?_
              refine wp_region_held_drew (S := fun v => v.cell? ⟨wr.heap.size, 0, none⟩ = some (.int .i32 r) ∧ v.cell? ⟨wr.heap.size, 1, none⟩ = some (.bool bo) ∧ v.cell? ⟨wr.heap.size, 2, none⟩ = some (.bool u) ∧ v.cell? ⟨wr.heap.size, 3, none⟩ = some (.bool t) ∧ v.cell? ⟨wr.heap.size, 4, none⟩ = some (.int .i64 f) ∧ v.cell? ⟨wr.heap.size, 5, none⟩ = some (.int .i64 ba)) (by kernel_rfl) (by rw [← W9.out]; exact hS9) (fun hHeld => ?_)
              rw [← W9.out]
              refine wpAnyH_take (i := 0) (v := ?va0) rfl (by kernel_rfl) (by kernel_rfl) (by kernel_rfl) (fun _ _ _ h => h) (Or.inl ⟨by rfl, ?ha0⟩) (by assumption) ?_
              case ha0 => intro w hSw; (try dsimp only at hSw); go_simp; try with_reducible rfl
              simp only [List.getElem_toArray, List.getElem_cons_zero, Act.put, List.setIfInBounds_toArray, List.set_cons_zero, List.set_cons_succ]
              refine wpAnyH_take (i := 1) (v := ?va1) rfl (by kernel_rfl) (by kernel_rfl) (by kernel_rfl) (fun _ _ _ h => h) (Or.inl ⟨by rfl, ?ha1⟩) (by assumption) ?_
              case ha1 => intro w hSw; (try dsimp only at hSw); go_simp; try with_reducible rfl
              simp only [List.getElem_toArray, List.getElem_cons_succ, List.getElem_cons_zero, Act.put, List.setIfInBounds_toArray, List.set_cons_zero, List.set_cons_succ]
              refine wpAnyH_take (i := 2) (v := ?va2) rfl (by kernel_rfl) (by kernel_rfl) (by kernel_rfl) (fun _ _ _ h => h) (Or.inl ⟨by rfl, ?ha2⟩) (by assumption) ?_
              case ha2 => intro w hSw; (try dsimp only at hSw); go_simp; try with_reducible rfl
              simp only [List.getElem_toArray, List.getElem_cons_succ, List.getElem_cons_zero, Act.put, List.setIfInBounds_toArray, List.set_cons_zero, List.set_cons_succ]
              refine wpAnyH_take (i := 4) (v := ?va4) rfl (by kernel_rfl) (by kernel_rfl) (by kernel_rfl) (fun _ _ _ h => h) (Or.inl ⟨by rfl, ?ha4⟩) (by assumption) ?_
              case ha4 => intro w hSw; (try dsimp only at hSw); go_simp; try with_reducible rfl
              simp only [List.getElem_toArray, List.getElem_cons_succ, List.getElem_cons_zero, Act.put, List.setIfInBounds_toArray, List.set_cons_zero, List.set_cons_succ]
              refine wpAnyH_ready (rs := [3]) (by kernel_rfl) (by simp) ?_
              refine AllReadyH.cons rfl (fun K hK => ?_) AllReadyH.nil
              go_simp
              refine HA9.out.mono ?_
              rintro e v1 ⟨rfl, k1⟩
              have K1 := Lib.hid k1
              have hS1 := HSK.out v1 k1
              clear k1
              dsimp only
              refine hK.out _ _ ?_ (fun hHeld => ?_)
              · exact hS1
              clear hK K
              refine wpAnyH_take (i := 5) (v := ?vb5) rfl (by kernel_rfl) (by kernel_rfl) (by kernel_rfl) (fun _ _ _ h => h) (Or.inl ⟨by rfl, ?hb5⟩) (by assumption) ?_
              case hb5 => intro w hSw; (try dsimp only at hSw); go_simp; try with_reducible rfl
              simp only [List.getElem_toArray, List.getElem_cons_succ, List.getElem_cons_zero, Act.put, List.setIfInBounds_toArray, List.set_cons_zero, List.set_cons_succ]
              refine wpAnyH_done (by kernel_rfl) ?_ _
              refine NoPanic.normal ?_
              clear hHeld hS9 hS1
              go_wp2_with fail
              go_roundw
              case rel => exact ⟨i + 1, by omega, by simp, HB9.out.trans (K1.out.mono HB9.out.size)⟩
              case measure => simp [RowKit.intOf]; omega
        · have g2 : decide ((i : Int) < (W : Int)) = false := by simp; omega
          have gn : decide (i < W) = false := by simp; omega
          go_wp2_with fail
          go_roundw
          case rel => exact ⟨k + 1, by omega, by simp, HBS.out⟩
          case measure => simp [RowKit.intOf]; omega
    · have g1' : decide ((k : Int) < (H : Int)) = false := by simp; omega
      have gm : decide (k < H) = false := by simp; omega
      obtain ⟨wd, hwd⟩ : ∃ wd, wd = wr.drew := ⟨_, rfl⟩
      have hbd : Below wr.heap.size wr wd := by rw [hwd]; exact (Below.refl _ _).drew
      have HBD := Lib.hid (HBR.out.trans (hbd.mono HBR.out.size))
      have WD := Lib.hid hwd
      have HGD := Lib.hid (HG7.out.below HBD.out)
      have HGGD := Lib.hid (HGG7.out.below HBD.out)
      have hrs := resize_ok wd (HT7.out.on HBD.out HT7.out.room) (⟨hb, hc, L, HGD.out, HFT.out⟩ : GridAt wd F6 p gb) HOKB.out (g0.w : Int) (g0.h : Int) (-1)
      rw [HBK.out] at hrs
      have HRS2 := Lib.hid hrs
      have hS : wd.cell? ⟨p2, 0, none⟩ = some (.int .i64 (g0.w : Int)) ∧ wd.cell? ⟨p2, 1, none⟩ = some (.int .i64 (g0.h : Int)) := ⟨HGGD.out.cell0, HGGD.out.cell1⟩
      clear hwd hbd hrs
      go_upto_region 23 with fail
      refine wp_region_noPanic ?_
      refine wp_region_held_drew (S := fun v => v.cell? ⟨p2, 0, none⟩ = some (.int .i64 (g0.w : Int)) ∧ v.cell? ⟨p2, 1, none⟩ = some (.int .i64 (g0.h : Int))) (by kernel_rfl) (by rw [← WD.out]; exact hS) (fun hHeld => ?_)
      rw [← WD.out]
      refine wpAnyH_take (i := 0) (v := ?vc0) rfl (by kernel_rfl) (by kernel_rfl) (by kernel_rfl) (fun _ _ _ h => h) (Or.inl ⟨by rfl, ?hc0⟩) (by assumption) ?_
      case hc0 => intro w hSw; (try dsimp only at hSw); go_simp; try with_reducible rfl
      simp only [List.getElem_toArray, List.getElem_cons_zero, Act.put, List.setIfInBounds_toArray, List.set_cons_zero, List.set_cons_succ]
      refine wpAnyH_take (i := 1) (v := ?vc1) rfl (by kernel_rfl) (by kernel_rfl) (by kernel_rfl) (fun _ _ _ h => h) (Or.inl ⟨by rfl, ?hc1⟩) (by assumption) ?_
      case hc1 => intro w hSw; (try dsimp only at hSw); go_simp; try with_reducible rfl
      simp only [List.getElem_toArray, List.getElem_cons_succ, List.getElem_cons_zero, Act.put, List.setIfInBounds_toArray, List.set_cons_zero, List.set_cons_succ]
      refine wpAnyH_take (i := 2) (v := ?vc2) rfl (by kernel_rfl) (by kernel_rfl) (by kernel_rfl) (fun _ _ _ h => h) (Or.inl ⟨by rfl, ?hc2⟩) (by assumption) ?_
      case hc2 => intro w hSw; (try dsimp only at hSw); go_simp; try with_reducible rfl
      simp only [List.getElem_toArray, List.getElem_cons_succ, List.getElem_cons_zero, Act.put, List.setIfInBounds_toArray, List.set_cons_zero, List.set_cons_succ]
      refine wpAnyH_take (i := 3) (v := ?vc3) rfl (by kernel_rfl) (by kernel_rfl) (by kernel_rfl) (fun _ _ _ h => h) (Or.inl ⟨by rfl, ?hc3⟩) (by assumption) ?_
      case hc3 => intro w hSw; (try dsimp only at hSw); go_simp; try with_reducible rfl
      simp only [List.getElem_toArray, List.getElem_cons_succ, List.getElem_cons_zero, Act.put, List.setIfInBounds_toArray, List.set_cons_zero, List.set_cons_succ]
      refine wpAnyH_take (i := 4) (v := ?vc4) rfl (by kernel_rfl) (by kernel_rfl) (by kernel_rfl) (fun _ _ _ h => h) (Or.inl ⟨by rfl, ?hc4⟩) (by assumption) ?_
      case hc4 => intro w hSw; (try dsimp only at hSw); go_simp; try with_reducible rfl
      simp only [List.getElem_toArray, List.getElem_cons_succ, List.getElem_cons_zero, Act.put, List.setIfInBounds_toArray, List.set_cons_zero, List.set_cons_succ]
      refine wpAnyH_take (i := 5) (v := ?vc5) rfl (by kernel_rfl) (by kernel_rfl) (by kernel_rfl) (fun _ _ _ h => h) (Or.inl ⟨by rfl, ?hc5⟩) (by assumption) ?_
      case hc5 => intro w hSw; (try dsimp only at hSw); go_simp; try with_reducible rfl
      simp only [List.getElem_toArray, List.getElem_cons_succ, List.getElem_cons_zero, Act.put, List.setIfInBounds_toArray, List.set_cons_zero, List.set_cons_succ]
      refine wpAnyH_take (i := 6) (v := ?vc6) rfl (by kernel_rfl) (by kernel_rfl) (by kernel_rfl) (fun _ _ _ h => h) (Or.inl ⟨by rfl, ?hc6⟩) (by assumption) ?_
      case hc6 => intro w hSw; (try dsimp only at hSw); go_simp; try with_reducible rfl
      simp only [List.getElem_toArray, List.getElem_cons_succ, List.getElem_cons_zero, Act.put, List.setIfInBounds_toArray, List.set_cons_zero, List.set_cons_succ]
      refine wpAnyH_take (i := 7) (v := ?vc7) rfl (by kernel_rfl) (by kernel_rfl) (by kernel_rfl) (fun _ _ _ h => h) (Or.inl ⟨by rfl, ?hc7⟩) (by assumption) ?_
      case hc7 => intro w hSw; (try dsimp only at hSw); go_simp; try with_reducible rfl
      simp only [List.getElem_toArray, List.getElem_cons_succ, List.getElem_cons_zero, Act.put, List.setIfInBounds_toArray, List.set_cons_zero, List.set_cons_succ]
      refine wpAnyH_take (i := 8) (v := ?vc8) rfl (by kernel_rfl) (by kernel_rfl) (by kernel_rfl) (fun _ _ _ h => h) (Or.inl ⟨by rfl, ?hc8⟩) (by assumption) ?_
      case hc8 => intro w hSw; (try dsimp only at hSw); go_simp; try with_reducible rfl
      simp only [List.getElem_toArray, List.getElem_cons_succ, List.getElem_cons_zero, Act.put, List.setIfInBounds_toArray, List.set_cons_zero, List.set_cons_succ]
      refine wpAnyH_ready (rs := [9]) (by kernel_rfl) (by simp) ?_
      refine AllReadyH.cons rfl (fun K hK => ?_) AllReadyH.nil
      go_simp
      refine HRS2.out.mono ?_
      rintro e w8 hup
      obtain ⟨A8, c8, F8, rfl, hat8, hF8, hfr8⟩ := UpPost.none hup
      have zd := HBD.out.size
      have HBwd := Lib.hid (HB7.out.trans (HBD.out.mono HB7.out.size))
      have hB8 := HBwd.out.trans (hfr8.below HBwd.out.size (fun j hj => by have := (HF6.out j hj).1; have := HB2.out.size; omega))
      have hat82 := GridAt.fr (⟨hb2, hc2, L2, HGGD.out, HFT2.out⟩ : GridAt wd F2 p2 g0) hfr8 (fun j hj hm => by have := HF2.out j hj; have := HL4.out j hj; have := (HF6.out j hm).2; omega)
      have hS8 : w8.cell? ⟨p2, 0, none⟩ = some (.int .i64 (g0.w : Int)) ∧ w8.cell? ⟨p2, 1, none⟩ = some (.int .i64 (g0.h : Int)) := by
        obtain ⟨_, _, _, h, _⟩ := hat82
        exact ⟨h.cell0, h.cell1⟩
      have HAT8 := Lib.hid hat8
      have HAT82 := Lib.hid hat82
      have HB8 := Lib.hid hB8
      clear hup hat8 hF8 hfr8 hat82 hB8
      dsimp only
      refine hK.out _ _ ?_ (fun hHeld => ?_)
      · exact hS8
      clear hK K
      refine wpAnyH_done (by kernel_rfl) ?_ _
      refine NoPanic.normal ?_
      clear hHeld hS hS8
      have HB9 := HB8
      have HAT9 := HAT8
      have HAT92 := HAT82
      have hsm := gsame_ok w8 HAT9.out HAT92.out HOK0.out HOK0.out
      rw [gsame_self] at hsm
      have HSM := Lib.hid hsm
      have heq := fun w => run_eqC w ⟨0, zero⟩ ⟨0, zero⟩
      rw [show decide ((⟨0, zero⟩ : Cel) = ⟨0, zero⟩) = true by simp] at heq
      have hbz := fun w => build_zcell w
      clear hsm
      go_wp2_with fail
      refine HSM.out.mono ?_
      rintro e w10 ⟨rfl, k10⟩
      have HB10 := Lib.hid (below_next HB9.out k10)
      have HAT10 := Lib.hid (HAT9.out.below k10)
      have HAT102 := Lib.hid (HAT92.out.below k10)
      clear k10
      obtain ⟨hb', hc', L', hG', hfoot'⟩ := HAT10.out
      have hal := at_ok w10 hG' HOK0.out (-1) 0
      rw [gat_left] at hal
      have HAL := Lib.hid hal
      have HG10 := Lib.hid hG'
      simp only [celV, zero] at HAL heq
      clear hal hG' hfoot'
      go_wp2_with fail
      refine HAL.out.mono ?_
      rintro e w11 ⟨rfl, k11⟩
      have HB11 := Lib.hid (below_next HB10.out k11)
      have HAT112 := Lib.hid (HAT102.out.below k11)
      have hal := at_ok w11 (HG10.out.below k11) HOK0.out 0 (g0.h : Int)
      rw [gat_low] at hal
      have HAH := Lib.hid hal
      simp only [celV, zero] at HAH
      have p1 : w11.cell? ⟨p2, 1, none⟩ = some (.int .i64 (g0.h : Int)) := by
        obtain ⟨_, _, _, h, _⟩ := HAT112.out
        exact h.cell1
      clear hal k11
      go_wp2_with fail
      refine HAH.out.mono ?_
      rintro e w12 ⟨rfl, k12⟩
      have HB12 := Lib.hid (below_next HB11.out k12)
      clear k12 p1
      go_wp2_with fail
      go_ret
      exact ⟨rfl, HB12.out⟩
theorem walk (x y : Int) (A : Option Addr) (len cap : Nat) (m0 m1 : Int) (w : World) (h1 : IsCels w A len cap) (hT : Tabs w) :
    Calls Tryd.prog 6 #[.agg #[.int .i64 x, .int .i64 y], .slice A len cap, .agg #[.int .i64 m0, .int .i64 m1]] w fun e w' => e = .returned (.bool true) ∧ Below w.heap.size w w' := by
  obtain ⟨l, rfl, _, hr⟩ := h1
  exact core x y A cap l m0 m1 w hr hT

theorem own : ownKnob Tryd.prog.godebug = none := by kernel_rfl
theorem laidOut : laidOutB Tryd.prog = true := by kernel_rfl

set_option maxRecDepth 100000 in
theorem lifted (os : Os) (started : os.Started) (H : Type) (enc : TypeId × Value → H) :
    ReturnsInHanded {} Tryd.checked os 6 .any (fun w args => (Rows.gridSizesSpec.pre enc Tryd.prog Tryd.f6 Rows.gridSizesRow.domain false w args ∧ laidMetH Tryd.prog Rows.gridSizesRow.laid w) ∧ sizedMet enc Tryd.prog Tryd.f6 (OpenSpec.ofChange Rows.gridSizesSpec) false w args)
      (Rows.gridSizesSpec.post enc Tryd.prog Tryd.f6 false true false false) := by
  refine returnsInHanded_of_change_and (C := Tryd.checked) (X := fun w _ => laidMetH Tryd.prog Rows.gridSizesRow.laid w) (fun _ _ _ hh h => h.of_heap hh) own started (by kernel_rfl) Tryd.func6
    (ChangeSpec.witness_shaped (enc := enc) (C := Tryd.checked) (os := os) (X := fun w _ => laidMetH Tryd.prog Rows.gridSizesRow.laid w) false (start9 os) #[.agg #[.int .i64 0, .int .i64 0], .slice none 0 0, .agg #[.int .i64 0, .int .i64 0]] 8 rfl (World.shaped_of_RefB (by kernel_rfl) (by kernel_rfl)) (by kernel_rfl) (by kernel_rfl) (by kernel_rfl) (met_gridSizes os _)) ?_
  intro W base args ds gs before hval0 hW _ _ hL _
  have hval : ∀ (j : Nat) t v, Tryd.f6.params[j]? = some t → args[j]? = some v → Value.okWide Tryd.prog W .any base t v := hval0
  have hW' := hW
  obtain ⟨p, q, hA0, hV, rfl, hfz, hnd⟩ := hW
  have hA : DataW.TrodAll enc Tryd.prog W 0 (fun _ => true) true Tryd.f6.params.toList args.toList ds p := hA0
  rw [Tryd.params6] at hA hval
  obtain ⟨v0, vs0, d0, ds0, p0, q0, hargs, rfl, rfl, h0, r0⟩ := trodAll_cons hA
  obtain ⟨v1, vs1, d1, ds1, p1, q1, rfl, rfl, rfl, h1, r1⟩ := trodAll_cons r0
  obtain ⟨v2, vs2, d2, ds2, p2, q2, rfl, rfl, rfl, h2, r2⟩ := trodAll_cons r1
  obtain ⟨rfl, rfl, rfl⟩ := trodAll_nil r2
  obtain rfl : args = #[v0, v1, v2] := by cases args; simp_all
  obtain ⟨rfl, rfl⟩ := trodVars_none hV
  have k0 := h0
  have lt0 : ∀ x ∈ p0, x.block < W.heap.size := by obtain ⟨m, hm⟩ := k0; exact DataW.trod_lt m _ _ _ hm
  obtain ⟨a0, b0, rfl⟩ := open_two (hval 0 22 v0 rfl rfl) h0
  obtain ⟨a1, len1, cap1, rfl⟩ := okWide_slice Tryd.underlying23 (hval 1 23 v1 rfl rfl)
  have k1 := h1
  have lt1 : ∀ x ∈ p1, x.block < W.heap.size := by obtain ⟨m, hm⟩ := k1; exact DataW.trod_lt m _ _ _ hm
  have w1 : IsCels W a1 len1 cap1 := by
    obtain ⟨fuel, hf⟩ := h1
    exact cels_in hf
  have k2 := h2
  have lt2 : ∀ x ∈ p2, x.block < W.heap.size := by obtain ⟨m, hm⟩ := k2; exact DataW.trod_lt m _ _ _ hm
  obtain ⟨a2, b2, rfl⟩ := open_two (hval 2 22 v2 rfl rfl) h2
  clear hA0 hval0
  refine (walk a0 b0 a1 len1 cap1 a2 b2 W w1 (tabs_gridSizes hL)).mono fun e W' ⟨he, bel⟩ => ?_
  subst he
  exact ⟨_, rfl, _, _, _, [], _, [], hW', trodAll_mk1 (shut_bool Tryd.underlying4 _), (trodAll_cons_mk (Below.trod laidOut (by kernel_rfl) (of_decide_eq_true (by kernel_rfl)) k0 bel lt0) (trodAll_cons_mk (Below.trod laidOut (by kernel_rfl) (of_decide_eq_true (by kernel_rfl)) k1 bel lt1) (trodAll_cons_mk (Below.trod laidOut (by kernel_rfl) (of_decide_eq_true (by kernel_rfl)) k2 bel lt2) trodAll_mk0))), rfl, bel.frame _, fun h => by cases h⟩

theorem over : Rows.gridSizesRow.holds Tryd.pinned (OpenSpec.ofChange Rows.gridSizesSpec) :=
  OpenClaim.holds_of_wide 6 Tryd.f6 rfl rfl rfl rfl rfl rfl rfl ⟨rfl, rfl, rfl, rfl, rfl⟩ rfl rfl rfl rfl rfl (by kernel_rfl) Tryd.func6 (by kernel_rfl)
    (of_decide_eq_true (by kernel_rfl)) (by unfold Func.isWrapper; first | (rw [if_pos (by decide +kernel)]; kernel_rfl) | (rw [if_neg (by decide +kernel)]; exact ⟨rfl, rfl⟩))
    (fun os started H enc _ => lifted os started H enc)

theorem cardOver : Rows.GridSizesCardSaid :=
  Claim7.holds_tied_plain_at .later [] [.data, .data, .pinned] true (true, "f146deda77bc3999c62c82da70115e9c71b62d2033ceffcf0b29ca91f6fa214a") false
    over (fun _ h => by cases h) (by kernel_rfl) (fun _ h => by cases h) gridSizes_row_tie rfl ⟨rfl, rfl⟩ (by kernel_rfl) rfl
    (fun f fn hf hfn => by
      obtain rfl : f = 6 := Option.some.inj ((show Tryd.prog.funcNamed Rows.gridSizesRow.func = some 6 by kernel_rfl).symm.trans hf) |>.symm
      obtain rfl : fn = Tryd.f6 := (Option.some.inj (Tryd.func6.symm.trans hfn)).symm
      exact ⟨by kernel_rfl, fun j t ht => by
        rw [Tryd.params6] at ht
        have hm : t ∈ [22, 23, 22] := by simpa using Array.mem_of_getElem? ht
        have hall : ([22, 23, 22].all fun u => !Tryd.prog.wantsStandIn u) = true := by kernel_rfl
        exact (show Tryd.prog.wantsStandIn t = false by simpa using List.all_eq_true.1 hall t hm)⟩)
    (by kernel_rfl)

end Go.Proofs.YtbpkklcegiiheaaDoor.gridSizes
namespace Go.Proofs.YtbpkklcegiiheaaDoor
theorem gridSizes_holds : Rows.GridSizesCardSaid := gridSizes.cardOver
end Go.Proofs.YtbpkklcegiiheaaDoor
