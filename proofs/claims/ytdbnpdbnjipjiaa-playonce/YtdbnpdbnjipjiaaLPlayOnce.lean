/-
  PlayOnce: each event is told once, in order, by whatever ticks, steps, pauses and speeds; steps tell all that is left. For every slice of events, every three numbers and every slice of deeds. No condition.
-/
import Derived.Test.YtdbnpdbnjipjiaaYFit
import Derived.Test.YtdbnpdbnjipjiaaYTimes
import Derived.Test.YtdbnpdbnjipjiaaYUntil
import Derived.Test.YtdbnpdbnjipjiaaYScale
import Derived.Test.YtdbnpdbnjipjiaaYOnceM
import Derived.Test.YtdbnpdbnjipjiaaYOpen
import Derived.Test.YtdbnpdbnjipjiaaETame
import Derived.Test.YtdbnpdbnjipjiaaESame
import Derived.ProofKit
import Derived.OpenShut
namespace Go.Proofs.Ytdbnpdbnjipjiaa.playOnce
open Go.ChangeShapes Go.WideShapes Go.ChangeAt Go.RowKit Go.Lib EM PM
set_option maxRecDepth 100000

theorem big (A At : Option Addr) (n c nt ct : Nat) (x y z : Int) (w : World) (h : 60 < n ∨ 60 < nt) :
    Calls Try.prog 5 #[.slice A n c, .agg #[.int .i64 x, .int .i64 y, .int .i64 z], .slice At nt ct] w fun e w' => e = .returned (.bool true) ∧ Below w.heap.size w w' := by
  obtain ⟨w1, hw1⟩ : ∃ w1, w1 = w.alloc (.cells #[.int .i64 x, .int .i64 y, .int .i64 z] 23) := ⟨_, rfl⟩
  have hb1 : Below w.heap.size w w1 := by rw [hw1]; exact (Below.refl _ _).alloc (Nat.le_refl _) _
  have W1 := Lib.hid hw1
  have HB1 := Lib.hid hb1
  have HF := Lib.hid (pfit_ok w1)
  clear hw1 hb1
  by_cases h1 : 60 < n
  · have g : decide ((60 : Int) < (n : Int)) = true := by simp; omega
    clear h
    go_enter Try.func5, Try.ntmps5
    go_wp2_with fail
    rw [← W1.out]
    refine HF.out.mono ?_
    rintro e w2 ⟨rfl, b2⟩
    have HB2 := Lib.hid (below_next HB1.out b2)
    clear b2
    go_wp2_with fail
    go_ret
    exact ⟨rfl, HB2.out⟩
  · have g : decide ((60 : Int) < (n : Int)) = false := by simp; omega
    have g' : decide ((60 : Int) < (nt : Int)) = true := by simp; omega
    clear h
    go_enter Try.func5, Try.ntmps5
    go_wp2_with fail
    rw [← W1.out]
    refine HF.out.mono ?_
    rintro e w2 ⟨rfl, b2⟩
    have HB2 := Lib.hid (below_next HB1.out b2)
    clear b2
    go_wp2_with fail
    go_ret
    exact ⟨rfl, HB2.out⟩

set_option maxHeartbeats 4000000 in
theorem core (A At : Option Addr) (c ct : Nat) (l : List Ev) (T : List Dp) (x y z : Int) (w : World) (hl : l.length ≤ 60) (hT : T.length ≤ 60) (hr : evE.Row w w.heap.size A l) (ht : dpE.Row w w.heap.size At T) :
    Calls Try.prog 5 #[.slice A l.length c, .agg #[.int .i64 x, .int .i64 y, .int .i64 z], .slice At T.length ct] w fun e w' => e = .returned (.bool true) ∧ Below w.heap.size w w' := by
  have g : decide ((60 : Int) < (l.length : Int)) = false := by simp; omega
  have g' : decide ((60 : Int) < (T.length : Int)) = false := by simp; omega
  obtain ⟨w1, hw1⟩ : ∃ w1, w1 = w.alloc (.cells #[.int .i64 x, .int .i64 y, .int .i64 z] 23) := ⟨_, rfl⟩
  have hb1 : Below w.heap.size w w1 := by rw [hw1]; exact (Below.refl _ _).alloc (Nat.le_refl _) _
  have hz1 : w1.heap.size = w.heap.size + 1 := by rw [hw1]; simp
  have ht1 : ThreeIn w1 w.heap.size x y z := by rw [hw1]; exact ThreeIn.fresh w x y z
  have W1 := Lib.hid hw1
  have HB1 := Lib.hid hb1
  have HF := Lib.hid (pfit_ok w1)
  have HT1 := Lib.hid ht1
  have HR := Lib.hid hr
  have HTR := Lib.hid ht
  clear hw1 hb1 hr ht1 ht
  go_enter Try.func5, Try.ntmps5
  go_wp2_with fail
  rw [← W1.out]
  refine HF.out.mono ?_
  rintro e w2 ⟨rfl, b2⟩
  have HB2 := Lib.hid (below_next HB1.out b2)
  have HT2 := Lib.hid (HT1.out.below b2)
  have hz2 := b2.size
  clear b2 HF
  have HTA := Lib.hid (tame_ok w2 l A c w.heap.size (HR.out.below HB2.out) HB2.out.size (by omega))
  go_wp2_with fail
  refine HTA.out.mono ?_
  rintro e w3 ⟨v, rfl, ho, b3⟩
  obtain ⟨AL, cL, hv, hlc, -, hAL, hrL⟩ := ho.row
  subst hv
  have HB3 := Lib.hid (below_next HB2.out b3)
  have HT3 := Lib.hid (HT2.out.below b3)
  have hz3 := b3.size
  have HLB := Lib.hid (tameL_list l 0 (Int.le_refl _) (by omega))
  have hlen := tameL_len 0 l
  have HRL := Lib.hid hrL
  have HAL := Lib.hid hAL
  generalize tameL 0 l = L at *
  obtain ⟨c0, c1, c2⟩ := HT3.out.cells
  have hLl : L.length ≤ 60 := by omega
  clear ho b3 HTA hrL hAL g hlen
  -- the three numbers
  have a0 := i64_and65k x
  have a1 := i64_and65k y
  have a2 := i64_and65k z
  generalize hs : x % 65536 = s at *
  generalize hy1 : y % 65536 = y1 at *
  generalize hz1' : z % 65536 = z1 at *
  have bs : 0 ≤ s ∧ s ≤ 65535 := by omega
  have by1 : 0 ≤ y1 ∧ y1 ≤ 65535 := by omega
  have bz1 : 0 ≤ z1 ∧ z1 ≤ 65535 := by omega
  clear hs hy1 hz1'
  obtain ⟨y2, hy2⟩ : ∃ y2, y1 % 1000 = y2 := ⟨_, rfl⟩
  obtain ⟨z2, hz2'⟩ : ∃ z2, z1 % 1000 = z2 := ⟨_, rfl⟩
  have m1 : y1.tmod 1000 = y2 := by rw [Int.tmod_eq_emod_of_nonneg by1.1]; exact hy2
  have m2 : z1.tmod 1000 = z2 := by rw [Int.tmod_eq_emod_of_nonneg bz1.1]; exact hz2'
  have by2 : 0 ≤ y2 ∧ y2 ≤ 999 := by omega
  have bz2 : 0 ≤ z2 ∧ z2 ≤ 999 := by omega
  obtain ⟨p, hp⟩ : ∃ p, 1 + y2 = p := ⟨_, rfl⟩
  obtain ⟨q, hq⟩ : ∃ q, 1 + z2 = q := ⟨_, rfl⟩
  have hrs : rightS p q = true := rightS_iff.2 (by omega)
  have hmay : mayP L s p q = true := mayP_iff.2 ⟨by omega, by omega, hrs, HLB.out⟩
  have ok := mayP_ok (by omega) hmay
  have HB4 := Lib.hid HB3.out
  have HRL4 := Lib.hid HRL.out
  have hz4 : w3.heap.size ≤ w3.heap.size := Nat.le_refl _
  generalize w3 = w4 at *
  have HN1 := Lib.hid (new_good w4 L AL cL w4.heap.size s p q HRL4.out HAL.out (Nat.le_refl _) (by omega) hmay)
  have hfull := new_full L s p q (by omega)
  have hnl : (new L s p q).l = L := rfl
  have hlq := upTo_le L s
  obtain ⟨u0, hu0⟩ : ∃ u0, u0 = upTo L s := ⟨_, rfl⟩
  have hnt : (new L s p q).told = u0 := hu0.symm
  have HUN := Lib.hid (fun v (h : evE.Row v w4.heap.size AL L) => runtil_same v L AL cL w4.heap.size s h (by omega))
  rw [← hu0] at HUN hlq
  clear hu0 hrs hmay
  have hB0 := HB1.out.size
  have hB4 := HB4.out.size
  go_wp2_with fail
  refine HN1.out.mono ?_
  rintro e w5 ⟨g1, A1, d1, rfl, hg1, hp1', b5, -⟩
  have HB5 := Lib.hid (below_next HB4.out b5)
  have HP5 := Lib.hid hp1'
  have HX5 := Lib.hid b5
  have HT5 := Lib.hid (HT3.out.low b5 (by omega))
  have hz5 := b5.size
  have HR5 := Lib.hid (HRL4.out.below b5)
  have hl5 := hp1'.lt
  obtain ⟨B0, hB0a, hB0b⟩ : ∃ B0, B0 ≤ w5.heap.size ∧ w5.heap.size ≤ B0 := ⟨_, Nat.le_refl _, Nat.le_refl _⟩
  have HNW5 := Lib.hid (now_ok w5 g1 d1 A1 (new L s p q) hp1' ok)
  have HOKN := Lib.hid ok
  have HFN := Lib.hid hfull
  have HNL := Lib.hid hnl
  have HNT := Lib.hid hnt
  clear b5 hp1' HN1 HRL ok hfull hnl hnt c0 c1 c2
  generalize new L s p q = P0 at *
  obtain ⟨c0, c1, c2⟩ := HT5.out.cells
  have hhd := fun w => headE AL L.length cL u0 w (by omega)
  have htk : (L.take u0).length = u0 := by rw [List.length_take]; omega
  have HTK0 := Lib.hid htk
  clear htk
  go_wp2_with fail
  refine (HUN.out w5 HR5.out).mono ?_
  rintro e w6 ⟨rfl, hw⟩
  rw [hw]
  clear hw w6
  go_wp2_with (at_builtin; refine evE.wp_append rfl (.const (.slice none 0 0)) (.tmp 55) rfl B0 _ [] rfl (El.Own.nil _ _) AL (L.take u0) _ cL w5.heap.size HTK0.out.symm rfl ((HR5.out.take u0).mono hz5) HAL.out ?c1 ?c2 (by omega) ?_)
  case c1 => have := HTK0.out; simp only [evE, List.length_nil]; omega
  case c2 => have := HTK0.out; unfold maxLen; simp only [List.length_nil]; omega
  intro v6 w6 ho6 hg6
  have hbb : Below B0 w5 w6 := (El.Own.nil w5 B0 : evE.Own w5 B0 _ []).grow_below hg6 (by omega)
  try rw [List.nil_append] at ho6
  have HO6 := Lib.hid ho6
  have HB6 := Lib.hid (HB5.out.trans (hbb.mono (by omega)))
  have HX6 := Lib.hid (HX5.out.trans (hbb.mono (by omega)))
  have HP6 := Lib.hid (HP5.out.below (hbb.mono (by omega)))
  have hz6 := hbb.size
  have HNW6 := Lib.hid (now_ok w6 g1 d1 A1 P0 (HP5.out.below (hbb.mono (by omega))) HOKN.out)
  clear hbb ho6 hg6 c0 c1 c2 hhd HNW5
  generalize hnv : P0.now = nv at *
  have HNV := Lib.hid hnv
  clear hnv
  go_wp2_with fail
  refine HNW6.out.mono ?_
  rintro e w7 ⟨rfl, k7, hw⟩
  have HB7 := Lib.hid (show Below w.heap.size w w7 by rw [hw]; exact below_drewN HB6.out _)
  have HX7 := Lib.hid (show Below w4.heap.size w4 w7 by rw [hw]; exact below_drewN HX6.out _)
  have HP7 := Lib.hid (show PlAt w7 g1 A1 d1 P0 by rw [hw]; exact HP6.out)
  have HO7 := Lib.hid (show evE.Own w7 B0 v6 (L.take P0.told) by rw [hw, HNT.out]; exact HO6.out)
  have hz7 : w6.heap.size ≤ w7.heap.size := by rw [hw]; exact Nat.le_refl _
  clear hw HNW6 HO6
  go_wp2_with fail
  go_loopw [9, 10, 61] (fun v nn i wr => ∃ (k : Nat) (P : Pl), k ≤ T.length ∧ i = .int .i64 (k : Int) ∧ nn = .int .i64 P.now ∧ P.Ok ∧ P.Full ∧ P.l = L ∧ Below w.heap.size w wr ∧ Below w4.heap.size w4 wr ∧ B0 ≤ wr.heap.size ∧ PlAt wr g1 A1 d1 P ∧ evE.Own wr B0 v (L.take P.told)) (fun _ _ i _ => T.length - (RowKit.intOf i).toNat)
  case atStart => exact ⟨0, P0, Nat.zero_le _, rfl, by rw [HNV.out], HOKN.out, HFN.out, HNL.out, HB7.out, HX7.out, by omega, HP7.out, HO7.out⟩
  case round =>
    obtain ⟨k, P, hk, rfl, rfl, hok, hfu, hpl, hb, hx, hBr, hpa, ho⟩ := hrel
    have HOK := Lib.hid hok
    have HFU := Lib.hid hfu
    have HPL := Lib.hid hpl
    have HB := Lib.hid hb
    have HX := Lib.hid hx
    have HP := Lib.hid hpa
    have HO := Lib.hid ho
    have hzr := hb.size
    have hzx := hx.size
    have htl : P.told ≤ L.length := by rw [← hpl]; exact Pl.told_le hfu
    clear hb hx hpa ho hok hfu hpl
    by_cases hlt : k < T.length
    · have g1' : decide ((k : Int) < (T.length : Int)) = true := by simp; omega
      have gn : decide (k < T.length) = true := by simp; omega
      obtain ⟨b0, off, rfl, hbl, t0, t1, t2⟩ := dp_at (HTR.out.below HB.out) hlt
      generalize T[k] = d at *
      obtain ⟨dk, dn, dm⟩ := d
      simp only at t0 t1 t2
      have a3 := i64_and3 dk
      have an1 := i64_and1 dn
      generalize hdk4 : dk % 4 = kk at *
      have bkk : kk = 0 ∨ kk = 1 ∨ kk = 2 ∨ kk = 3 := by omega
      clear hdk4
      obtain ⟨w8, hw8⟩ : ∃ w8, w8 = wr.alloc (.cells #[.int .i64 dk, .int .i64 dn, .int .i64 dm] 37) := ⟨_, rfl⟩
      have hb8 : Below wr.heap.size wr w8 := by rw [hw8]; exact (Below.refl _ _).alloc (Nat.le_refl _) _
      have hz8 := hb8.size
      have HD8 := Lib.hid (show DpAt w8 wr.heap.size ⟨dk, dn, dm⟩ by rw [hw8]; exact DpAt.new wr ⟨dk, dn, dm⟩)
      have HB8 := Lib.hid (below_next HB.out hb8)
      have HX8 := Lib.hid (below_next HX.out hb8)
      have HP8 := Lib.hid (HP.out.next hb8)
      have HO8 := Lib.hid (HO.out.below hb8)
      have W8 := Lib.hid hw8
      clear hw8 hb8 HO HP
      obtain ⟨x0, x1, x2⟩ := HD8.out.cells
      simp only at x0 x1 x2
      generalize hnp : P.now = np at *
      have HNP := Lib.hid hnp
      clear hnp
      rcases bkk with rfl | rfl | rfl | rfl
      · have s0 : ((0 : Int) == 0) = true := rfl
        have HC := Lib.hid (tick_ok w8 g1 d1 A1 P HP8.out HOK.out HFU.out dn)
        rw [HPL.out] at HC
        have hle : P.told ≤ (P.tick dn).told ∧ P.now ≤ (P.tick dn).now := ⟨HOK.out.tick_told HFU.out dn, HOK.out.now_goes dn⟩
        have OKA := Lib.hid (show (P.tick dn).Ok from HOK.out.tick dn)
        have FUA := Lib.hid (show (P.tick dn).Full from Pl.tick_full P dn)
        have PLA := Lib.hid (show (P.tick dn).l = L from HPL.out)
        rw [HNP.out] at hle
        have htl' : (P.tick dn).told ≤ L.length := by rw [← PLA.out]; exact Pl.told_le FUA.out
        have hsl := seg_len L P.told (P.tick dn).told hle.1 htl'
        have HTS := Lib.hid (take_seg L P.told (P.tick dn).told hle.1)
        have htk : (L.take P.told).length = P.told := by rw [List.length_take]; omega
        have HSL := Lib.hid hsl
        have HTK := Lib.hid htk
        have hcond : np ≤ (P.tick dn).now ∨ np = 4611686018427387904 := .inl hle.2
        clear hsl htk hle
        generalize P.tick dn = Q' at *
        go_upto_region 14 with fail
        rw [← W8.out]
        go_wp2_with fail
        refine HC.out.mono ?_
        rintro e w9 ⟨v2, rfl, ho2, hp9, hf9⟩
        obtain ⟨Ax, cx, hvx, -, -, hAx, hrx⟩ := ho2.row
        subst hvx
        have HP9 := Lib.hid hp9
        have HB9 := Lib.hid (HB8.out.trans (hf9.below (by omega) (fun k hk => by omega)))
        have HX9 := Lib.hid (HX8.out.trans (hf9.below (by omega) (fun k hk => by omega)))
        have HO9 := Lib.hid (HO8.out.fr hf9 (fun k hk e => by have := (HO8.out.lt k e).1; omega))
        have hz9 := hf9.size
        have HRX := Lib.hid hrx
        have HAX := Lib.hid hAx
        clear ho2 hp9 hf9 hrx hAx HO8 t0 t1 t2 x0 x1 x2
        go_wp2_with (at_builtin; refine evE.wp_append rfl (.tmp 76) (.tmp 80) rfl B0 _ (L.take P.told) rfl HO9.out Ax (seg L P.told Q'.told) _ cx w9.heap.size rfl rfl HRX.out HAX.out ?c1 ?c2 (by omega) ?_)
        case c1 => have := HSL.out; have := HTK.out; simp only [evE]; omega
        case c2 => have := HSL.out; have := HTK.out; unfold maxLen; omega
        intro vA wA ho3 hg3
        have hbb : Below B0 w9 wA := HO9.out.grow_below hg3 (by omega)
        rw [HTS.out] at ho3
        have HOA := Lib.hid ho3
        have HBA := Lib.hid (HB9.out.trans (hbb.mono (by omega)))
        have HXA := Lib.hid (HX9.out.trans (hbb.mono (by omega)))
        have HPA := Lib.hid (HP9.out.below (hbb.mono (by omega)))
        have hzA := hbb.size
        clear hbb ho3 hg3 HC
        have HNA := Lib.hid (now_ok wA g1 d1 A1 Q' HPA.out OKA.out)
        have HNB := Lib.hid (fun v (hv : PlAt v g1 A1 d1 Q') => now_ok v g1 d1 A1 Q' hv OKA.out)
        have hQe : Q'.now = Q'.now := rfl
        generalize hqn : Q'.now = qn at *
        have HQN := Lib.hid hqn
        clear hqn hQe
        rcases hcond with hc | hc
        · have n1 : decide (qn < np) = false := decide_eq_false (by omega)
          go_wp2_with fail
          refine HNA.out.mono ?_
          rintro e wB ⟨rfl, kB, hw⟩
          have HBB := Lib.hid (show Below w.heap.size w wB by rw [hw]; exact below_drewN HBA.out _)
          have HXB := Lib.hid (show Below w4.heap.size w4 wB by rw [hw]; exact below_drewN HXA.out _)
          have HPB := Lib.hid (show PlAt wB g1 A1 d1 Q' by rw [hw]; exact HPA.out)
          have HOB := Lib.hid (HOA.out.below (w' := wB) (by rw [hw]; exact below_drewN (Below.refl _ _) _))
          have hzB : wA.heap.size ≤ wB.heap.size := by rw [hw]; exact Nat.le_refl _
          clear hw
          go_wp2_with fail
          refine (HNB.out wB HPB.out).mono ?_
          rintro e wC ⟨rfl, kC, hw⟩
          have HBC := Lib.hid (show Below w.heap.size w wC by rw [hw]; exact below_drewN HBB.out _)
          have HXC := Lib.hid (show Below w4.heap.size w4 wC by rw [hw]; exact below_drewN HXB.out _)
          have HPC := Lib.hid (show PlAt wC g1 A1 d1 Q' by rw [hw]; exact HPB.out)
          have HOC := Lib.hid (HOB.out.below (w' := wC) (by rw [hw]; exact below_drewN (Below.refl _ _) _))
          have hzC : wB.heap.size ≤ wC.heap.size := by rw [hw]; exact Nat.le_refl _
          clear hw
          go_wp2_with fail
          go_roundw
          case rel => exact ⟨k + 1, Q', by omega, by simp, by rw [HQN.out], OKA.out, FUA.out, PLA.out, HBC.out, HXC.out, by omega, HPC.out, HOC.out⟩
          case measure => simp [RowKit.intOf]; omega
        · have n2 : decide (np < 4611686018427387904) = false := decide_eq_false (by omega)
          by_cases hlt2 : qn < np
          · have n1 : decide (qn < np) = true := decide_eq_true hlt2
            go_wp2_with fail
            refine HNA.out.mono ?_
            rintro e wB ⟨rfl, kB, hw⟩
            have HBB := Lib.hid (show Below w.heap.size w wB by rw [hw]; exact below_drewN HBA.out _)
            have HXB := Lib.hid (show Below w4.heap.size w4 wB by rw [hw]; exact below_drewN HXA.out _)
            have HPB := Lib.hid (show PlAt wB g1 A1 d1 Q' by rw [hw]; exact HPA.out)
            have HOB := Lib.hid (HOA.out.below (w' := wB) (by rw [hw]; exact below_drewN (Below.refl _ _) _))
            have hzB : wA.heap.size ≤ wB.heap.size := by rw [hw]; exact Nat.le_refl _
            clear hw
            go_wp2_with fail
            refine (HNB.out wB HPB.out).mono ?_
            rintro e wC ⟨rfl, kC, hw⟩
            have HBC := Lib.hid (show Below w.heap.size w wC by rw [hw]; exact below_drewN HBB.out _)
            have HXC := Lib.hid (show Below w4.heap.size w4 wC by rw [hw]; exact below_drewN HXB.out _)
            have HPC := Lib.hid (show PlAt wC g1 A1 d1 Q' by rw [hw]; exact HPB.out)
            have HOC := Lib.hid (HOB.out.below (w' := wC) (by rw [hw]; exact below_drewN (Below.refl _ _) _))
            have hzC : wB.heap.size ≤ wC.heap.size := by rw [hw]; exact Nat.le_refl _
            clear hw
            go_wp2_with fail
            go_roundw
            case rel => exact ⟨k + 1, Q', by omega, by simp, by rw [HQN.out], OKA.out, FUA.out, PLA.out, HBC.out, HXC.out, by omega, HPC.out, HOC.out⟩
            case measure => simp [RowKit.intOf]; omega
          · have n1 : decide (qn < np) = false := decide_eq_false hlt2
            go_wp2_with fail
            refine HNA.out.mono ?_
            rintro e wB ⟨rfl, kB, hw⟩
            have HBB := Lib.hid (show Below w.heap.size w wB by rw [hw]; exact below_drewN HBA.out _)
            have HXB := Lib.hid (show Below w4.heap.size w4 wB by rw [hw]; exact below_drewN HXA.out _)
            have HPB := Lib.hid (show PlAt wB g1 A1 d1 Q' by rw [hw]; exact HPA.out)
            have HOB := Lib.hid (HOA.out.below (w' := wB) (by rw [hw]; exact below_drewN (Below.refl _ _) _))
            have hzB : wA.heap.size ≤ wB.heap.size := by rw [hw]; exact Nat.le_refl _
            clear hw
            go_wp2_with fail
            refine (HNB.out wB HPB.out).mono ?_
            rintro e wC ⟨rfl, kC, hw⟩
            have HBC := Lib.hid (show Below w.heap.size w wC by rw [hw]; exact below_drewN HBB.out _)
            have HXC := Lib.hid (show Below w4.heap.size w4 wC by rw [hw]; exact below_drewN HXB.out _)
            have HPC := Lib.hid (show PlAt wC g1 A1 d1 Q' by rw [hw]; exact HPB.out)
            have HOC := Lib.hid (HOB.out.below (w' := wC) (by rw [hw]; exact below_drewN (Below.refl _ _) _))
            have hzC : wB.heap.size ≤ wC.heap.size := by rw [hw]; exact Nat.le_refl _
            clear hw
            go_wp2_with fail
            go_roundw
            case rel => exact ⟨k + 1, Q', by omega, by simp, by rw [HQN.out], OKA.out, FUA.out, PLA.out, HBC.out, HXC.out, by omega, HPC.out, HOC.out⟩
            case measure => simp [RowKit.intOf]; omega
      · have s0 : ((1 : Int) == 0) = false := rfl
        have s1 : ((1 : Int) == 1) = true := rfl
        have HC := Lib.hid (step_ok w8 g1 d1 A1 P HP8.out HOK.out HFU.out)
        rw [HPL.out] at HC
        have hle : P.told ≤ (P.step).told ∧ P.now ≤ (P.step).now := HOK.out.step_le HFU.out
        have OKA := Lib.hid (show (P.step).Ok from HOK.out.step HFU.out)
        have FUA := Lib.hid (show (P.step).Full from Pl.step_full HFU.out)
        have PLA := Lib.hid (show (P.step).l = L from (step_l P).trans HPL.out)
        rw [HNP.out] at hle
        have htl' : (P.step).told ≤ L.length := by rw [← PLA.out]; exact Pl.told_le FUA.out
        have hsl := seg_len L P.told (P.step).told hle.1 htl'
        have HTS := Lib.hid (take_seg L P.told (P.step).told hle.1)
        have htk : (L.take P.told).length = P.told := by rw [List.length_take]; omega
        have HSL := Lib.hid hsl
        have HTK := Lib.hid htk
        have hcond : np ≤ (P.step).now ∨ np = 4611686018427387904 := .inl hle.2
        clear hsl htk hle
        generalize P.step = Q' at *
        go_upto_region 14 with fail
        rw [← W8.out]
        go_wp2_with fail
        refine HC.out.mono ?_
        rintro e w9 ⟨v2, rfl, ho2, hp9, hf9⟩
        obtain ⟨Ax, cx, hvx, -, -, hAx, hrx⟩ := ho2.row
        subst hvx
        have HP9 := Lib.hid hp9
        have HB9 := Lib.hid (HB8.out.trans (hf9.below (by omega) (fun k hk => by omega)))
        have HX9 := Lib.hid (HX8.out.trans (hf9.below (by omega) (fun k hk => by omega)))
        have HO9 := Lib.hid (HO8.out.fr hf9 (fun k hk e => by have := (HO8.out.lt k e).1; omega))
        have hz9 := hf9.size
        have HRX := Lib.hid hrx
        have HAX := Lib.hid hAx
        clear ho2 hp9 hf9 hrx hAx HO8 t0 t1 t2 x0 x1 x2
        go_wp2_with (at_builtin; refine evE.wp_append rfl (.tmp 84) (.tmp 86) rfl B0 _ (L.take P.told) rfl HO9.out Ax (seg L P.told Q'.told) _ cx w9.heap.size rfl rfl HRX.out HAX.out ?c1 ?c2 (by omega) ?_)
        case c1 => have := HSL.out; have := HTK.out; simp only [evE]; omega
        case c2 => have := HSL.out; have := HTK.out; unfold maxLen; omega
        intro vA wA ho3 hg3
        have hbb : Below B0 w9 wA := HO9.out.grow_below hg3 (by omega)
        rw [HTS.out] at ho3
        have HOA := Lib.hid ho3
        have HBA := Lib.hid (HB9.out.trans (hbb.mono (by omega)))
        have HXA := Lib.hid (HX9.out.trans (hbb.mono (by omega)))
        have HPA := Lib.hid (HP9.out.below (hbb.mono (by omega)))
        have hzA := hbb.size
        clear hbb ho3 hg3 HC
        have HNA := Lib.hid (now_ok wA g1 d1 A1 Q' HPA.out OKA.out)
        have HNB := Lib.hid (fun v (hv : PlAt v g1 A1 d1 Q') => now_ok v g1 d1 A1 Q' hv OKA.out)
        have hQe : Q'.now = Q'.now := rfl
        generalize hqn : Q'.now = qn at *
        have HQN := Lib.hid hqn
        clear hqn hQe
        rcases hcond with hc | hc
        · have n1 : decide (qn < np) = false := decide_eq_false (by omega)
          go_wp2_with fail
          refine HNA.out.mono ?_
          rintro e wB ⟨rfl, kB, hw⟩
          have HBB := Lib.hid (show Below w.heap.size w wB by rw [hw]; exact below_drewN HBA.out _)
          have HXB := Lib.hid (show Below w4.heap.size w4 wB by rw [hw]; exact below_drewN HXA.out _)
          have HPB := Lib.hid (show PlAt wB g1 A1 d1 Q' by rw [hw]; exact HPA.out)
          have HOB := Lib.hid (HOA.out.below (w' := wB) (by rw [hw]; exact below_drewN (Below.refl _ _) _))
          have hzB : wA.heap.size ≤ wB.heap.size := by rw [hw]; exact Nat.le_refl _
          clear hw
          go_wp2_with fail
          refine (HNB.out wB HPB.out).mono ?_
          rintro e wC ⟨rfl, kC, hw⟩
          have HBC := Lib.hid (show Below w.heap.size w wC by rw [hw]; exact below_drewN HBB.out _)
          have HXC := Lib.hid (show Below w4.heap.size w4 wC by rw [hw]; exact below_drewN HXB.out _)
          have HPC := Lib.hid (show PlAt wC g1 A1 d1 Q' by rw [hw]; exact HPB.out)
          have HOC := Lib.hid (HOB.out.below (w' := wC) (by rw [hw]; exact below_drewN (Below.refl _ _) _))
          have hzC : wB.heap.size ≤ wC.heap.size := by rw [hw]; exact Nat.le_refl _
          clear hw
          go_wp2_with fail
          go_roundw
          case rel => exact ⟨k + 1, Q', by omega, by simp, by rw [HQN.out], OKA.out, FUA.out, PLA.out, HBC.out, HXC.out, by omega, HPC.out, HOC.out⟩
          case measure => simp [RowKit.intOf]; omega
        · have n2 : decide (np < 4611686018427387904) = false := decide_eq_false (by omega)
          by_cases hlt2 : qn < np
          · have n1 : decide (qn < np) = true := decide_eq_true hlt2
            go_wp2_with fail
            refine HNA.out.mono ?_
            rintro e wB ⟨rfl, kB, hw⟩
            have HBB := Lib.hid (show Below w.heap.size w wB by rw [hw]; exact below_drewN HBA.out _)
            have HXB := Lib.hid (show Below w4.heap.size w4 wB by rw [hw]; exact below_drewN HXA.out _)
            have HPB := Lib.hid (show PlAt wB g1 A1 d1 Q' by rw [hw]; exact HPA.out)
            have HOB := Lib.hid (HOA.out.below (w' := wB) (by rw [hw]; exact below_drewN (Below.refl _ _) _))
            have hzB : wA.heap.size ≤ wB.heap.size := by rw [hw]; exact Nat.le_refl _
            clear hw
            go_wp2_with fail
            refine (HNB.out wB HPB.out).mono ?_
            rintro e wC ⟨rfl, kC, hw⟩
            have HBC := Lib.hid (show Below w.heap.size w wC by rw [hw]; exact below_drewN HBB.out _)
            have HXC := Lib.hid (show Below w4.heap.size w4 wC by rw [hw]; exact below_drewN HXB.out _)
            have HPC := Lib.hid (show PlAt wC g1 A1 d1 Q' by rw [hw]; exact HPB.out)
            have HOC := Lib.hid (HOB.out.below (w' := wC) (by rw [hw]; exact below_drewN (Below.refl _ _) _))
            have hzC : wB.heap.size ≤ wC.heap.size := by rw [hw]; exact Nat.le_refl _
            clear hw
            go_wp2_with fail
            go_roundw
            case rel => exact ⟨k + 1, Q', by omega, by simp, by rw [HQN.out], OKA.out, FUA.out, PLA.out, HBC.out, HXC.out, by omega, HPC.out, HOC.out⟩
            case measure => simp [RowKit.intOf]; omega
          · have n1 : decide (qn < np) = false := decide_eq_false hlt2
            go_wp2_with fail
            refine HNA.out.mono ?_
            rintro e wB ⟨rfl, kB, hw⟩
            have HBB := Lib.hid (show Below w.heap.size w wB by rw [hw]; exact below_drewN HBA.out _)
            have HXB := Lib.hid (show Below w4.heap.size w4 wB by rw [hw]; exact below_drewN HXA.out _)
            have HPB := Lib.hid (show PlAt wB g1 A1 d1 Q' by rw [hw]; exact HPA.out)
            have HOB := Lib.hid (HOA.out.below (w' := wB) (by rw [hw]; exact below_drewN (Below.refl _ _) _))
            have hzB : wA.heap.size ≤ wB.heap.size := by rw [hw]; exact Nat.le_refl _
            clear hw
            go_wp2_with fail
            refine (HNB.out wB HPB.out).mono ?_
            rintro e wC ⟨rfl, kC, hw⟩
            have HBC := Lib.hid (show Below w.heap.size w wC by rw [hw]; exact below_drewN HBB.out _)
            have HXC := Lib.hid (show Below w4.heap.size w4 wC by rw [hw]; exact below_drewN HXB.out _)
            have HPC := Lib.hid (show PlAt wC g1 A1 d1 Q' by rw [hw]; exact HPB.out)
            have HOC := Lib.hid (HOB.out.below (w' := wC) (by rw [hw]; exact below_drewN (Below.refl _ _) _))
            have hzC : wB.heap.size ≤ wC.heap.size := by rw [hw]; exact Nat.le_refl _
            clear hw
            go_wp2_with fail
            go_roundw
            case rel => exact ⟨k + 1, Q', by omega, by simp, by rw [HQN.out], OKA.out, FUA.out, PLA.out, HBC.out, HXC.out, by omega, HPC.out, HOC.out⟩
            case measure => simp [RowKit.intOf]; omega
      · have s0 : ((2 : Int) == 0) = false := rfl
        have s1 : ((2 : Int) == 1) = false := rfl
        have s2 : ((2 : Int) == 2) = true := rfl
        obtain ⟨on, hon⟩ : ∃ on, (dn % 2 == 1) = on := ⟨_, rfl⟩
        generalize dn % 2 = d2 at *
        have HC := Lib.hid (pause_ok w8 g1 d1 A1 P HP8.out on)
        have hcond : np ≤ (P.pause on).now ∨ np = 4611686018427387904 := by rw [← HNP.out]; exact (.inl (Int.le_refl _))
        have OKA := Lib.hid (show (P.pause on).Ok from HOK.out.pause on)
        have FUA := Lib.hid (show (P.pause on).Full from Pl.pause_full HFU.out on)
        have PLA := Lib.hid (show (P.pause on).l = L from HPL.out)
        have HTO := Lib.hid (show P.told = (P.pause on).told from rfl)
        generalize P.pause on = Q' at *
        go_upto_region 14 with fail
        rw [← W8.out]
        go_wp2_with fail
        refine HC.out.mono ?_
        rintro e wA ⟨rfl, hp9, hf9⟩
        have HPA := Lib.hid hp9
        have HBA := Lib.hid (HB8.out.trans (hf9.below (by omega) (fun k hk => by omega)))
        have HXA := Lib.hid (HX8.out.trans (hf9.below (by omega) (fun k hk => by omega)))
        have hOA := HO8.out.fr hf9 (fun k hk e => by have := (HO8.out.lt k e).1; omega)
        rw [HTO.out] at hOA
        have HOA := Lib.hid hOA
        have hzA := hf9.size
        clear hp9 hf9 hOA HO8 t0 t1 t2 x0 x1 x2
        have HNA := Lib.hid (now_ok wA g1 d1 A1 Q' HPA.out OKA.out)
        have HNB := Lib.hid (fun v (hv : PlAt v g1 A1 d1 Q') => now_ok v g1 d1 A1 Q' hv OKA.out)
        have hQe : Q'.now = Q'.now := rfl
        generalize hqn : Q'.now = qn at *
        have HQN := Lib.hid hqn
        clear hqn hQe
        rcases hcond with hc | hc
        · have n1 : decide (qn < np) = false := decide_eq_false (by omega)
          go_wp2_with fail
          refine HNA.out.mono ?_
          rintro e wB ⟨rfl, kB, hw⟩
          have HBB := Lib.hid (show Below w.heap.size w wB by rw [hw]; exact below_drewN HBA.out _)
          have HXB := Lib.hid (show Below w4.heap.size w4 wB by rw [hw]; exact below_drewN HXA.out _)
          have HPB := Lib.hid (show PlAt wB g1 A1 d1 Q' by rw [hw]; exact HPA.out)
          have HOB := Lib.hid (HOA.out.below (w' := wB) (by rw [hw]; exact below_drewN (Below.refl _ _) _))
          have hzB : wA.heap.size ≤ wB.heap.size := by rw [hw]; exact Nat.le_refl _
          clear hw
          go_wp2_with fail
          refine (HNB.out wB HPB.out).mono ?_
          rintro e wC ⟨rfl, kC, hw⟩
          have HBC := Lib.hid (show Below w.heap.size w wC by rw [hw]; exact below_drewN HBB.out _)
          have HXC := Lib.hid (show Below w4.heap.size w4 wC by rw [hw]; exact below_drewN HXB.out _)
          have HPC := Lib.hid (show PlAt wC g1 A1 d1 Q' by rw [hw]; exact HPB.out)
          have HOC := Lib.hid (HOB.out.below (w' := wC) (by rw [hw]; exact below_drewN (Below.refl _ _) _))
          have hzC : wB.heap.size ≤ wC.heap.size := by rw [hw]; exact Nat.le_refl _
          clear hw
          go_wp2_with fail
          go_roundw
          case rel => exact ⟨k + 1, Q', by omega, by simp, by rw [HQN.out], OKA.out, FUA.out, PLA.out, HBC.out, HXC.out, by omega, HPC.out, HOC.out⟩
          case measure => simp [RowKit.intOf]; omega
        · have n2 : decide (np < 4611686018427387904) = false := decide_eq_false (by omega)
          by_cases hlt2 : qn < np
          · have n1 : decide (qn < np) = true := decide_eq_true hlt2
            go_wp2_with fail
            refine HNA.out.mono ?_
            rintro e wB ⟨rfl, kB, hw⟩
            have HBB := Lib.hid (show Below w.heap.size w wB by rw [hw]; exact below_drewN HBA.out _)
            have HXB := Lib.hid (show Below w4.heap.size w4 wB by rw [hw]; exact below_drewN HXA.out _)
            have HPB := Lib.hid (show PlAt wB g1 A1 d1 Q' by rw [hw]; exact HPA.out)
            have HOB := Lib.hid (HOA.out.below (w' := wB) (by rw [hw]; exact below_drewN (Below.refl _ _) _))
            have hzB : wA.heap.size ≤ wB.heap.size := by rw [hw]; exact Nat.le_refl _
            clear hw
            go_wp2_with fail
            refine (HNB.out wB HPB.out).mono ?_
            rintro e wC ⟨rfl, kC, hw⟩
            have HBC := Lib.hid (show Below w.heap.size w wC by rw [hw]; exact below_drewN HBB.out _)
            have HXC := Lib.hid (show Below w4.heap.size w4 wC by rw [hw]; exact below_drewN HXB.out _)
            have HPC := Lib.hid (show PlAt wC g1 A1 d1 Q' by rw [hw]; exact HPB.out)
            have HOC := Lib.hid (HOB.out.below (w' := wC) (by rw [hw]; exact below_drewN (Below.refl _ _) _))
            have hzC : wB.heap.size ≤ wC.heap.size := by rw [hw]; exact Nat.le_refl _
            clear hw
            go_wp2_with fail
            go_roundw
            case rel => exact ⟨k + 1, Q', by omega, by simp, by rw [HQN.out], OKA.out, FUA.out, PLA.out, HBC.out, HXC.out, by omega, HPC.out, HOC.out⟩
            case measure => simp [RowKit.intOf]; omega
          · have n1 : decide (qn < np) = false := decide_eq_false hlt2
            go_wp2_with fail
            refine HNA.out.mono ?_
            rintro e wB ⟨rfl, kB, hw⟩
            have HBB := Lib.hid (show Below w.heap.size w wB by rw [hw]; exact below_drewN HBA.out _)
            have HXB := Lib.hid (show Below w4.heap.size w4 wB by rw [hw]; exact below_drewN HXA.out _)
            have HPB := Lib.hid (show PlAt wB g1 A1 d1 Q' by rw [hw]; exact HPA.out)
            have HOB := Lib.hid (HOA.out.below (w' := wB) (by rw [hw]; exact below_drewN (Below.refl _ _) _))
            have hzB : wA.heap.size ≤ wB.heap.size := by rw [hw]; exact Nat.le_refl _
            clear hw
            go_wp2_with fail
            refine (HNB.out wB HPB.out).mono ?_
            rintro e wC ⟨rfl, kC, hw⟩
            have HBC := Lib.hid (show Below w.heap.size w wC by rw [hw]; exact below_drewN HBB.out _)
            have HXC := Lib.hid (show Below w4.heap.size w4 wC by rw [hw]; exact below_drewN HXB.out _)
            have HPC := Lib.hid (show PlAt wC g1 A1 d1 Q' by rw [hw]; exact HPB.out)
            have HOC := Lib.hid (HOB.out.below (w' := wC) (by rw [hw]; exact below_drewN (Below.refl _ _) _))
            have hzC : wB.heap.size ≤ wC.heap.size := by rw [hw]; exact Nat.le_refl _
            clear hw
            go_wp2_with fail
            go_roundw
            case rel => exact ⟨k + 1, Q', by omega, by simp, by rw [HQN.out], OKA.out, FUA.out, PLA.out, HBC.out, HXC.out, by omega, HPC.out, HOC.out⟩
            case measure => simp [RowKit.intOf]; omega
      · have s0 : ((3 : Int) == 0) = false := rfl
        have s1 : ((3 : Int) == 1) = false := rfl
        have s2 : ((3 : Int) == 2) = false := rfl
        have HC := Lib.hid (speed_ok w8 g1 d1 A1 P HP8.out HOK.out dn dm)
        rcases hrs : rightS dn dm with _ | _
        · rw [hrs, if_neg (by decide), if_neg (by decide)] at HC
          clear hrs
          have hcond : np ≤ P.now ∨ np = 4611686018427387904 := by rw [← HNP.out]; exact (.inl (Int.le_refl _))
          have OKA := Lib.hid (show P.Ok from HOK.out)
          have FUA := Lib.hid (show P.Full from HFU.out)
          have PLA := Lib.hid (show P.l = L from HPL.out)
          have HTO := Lib.hid (show P.told = P.told from rfl)
          obtain ⟨Q', hQ'⟩ : ∃ Q', Q' = P := ⟨_, rfl⟩
          rw [← hQ'] at HC hcond OKA FUA PLA
          clear HTO
          have HTO := Lib.hid (show P.told = Q'.told by rw [hQ'])
          clear hQ'
          go_upto_region 14 with fail
          rw [← W8.out]
          go_wp2_with fail
          refine HC.out.mono ?_
          rintro e wA ⟨rfl, hp9, hf9⟩
          have HPA := Lib.hid hp9
          have HBA := Lib.hid (HB8.out.trans (hf9.below (by omega) (fun k hk => by omega)))
          have HXA := Lib.hid (HX8.out.trans (hf9.below (by omega) (fun k hk => by omega)))
          have hOA := HO8.out.fr hf9 (fun k hk e => by have := (HO8.out.lt k e).1; omega)
          rw [HTO.out] at hOA
          have HOA := Lib.hid hOA
          have hzA := hf9.size
          clear hp9 hf9 hOA HO8 t0 t1 t2 x0 x1 x2
          have HNA := Lib.hid (now_ok wA g1 d1 A1 Q' HPA.out OKA.out)
          have HNB := Lib.hid (fun v (hv : PlAt v g1 A1 d1 Q') => now_ok v g1 d1 A1 Q' hv OKA.out)
          have hQe : Q'.now = Q'.now := rfl
          generalize hqn : Q'.now = qn at *
          have HQN := Lib.hid hqn
          clear hqn hQe
          rcases hcond with hc | hc
          · have n1 : decide (qn < np) = false := decide_eq_false (by omega)
            go_wp2_with fail
            refine HNA.out.mono ?_
            rintro e wB ⟨rfl, kB, hw⟩
            have HBB := Lib.hid (show Below w.heap.size w wB by rw [hw]; exact below_drewN HBA.out _)
            have HXB := Lib.hid (show Below w4.heap.size w4 wB by rw [hw]; exact below_drewN HXA.out _)
            have HPB := Lib.hid (show PlAt wB g1 A1 d1 Q' by rw [hw]; exact HPA.out)
            have HOB := Lib.hid (HOA.out.below (w' := wB) (by rw [hw]; exact below_drewN (Below.refl _ _) _))
            have hzB : wA.heap.size ≤ wB.heap.size := by rw [hw]; exact Nat.le_refl _
            clear hw
            go_wp2_with fail
            refine (HNB.out wB HPB.out).mono ?_
            rintro e wC ⟨rfl, kC, hw⟩
            have HBC := Lib.hid (show Below w.heap.size w wC by rw [hw]; exact below_drewN HBB.out _)
            have HXC := Lib.hid (show Below w4.heap.size w4 wC by rw [hw]; exact below_drewN HXB.out _)
            have HPC := Lib.hid (show PlAt wC g1 A1 d1 Q' by rw [hw]; exact HPB.out)
            have HOC := Lib.hid (HOB.out.below (w' := wC) (by rw [hw]; exact below_drewN (Below.refl _ _) _))
            have hzC : wB.heap.size ≤ wC.heap.size := by rw [hw]; exact Nat.le_refl _
            clear hw
            go_wp2_with fail
            go_roundw
            case rel => exact ⟨k + 1, Q', by omega, by simp, by rw [HQN.out], OKA.out, FUA.out, PLA.out, HBC.out, HXC.out, by omega, HPC.out, HOC.out⟩
            case measure => simp [RowKit.intOf]; omega
          · have n2 : decide (np < 4611686018427387904) = false := decide_eq_false (by omega)
            by_cases hlt2 : qn < np
            · have n1 : decide (qn < np) = true := decide_eq_true hlt2
              go_wp2_with fail
              refine HNA.out.mono ?_
              rintro e wB ⟨rfl, kB, hw⟩
              have HBB := Lib.hid (show Below w.heap.size w wB by rw [hw]; exact below_drewN HBA.out _)
              have HXB := Lib.hid (show Below w4.heap.size w4 wB by rw [hw]; exact below_drewN HXA.out _)
              have HPB := Lib.hid (show PlAt wB g1 A1 d1 Q' by rw [hw]; exact HPA.out)
              have HOB := Lib.hid (HOA.out.below (w' := wB) (by rw [hw]; exact below_drewN (Below.refl _ _) _))
              have hzB : wA.heap.size ≤ wB.heap.size := by rw [hw]; exact Nat.le_refl _
              clear hw
              go_wp2_with fail
              refine (HNB.out wB HPB.out).mono ?_
              rintro e wC ⟨rfl, kC, hw⟩
              have HBC := Lib.hid (show Below w.heap.size w wC by rw [hw]; exact below_drewN HBB.out _)
              have HXC := Lib.hid (show Below w4.heap.size w4 wC by rw [hw]; exact below_drewN HXB.out _)
              have HPC := Lib.hid (show PlAt wC g1 A1 d1 Q' by rw [hw]; exact HPB.out)
              have HOC := Lib.hid (HOB.out.below (w' := wC) (by rw [hw]; exact below_drewN (Below.refl _ _) _))
              have hzC : wB.heap.size ≤ wC.heap.size := by rw [hw]; exact Nat.le_refl _
              clear hw
              go_wp2_with fail
              go_roundw
              case rel => exact ⟨k + 1, Q', by omega, by simp, by rw [HQN.out], OKA.out, FUA.out, PLA.out, HBC.out, HXC.out, by omega, HPC.out, HOC.out⟩
              case measure => simp [RowKit.intOf]; omega
            · have n1 : decide (qn < np) = false := decide_eq_false hlt2
              go_wp2_with fail
              refine HNA.out.mono ?_
              rintro e wB ⟨rfl, kB, hw⟩
              have HBB := Lib.hid (show Below w.heap.size w wB by rw [hw]; exact below_drewN HBA.out _)
              have HXB := Lib.hid (show Below w4.heap.size w4 wB by rw [hw]; exact below_drewN HXA.out _)
              have HPB := Lib.hid (show PlAt wB g1 A1 d1 Q' by rw [hw]; exact HPA.out)
              have HOB := Lib.hid (HOA.out.below (w' := wB) (by rw [hw]; exact below_drewN (Below.refl _ _) _))
              have hzB : wA.heap.size ≤ wB.heap.size := by rw [hw]; exact Nat.le_refl _
              clear hw
              go_wp2_with fail
              refine (HNB.out wB HPB.out).mono ?_
              rintro e wC ⟨rfl, kC, hw⟩
              have HBC := Lib.hid (show Below w.heap.size w wC by rw [hw]; exact below_drewN HBB.out _)
              have HXC := Lib.hid (show Below w4.heap.size w4 wC by rw [hw]; exact below_drewN HXB.out _)
              have HPC := Lib.hid (show PlAt wC g1 A1 d1 Q' by rw [hw]; exact HPB.out)
              have HOC := Lib.hid (HOB.out.below (w' := wC) (by rw [hw]; exact below_drewN (Below.refl _ _) _))
              have hzC : wB.heap.size ≤ wC.heap.size := by rw [hw]; exact Nat.le_refl _
              clear hw
              go_wp2_with fail
              go_roundw
              case rel => exact ⟨k + 1, Q', by omega, by simp, by rw [HQN.out], OKA.out, FUA.out, PLA.out, HBC.out, HXC.out, by omega, HPC.out, HOC.out⟩
              case measure => simp [RowKit.intOf]; omega
        · rw [hrs, if_pos rfl, if_pos rfl] at HC
          have hcond : np ≤ (P.speed dn dm).now ∨ np = 4611686018427387904 := by rw [← HNP.out]; exact (Pl.Ok.speed_le dn dm)
          have OKA := Lib.hid (show (P.speed dn dm).Ok from HOK.out.speed hrs)
          have FUA := Lib.hid (show (P.speed dn dm).Full from HOK.out.speed_full HFU.out dn dm)
          have PLA := Lib.hid (show (P.speed dn dm).l = L from HPL.out)
          have HTO := Lib.hid (show P.told = (P.speed dn dm).told from rfl)
          generalize P.speed dn dm = Q' at *
          go_upto_region 14 with fail
          rw [← W8.out]
          go_wp2_with fail
          refine HC.out.mono ?_
          rintro e wA ⟨rfl, hp9, hf9⟩
          have HPA := Lib.hid hp9
          have HBA := Lib.hid (HB8.out.trans (hf9.below (by omega) (fun k hk => by omega)))
          have HXA := Lib.hid (HX8.out.trans (hf9.below (by omega) (fun k hk => by omega)))
          have hOA := HO8.out.fr hf9 (fun k hk e => by have := (HO8.out.lt k e).1; omega)
          rw [HTO.out] at hOA
          have HOA := Lib.hid hOA
          have hzA := hf9.size
          clear hp9 hf9 hOA HO8 t0 t1 t2 x0 x1 x2
          have HNA := Lib.hid (now_ok wA g1 d1 A1 Q' HPA.out OKA.out)
          have HNB := Lib.hid (fun v (hv : PlAt v g1 A1 d1 Q') => now_ok v g1 d1 A1 Q' hv OKA.out)
          have hQe : Q'.now = Q'.now := rfl
          generalize hqn : Q'.now = qn at *
          have HQN := Lib.hid hqn
          clear hqn hQe
          rcases hcond with hc | hc
          · have n1 : decide (qn < np) = false := decide_eq_false (by omega)
            go_wp2_with fail
            refine HNA.out.mono ?_
            rintro e wB ⟨rfl, kB, hw⟩
            have HBB := Lib.hid (show Below w.heap.size w wB by rw [hw]; exact below_drewN HBA.out _)
            have HXB := Lib.hid (show Below w4.heap.size w4 wB by rw [hw]; exact below_drewN HXA.out _)
            have HPB := Lib.hid (show PlAt wB g1 A1 d1 Q' by rw [hw]; exact HPA.out)
            have HOB := Lib.hid (HOA.out.below (w' := wB) (by rw [hw]; exact below_drewN (Below.refl _ _) _))
            have hzB : wA.heap.size ≤ wB.heap.size := by rw [hw]; exact Nat.le_refl _
            clear hw
            go_wp2_with fail
            refine (HNB.out wB HPB.out).mono ?_
            rintro e wC ⟨rfl, kC, hw⟩
            have HBC := Lib.hid (show Below w.heap.size w wC by rw [hw]; exact below_drewN HBB.out _)
            have HXC := Lib.hid (show Below w4.heap.size w4 wC by rw [hw]; exact below_drewN HXB.out _)
            have HPC := Lib.hid (show PlAt wC g1 A1 d1 Q' by rw [hw]; exact HPB.out)
            have HOC := Lib.hid (HOB.out.below (w' := wC) (by rw [hw]; exact below_drewN (Below.refl _ _) _))
            have hzC : wB.heap.size ≤ wC.heap.size := by rw [hw]; exact Nat.le_refl _
            clear hw
            go_wp2_with fail
            go_roundw
            case rel => exact ⟨k + 1, Q', by omega, by simp, by rw [HQN.out], OKA.out, FUA.out, PLA.out, HBC.out, HXC.out, by omega, HPC.out, HOC.out⟩
            case measure => simp [RowKit.intOf]; omega
          · have n2 : decide (np < 4611686018427387904) = false := decide_eq_false (by omega)
            by_cases hlt2 : qn < np
            · have n1 : decide (qn < np) = true := decide_eq_true hlt2
              go_wp2_with fail
              refine HNA.out.mono ?_
              rintro e wB ⟨rfl, kB, hw⟩
              have HBB := Lib.hid (show Below w.heap.size w wB by rw [hw]; exact below_drewN HBA.out _)
              have HXB := Lib.hid (show Below w4.heap.size w4 wB by rw [hw]; exact below_drewN HXA.out _)
              have HPB := Lib.hid (show PlAt wB g1 A1 d1 Q' by rw [hw]; exact HPA.out)
              have HOB := Lib.hid (HOA.out.below (w' := wB) (by rw [hw]; exact below_drewN (Below.refl _ _) _))
              have hzB : wA.heap.size ≤ wB.heap.size := by rw [hw]; exact Nat.le_refl _
              clear hw
              go_wp2_with fail
              refine (HNB.out wB HPB.out).mono ?_
              rintro e wC ⟨rfl, kC, hw⟩
              have HBC := Lib.hid (show Below w.heap.size w wC by rw [hw]; exact below_drewN HBB.out _)
              have HXC := Lib.hid (show Below w4.heap.size w4 wC by rw [hw]; exact below_drewN HXB.out _)
              have HPC := Lib.hid (show PlAt wC g1 A1 d1 Q' by rw [hw]; exact HPB.out)
              have HOC := Lib.hid (HOB.out.below (w' := wC) (by rw [hw]; exact below_drewN (Below.refl _ _) _))
              have hzC : wB.heap.size ≤ wC.heap.size := by rw [hw]; exact Nat.le_refl _
              clear hw
              go_wp2_with fail
              go_roundw
              case rel => exact ⟨k + 1, Q', by omega, by simp, by rw [HQN.out], OKA.out, FUA.out, PLA.out, HBC.out, HXC.out, by omega, HPC.out, HOC.out⟩
              case measure => simp [RowKit.intOf]; omega
            · have n1 : decide (qn < np) = false := decide_eq_false hlt2
              go_wp2_with fail
              refine HNA.out.mono ?_
              rintro e wB ⟨rfl, kB, hw⟩
              have HBB := Lib.hid (show Below w.heap.size w wB by rw [hw]; exact below_drewN HBA.out _)
              have HXB := Lib.hid (show Below w4.heap.size w4 wB by rw [hw]; exact below_drewN HXA.out _)
              have HPB := Lib.hid (show PlAt wB g1 A1 d1 Q' by rw [hw]; exact HPA.out)
              have HOB := Lib.hid (HOA.out.below (w' := wB) (by rw [hw]; exact below_drewN (Below.refl _ _) _))
              have hzB : wA.heap.size ≤ wB.heap.size := by rw [hw]; exact Nat.le_refl _
              clear hw
              go_wp2_with fail
              refine (HNB.out wB HPB.out).mono ?_
              rintro e wC ⟨rfl, kC, hw⟩
              have HBC := Lib.hid (show Below w.heap.size w wC by rw [hw]; exact below_drewN HBB.out _)
              have HXC := Lib.hid (show Below w4.heap.size w4 wC by rw [hw]; exact below_drewN HXB.out _)
              have HPC := Lib.hid (show PlAt wC g1 A1 d1 Q' by rw [hw]; exact HPB.out)
              have HOC := Lib.hid (HOB.out.below (w' := wC) (by rw [hw]; exact below_drewN (Below.refl _ _) _))
              have hzC : wB.heap.size ≤ wC.heap.size := by rw [hw]; exact Nat.le_refl _
              clear hw
              go_wp2_with fail
              go_roundw
              case rel => exact ⟨k + 1, Q', by omega, by simp, by rw [HQN.out], OKA.out, FUA.out, PLA.out, HBC.out, HXC.out, by omega, HPC.out, HOC.out⟩
              case measure => simp [RowKit.intOf]; omega
    · have g1' : decide ((k : Int) < (T.length : Int)) = false := by simp; omega
      have gn : decide (k < T.length) = false := by simp; omega
      generalize hnp : P.now = np at *
      clear hnp
      go_wp2_with fail
      clear hlt g1' gn
      go_loopw [9, 109] (fun v i wr => ∃ (k : Nat) (Q : Pl), k ≤ L.length ∧ i = .int .i64 (k : Int) ∧ k ≤ Q.told ∧ Q.Ok ∧ Q.Full ∧ Q.l = L ∧ Below w.heap.size w wr ∧ Below w4.heap.size w4 wr ∧ B0 ≤ wr.heap.size ∧ PlAt wr g1 A1 d1 Q ∧ evE.Own wr B0 v (L.take Q.told)) (fun _ i _ => L.length - (RowKit.intOf i).toNat)
      case atStart => exact ⟨0, P, Nat.zero_le _, rfl, Nat.zero_le _, HOK.out, HFU.out, HPL.out, HB.out, HX.out, hBr, HP.out, HO.out⟩
      case round =>
        clear hBr hzr hzx htl HOK HFU HPL HB HX HP HO
        obtain ⟨k, Q, hk, rfl, hkq, hok, hfu, hpl, hb, hx, hBr, hpa, ho⟩ := hrel
        have htl : Q.told ≤ L.length := by rw [← hpl]; exact Pl.told_le hfu
        have hzr := hb.size
        have hzx := hx.size
        have HB := Lib.hid hb
        have HX := Lib.hid hx
        have HP := Lib.hid hpa
        have HO := Lib.hid ho
        have HOK := Lib.hid hok
        have HFU := Lib.hid hfu
        have HPL := Lib.hid hpl
        by_cases hlt : k < L.length
        · have g1' : decide ((k : Int) < (L.length : Int)) = true := by simp; omega
          have gn : decide (k < L.length) = true := by simp; omega
          have hle := hok.step_le hfu
          have HS := Lib.hid (step_ok wr g1 d1 A1 Q hpa hok hfu)
          rw [hpl] at HS
          have HOK' := Lib.hid (hok.step hfu)
          have HFU' := Lib.hid (Pl.step_full hfu)
          have HPL' := Lib.hid ((step_l Q).trans hpl)
          have htl' : Q.step.told ≤ L.length := by rw [← HPL'.out]; exact Pl.told_le HFU'.out
          have hkq' : k + 1 ≤ Q.step.told := by
            by_cases hn : Q.told < L.length
            · have := (hok.step_told hfu (by rw [hpl]; exact hn)).1
              omega
            · omega
          clear hb hx hpa ho hok hfu hpl
          have hsl := seg_len L Q.told Q.step.told hle.1 htl'
          have HTS := Lib.hid (take_seg L Q.told Q.step.told hle.1)
          have htk : (L.take Q.told).length = Q.told := by rw [List.length_take]; omega
          have HSL := Lib.hid hsl
          have HTK := Lib.hid htk
          clear hsl htk hle
          generalize Q.step = Q' at *
          go_wp2_with fail
          refine HS.out.mono ?_
          rintro e w9 ⟨v2, rfl, ho2, hp9, hf9⟩
          obtain ⟨Ax, cx, hvx, -, -, hAx, hrx⟩ := ho2.row
          subst hvx
          have HP9 := Lib.hid hp9
          have HB9 := Lib.hid (HB.out.trans (hf9.below (by omega) (fun k hk => by omega)))
          have HX9 := Lib.hid (HX.out.trans (hf9.below (by omega) (fun k hk => by omega)))
          have HO9 := Lib.hid (HO.out.fr hf9 (fun k hk e => by have := (HO.out.lt k e).1; omega))
          have hz9 := hf9.size
          have HRX := Lib.hid hrx
          have HAX := Lib.hid hAx
          clear ho2 hp9 hf9 hrx hAx HO
          go_wp2_with (at_builtin; refine evE.wp_append rfl (.tmp 111) (.tmp 113) rfl B0 _ (L.take Q.told) rfl HO9.out Ax (seg L Q.told Q'.told) _ cx w9.heap.size rfl rfl HRX.out HAX.out ?c1 ?c2 (by omega) ?_)
          case c1 => have := HSL.out; have := HTK.out; simp only [evE]; omega
          case c2 => have := HSL.out; have := HTK.out; unfold maxLen; omega
          intro v3 w10 ho3 hg3
          have hbb : Below B0 w9 w10 := HO9.out.grow_below hg3 (by omega)
          rw [HTS.out] at ho3
          have HO10 := Lib.hid ho3
          have HB10 := Lib.hid (HB9.out.trans (hbb.mono (by omega)))
          have HX10 := Lib.hid (HX9.out.trans (hbb.mono (by omega)))
          have HP10 := Lib.hid (HP9.out.below (hbb.mono (by omega)))
          have hz10 := hbb.size
          clear hbb ho3 hg3
          go_wp2_with fail
          go_roundw
          case rel => exact ⟨k + 1, Q', by omega, by simp, hkq', HOK'.out, HFU'.out, HPL'.out, HB10.out, HX10.out, by omega, HP10.out, HO10.out⟩
          case measure => simp [RowKit.intOf]; omega
        · have g1' : decide ((k : Int) < (L.length : Int)) = false := by simp; omega
          have gn : decide (k < L.length) = false := by simp; omega
          have hqt : Q.told = L.length := by omega
          have HS := Lib.hid (fun v (hv : PlAt v g1 A1 d1 Q) => step_ok v g1 d1 A1 Q hv HOK.out HFU.out)
          rw [step_done Q (by rw [hpl]; exact hqt), seg_self] at HS
          have HLE := Lib.hid (fun v (hv : PlAt v g1 A1 d1 Q) => left_ok v g1 d1 A1 Q hv (by rw [hpl]; omega) (by rw [hpl]; omega))
          rw [hpl, hqt] at HLE
          have hll : (L.length : Int) - (L.length : Int) = 0 := by omega
          rw [hll] at HLE
          rw [hqt, List.take_length] at ho
          have HO' := Lib.hid ho
          obtain ⟨Ao, co, hvo, -, -, -, hro⟩ := ho.row
          subst hvo
          have HSM := Lib.hid (esame_ok wr L L Ao AL co cL wr.heap.size hro ((HRL4.out.below HX.out).mono (by omega)) (Nat.le_refl _) (by omega) (by omega))
          rw [decide_eq_true rfl] at HSM
          clear hb hx hpa ho hok hfu hpl hqt hkq hll hro HO
          go_wp2_with fail
          refine HSM.out.mono ?_
          rintro e w9 ⟨rfl, b9⟩
          have HB9 := Lib.hid (below_next HB.out b9)
          have HP9 := Lib.hid (HP.out.next b9)
          clear b9
          go_wp2_with fail
          refine (HLE.out w9 HP9.out).mono ?_
          rintro e w10 ⟨rfl, k10, hw⟩
          have HB10 := Lib.hid (show Below w.heap.size w w10 by rw [hw]; exact below_drewN HB9.out _)
          have HP10 := Lib.hid (show PlAt w10 g1 A1 d1 Q by rw [hw]; exact HP9.out)
          clear hw
          have hz10 := HB10.out.size
          go_wp2_with fail
          refine (HS.out w10 HP10.out).mono ?_
          rintro e w11 ⟨v2, rfl, ho2, hp11, hf11⟩
          obtain ⟨Ax, cx, hvx, -, -, -, -⟩ := ho2.row
          subst hvx
          have HB11 := Lib.hid (HB10.out.trans (hf11.below hz10 (fun k hk => by omega)))
          rw [List.length_nil]
          clear ho2 hp11 hf11
          go_wp2_with fail
          go_ret
          exact ⟨rfl, HB11.out⟩

theorem walk (A : Option Addr) (len cap : Nat) (x y z : Int) (At : Option Addr) (lt ct : Nat) (w : World) (hw : IsEvs w A len cap) (ht : IsDps w At lt ct) :
    Calls Try.prog 5 #[.slice A len cap, .agg #[.int .i64 x, .int .i64 y, .int .i64 z], .slice At lt ct] w fun e w' => e = .returned (.bool true) ∧ Below w.heap.size w w' := by
  obtain ⟨l, rfl, _, h3⟩ := hw
  obtain ⟨T, rfl, _, h4⟩ := ht
  by_cases h : 60 < l.length ∨ 60 < T.length
  · exact big A At l.length cap T.length ct x y z w h
  · exact core A At cap ct l T x y z w (by omega) (by omega) h3 h4

theorem own : ownKnob Try.prog.godebug = none := by kernel_rfl
theorem laidOut : laidOutB Try.prog = true := by kernel_rfl

set_option maxRecDepth 100000 in
theorem lifted (os : Os) (started : os.Started) (H : Type) (enc : TypeId × Value → H) :
    ReturnsInHanded {} Try.checked os 5 .any (Rows.playOnceSpec.pre6 enc Try.prog Try.f5 Rows.playOnceRow.domain false) (Rows.playOnceSpec.post enc Try.prog Try.f5 false true false false) := by
  refine returnsInHanded_of_change (C := Try.checked) own started (by kernel_rfl) Try.func5
    (ChangeSpec.witness6 (enc := enc) (C := Try.checked) false ⟨#[], #[.slice none 0 0, .agg #[.int .i64 0, .int .i64 0, .int .i64 0], .slice none 0 0], []⟩ 8 (by kernel_rfl) (by kernel_rfl) (by kernel_rfl) (by kernel_rfl)) ?_
  intro W base args ds gs before hval0 hW hcnd _
  have hval : ∀ (j : Nat) t v, Try.f5.params[j]? = some t → args[j]? = some v → Value.okWide Try.prog W .any base t v := hval0
  have hW' := hW
  obtain ⟨p, q, hA0, hV, rfl, hfz, hnd⟩ := hW
  have hA : DataW.TrodAll enc Try.prog W 0 (fun _ => true) true Try.f5.params.toList args.toList ds p := hA0
  rw [Try.params5] at hA hval
  obtain ⟨v0, vs0, d0, ds0, p0, q0, hargs, rfl, rfl, h0, r0⟩ := trodAll_cons hA
  obtain ⟨v1, vs1, d1, ds1, p1, q1, rfl, rfl, rfl, h1, r1⟩ := trodAll_cons r0
  obtain ⟨v2, vs2, d2, ds2, p2, q2, rfl, rfl, rfl, h2, r2⟩ := trodAll_cons r1
  obtain ⟨rfl, rfl, rfl⟩ := trodAll_nil r2
  obtain rfl : args = #[v0, v1, v2] := by cases args; simp_all
  obtain ⟨rfl, rfl⟩ := trodVars_none hV
  obtain ⟨a0, len0, cap0, rfl⟩ := okWide_slice Try.underlying22 (hval 0 22 v0 rfl rfl)
  have k0 := h0
  have lt0 : ∀ x ∈ p0, x.block < W.heap.size := by obtain ⟨m, hm⟩ := k0; exact DataW.trod_lt m _ _ _ hm
  have w0 : IsEvs W a0 len0 cap0 := by
    obtain ⟨fuel, hf⟩ := h0
    exact evs_in hf
  have k1 := h1
  have lt1 : ∀ x ∈ p1, x.block < W.heap.size := by obtain ⟨m, hm⟩ := k1; exact DataW.trod_lt m _ _ _ hm
  obtain ⟨a1, b1, c1, rfl⟩ := open_three (hval 1 23 v1 rfl rfl) h1
  obtain ⟨a2, len2, cap2, rfl⟩ := okWide_slice Try.underlying24 (hval 2 24 v2 rfl rfl)
  have k2 := h2
  have lt2 : ∀ x ∈ p2, x.block < W.heap.size := by obtain ⟨m, hm⟩ := k2; exact DataW.trod_lt m _ _ _ hm
  have w2 : IsDps W a2 len2 cap2 := by
    obtain ⟨fuel, hf⟩ := h2
    exact dps_in hf
  clear hA0 hval0
  refine (walk a0 len0 cap0 a1 b1 c1 a2 len2 cap2 W w0 w2).mono fun e W' ⟨he, bel⟩ => ?_
  subst he
  exact ⟨_, rfl, _, _, _, [], _, [], hW', trodAll_mk1 (shut_bool Try.underlying4 _), (trodAll_cons_mk (Below.trod laidOut (by kernel_rfl) (of_decide_eq_true (by kernel_rfl)) k0 bel lt0) (trodAll_cons_mk (Below.trod laidOut (by kernel_rfl) (of_decide_eq_true (by kernel_rfl)) k1 bel lt1) (trodAll_cons_mk (Below.trod laidOut (by kernel_rfl) (of_decide_eq_true (by kernel_rfl)) k2 bel lt2) trodAll_mk0))), rfl, bel.frame _, fun h => by cases h⟩

theorem over : Rows.playOnceRow.holds Try.pinned (OpenSpec.ofChange Rows.playOnceSpec) :=
  OpenClaim.holds_of_wide 5 Try.f5 rfl rfl rfl rfl rfl rfl rfl ⟨rfl, rfl, rfl, rfl, rfl⟩ rfl rfl rfl rfl rfl (by kernel_rfl) Try.func5 (by kernel_rfl)
    (of_decide_eq_true (by kernel_rfl)) (by unfold Func.isWrapper; first | (rw [if_pos (by decide +kernel)]; kernel_rfl) | (rw [if_neg (by decide +kernel)]; exact ⟨rfl, rfl⟩))
    (fun os started H enc _ => lifted os started H enc)

end Go.Proofs.Ytdbnpdbnjipjiaa.playOnce
namespace Go.Proofs.Ytdbnpdbnjipjiaa
theorem playOnce_holds : Rows.PlayOnceSaid := playOnce.over
end Go.Proofs.Ytdbnpdbnjipjiaa
