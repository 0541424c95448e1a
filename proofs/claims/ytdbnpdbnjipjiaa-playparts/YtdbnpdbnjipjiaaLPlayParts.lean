/-
  PlayParts: time that goes by in parts tells what it tells at once. For every slice of events, every three numbers and every slice of ticks. No condition.
-/
import Derived.Test.YtdbnpdbnjipjiaaYFit
import Derived.Test.YtdbnpdbnjipjiaaYTimes
import Derived.Test.YtdbnpdbnjipjiaaYOpen
import Derived.Test.YtdbnpdbnjipjiaaETame
import Derived.Test.YtdbnpdbnjipjiaaESame
import Derived.ProofKit
import Derived.OpenShut
namespace Go.Proofs.Ytdbnpdbnjipjiaa.playParts
open Go.ChangeShapes Go.WideShapes Go.ChangeAt Go.RowKit Go.Lib EM PM
set_option maxRecDepth 100000

theorem big (A At : Option Addr) (n c nt ct : Nat) (x y z : Int) (w : World) (h : 60 < n ∨ 60 < nt) :
    Calls Try.prog 6 #[.slice A n c, .agg #[.int .i64 x, .int .i64 y, .int .i64 z], .slice At nt ct] w fun e w' => e = .returned (.bool true) ∧ Below w.heap.size w w' := by
  obtain ⟨w1, hw1⟩ : ∃ w1, w1 = w.alloc (.cells #[.int .i64 x, .int .i64 y, .int .i64 z] 23) := ⟨_, rfl⟩
  have hb1 : Below w.heap.size w w1 := by rw [hw1]; exact (Below.refl _ _).alloc (Nat.le_refl _) _
  have W1 := Lib.hid hw1
  have HB1 := Lib.hid hb1
  have HF := Lib.hid (pfit_ok w1)
  clear hw1 hb1
  by_cases h1 : 60 < n
  · have g : decide ((60 : Int) < (n : Int)) = true := by simp; omega
    clear h
    go_enter Try.func6, Try.ntmps6
    go_wp2_with fail
    rw [← W1.out]
    refine HF.out.mono ?_
    rintro e w2 ⟨rfl, b2⟩
    have HB2 := Lib.hid (below_next HB1.out b2)
    clear b2
    go_wp2_with fail
    go_ret
    exact ⟨rfl, HB2.out⟩
  · have g : decide ((60 : Int) < (n : Int)) = false := by simp; omega
    have g' : decide ((60 : Int) < (nt : Int)) = true := by simp; omega
    clear h
    go_enter Try.func6, Try.ntmps6
    go_wp2_with fail
    rw [← W1.out]
    refine HF.out.mono ?_
    rintro e w2 ⟨rfl, b2⟩
    have HB2 := Lib.hid (below_next HB1.out b2)
    clear b2
    go_wp2_with fail
    go_ret
    exact ⟨rfl, HB2.out⟩

set_option maxHeartbeats 4000000 in
theorem core (A At : Option Addr) (c ct : Nat) (l : List Ev) (T : List Int) (x y z : Int) (w : World) (hl : l.length ≤ 60) (hT : T.length ≤ 60) (hr : evE.Row w w.heap.size A l) (ht : intE.Row w w.heap.size At T) :
    Calls Try.prog 6 #[.slice A l.length c, .agg #[.int .i64 x, .int .i64 y, .int .i64 z], .slice At T.length ct] w fun e w' => e = .returned (.bool true) ∧ Below w.heap.size w w' := by
  have g : decide ((60 : Int) < (l.length : Int)) = false := by simp; omega
  have g' : decide ((60 : Int) < (T.length : Int)) = false := by simp; omega
  obtain ⟨w1, hw1⟩ : ∃ w1, w1 = w.alloc (.cells #[.int .i64 x, .int .i64 y, .int .i64 z] 23) := ⟨_, rfl⟩
  have hb1 : Below w.heap.size w w1 := by rw [hw1]; exact (Below.refl _ _).alloc (Nat.le_refl _) _
  have hz1 : w1.heap.size = w.heap.size + 1 := by rw [hw1]; simp
  have ht1 : ThreeIn w1 w.heap.size x y z := by rw [hw1]; exact ThreeIn.fresh w x y z
  have W1 := Lib.hid hw1
  have HB1 := Lib.hid hb1
  have HF := Lib.hid (pfit_ok w1)
  have HT1 := Lib.hid ht1
  have HR := Lib.hid hr
  have HTR := Lib.hid ht
  clear hw1 hb1 hr ht1 ht
  go_enter Try.func6, Try.ntmps6
  go_wp2_with fail
  rw [← W1.out]
  refine HF.out.mono ?_
  rintro e w2 ⟨rfl, b2⟩
  have HB2 := Lib.hid (below_next HB1.out b2)
  have HT2 := Lib.hid (HT1.out.below b2)
  have hz2 := b2.size
  clear b2 HF
  have HTA := Lib.hid (tame_ok w2 l A c w.heap.size (HR.out.below HB2.out) HB2.out.size (by omega))
  go_wp2_with fail
  refine HTA.out.mono ?_
  rintro e w3 ⟨v, rfl, ho, b3⟩
  obtain ⟨AL, cL, hv, hlc, -, hAL, hrL⟩ := ho.row
  subst hv
  have HB3 := Lib.hid (below_next HB2.out b3)
  have HT3 := Lib.hid (HT2.out.below b3)
  have hz3 := b3.size
  have HLB := Lib.hid (tameL_list l 0 (Int.le_refl _) (by omega))
  have hlen := tameL_len 0 l
  have HRL := Lib.hid hrL
  have HAL := Lib.hid hAL
  generalize tameL 0 l = L at *
  obtain ⟨c0, c1, c2⟩ := HT3.out.cells
  have hLl : L.length ≤ 60 := by omega
  clear ho b3 HTA hrL hAL g hlen
  -- the three numbers
  have a0 := i64_and65k x
  have a1 := i64_and65k y
  have a2 := i64_and65k z
  generalize hs : x % 65536 = s at *
  generalize hy1 : y % 65536 = y1 at *
  generalize hz1' : z % 65536 = z1 at *
  have bs : 0 ≤ s ∧ s ≤ 65535 := by omega
  have by1 : 0 ≤ y1 ∧ y1 ≤ 65535 := by omega
  have bz1 : 0 ≤ z1 ∧ z1 ≤ 65535 := by omega
  clear hs hy1 hz1'
  obtain ⟨y2, hy2⟩ : ∃ y2, y1 % 1000 = y2 := ⟨_, rfl⟩
  obtain ⟨z2, hz2'⟩ : ∃ z2, z1 % 1000 = z2 := ⟨_, rfl⟩
  have m1 : y1.tmod 1000 = y2 := by rw [Int.tmod_eq_emod_of_nonneg by1.1]; exact hy2
  have m2 : z1.tmod 1000 = z2 := by rw [Int.tmod_eq_emod_of_nonneg bz1.1]; exact hz2'
  have by2 : 0 ≤ y2 ∧ y2 ≤ 999 := by omega
  have bz2 : 0 ≤ z2 ∧ z2 ≤ 999 := by omega
  obtain ⟨p, hp⟩ : ∃ p, 1 + y2 = p := ⟨_, rfl⟩
  obtain ⟨q, hq⟩ : ∃ q, 1 + z2 = q := ⟨_, rfl⟩
  have hrs : rightS p q = true := rightS_iff.2 (by omega)
  have hmay : mayP L s p q = true := mayP_iff.2 ⟨by omega, by omega, hrs, HLB.out⟩
  have ok := mayP_ok (by omega) hmay
  go_wp2_with fail
  go_quiet (fail)
  have HB4 := Lib.hid (below_drewN HB3.out nq)
  have HT4 := Lib.hid (show ThreeIn (w3.drewN nq) w.heap.size x y z from HT3.out)
  have HRL4 := Lib.hid (show evE.Row (w3.drewN nq) (w3.drewN nq).heap.size AL L from HRL.out)
  have hz4 : w3.heap.size ≤ (w3.drewN nq).heap.size := Nat.le_refl _
  clear c0 c1 c2
  generalize w3.drewN nq = w4 at *
  have HN1 := Lib.hid (new_good w4 L AL cL w4.heap.size s p q HRL4.out HAL.out (Nat.le_refl _) (by omega) hmay)
  have hnew := atP_new L s p q (by omega)
  rw [hnew] at HN1
  have HOK := Lib.hid ok
  have HTK := Lib.hid (fun v g A d (S n : Int) (h0 : 0 ≤ S) (hn : 0 ≤ n) (h1 : S + n ≤ 4611686018427387904) (hP : PlAt v g A d (atP L s p q S false)) => tick_ok v g d A (atP L s p q S false) hP (atP_ok ok h0 (by omega)) (atP_full _ _ _ _ _ _) n)
  have HNW := Lib.hid (fun v g A d (S : Int) (h0 : 0 ≤ S) (h1 : S ≤ 4611686018427387904) (hP : PlAt v g A d (atP L s p q S false)) => now_ok v g d A (atP L s p q S false) hP (atP_ok ok h0 h1))
  have HLF := Lib.hid (fun v g A d (S : Int) (hP : PlAt v g A d (atP L s p q S false)) => left_ok v g d A (atP L s p q S false) hP (show L.length ≤ 1000 by omega) (upTo_le _ _))
  have HTL : Hid (∀ S : Int, (atP L s p q S false).told ≤ L.length) := Lib.hid (fun S => upTo_le L _)
  have HMO := Lib.hid (fun (S V : Int) (h : S ≤ V) => atP_mono L false false ok h)
  have HTI := Lib.hid (fun (S n : Int) (hn : 0 ≤ n) (h1 : S + n ≤ 4611686018427387904) => atP_tick L s p q S n false hn h1)
  clear ok hmay hrs hnew
  obtain ⟨c0, c1, c2⟩ := HT4.out.cells
  go_wp2_with fail
  refine HN1.out.mono ?_
  rintro e w5 ⟨g1, A1, d1, rfl, hg1, hp1, b5, -⟩
  have HB5 := Lib.hid (below_next HB4.out b5)
  have HT5 := Lib.hid (HT4.out.low b5 (by have := HB4.out.size; have := HB1.out.size; omega))
  have HP5 := Lib.hid hp1
  have hl1 := hp1.lt
  have HN2 := Lib.hid (new_good w5 L AL cL w4.heap.size s p q (HRL4.out.below b5) HAL.out b5.size (by omega) (mayP_iff.2 ⟨by omega, by omega, rightS_iff.2 (by omega), HLB.out⟩))
  rw [atP_new L s p q (by omega)] at HN2
  have hz5 := b5.size
  clear b5 hp1 HN1 c0 c1 c2
  obtain ⟨c0, c1, c2⟩ := HT5.out.cells
  go_wp2_with fail
  refine HN2.out.mono ?_
  rintro e w6 ⟨g2, A2, d2, rfl, hg2, hp2, b6, hA2⟩
  have HB6 := Lib.hid (below_next HB5.out b6)
  have HP6 := Lib.hid (HP5.out.next b6)
  have HQ6 := Lib.hid hp2
  have HNA := Lib.hid (show ∀ a, A2 = some a → ¬ a.block = g1 from fun a ha e => by have := hA2 a ha; omega)
  have hl2 := hp2.lt
  have hgg : g1 < g2 := by omega
  clear b6 hp2 HN2 c0 c1 c2 hA2 HP5 HT5 HT4 HRL4 HT3 HRL
  obtain ⟨B0, hB0⟩ : ∃ B0, B0 = w6.heap.size := ⟨_, rfl⟩
  rw [← hB0] at hl2
  obtain ⟨u0, hu0⟩ : ∃ u0, u0 = (atP L s p q 0 false).told := ⟨_, rfl⟩
  have HU0 := Lib.hid hu0
  have HB0 := Lib.hid hB0
  clear hu0 hB0
  go_wp2_with fail
  go_loopw [13, 14, 75] (fun v a i wr => ∃ (k : Nat) (S : Int), k ≤ T.length ∧ i = .int .i64 (k : Int) ∧ a = .int .i64 S ∧ 0 ≤ S ∧ S ≤ 16777216 * (k : Int) ∧ Below w.heap.size w wr ∧ B0 ≤ wr.heap.size ∧ PlAt wr g1 A1 d1 (atP L s p q S false) ∧ PlAt wr g2 A2 d2 (atP L s p q 0 false) ∧ evE.Own wr B0 v (seg L u0 (atP L s p q S false).told)) (fun _ _ i _ => T.length - (RowKit.intOf i).toNat)
  case atStart => exact ⟨0, 0, Nat.zero_le _, rfl, rfl, Int.le_refl _, by simp, HB6.out, by rw [HB0.out]; exact Nat.le_refl _, HP6.out, HQ6.out, by rw [HU0.out, seg_self]; exact El.Own.nil _ _⟩
  case round =>
    obtain ⟨k, S, hk, rfl, rfl, hS0, hS1, hb, hB, hpl, hql, ho⟩ := hrel
    have HB := Lib.hid hb
    have HP := Lib.hid hpl
    have HQ := Lib.hid hql
    have HO := Lib.hid ho
    have hzr := hb.size
    have HMS := Lib.hid (HMO.out 0 S hS0)
    clear hb hpl hql ho
    by_cases hlt : k < T.length
    · have g1' : decide ((k : Int) < (T.length : Int)) = true := by simp; omega
      have gn : decide (k < T.length) = true := by simp; omega
      obtain ⟨b, off, rfl, hbl, t0⟩ := int_at (HTR.out.below HB.out) hlt
      have a24 := i64_and24 T[k]
      generalize T[k] = n at *
      generalize hn24 : n % 16777216 = m at *
      have bm : 0 ≤ m ∧ m ≤ 16777215 := by omega
      have hti := HTI.out S m bm.1 (by omega)
      simp only [Bool.false_eq_true, if_false] at hti
      have HT := Lib.hid (HTK.out wr g1 A1 d1 S m hS0 bm.1 (by omega) HP.out)
      rw [hti] at HT
      have HMT := Lib.hid (HMO.out S (S + m) (by omega))
      have HLT := Lib.hid (HTL.out (S + m))
      clear hn24 hti
      obtain ⟨V, hV⟩ : ∃ V, S + m = V := ⟨_, rfl⟩
      rw [hV] at HT HMT HLT
      have bV : 0 ≤ V ∧ V ≤ 16777216 * ((k + 1 : Nat) : Int) := by omega
      go_wp2_with fail
      refine HT.out.mono ?_
      rintro e w7 ⟨v2, rfl, ho2, hp7, hf7⟩
      obtain ⟨Ax, cx, hvx, -, -, hAx, hrx⟩ := ho2.row
      subst hvx
      have HB7 := Lib.hid (HB.out.trans (hf7.below hzr (fun k hk => by have := HB1.out.size; have := HB4.out.size; omega)))
      have HP7 := Lib.hid (hp7 : PlAt w7 g1 A1 d1 (atP L s p q V false))
      have HQ7 := Lib.hid (HQ.out.keep hf7 (by omega) HNA.out)
      have HO7 := Lib.hid (HO.out.fr hf7 (fun k hk e => by have := (HO.out.lt k e).1; omega))
      have hz7 := hf7.size
      have HRX := Lib.hid (hrx : evE.Row w7 w7.heap.size Ax (seg L (atP L s p q S false).told (atP L s p q V false).told))
      have hs1 := seg_len L u0 (atP L s p q S false).told (by rw [HU0.out]; exact HMS.out) (Nat.le_trans HMT.out HLT.out)
      have hs2 := seg_len L (atP L s p q S false).told (atP L s p q V false).told HMT.out HLT.out
      have happ := seg_app L u0 (atP L s p q S false).told (atP L s p q V false).told (by rw [HU0.out]; exact HMS.out) HMT.out
      have hsz : (seg L u0 (atP L s p q S false).told).length + (seg L (atP L s p q S false).told (atP L s p q V false).told).length ≤ 60 := by
        rw [hs1, hs2]
        have := HMT.out
        have := HLT.out
        omega
      have HAP := Lib.hid happ
      have HSZ := Lib.hid hsz
      have HAX := Lib.hid hAx
      clear hs1 hs2 happ hsz ho2 hp7 hf7 hrx hAx t0
      go_wp2_with (at_builtin; refine evE.wp_append rfl (.tmp 79) (.tmp 83) rfl B0 _ (seg L u0 (atP L s p q S false).told) rfl HO7.out Ax (seg L (atP L s p q S false).told (atP L s p q V false).told) _ cx w7.heap.size rfl rfl HRX.out HAX.out ?c1 ?c2 (by omega) ?_)
      case c1 => have := HSZ.out; simp only [evE]; omega
      case c2 => have := HSZ.out; unfold maxLen; omega
      intro v3 w8 ho3 hg3
      have hbb : Below B0 w7 w8 := HO7.out.grow_below hg3 (by omega)
      rw [HAP.out] at ho3
      have HB8 := Lib.hid (HB7.out.trans (hbb.mono (by have := HB1.out.size; have := HB4.out.size; omega)))
      have HP8 := Lib.hid (HP7.out.below (hbb.mono (by omega)))
      have HQ8 := Lib.hid (HQ7.out.below (hbb.mono (by omega)))
      have HO8 := Lib.hid ho3
      have hz8 := hbb.size
      clear hbb ho3 hg3
      go_wp2_with fail
      go_roundw
      case rel => exact ⟨k + 1, V, by omega, by simp, rfl, bV.1, bV.2, HB8.out, by omega, HP8.out, HQ8.out, HO8.out⟩
      case measure => simp [RowKit.intOf]; omega
    · have g1' : decide ((k : Int) < (T.length : Int)) = false := by simp; omega
      have gn : decide (k < T.length) = false := by simp; omega
      have hti := HTI.out 0 S hS0 (by omega)
      simp only [Bool.false_eq_true, if_false, Int.zero_add] at hti
      have HT := Lib.hid (HTK.out wr g2 A2 d2 0 S (Int.le_refl _) hS0 (by omega) HQ.out)
      rw [hti, ← HU0.out] at HT
      have hseg : seg (atP L s p q 0 false).l u0 (atP L s p q S false).told = seg L u0 (atP L s p q S false).told := rfl
      rw [hseg] at HT
      have hs1 := seg_len L u0 (atP L s p q S false).told (by rw [HU0.out]; exact HMS.out) (HTL.out S)
      have hs1' : (seg L u0 (atP L s p q S false).told).length ≤ 1000 := by rw [hs1]; have := HTL.out S; omega
      have HS1 := Lib.hid hs1'
      obtain ⟨Ao, co, hvo, -, -, -, -⟩ := HO.out.row
      subst hvo
      have HNS := Lib.hid (fun v g A d hP => HNW.out v g A d S hS0 (by omega) hP)
      have HLS := Lib.hid (fun v g A d hP => HLF.out v g A d S hP)
      clear hti hs1 hs1' hseg HMS
      generalize seg L u0 (atP L s p q S false).told = M at *
      generalize hPS : atP L s p q S false = PS at *
      clear hPS
      go_wp2_with fail
      refine HT.out.mono ?_
      rintro e w7 ⟨v2, rfl, ho2, hp7, hf7⟩
      obtain ⟨Ax, cx, hvx, -, -, -, hrx⟩ := ho2.row
      subst hvx
      have HB7 := Lib.hid (HB.out.trans (hf7.below hzr (fun k hk => by have := HB1.out.size; have := HB4.out.size; omega)))
      have HQ7 := Lib.hid hp7
      have HP7 := Lib.hid (HP.out.fr hf7 (fun k hk => by omega))
      have hoo := HO.out.fr hf7 (fun k hk e => by have := (HO.out.lt k e).1; omega)
      obtain ⟨Aq, cq, hvq, -, -, -, hrq⟩ := hoo.row
      obtain ⟨rfl, rfl⟩ : Ao = Aq ∧ co = cq := by injection hvq with h1 _ h3; exact ⟨h1, h3⟩
      have HSM := Lib.hid (esame_ok w7 M M Ao Ax co cx w7.heap.size hrq hrx (Nat.le_refl _) HS1.out HS1.out)
      rw [decide_eq_true rfl] at HSM
      clear ho2 hp7 hf7 hrx hvq hrq hoo
      go_wp2_with fail
      refine HSM.out.mono ?_
      rintro e w8 ⟨rfl, b8⟩
      have HB8 := Lib.hid (below_next HB7.out b8)
      have HP8 := Lib.hid (HP7.out.next b8)
      have HQ8 := Lib.hid (HQ7.out.next b8)
      clear b8
      go_wp2_with fail
      refine (HNS.out w8 g1 A1 d1 HP8.out).mono ?_
      rintro e w9 ⟨rfl, k9, hw⟩
      have HB9 := Lib.hid (show Below w.heap.size w w9 by rw [hw]; exact below_drewN HB8.out _)
      have HP9 := Lib.hid (show PlAt w9 g1 A1 d1 PS by rw [hw]; exact HP8.out)
      have HQ9 := Lib.hid (show PlAt w9 g2 A2 d2 PS by rw [hw]; exact HQ8.out)
      clear hw
      go_wp2_with fail
      refine (HNS.out w9 g2 A2 d2 HQ9.out).mono ?_
      rintro e w10 ⟨rfl, k10, hw⟩
      have HB10 := Lib.hid (show Below w.heap.size w w10 by rw [hw]; exact below_drewN HB9.out _)
      have HP10 := Lib.hid (show PlAt w10 g1 A1 d1 PS by rw [hw]; exact HP9.out)
      have HQ10 := Lib.hid (show PlAt w10 g2 A2 d2 PS by rw [hw]; exact HQ9.out)
      clear hw
      generalize PS.now = NN at *
      go_wp2_with fail
      refine (HLS.out w10 g1 A1 d1 HP10.out).mono ?_
      rintro e w11 ⟨rfl, k11, hw⟩
      have HB11 := Lib.hid (show Below w.heap.size w w11 by rw [hw]; exact below_drewN HB10.out _)
      have HQ11 := Lib.hid (show PlAt w11 g2 A2 d2 PS by rw [hw]; exact HQ10.out)
      clear hw
      go_wp2_with fail
      refine (HLS.out w11 g2 A2 d2 HQ11.out).mono ?_
      rintro e w12 ⟨rfl, k12, hw⟩
      have HB12 := Lib.hid (show Below w.heap.size w w12 by rw [hw]; exact below_drewN HB11.out _)
      clear hw
      generalize (PS.l.length : Int) - (PS.told : Int) = LL at *
      go_wp2_with fail
      go_ret
      exact ⟨rfl, HB12.out⟩

theorem walk (A : Option Addr) (len cap : Nat) (x y z : Int) (At : Option Addr) (lt ct : Nat) (zs : List Int) (w : World) (hw : IsEvs w A len cap) (ht : IsRow .i64 w At lt ct zs) :
    Calls Try.prog 6 #[.slice A len cap, .agg #[.int .i64 x, .int .i64 y, .int .i64 z], .slice At lt ct] w fun e w' => e = .returned (.bool true) ∧ Below w.heap.size w w' := by
  obtain ⟨l, rfl, _, h3⟩ := hw
  obtain ⟨T, rfl, _, _, h4, _⟩ := ints_in ht
  by_cases h : 60 < l.length ∨ 60 < T.length
  · exact big A At l.length cap T.length ct x y z w h
  · exact core A At cap ct l T x y z w (by omega) (by omega) h3 h4

theorem own : ownKnob Try.prog.godebug = none := by kernel_rfl
theorem laidOut : laidOutB Try.prog = true := by kernel_rfl

set_option maxRecDepth 100000 in
theorem lifted (os : Os) (started : os.Started) (H : Type) (enc : TypeId × Value → H) :
    ReturnsInHanded {} Try.checked os 6 .any (Rows.playPartsSpec.pre6 enc Try.prog Try.f6 Rows.playPartsRow.domain false) (Rows.playPartsSpec.post enc Try.prog Try.f6 false true false false) := by
  refine returnsInHanded_of_change (C := Try.checked) own started (by kernel_rfl) Try.func6
    (ChangeSpec.witness6 (enc := enc) (C := Try.checked) false ⟨#[], #[.slice none 0 0, .agg #[.int .i64 0, .int .i64 0, .int .i64 0], .slice none 0 0], []⟩ 8 (by kernel_rfl) (by kernel_rfl) (by kernel_rfl) (by kernel_rfl)) ?_
  intro W base args ds gs before hval0 hW hcnd _
  have hval : ∀ (j : Nat) t v, Try.f6.params[j]? = some t → args[j]? = some v → Value.okWide Try.prog W .any base t v := hval0
  have hW' := hW
  obtain ⟨p, q, hA0, hV, rfl, hfz, hnd⟩ := hW
  have hA : DataW.TrodAll enc Try.prog W 0 (fun _ => true) true Try.f6.params.toList args.toList ds p := hA0
  rw [Try.params6] at hA hval
  obtain ⟨v0, vs0, d0, ds0, p0, q0, hargs, rfl, rfl, h0, r0⟩ := trodAll_cons hA
  obtain ⟨v1, vs1, d1, ds1, p1, q1, rfl, rfl, rfl, h1, r1⟩ := trodAll_cons r0
  obtain ⟨v2, vs2, d2, ds2, p2, q2, rfl, rfl, rfl, h2, r2⟩ := trodAll_cons r1
  obtain ⟨rfl, rfl, rfl⟩ := trodAll_nil r2
  obtain rfl : args = #[v0, v1, v2] := by cases args; simp_all
  obtain ⟨rfl, rfl⟩ := trodVars_none hV
  obtain ⟨a0, len0, cap0, rfl⟩ := okWide_slice Try.underlying22 (hval 0 22 v0 rfl rfl)
  have k0 := h0
  have lt0 : ∀ x ∈ p0, x.block < W.heap.size := by obtain ⟨m, hm⟩ := k0; exact DataW.trod_lt m _ _ _ hm
  have w0 : IsEvs W a0 len0 cap0 := by
    obtain ⟨fuel, hf⟩ := h0
    exact evs_in hf
  have k1 := h1
  have lt1 : ∀ x ∈ p1, x.block < W.heap.size := by obtain ⟨m, hm⟩ := k1; exact DataW.trod_lt m _ _ _ hm
  obtain ⟨a1, b1, c1, rfl⟩ := open_three (hval 1 23 v1 rfl rfl) h1
  obtain ⟨a2, len2, cap2, rfl⟩ := okWide_slice Try.underlying48 (hval 2 48 v2 rfl rfl)
  have k2 := h2
  have lt2 : ∀ x ∈ p2, x.block < W.heap.size := by obtain ⟨m, hm⟩ := k2; exact DataW.trod_lt m _ _ _ hm
  obtain ⟨z2, w2⟩ : ∃ zs, IsRow .i64 W a2 len2 cap2 zs := by
    obtain ⟨fuel, hf⟩ := h2
    rcases open_ints Try.underlying48 Try.underlying3 (by kernel_rfl) hf with ⟨hcs, _⟩ | ⟨x, l, c, zs, hcs, _, hl, hm, hz, _, hcell, hwz⟩
    · simp [Value.cells] at hcs
      obtain ⟨rfl, rfl, rfl⟩ := hcs
      exact ⟨[], .inl ⟨rfl, rfl, rfl, rfl⟩⟩
    · simp [Value.cells] at hcs
      obtain ⟨rfl, rfl, rfl⟩ := hcs
      exact ⟨zs, .inr ⟨_, rfl, hl, hm, by simpa using hz, hcell, hwz⟩⟩
  clear hA0 hval0
  refine (walk a0 len0 cap0 a1 b1 c1 a2 len2 cap2 z2 W w0 w2).mono fun e W' ⟨he, bel⟩ => ?_
  subst he
  exact ⟨_, rfl, _, _, _, [], _, [], hW', trodAll_mk1 (shut_bool Try.underlying4 _), (trodAll_cons_mk (Below.trod laidOut (by kernel_rfl) (of_decide_eq_true (by kernel_rfl)) k0 bel lt0) (trodAll_cons_mk (Below.trod laidOut (by kernel_rfl) (of_decide_eq_true (by kernel_rfl)) k1 bel lt1) (trodAll_cons_mk (Below.trod laidOut (by kernel_rfl) (of_decide_eq_true (by kernel_rfl)) k2 bel lt2) trodAll_mk0))), rfl, bel.frame _, fun h => by cases h⟩

theorem over : Rows.playPartsRow.holds Try.pinned (OpenSpec.ofChange Rows.playPartsSpec) :=
  OpenClaim.holds_of_wide 6 Try.f6 rfl rfl rfl rfl rfl rfl rfl ⟨rfl, rfl, rfl, rfl, rfl⟩ rfl rfl rfl rfl rfl (by kernel_rfl) Try.func6 (by kernel_rfl)
    (of_decide_eq_true (by kernel_rfl)) (by unfold Func.isWrapper; first | (rw [if_pos (by decide +kernel)]; kernel_rfl) | (rw [if_neg (by decide +kernel)]; exact ⟨rfl, rfl⟩))
    (fun os started H enc _ => lifted os started H enc)

end Go.Proofs.Ytdbnpdbnjipjiaa.playParts
namespace Go.Proofs.Ytdbnpdbnjipjiaa
theorem playParts_holds : Rows.PlayPartsSaid := playParts.over
end Go.Proofs.Ytdbnpdbnjipjiaa
