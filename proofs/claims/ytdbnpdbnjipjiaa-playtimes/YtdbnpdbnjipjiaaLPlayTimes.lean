/-
  PlayTimes: behind whatever ticks and pauses just those events were told that are no later than the beginning and the wall time, scaled. For every slice of events, every three numbers and every slice of ticks. No condition.
-/
import Derived.Test.YtdbnpdbnjipjiaaYFit
import Derived.Test.YtdbnpdbnjipjiaaYTimes
import Derived.Test.YtdbnpdbnjipjiaaYUntil
import Derived.Test.YtdbnpdbnjipjiaaYScale
import Derived.Test.YtdbnpdbnjipjiaaYOpen
import Derived.Test.YtdbnpdbnjipjiaaETame
import Derived.Test.YtdbnpdbnjipjiaaESame
import Derived.ProofKit
import Derived.OpenShut
namespace Go.Proofs.Ytdbnpdbnjipjiaa.playTimes
open Go.ChangeShapes Go.WideShapes Go.ChangeAt Go.RowKit Go.Lib EM PM
set_option maxRecDepth 100000

theorem big (A At : Option Addr) (n c nt ct : Nat) (x y z : Int) (w : World) (h : 60 < n ∨ 60 < nt) :
    Calls Try.prog 4 #[.slice A n c, .agg #[.int .i64 x, .int .i64 y, .int .i64 z], .slice At nt ct] w fun e w' => e = .returned (.bool true) ∧ Below w.heap.size w w' := by
  obtain ⟨w1, hw1⟩ : ∃ w1, w1 = w.alloc (.cells #[.int .i64 x, .int .i64 y, .int .i64 z] 23) := ⟨_, rfl⟩
  have hb1 : Below w.heap.size w w1 := by rw [hw1]; exact (Below.refl _ _).alloc (Nat.le_refl _) _
  have W1 := Lib.hid hw1
  have HB1 := Lib.hid hb1
  have HF := Lib.hid (pfit_ok w1)
  clear hw1 hb1
  by_cases h1 : 60 < n
  · have g : decide ((60 : Int) < (n : Int)) = true := by simp; omega
    clear h
    go_enter Try.func4, Try.ntmps4
    go_wp2_with fail
    rw [← W1.out]
    refine HF.out.mono ?_
    rintro e w2 ⟨rfl, b2⟩
    have HB2 := Lib.hid (below_next HB1.out b2)
    clear b2
    go_wp2_with fail
    go_ret
    exact ⟨rfl, HB2.out⟩
  · have g : decide ((60 : Int) < (n : Int)) = false := by simp; omega
    have g' : decide ((60 : Int) < (nt : Int)) = true := by simp; omega
    clear h
    go_enter Try.func4, Try.ntmps4
    go_wp2_with fail
    rw [← W1.out]
    refine HF.out.mono ?_
    rintro e w2 ⟨rfl, b2⟩
    have HB2 := Lib.hid (below_next HB1.out b2)
    clear b2
    go_wp2_with fail
    go_ret
    exact ⟨rfl, HB2.out⟩

set_option maxHeartbeats 4000000 in
theorem core (A At : Option Addr) (c ct : Nat) (l : List Ev) (T : List Int) (x y z : Int) (w : World) (hl : l.length ≤ 60) (hT : T.length ≤ 60) (hr : evE.Row w w.heap.size A l) (ht : intE.Row w w.heap.size At T) :
    Calls Try.prog 4 #[.slice A l.length c, .agg #[.int .i64 x, .int .i64 y, .int .i64 z], .slice At T.length ct] w fun e w' => e = .returned (.bool true) ∧ Below w.heap.size w w' := by
  have g : decide ((60 : Int) < (l.length : Int)) = false := by simp; omega
  have g' : decide ((60 : Int) < (T.length : Int)) = false := by simp; omega
  obtain ⟨w1, hw1⟩ : ∃ w1, w1 = w.alloc (.cells #[.int .i64 x, .int .i64 y, .int .i64 z] 23) := ⟨_, rfl⟩
  have hb1 : Below w.heap.size w w1 := by rw [hw1]; exact (Below.refl _ _).alloc (Nat.le_refl _) _
  have hz1 : w1.heap.size = w.heap.size + 1 := by rw [hw1]; simp
  have ht1 : ThreeIn w1 w.heap.size x y z := by rw [hw1]; exact ThreeIn.fresh w x y z
  have W1 := Lib.hid hw1
  have HB1 := Lib.hid hb1
  have HF := Lib.hid (pfit_ok w1)
  have HT1 := Lib.hid ht1
  have HR := Lib.hid hr
  have HTR := Lib.hid ht
  clear hw1 hb1 hr ht1 ht
  go_enter Try.func4, Try.ntmps4
  go_wp2_with fail
  rw [← W1.out]
  refine HF.out.mono ?_
  rintro e w2 ⟨rfl, b2⟩
  have HB2 := Lib.hid (below_next HB1.out b2)
  have HT2 := Lib.hid (HT1.out.below b2)
  have hz2 := b2.size
  clear b2 HF
  have HTA := Lib.hid (tame_ok w2 l A c w.heap.size (HR.out.below HB2.out) HB2.out.size (by omega))
  go_wp2_with fail
  refine HTA.out.mono ?_
  rintro e w3 ⟨v, rfl, ho, b3⟩
  obtain ⟨AL, cL, hv, hlc, -, hAL, hrL⟩ := ho.row
  subst hv
  have HB3 := Lib.hid (below_next HB2.out b3)
  have HT3 := Lib.hid (HT2.out.below b3)
  have hz3 := b3.size
  have HLB := Lib.hid (tameL_list l 0 (Int.le_refl _) (by omega))
  have hlen := tameL_len 0 l
  have HRL := Lib.hid hrL
  have HAL := Lib.hid hAL
  generalize tameL 0 l = L at *
  obtain ⟨c0, c1, c2⟩ := HT3.out.cells
  have hLl : L.length ≤ 60 := by omega
  clear ho b3 HTA hrL hAL g hlen
  -- the three numbers
  have a0 := i64_and65k x
  have a1 := i64_and65k y
  have a2 := i64_and65k z
  generalize hs : x % 65536 = s at *
  generalize hy1 : y % 65536 = y1 at *
  generalize hz1' : z % 65536 = z1 at *
  have bs : 0 ≤ s ∧ s ≤ 65535 := by omega
  have by1 : 0 ≤ y1 ∧ y1 ≤ 65535 := by omega
  have bz1 : 0 ≤ z1 ∧ z1 ≤ 65535 := by omega
  clear hs hy1 hz1'
  obtain ⟨y2, hy2⟩ : ∃ y2, y1 % 1000 = y2 := ⟨_, rfl⟩
  obtain ⟨z2, hz2'⟩ : ∃ z2, z1 % 1000 = z2 := ⟨_, rfl⟩
  have m1 : y1.tmod 1000 = y2 := by rw [Int.tmod_eq_emod_of_nonneg by1.1]; exact hy2
  have m2 : z1.tmod 1000 = z2 := by rw [Int.tmod_eq_emod_of_nonneg bz1.1]; exact hz2'
  have by2 : 0 ≤ y2 ∧ y2 ≤ 999 := by omega
  have bz2 : 0 ≤ z2 ∧ z2 ≤ 999 := by omega
  obtain ⟨p, hp⟩ : ∃ p, 1 + y2 = p := ⟨_, rfl⟩
  obtain ⟨q, hq⟩ : ∃ q, 1 + z2 = q := ⟨_, rfl⟩
  have hrs : rightS p q = true := rightS_iff.2 (by omega)
  have hmay : mayP L s p q = true := mayP_iff.2 ⟨by omega, by omega, hrs, HLB.out⟩
  have ok := mayP_ok (by omega) hmay
  go_wp2_with fail
  go_quiet (fail)
  have HB4 := Lib.hid (below_drewN HB3.out nq)
  have HRL4 := Lib.hid (show evE.Row (w3.drewN nq) (w3.drewN nq).heap.size AL L from HRL.out)
  have hz4 : w3.heap.size ≤ (w3.drewN nq).heap.size := Nat.le_refl _
  clear c0 c1 c2
  generalize w3.drewN nq = w4 at *
  have HN1 := Lib.hid (new_good w4 L AL cL w4.heap.size s p q HRL4.out HAL.out (Nat.le_refl _) (by omega) hmay)
  have hnew := atP_new L s p q (by omega)
  rw [hnew] at HN1
  have HTK := Lib.hid (fun v g A d (S n : Int) (b : Bool) (h0 : 0 ≤ S) (h1 : S ≤ 4611686018427387904) (hP : PlAt v g A d (atP L s p q S b)) => tick_ok v g d A (atP L s p q S b) hP (atP_ok ok h0 h1) (atP_full _ _ _ _ _ _) n)
  have HPA := Lib.hid (fun v g A d (S : Int) (b on : Bool) (hP : PlAt v g A d (atP L s p q S b)) => pause_ok v g d A (atP L s p q S b) hP on)
  have HLF := Lib.hid (fun v g A d (S : Int) (b : Bool) (hP : PlAt v g A d (atP L s p q S b)) => left_ok v g d A (atP L s p q S b) hP (show L.length ≤ 1000 by omega) (upTo_le _ _))
  have HTL : Hid (∀ (S : Int) (b : Bool), (atP L s p q S b).told ≤ L.length) := Lib.hid (fun S b => upTo_le L _)
  have HMO := Lib.hid (fun (S V : Int) (b b' : Bool) (h : S ≤ V) => atP_mono L b b' ok h)
  have HTI := Lib.hid (fun (S n : Int) (b : Bool) (hn : 0 ≤ n) (h1 : S + n ≤ 4611686018427387904) => atP_tick L s p q S n b hn h1)
  have HTD : Hid (∀ (S : Int) (b b' : Bool), (atP L s p q S b).told = (atP L s p q S b').told) := Lib.hid (fun _ _ _ => rfl)
  have hlq := upTo_le L s
  have HUN := Lib.hid (fun v (t : Int) (h : evE.Row v w4.heap.size AL L) => runtil_same v L AL cL w4.heap.size t h (by omega))
  have hp1 : 1 ≤ p ∧ p ≤ 1000 := by omega
  have hq1 : 1 ≤ q ∧ q ≤ 1000 := by omega
  clear ok hmay hrs hnew
  go_wp2_with fail
  refine HN1.out.mono ?_
  rintro e w5 ⟨g1, A1, d1, rfl, hg1, hp1', b5, -⟩
  have HB5 := Lib.hid (below_next HB4.out b5)
  have HP5 := Lib.hid hp1'
  have HX5 := Lib.hid b5
  have hz5 := b5.size
  have HR5 := Lib.hid (HRL4.out.below b5)
  obtain ⟨u0, hu0⟩ : ∃ u0, u0 = upTo L s := ⟨_, rfl⟩
  have HU0 := Lib.hid (show u0 = (atP L s p q 0 false).told by rw [hu0]; show upTo L s = upTo L (min (s + 0 * p / q) 4611686018427387904); rw [Int.zero_mul, Int.zero_ediv]; congr 1; omega)
  have HUN0 := Lib.hid (HUN.out w5 s HR5.out)
  rw [← hu0] at HUN0 hlq
  clear b5 hp1' HN1 hu0 HRL
  go_wp2_with fail
  refine HUN0.out.mono ?_
  rintro e w6 ⟨rfl, hw⟩
  rw [hw]
  clear hw w6 HUN0
  go_wp2_with fail
  go_loopw [12, 13, 62] (fun wl td i wr => ∃ (k t : Nat) (W : Int) (b : Bool), k ≤ T.length ∧ i = .int .i64 (k : Int) ∧ wl = .int .i64 W ∧ td = .int .i64 (t : Int) ∧ 0 ≤ W ∧ W ≤ 16777216 * (k : Int) ∧ Below w.heap.size w wr ∧ Below w4.heap.size w4 wr ∧ PlAt wr g1 A1 d1 (atP L s p q W b) ∧ t = (atP L s p q W b).told) (fun _ _ i _ => T.length - (RowKit.intOf i).toNat)
  case atStart => exact ⟨0, u0, 0, false, Nat.zero_le _, rfl, rfl, rfl, Int.le_refl _, by simp, HB5.out, HX5.out, HP5.out, HU0.out⟩
  case round =>
    obtain ⟨k, t, W, b, hk, rfl, rfl, rfl, hW0, hW1, hb, hx, hpl, htd⟩ := hrel
    have HB := Lib.hid hb
    have HX := Lib.hid hx
    have HP := Lib.hid hpl
    have HTD0 := Lib.hid htd
    have hzr := hb.size
    have hzx := hx.size
    have htl : t ≤ L.length := by rw [htd]; exact HTL.out W b
    clear hb hx hpl htd
    by_cases hlt : k < T.length
    · have g1' : decide ((k : Int) < (T.length : Int)) = true := by simp; omega
      have gn : decide (k < T.length) = true := by simp; omega
      obtain ⟨b0, off, rfl, hbl, t0⟩ := int_at (HTR.out.below HB.out) hlt
      have a24 := i64_and24 T[k]
      have a1' := i64_and1 T[k]
      generalize T[k] = n at *
      have a1'' := i64_and1 (n % 16777216)
      have hpar : n % 16777216 % 2 = n % 2 := by omega
      rw [hpar] at a1''
      generalize hn24 : n % 16777216 = m at *
      have bm : 0 ≤ m ∧ m ≤ 16777215 := by omega
      have hodd : n % 2 = 0 ∨ n % 2 = 1 := by omega
      generalize n % 2 = o at *
      clear hn24 hpar
      rcases hodd with rfl | rfl
      · -- time goes by
        have o1 : ((0 : Int) == 1) = false := rfl
        have o0 : ((0 : Int) == 0) = true := rfl
        obtain ⟨V, hV⟩ : ∃ V, W + m = V := ⟨_, rfl⟩
        have hti := HTI.out W m false bm.1 (by omega)
        simp only [Bool.false_eq_true, if_false] at hti
        rw [hV] at hti
        have hVW : W ≤ V := by omega
        have bV : 0 ≤ V ∧ V ≤ 16777216 * ((k + 1 : Nat) : Int) := by omega
        have HPZ := Lib.hid (HPA.out wr g1 A1 d1 W b false HP.out)
        rw [atP_pause] at HPZ
        obtain ⟨vp, hvp⟩ : ∃ vp, V * p = vp := ⟨_, rfl⟩
        have bvp : 0 ≤ vp ∧ vp ≤ 1030792151040000 := by
          have h1 : V * p ≤ V * 1000 := Int.mul_le_mul_of_nonneg_left hp1.2 bV.1
          have h2 : 0 ≤ V * p := Int.mul_nonneg bV.1 (by omega)
          omega
        obtain ⟨dd, hdd⟩ : ∃ dd, vp / q = dd := ⟨_, rfl⟩
        have bdd : 0 ≤ dd ∧ dd ≤ vp := by
          rw [← hdd]
          exact ⟨Int.ediv_nonneg bvp.1 (by omega), Int.ediv_le_self _ bvp.1⟩
        have mdd : vp.tdiv q = dd := by rw [Int.tdiv_eq_ediv_of_nonneg bvp.1]; exact hdd
        obtain ⟨tt, htt⟩ : ∃ tt, s + dd = tt := ⟨_, rfl⟩
        obtain ⟨u, hu⟩ : ∃ u, u = upTo L tt := ⟨_, rfl⟩
        have hut : (atP L s p q V false).told = u := by
          rw [hu]
          show upTo L (min (s + V * p / q) 4611686018427387904) = _
          rw [hvp, hdd, htt]
          congr 1
          omega
        have htu : t ≤ u := by rw [HTD0.out, ← hut]; exact HMO.out W V b false hVW
        have hul : u ≤ L.length := by rw [hu]; exact upTo_le L tt
        have HUT := Lib.hid hut
        have HTIC := Lib.hid (fun v (hP : PlAt v g1 A1 d1 (atP L s p q W false)) => HTK.out v g1 A1 d1 W m false hW0 (by omega) hP)
        rw [hti, hut, HTD.out W false b, ← HTD0.out, show (atP L s p q W false).l = L from rfl] at HTIC
        have HUNT := Lib.hid (fun v (h : evE.Row v w4.heap.size AL L) => HUN.out v tt h)
        rw [← hu] at HUNT
        have hmid := fun w => midE AL L.length cL t u w htu (by omega)
        have hsl := seg_len L t u htu hul
        have HSL := Lib.hid hsl
        have hsb : u - t ≤ 1000 := by omega
        clear hut hu hti hdd hsl
        go_wp2_with fail
        refine HPZ.out.mono ?_
        rintro e w7 ⟨rfl, hp7, hf7⟩
        have HP7 := Lib.hid hp7
        have HB7 := Lib.hid (HB.out.trans (hf7.below hzr (fun k hk => by have := HB1.out.size; have := HB4.out.size; omega)))
        have HX7 := Lib.hid (HX.out.trans (hf7.below hzx (fun k hk => by omega)))
        have hz7 := hf7.size
        clear hp7 hf7 t0
        go_wp2_with fail
        refine (HTIC.out w7 HP7.out).mono ?_
        rintro e w8 ⟨v2, rfl, ho2, hp8, hf8⟩
        obtain ⟨Ax, cx, hvx, -, -, -, hrx⟩ := ho2.row
        subst hvx
        have HP8 := Lib.hid hp8
        have HB8 := Lib.hid (HB7.out.trans (hf8.below (by omega) (fun k hk => by have := HB1.out.size; have := HB4.out.size; omega)))
        have HX8 := Lib.hid (HX7.out.trans (hf8.below (by omega) (fun k hk => by omega)))
        have hz8 := hf8.size
        have HR8 := Lib.hid (HRL4.out.below HX8.out)
        have HSM := Lib.hid (esame_ok w8 (seg L t u) (seg L t u) Ax (evE.cutA AL cL t) cx (cL - t) w8.heap.size hrx ((HR8.out.mid htu hul hlc).mono HX8.out.size) (Nat.le_refl _) (by rw [HSL.out]; exact hsb) (by rw [HSL.out]; exact hsb))
        rw [decide_eq_true rfl] at HSM
        rw [HSL.out] at HSM ⊢
        clear ho2 hp8 hf8 hrx
        go_wp2_with fail
        refine (HUNT.out w8 HR8.out).mono ?_
        rintro e w9 ⟨rfl, hw⟩
        rw [hw]
        clear hw w9
        go_wp2_with fail
        refine HSM.out.mono ?_
        rintro e w9 ⟨rfl, b9⟩
        have HB9 := Lib.hid (below_next HB8.out b9)
        have HX9 := Lib.hid (below_next HX8.out b9)
        have HP9 := Lib.hid (HP8.out.next b9)
        clear b9
        go_wp2_with fail
        go_roundw
        case rel => exact ⟨k + 1, u, V, false, by omega, by simp, rfl, rfl, bV.1, bV.2, HB9.out, HX9.out, HP9.out, HUT.out.symm⟩
        case measure => simp [RowKit.intOf]; omega
      · -- it stands
        have o1 : ((1 : Int) == 1) = true := rfl
        have o0 : ((1 : Int) == 0) = false := rfl
        obtain ⟨V, hV⟩ : ∃ V, W = V := ⟨_, rfl⟩
        have hti := HTI.out W m true bm.1 (by omega)
        simp only [if_true] at hti
        rw [hV] at hti
        have hVW : W ≤ V := by omega
        have bV : 0 ≤ V ∧ V ≤ 16777216 * ((k + 1 : Nat) : Int) := by omega
        subst hV
        have HPZ := Lib.hid (HPA.out wr g1 A1 d1 W b true HP.out)
        rw [atP_pause] at HPZ
        obtain ⟨vp, hvp⟩ : ∃ vp, W * p = vp := ⟨_, rfl⟩
        have bvp : 0 ≤ vp ∧ vp ≤ 1030792151040000 := by
          have h1 : W * p ≤ W * 1000 := Int.mul_le_mul_of_nonneg_left hp1.2 bV.1
          have h2 : 0 ≤ W * p := Int.mul_nonneg bV.1 (by omega)
          omega
        obtain ⟨dd, hdd⟩ : ∃ dd, vp / q = dd := ⟨_, rfl⟩
        have bdd : 0 ≤ dd ∧ dd ≤ vp := by
          rw [← hdd]
          exact ⟨Int.ediv_nonneg bvp.1 (by omega), Int.ediv_le_self _ bvp.1⟩
        have mdd : vp.tdiv q = dd := by rw [Int.tdiv_eq_ediv_of_nonneg bvp.1]; exact hdd
        obtain ⟨tt, htt⟩ : ∃ tt, s + dd = tt := ⟨_, rfl⟩
        obtain ⟨u, hu⟩ : ∃ u, u = upTo L tt := ⟨_, rfl⟩
        have hut : (atP L s p q W true).told = u := by
          rw [hu]
          show upTo L (min (s + W * p / q) 4611686018427387904) = _
          rw [hvp, hdd, htt]
          congr 1
          omega
        have htu : t ≤ u := by rw [HTD0.out, ← hut]; exact HMO.out W W b true hVW
        have hul : u ≤ L.length := by rw [hu]; exact upTo_le L tt
        have HUT := Lib.hid hut
        have HTIC := Lib.hid (fun v (hP : PlAt v g1 A1 d1 (atP L s p q W true)) => HTK.out v g1 A1 d1 W m true hW0 (by omega) hP)
        rw [hti, hut, show (atP L s p q W true).l = L from rfl] at HTIC
        have hut' : t = u := by rw [HTD0.out, HTD.out W b true]; exact hut
        rw [show seg L u u = seg L t u by rw [hut']] at HTIC
        clear hut'
        have HUNT := Lib.hid (fun v (h : evE.Row v w4.heap.size AL L) => HUN.out v tt h)
        rw [← hu] at HUNT
        have hmid := fun w => midE AL L.length cL t u w htu (by omega)
        have hsl := seg_len L t u htu hul
        have HSL := Lib.hid hsl
        have hsb : u - t ≤ 1000 := by omega
        clear hut hu hti hdd hsl
        go_wp2_with fail
        refine HPZ.out.mono ?_
        rintro e w7 ⟨rfl, hp7, hf7⟩
        have HP7 := Lib.hid hp7
        have HB7 := Lib.hid (HB.out.trans (hf7.below hzr (fun k hk => by have := HB1.out.size; have := HB4.out.size; omega)))
        have HX7 := Lib.hid (HX.out.trans (hf7.below hzx (fun k hk => by omega)))
        have hz7 := hf7.size
        clear hp7 hf7 t0
        go_wp2_with fail
        refine (HTIC.out w7 HP7.out).mono ?_
        rintro e w8 ⟨v2, rfl, ho2, hp8, hf8⟩
        obtain ⟨Ax, cx, hvx, -, -, -, hrx⟩ := ho2.row
        subst hvx
        have HP8 := Lib.hid hp8
        have HB8 := Lib.hid (HB7.out.trans (hf8.below (by omega) (fun k hk => by have := HB1.out.size; have := HB4.out.size; omega)))
        have HX8 := Lib.hid (HX7.out.trans (hf8.below (by omega) (fun k hk => by omega)))
        have hz8 := hf8.size
        have HR8 := Lib.hid (HRL4.out.below HX8.out)
        have HSM := Lib.hid (esame_ok w8 (seg L t u) (seg L t u) Ax (evE.cutA AL cL t) cx (cL - t) w8.heap.size hrx ((HR8.out.mid htu hul hlc).mono HX8.out.size) (Nat.le_refl _) (by rw [HSL.out]; exact hsb) (by rw [HSL.out]; exact hsb))
        rw [decide_eq_true rfl] at HSM
        rw [HSL.out] at HSM ⊢
        clear ho2 hp8 hf8 hrx
        go_wp2_with fail
        refine (HUNT.out w8 HR8.out).mono ?_
        rintro e w9 ⟨rfl, hw⟩
        rw [hw]
        clear hw w9
        go_wp2_with fail
        refine HSM.out.mono ?_
        rintro e w9 ⟨rfl, b9⟩
        have HB9 := Lib.hid (below_next HB8.out b9)
        have HX9 := Lib.hid (below_next HX8.out b9)
        have HP9 := Lib.hid (HP8.out.next b9)
        clear b9
        go_wp2_with fail
        go_roundw
        case rel => exact ⟨k + 1, u, W, true, by omega, by simp, rfl, rfl, bV.1, bV.2, HB9.out, HX9.out, HP9.out, HUT.out.symm⟩
        case measure => simp [RowKit.intOf]; omega
    · have g1' : decide ((k : Int) < (T.length : Int)) = false := by simp; omega
      have gn : decide (k < T.length) = false := by simp; omega
      have HL := Lib.hid (HLF.out wr g1 A1 d1 W b HP.out)
      rw [← HTD0.out, show (atP L s p q W b).l = L from rfl] at HL
      go_wp2_with fail
      refine HL.out.mono ?_
      rintro e w11 ⟨rfl, k11, hw⟩
      have HB11 := Lib.hid (show Below w.heap.size w w11 by rw [hw]; exact below_drewN HB.out _)
      clear hw
      go_wp2_with fail
      go_ret
      exact ⟨rfl, HB11.out⟩

theorem walk (A : Option Addr) (len cap : Nat) (x y z : Int) (At : Option Addr) (lt ct : Nat) (zs : List Int) (w : World) (hw : IsEvs w A len cap) (ht : IsRow .i64 w At lt ct zs) :
    Calls Try.prog 4 #[.slice A len cap, .agg #[.int .i64 x, .int .i64 y, .int .i64 z], .slice At lt ct] w fun e w' => e = .returned (.bool true) ∧ Below w.heap.size w w' := by
  obtain ⟨l, rfl, _, h3⟩ := hw
  obtain ⟨T, rfl, _, _, h4, _⟩ := ints_in ht
  by_cases h : 60 < l.length ∨ 60 < T.length
  · exact big A At l.length cap T.length ct x y z w h
  · exact core A At cap ct l T x y z w (by omega) (by omega) h3 h4

theorem own : ownKnob Try.prog.godebug = none := by kernel_rfl
theorem laidOut : laidOutB Try.prog = true := by kernel_rfl

set_option maxRecDepth 100000 in
theorem lifted (os : Os) (started : os.Started) (H : Type) (enc : TypeId × Value → H) :
    ReturnsInHanded {} Try.checked os 4 .any (Rows.playTimesSpec.pre6 enc Try.prog Try.f4 Rows.playTimesRow.domain false) (Rows.playTimesSpec.post enc Try.prog Try.f4 false true false false) := by
  refine returnsInHanded_of_change (C := Try.checked) own started (by kernel_rfl) Try.func4
    (ChangeSpec.witness6 (enc := enc) (C := Try.checked) false ⟨#[], #[.slice none 0 0, .agg #[.int .i64 0, .int .i64 0, .int .i64 0], .slice none 0 0], []⟩ 8 (by kernel_rfl) (by kernel_rfl) (by kernel_rfl) (by kernel_rfl)) ?_
  intro W base args ds gs before hval0 hW hcnd _
  have hval : ∀ (j : Nat) t v, Try.f4.params[j]? = some t → args[j]? = some v → Value.okWide Try.prog W .any base t v := hval0
  have hW' := hW
  obtain ⟨p, q, hA0, hV, rfl, hfz, hnd⟩ := hW
  have hA : DataW.TrodAll enc Try.prog W 0 (fun _ => true) true Try.f4.params.toList args.toList ds p := hA0
  rw [Try.params4] at hA hval
  obtain ⟨v0, vs0, d0, ds0, p0, q0, hargs, rfl, rfl, h0, r0⟩ := trodAll_cons hA
  obtain ⟨v1, vs1, d1, ds1, p1, q1, rfl, rfl, rfl, h1, r1⟩ := trodAll_cons r0
  obtain ⟨v2, vs2, d2, ds2, p2, q2, rfl, rfl, rfl, h2, r2⟩ := trodAll_cons r1
  obtain ⟨rfl, rfl, rfl⟩ := trodAll_nil r2
  obtain rfl : args = #[v0, v1, v2] := by cases args; simp_all
  obtain ⟨rfl, rfl⟩ := trodVars_none hV
  obtain ⟨a0, len0, cap0, rfl⟩ := okWide_slice Try.underlying22 (hval 0 22 v0 rfl rfl)
  have k0 := h0
  have lt0 : ∀ x ∈ p0, x.block < W.heap.size := by obtain ⟨m, hm⟩ := k0; exact DataW.trod_lt m _ _ _ hm
  have w0 : IsEvs W a0 len0 cap0 := by
    obtain ⟨fuel, hf⟩ := h0
    exact evs_in hf
  have k1 := h1
  have lt1 : ∀ x ∈ p1, x.block < W.heap.size := by obtain ⟨m, hm⟩ := k1; exact DataW.trod_lt m _ _ _ hm
  obtain ⟨a1, b1, c1, rfl⟩ := open_three (hval 1 23 v1 rfl rfl) h1
  obtain ⟨a2, len2, cap2, rfl⟩ := okWide_slice Try.underlying48 (hval 2 48 v2 rfl rfl)
  have k2 := h2
  have lt2 : ∀ x ∈ p2, x.block < W.heap.size := by obtain ⟨m, hm⟩ := k2; exact DataW.trod_lt m _ _ _ hm
  obtain ⟨z2, w2⟩ : ∃ zs, IsRow .i64 W a2 len2 cap2 zs := by
    obtain ⟨fuel, hf⟩ := h2
    rcases open_ints Try.underlying48 Try.underlying3 (by kernel_rfl) hf with ⟨hcs, _⟩ | ⟨x, l, c, zs, hcs, _, hl, hm, hz, _, hcell, hwz⟩
    · simp [Value.cells] at hcs
      obtain ⟨rfl, rfl, rfl⟩ := hcs
      exact ⟨[], .inl ⟨rfl, rfl, rfl, rfl⟩⟩
    · simp [Value.cells] at hcs
      obtain ⟨rfl, rfl, rfl⟩ := hcs
      exact ⟨zs, .inr ⟨_, rfl, hl, hm, by simpa using hz, hcell, hwz⟩⟩
  clear hA0 hval0
  refine (walk a0 len0 cap0 a1 b1 c1 a2 len2 cap2 z2 W w0 w2).mono fun e W' ⟨he, bel⟩ => ?_
  subst he
  exact ⟨_, rfl, _, _, _, [], _, [], hW', trodAll_mk1 (shut_bool Try.underlying4 _), (trodAll_cons_mk (Below.trod laidOut (by kernel_rfl) (of_decide_eq_true (by kernel_rfl)) k0 bel lt0) (trodAll_cons_mk (Below.trod laidOut (by kernel_rfl) (of_decide_eq_true (by kernel_rfl)) k1 bel lt1) (trodAll_cons_mk (Below.trod laidOut (by kernel_rfl) (of_decide_eq_true (by kernel_rfl)) k2 bel lt2) trodAll_mk0))), rfl, bel.frame _, fun h => by cases h⟩

theorem over : Rows.playTimesRow.holds Try.pinned (OpenSpec.ofChange Rows.playTimesSpec) :=
  OpenClaim.holds_of_wide 4 Try.f4 rfl rfl rfl rfl rfl rfl rfl ⟨rfl, rfl, rfl, rfl, rfl⟩ rfl rfl rfl rfl rfl (by kernel_rfl) Try.func4 (by kernel_rfl)
    (of_decide_eq_true (by kernel_rfl)) (by unfold Func.isWrapper; first | (rw [if_pos (by decide +kernel)]; kernel_rfl) | (rw [if_neg (by decide +kernel)]; exact ⟨rfl, rfl⟩))
    (fun os started H enc _ => lifted os started H enc)

end Go.Proofs.Ytdbnpdbnjipjiaa.playTimes
namespace Go.Proofs.Ytdbnpdbnjipjiaa
theorem playTimes_holds : Rows.PlayTimesSaid := playTimes.over
end Go.Proofs.Ytdbnpdbnjipjiaa
