/-
  PlayRuns: whatever is done with a player, it tells the events, and has the time, that the document says. For every slice of events, every three numbers and every slice of deeds. No condition.
-/
import Derived.Test.YtdbnpdbnjipjiaaYFit
import Derived.Test.YtdbnpdbnjipjiaaYTimes
import Derived.Test.YtdbnpdbnjipjiaaYOnceM
import Derived.Test.YtdbnpdbnjipjiaaYModD
import Derived.Test.YtdbnpdbnjipjiaaYSame
import Derived.Test.YtdbnpdbnjipjiaaYOpen
import Derived.Test.YtdbnpdbnjipjiaaETame
import Derived.Test.YtdbnpdbnjipjiaaESame
import Derived.ProofKit
import Derived.OpenShut
namespace Go.Proofs.Ytdbnpdbnjipjiaa.playRuns
open Go.ChangeShapes Go.WideShapes Go.ChangeAt Go.RowKit Go.Lib EM PM
set_option maxRecDepth 100000

theorem build_mo (w : World) (A : Option Addr) (n c : Nat) (s p q : Int) : (Instr.build 34 #[(0, .slice A n c), (1, .int .i64 s), (2, .int .i64 p), (3, .int .i64 q)]).run Try.prog w =
    .ok (.agg #[.slice A n c, .int .i64 s, .int .i64 p, .int .i64 q, .int .i64 0, .int .i64 0, .bool false]) w := by kernel_rfl

theorem big (A At : Option Addr) (n c nt ct : Nat) (s p q : Int) (w : World) (h : 60 < n ∨ 60 < nt) :
    Calls Try.prog 3 #[.slice A n c, .agg #[.int .i64 s, .int .i64 p, .int .i64 q], .slice At nt ct] w fun e w' => e = .returned (.bool true) ∧ Below w.heap.size w w' := by
  obtain ⟨w1, hw1⟩ : ∃ w1, w1 = w.alloc (.cells #[.int .i64 s, .int .i64 p, .int .i64 q] 23) := ⟨_, rfl⟩
  have hb1 : Below w.heap.size w w1 := by rw [hw1]; exact (Below.refl _ _).alloc (Nat.le_refl _) _
  have W1 := Lib.hid hw1
  have HB1 := Lib.hid hb1
  have HF := Lib.hid (pfit_ok w1)
  clear hw1 hb1
  by_cases h1 : 60 < n
  · have g : decide ((60 : Int) < (n : Int)) = true := by simp; omega
    clear h
    go_enter Try.func3, Try.ntmps3
    go_wp2_with fail
    rw [← W1.out]
    refine HF.out.mono ?_
    rintro e w2 ⟨rfl, b2⟩
    have HB2 := Lib.hid (below_next HB1.out b2)
    clear b2
    go_wp2_with fail
    go_ret
    exact ⟨rfl, HB2.out⟩
  · have g : decide ((60 : Int) < (n : Int)) = false := by simp; omega
    have g' : decide ((60 : Int) < (nt : Int)) = true := by simp; omega
    clear h
    go_enter Try.func3, Try.ntmps3
    go_wp2_with fail
    rw [← W1.out]
    refine HF.out.mono ?_
    rintro e w2 ⟨rfl, b2⟩
    have HB2 := Lib.hid (below_next HB1.out b2)
    clear b2
    go_wp2_with fail
    go_ret
    exact ⟨rfl, HB2.out⟩

set_option maxHeartbeats 4000000 in
theorem core (A At : Option Addr) (c ct : Nat) (l : List Ev) (T : List Dp) (s p q : Int) (w : World) (hl : l.length ≤ 60) (hT : T.length ≤ 60) (hr : evE.Row w w.heap.size A l) (ht : dpE.Row w w.heap.size At T) :
    Calls Try.prog 3 #[.slice A l.length c, .agg #[.int .i64 s, .int .i64 p, .int .i64 q], .slice At T.length ct] w fun e w' => e = .returned (.bool true) ∧ Below w.heap.size w w' := by
  have g : decide ((60 : Int) < (l.length : Int)) = false := by simp; omega
  have g' : decide ((60 : Int) < (T.length : Int)) = false := by simp; omega
  obtain ⟨w1, hw1⟩ : ∃ w1, w1 = w.alloc (.cells #[.int .i64 s, .int .i64 p, .int .i64 q] 23) := ⟨_, rfl⟩
  have hb1 : Below w.heap.size w w1 := by rw [hw1]; exact (Below.refl _ _).alloc (Nat.le_refl _) _
  have hz1 : w1.heap.size = w.heap.size + 1 := by rw [hw1]; simp
  have ht1 : ThreeIn w1 w.heap.size s p q := by rw [hw1]; exact ThreeIn.fresh w s p q
  have W1 := Lib.hid hw1
  have HB1 := Lib.hid hb1
  have HF := Lib.hid (pfit_ok w1)
  have HT1 := Lib.hid ht1
  have HR := Lib.hid hr
  have HTR := Lib.hid ht
  clear hw1 hb1 hr ht1 ht
  go_enter Try.func3, Try.ntmps3
  go_wp2_with fail
  rw [← W1.out]
  refine HF.out.mono ?_
  rintro e w2 ⟨rfl, b2⟩
  have HB2 := Lib.hid (below_next HB1.out b2)
  have HT2 := Lib.hid (HT1.out.below b2)
  have hz2 := b2.size
  clear b2 HF
  have HTA := Lib.hid (tame_ok w2 l A c w.heap.size (HR.out.below HB2.out) HB2.out.size (by omega))
  go_wp2_with fail
  refine HTA.out.mono ?_
  rintro e w3 ⟨v, rfl, ho, b3⟩
  obtain ⟨AL, cL, hv, hlc, -, hAL, hrL⟩ := ho.row
  subst hv
  have HALT := Lib.hid (show ∀ a, AL = some a → a.block < w3.heap.size from fun a ha => (ho.lt a.block (by rw [ha]; rfl)).2)
  have HB3 := Lib.hid (below_next HB2.out b3)
  have HT3 := Lib.hid (HT2.out.below b3)
  have hz3 := b3.size
  have HLB := Lib.hid (tameL_list l 0 (Int.le_refl _) (by omega))
  have hlen := tameL_len 0 l
  have HRL := Lib.hid hrL
  have HAL := Lib.hid hAL
  generalize tameL 0 l = L at *
  obtain ⟨c0, c1, c2⟩ := HT3.out.cells
  have hLl : L.length ≤ 60 := by omega
  clear ho b3 HTA hrL hAL g hlen
  have HRS := Lib.hid (fun v => rrightS_ok v p q)
  rcases hm : mayP L s p q with _ | _
  · have HN := Lib.hid (new_bad w3 L AL cL w3.heap.size s p q HRL.out (Nat.le_refl _) (by omega) hm)
    by_cases h0 : 0 ≤ s
    · have g0 : decide (s < 0) = false := decide_eq_false (by omega)
      by_cases h1 : s < 4611686018427387904
      · have g1 : decide (4611686018427387904 ≤ s) = false := decide_eq_false (by omega)
        have hrs : rightS p q = false := by
          rcases h2 : rightS p q with _ | _
          · rfl
          · rw [mayP_iff.2 ⟨h0, h1, h2, HLB.out⟩] at hm; cases hm
        rw [hrs] at HRS
        clear hm hrs
        go_wp2_with fail
        refine HN.out.mono ?_
        rintro e w4 ⟨rfl, b4⟩
        have HB4 := Lib.hid (below_next HB3.out b4)
        obtain ⟨c0, c1, c2⟩ := (HT3.out.below b4).cells
        clear b4
        go_wp2_with fail
        refine (HRS.out w4).mono ?_
        rintro e w5 ⟨rfl, hw⟩
        rw [hw]
        clear hw w5
        go_wp2_with fail
        go_ret
        exact ⟨rfl, HB4.out⟩
      · have g1 : decide (4611686018427387904 ≤ s) = true := decide_eq_true (by omega)
        clear hm
        go_wp2_with fail
        refine HN.out.mono ?_
        rintro e w4 ⟨rfl, b4⟩
        have HB4 := Lib.hid (below_next HB3.out b4)
        obtain ⟨c0, c1, c2⟩ := (HT3.out.below b4).cells
        clear b4
        go_wp2_with fail
        go_ret
        exact ⟨rfl, HB4.out⟩
    · have g0 : decide (s < 0) = true := decide_eq_true (by omega)
      clear hm
      go_wp2_with fail
      refine HN.out.mono ?_
      rintro e w4 ⟨rfl, b4⟩
      have HB4 := Lib.hid (below_next HB3.out b4)
      obtain ⟨c0, c1, c2⟩ := (HT3.out.below b4).cells
      clear b4
      go_wp2_with fail
      go_ret
      exact ⟨rfl, HB4.out⟩
  · have ok := mayP_ok (by omega) hm
    obtain ⟨h0, h1, hrs, -⟩ := mayP_iff.1 hm
    have g0 : decide (s < 0) = false := decide_eq_false (by omega)
    have g1 : decide (4611686018427387904 ≤ s) = false := decide_eq_false (by omega)
    have HN := Lib.hid (new_good w3 L AL cL w3.heap.size s p q HRL.out HAL.out (Nat.le_refl _) (by omega) hm)
    rw [hrs] at HRS
    have hfull := new_full L s p q h1
    have hok0 : ({ new L s p q with told := 0 } : Pl).Ok := ⟨ok.s0, ok.s1, ok.w0, ok.w1, ok.p0, ok.p1, ok.q0, ok.q1, ok.len, ok.rise, ok.times⟩
    have hdue0 : ({ new L s p q with told := 0 } : Pl).due = new L s p q := by
      have hn := new_now L s p q h1
      show ({ new L s p q with told := upTo L (new L s p q).now } : Pl) = _
      rw [hn]; rfl
    have HDUE := Lib.hid (fun v g (hv : MoAt v g AL cL { new L s p q with told := 0 }) => mdue_ok v g cL AL { new L s p q with told := 0 } hv hok0 (Nat.zero_le _))
    rw [hdue0] at HDUE
    have HOKN := Lib.hid ok
    have HFN := Lib.hid hfull
    have HNL := Lib.hid (show (new L s p q).l = L from rfl)
    have hbm := fun w A n c => build_mo w A n c s p q
    have hB0 := HB1.out.size
    have hB3 := HB3.out.size
    clear hm hrs ok hfull hok0 hdue0 h0
    go_wp2_with fail
    refine HN.out.mono ?_
    rintro e w4 ⟨g1, A1, d1, rfl, hg1, hp1', b4, -⟩
    have HB4 := Lib.hid (below_next HB3.out b4)
    have HP4 := Lib.hid hp1'
    have HX4 := Lib.hid b4
    have hz4 := b4.size
    have hl4 := hp1'.lt
    obtain ⟨c0, c1, c2⟩ := (HT3.out.low b4 (by omega)).cells
    clear b4 hp1' HN
    go_wp2_with fail
    refine (HRS.out w4).mono ?_
    rintro e w5 ⟨rfl, hw⟩
    rw [hw]
    clear hw w5
    obtain ⟨w5, hw5⟩ : ∃ w5, w5 = w4.alloc (.cells #[.slice AL L.length cL, .int .i64 s, .int .i64 p, .int .i64 q, .int .i64 0, .int .i64 0, .bool false] 34) := ⟨_, rfl⟩
    have b5 : Below w4.heap.size w4 w5 := by rw [hw5]; exact (Below.refl _ _).alloc (Nat.le_refl _) _
    have hz5 : w4.heap.size + 1 ≤ w5.heap.size := by rw [hw5]; simp
    have HB5 := Lib.hid (below_next HB4.out b5)
    have HX5 := Lib.hid (below_next HX4.out b5)
    have HP5 := Lib.hid (HP4.out.next b5)
    have HM5 := Lib.hid (show MoAt w5 w4.heap.size AL cL { new L s p q with told := 0 } from ⟨by rw [hw5]; exact heap_alloc_new w4 _, (HRL.out.below HX5.out).mono hz4⟩)
    have W5 := Lib.hid hw5
    clear b5 hw5
    generalize new L s p q = P0 at *
    obtain ⟨g2, hg2⟩ : ∃ g2, w4.heap.size = g2 := ⟨_, rfl⟩
    have HNA := Lib.hid (show ∀ a, AL = some a → ¬ a.block = g1 from fun a ha e => by have := HALT.out a ha; omega)
    go_upto_region 12 with fail
    rw [← W5.out]
    try rw [hg2]
    rw [hg2] at HM5 hz5
    have HDU := Lib.hid (HDUE.out w5 g2 HM5.out)
    have hg12 : g1 < g2 := by omega
    clear c0 c1 c2 hbm HP4 HX4
    go_wp2_with fail
    refine HDU.out.mono ?_
    rintro e w6 ⟨v6, rfl, -, hm6, hf6⟩
    have HB6 := Lib.hid (HB5.out.trans (hf6.below HB5.out.size (fun k hk => by omega)))
    have HP6 := Lib.hid (HP5.out.fr hf6 (fun k hk => by omega))
    have HM6 := Lib.hid hm6
    have hl6 := hm6.lt
    clear hm6 hf6 HDU
    go_wp2_with fail
    go_loopw [79] (fun i wr => ∃ (k : Nat) (P : Pl), k ≤ T.length ∧ i = .int .i64 (k : Int) ∧ P.Ok ∧ P.Full ∧ P.l = L ∧ Below w.heap.size w wr ∧ PlAt wr g1 A1 d1 P ∧ MoAt wr g2 AL cL P) (fun i _ => T.length - (RowKit.intOf i).toNat)
    case atStart => exact ⟨0, P0, Nat.zero_le _, rfl, HOKN.out, HFN.out, HNL.out, HB6.out, HP6.out, HM6.out⟩
    case round =>
      obtain ⟨k, P, hk, rfl, hok, hfu, hpl, hb, hpa, hmo⟩ := hrel
      have HOK := Lib.hid hok
      have HFU := Lib.hid hfu
      have HPL := Lib.hid hpl
      have HB := Lib.hid hb
      have HP := Lib.hid hpa
      have HM := Lib.hid hmo
      have hzr := hb.size
      have hl2 := hmo.lt
      have htl : P.told ≤ L.length := by rw [← hpl]; exact Pl.told_le hfu
      clear hb hpa hmo hok hfu hpl
      by_cases hlt : k < T.length
      · have g1' : decide ((k : Int) < (T.length : Int)) = true := by simp; omega
        have gn : decide (k < T.length) = true := by simp; omega
        obtain ⟨b0, off, rfl, hbl, t0, t1, t2⟩ := dp_at (HTR.out.below HB.out) hlt
        generalize T[k] = d at *
        obtain ⟨dk, dn, dm⟩ := d
        simp only at t0 t1 t2
        have a3 := i64_and3 dk
        have an1 := i64_and1 dn
        generalize hdk4 : dk % 4 = kk at *
        have bkk : kk = 0 ∨ kk = 1 ∨ kk = 2 ∨ kk = 3 := by omega
        clear hdk4
        obtain ⟨gd, hgd⟩ : ∃ gd, wr.heap.size = gd := ⟨_, rfl⟩
        obtain ⟨w8, hw8⟩ : ∃ w8, w8 = wr.alloc (.cells #[.int .i64 dk, .int .i64 dn, .int .i64 dm] 37) := ⟨_, rfl⟩
        have hb8 : Below wr.heap.size wr w8 := by rw [hw8]; exact (Below.refl _ _).alloc (Nat.le_refl _) _
        have hz8 : wr.heap.size + 1 ≤ w8.heap.size := by rw [hw8]; simp
        have HD8 := Lib.hid (show DpAt w8 gd ⟨dk, dn, dm⟩ by rw [hw8, ← hgd]; exact DpAt.new wr ⟨dk, dn, dm⟩)
        have HB8 := Lib.hid (below_next HB.out hb8)
        have HP8 := Lib.hid (HP.out.next hb8)
        have HM8 := Lib.hid (HM.out.next hb8)
        have W8 := Lib.hid hw8
        have hgd1 : g1 < gd ∧ g2 < gd := by omega
        have HGD := Lib.hid hgd
        clear hw8 hb8 HP HM
        go_upto_region 16 with fail
        rw [← W8.out]
        try rw [HGD.out]
        obtain ⟨x0, x1, x2⟩ := HD8.out.cells
        simp only at x0 x1 x2
        clear t0 t1 t2
        rcases bkk with rfl | rfl | rfl | rfl
        · have s0 : ((0 : Int) == 0) = true := rfl
          have OKA := Lib.hid (show (P.tick dn).Ok from HOK.out.tick dn)
          have FUA := Lib.hid (show (P.tick dn).Full from Pl.tick_full P dn)
          have PLA := Lib.hid (show (P.tick dn).l = L from HPL.out)
          have HCP := Lib.hid (tick_ok w8.drew g1 d1 A1 P HP8.out HOK.out HFU.out dn)
          have HCM := Lib.hid (fun v (hv : MoAt v g2 AL cL P) => mtick_ok v g2 cL AL P hv HOK.out HFU.out dn)
          rw [HPL.out] at HCP HCM
          have HML := Lib.hid (show (seg L P.told (P.tick dn).told).length ≤ 1000 by unfold seg; rw [List.length_take, List.length_drop]; omega)
          generalize seg L P.told (P.tick dn).told = M at *
          generalize P.tick dn = Q' at *
          go_wp2_with fail
          refine wp_region_noPanic ?_
          refine wp_region_held_drew (S := fun v => DpAt v gd ⟨dk, dn, dm⟩) (by kernel_rfl) HD8.out (fun hHeld => ?_)
          have HSd := Lib.hid hHeld
          clear x0 x1 x2
          refine wpAnyH_take (i := 0) (v := ?va00) rfl (by kernel_rfl) (by kernel_rfl) (by kernel_rfl) (fun _ _ _ h => h) (Or.inl ⟨by rfl, ?ha00⟩) (by assumption) ?_
          case ha00 => intro w hSw; (try dsimp only at hSw); obtain ⟨x0, x1, x2⟩ := hSw.cells; simp only at x0 x1 x2; go_simp; try with_reducible rfl
          simp only [List.getElem_toArray, List.getElem_cons_zero, Act.put, List.setIfInBounds_toArray, List.set_cons_zero, List.set_cons_succ]
          refine wpAnyH_take (i := 1) (v := ?va01) rfl (by kernel_rfl) (by kernel_rfl) (by kernel_rfl) (fun _ _ _ h => h) (Or.inl ⟨by rfl, ?ha01⟩) (by assumption) ?_
          case ha01 => intro w hSw; (try dsimp only at hSw); obtain ⟨x0, x1, x2⟩ := hSw.cells; simp only at x0 x1 x2; go_simp; try with_reducible rfl
          simp only [List.getElem_toArray, List.getElem_cons_succ, List.getElem_cons_zero, Act.put, List.setIfInBounds_toArray, List.set_cons_zero, List.set_cons_succ]
          refine wpAnyH_take (i := 2) (v := ?va02) rfl (by kernel_rfl) (by kernel_rfl) (by kernel_rfl) (fun _ _ _ h => h) (Or.inl ⟨by rfl, ?ha02⟩) (by assumption) ?_
          case ha02 => intro w hSw; (try dsimp only at hSw); obtain ⟨x0, x1, x2⟩ := hSw.cells; simp only at x0 x1 x2; go_simp; try with_reducible rfl
          simp only [List.getElem_toArray, List.getElem_cons_succ, List.getElem_cons_zero, Act.put, List.setIfInBounds_toArray, List.set_cons_zero, List.set_cons_succ]
          refine wpAnyH_take (i := 4) (v := ?va04) rfl (by kernel_rfl) (by kernel_rfl) (by kernel_rfl) (fun _ _ _ h => h) (Or.inl ⟨by rfl, ?ha04⟩) (by assumption) ?_
          case ha04 => intro w hSw; (try dsimp only at hSw); obtain ⟨x0, x1, x2⟩ := hSw.cells; simp only at x0 x1 x2; go_simp; try with_reducible rfl
          simp only [List.getElem_toArray, List.getElem_cons_succ, List.getElem_cons_zero, Act.put, List.setIfInBounds_toArray, List.set_cons_zero, List.set_cons_succ]
          refine wpAnyH_take (i := 5) (v := ?va05) rfl (by kernel_rfl) (by kernel_rfl) (by kernel_rfl) (fun _ _ _ h => h) (Or.inl ⟨by rfl, ?ha05⟩) (by assumption) ?_
          case ha05 => intro w hSw; (try dsimp only at hSw); obtain ⟨x0, x1, x2⟩ := hSw.cells; simp only at x0 x1 x2; go_simp; try with_reducible rfl
          simp only [List.getElem_toArray, List.getElem_cons_succ, List.getElem_cons_zero, Act.put, List.setIfInBounds_toArray, List.set_cons_zero, List.set_cons_succ]
          refine wpAnyH_take (i := 6) (v := ?va06) rfl (by kernel_rfl) (by kernel_rfl) (by kernel_rfl) (fun _ _ _ h => h) (Or.inl ⟨by rfl, ?ha06⟩) (by assumption) ?_
          case ha06 => intro w hSw; (try dsimp only at hSw); obtain ⟨x0, x1, x2⟩ := hSw.cells; simp only at x0 x1 x2; go_simp; try with_reducible rfl
          simp only [List.getElem_toArray, List.getElem_cons_succ, List.getElem_cons_zero, Act.put, List.setIfInBounds_toArray, List.set_cons_zero, List.set_cons_succ]
          refine wpAnyH_ready (rs := [3]) (by kernel_rfl) (by simp) ?_
          refine AllReadyH.cons rfl (fun K hK => ?_) AllReadyH.nil
          rw [if_pos (by kernel_rfl)]
          go_simp
          refine (HCP.out : Calls Try.prog 13 #[.pointer (some ⟨g1, 0, none⟩), .int .i64 dn] w8.drew _).mono ?_
          rintro e w9 hpost
          obtain ⟨v2, rfl, ho2, hp9, hf9⟩ := hpost
          replace hf9 : Fr (· = g1) w8 w9 := (Fr.drew (· = g1) w8).trans' hf9
          replace ho2 : evE.Own w9 w8.heap.size v2 M := ho2
          obtain ⟨Aa, ca, hva, -, -, -, hra⟩ := ho2.row
          subst hva
          have HP9 := Lib.hid hp9
          have HB9 := Lib.hid (HB8.out.trans (hf9.below (by omega) (fun k hk => by omega)))
          have HM9 := Lib.hid (HM8.out.keep hf9 (by omega) HNA.out)
          have HD9 := Lib.hid (HD8.out.keep (hf9.block gd HD8.out.lt (by omega)))
          have HO9 := Lib.hid ho2
          have hz9 : w8.heap.size ≤ w9.heap.size := hf9.size
          clear hp9 hf9 hra ho2
          dsimp only
          refine hK.out _ _ ?_ (fun hHeld => ?_)
          · exact HD9.out
          clear hK K
          refine wpAnyH_ready (rs := [7]) (by kernel_rfl) (by simp) ?_
          refine AllReadyH.cons rfl (fun K hK => ?_) AllReadyH.nil
          rw [if_pos (by kernel_rfl)]
          go_simp
          refine (HCM.out w9 HM9.out).mono ?_
          rintro e wA ⟨v3, rfl, ho3, hmA, hfA⟩
          obtain ⟨Ab, cb, hvb, -, -, -, hrb⟩ := ho3.row
          subst hvb
          have HPA := Lib.hid (HP9.out.fr hfA (fun k hk => by omega))
          have HBA := Lib.hid (HB9.out.trans (hfA.below (by omega) (fun k hk => by omega)))
          have HMA := Lib.hid hmA
          have HDA := Lib.hid (HD9.out.keep (hfA.block gd HD9.out.lt (by omega)))
          have hOA := HO9.out.fr hfA (fun k hk e => by
            have h3 : w8.heap.size ≤ k := (HO9.out.lt k e).1
            have h4 : k = g2 := hk
            omega)
          obtain ⟨Aq, cq, hvq, -, -, -, hrq⟩ := hOA.row
          obtain ⟨rfl, rfl⟩ : Aa = Aq ∧ ca = cq := by injection hvq with h1 _ h3; exact ⟨h1, h3⟩
          obtain ⟨BA, hBA⟩ : ∃ BA, BA = wA.heap.size := ⟨_, rfl⟩
          have HRA := Lib.hid (show evE.Row wA BA Aa M by rw [hBA]; exact hrq)
          have HRB := Lib.hid (show evE.Row wA BA Ab M by rw [hBA]; exact hrb)
          clear hBA hrq hrb hvq hOA hmA hfA ho3
          dsimp only
          refine hK.out _ _ ?_ (fun hHeld => ?_)
          · exact HDA.out
          clear hK K
          refine wpAnyH_take (i := 8) (v := ?vb08) rfl (by kernel_rfl) (by kernel_rfl) (by kernel_rfl) (fun _ _ _ h => h) (Or.inl ⟨by rfl, ?hb08⟩) (by assumption) ?_
          case hb08 => intro w hSw; (try dsimp only at hSw); go_simp; try with_reducible rfl
          simp only [List.getElem_toArray, List.getElem_cons_succ, List.getElem_cons_zero, Act.put, List.setIfInBounds_toArray, List.set_cons_zero, List.set_cons_succ]
          refine wpAnyH_take (i := 9) (v := ?vb09) rfl (by kernel_rfl) (by kernel_rfl) (by kernel_rfl) (fun _ _ _ h => h) (Or.inl ⟨by rfl, ?hb09⟩) (by assumption) ?_
          case hb09 => intro w hSw; (try dsimp only at hSw); go_simp; try with_reducible rfl
          simp only [List.getElem_toArray, List.getElem_cons_succ, List.getElem_cons_zero, Act.put, List.setIfInBounds_toArray, List.set_cons_zero, List.set_cons_succ]
          refine wpAnyH_done (by kernel_rfl) ?_ _
          refine NoPanic.normal ?_
          have HSM := Lib.hid (fun v (hra : evE.Row v BA Aa M) (hrb : evE.Row v BA Ab M) => esame_quiet v M M Aa Ab ca cb BA hra hrb HML.out HML.out)
          rw [decide_eq_true rfl] at HSM
          have HNW := Lib.hid (fun v (hv : PlAt v g1 A1 d1 Q') => now_ok v g1 d1 A1 Q' hv OKA.out)
          have HMN := Lib.hid (fun v (hv : MoAt v g2 AL cL Q') => mnow_ok v g2 Q'.l.length cL Q'.told AL Q'.start Q'.wall Q'.p Q'.q Q'.paused hv.1 OKA.out.s0 OKA.out.s1 OKA.out.w0 OKA.out.w1 OKA.out.p0 OKA.out.p1 OKA.out.q0 OKA.out.q1)
          rw [show min (Q'.start + Q'.wall * Q'.p / Q'.q) 4611686018427387904 = Q'.now from rfl] at HMN
          have htl' : Q'.told ≤ L.length := by rw [← PLA.out]; exact Pl.told_le FUA.out
          have HLF := Lib.hid (fun v (hv : PlAt v g1 A1 d1 Q') => left_ok v g1 d1 A1 Q' hv (by rw [PLA.out]; omega) (by rw [PLA.out]; exact htl'))
          rw [PLA.out] at HLF
          have HPU := Lib.hid (fun v (hv : PlAt v g1 A1 d1 Q') => paused_ok v g1 d1 A1 Q' hv)
          obtain ⟨e0, e1, e2, e3, e4, e5, e6⟩ := HMA.out.1.cells
          clear e0 e1 e2 e3 e4
          generalize Q'.now = qn at *
          generalize hqt : Q'.told = qt at *
          generalize hqp : Q'.paused = qb at *
          have hbb : (qb != qb) = false := by cases qb <;> rfl
          have hlb : 0 ≤ (L.length : Int) - (qt : Int) ∧ (L.length : Int) - (qt : Int) ≤ 60 := by omega
          clear hqt hqp
          go_wp2_with fail
          go_quiet (first | (go_at_call 20; exact Calls.quiet_of (HSM.out _ HRA.out HRB.out)) | (go_at_call 21; exact Calls.quiet_of (HNW.out _ HPA.out)) | (go_at_call 22; exact Calls.quiet_of (HMN.out _ HMA.out)) | (go_at_call 23; exact Calls.quiet_of (HLF.out _ HPA.out)) | (go_at_call 24; exact Calls.quiet_of_same (HPU.out _ HPA.out)))
          have HBZ := Lib.hid (below_drewN HBA.out nq)
          have HPZ := Lib.hid (show PlAt (wA.drewN nq) g1 A1 d1 Q' from HPA.out)
          have HMZ := Lib.hid (show MoAt (wA.drewN nq) g2 AL cL Q' from HMA.out)
          clear e5 e6
          generalize wA.drewN nq = wZ at *
          go_wp2_with fail
          go_roundw
          case rel => exact ⟨k + 1, Q', by omega, by simp, OKA.out, FUA.out, PLA.out, HBZ.out, HPZ.out, HMZ.out⟩
          case measure => simp [RowKit.intOf]; omega
        · have s0 : ((1 : Int) == 0) = false := rfl
          have s1 : ((1 : Int) == 1) = true := rfl
          have OKA := Lib.hid (show (P.step).Ok from HOK.out.step HFU.out)
          have FUA := Lib.hid (show (P.step).Full from Pl.step_full HFU.out)
          have PLA := Lib.hid (show (P.step).l = L from (step_l P).trans HPL.out)
          have HCP := Lib.hid (step_ok w8 g1 d1 A1 P HP8.out HOK.out HFU.out)
          have HCM := Lib.hid (fun v (hv : MoAt v g2 AL cL P) => mstep_ok v g2 cL AL P hv HOK.out HFU.out)
          rw [HPL.out] at HCP HCM
          have HML := Lib.hid (show (seg L P.told (P.step).told).length ≤ 1000 by unfold seg; rw [List.length_take, List.length_drop]; omega)
          generalize seg L P.told (P.step).told = M at *
          generalize P.step = Q' at *
          go_wp2_with fail
          refine HCP.out.mono ?_
          rintro e w9 ⟨v2, rfl, ho2, hp9, hf9⟩
          obtain ⟨Aa, ca, hva, -, -, -, hra⟩ := ho2.row
          subst hva
          have HP9 := Lib.hid hp9
          have HB9 := Lib.hid (HB8.out.trans (hf9.below (by omega) (fun k hk => by omega)))
          have HM9 := Lib.hid (HM8.out.keep hf9 (by omega) HNA.out)
          have HD9 := Lib.hid (HD8.out.keep (hf9.block gd HD8.out.lt (by omega)))
          have HO9 := Lib.hid ho2
          have hz9 : w8.heap.size ≤ w9.heap.size := hf9.size
          clear hp9 hf9 hra ho2
          go_wp2_with fail
          refine (HCM.out w9 HM9.out).mono ?_
          rintro e wA ⟨v3, rfl, ho3, hmA, hfA⟩
          obtain ⟨Ab, cb, hvb, -, -, -, hrb⟩ := ho3.row
          subst hvb
          have HPA := Lib.hid (HP9.out.fr hfA (fun k hk => by omega))
          have HBA := Lib.hid (HB9.out.trans (hfA.below (by omega) (fun k hk => by omega)))
          have HMA := Lib.hid hmA
          have HDA := Lib.hid (HD9.out.keep (hfA.block gd HD9.out.lt (by omega)))
          have hOA := HO9.out.fr hfA (fun k hk e => by
            have h3 : w8.heap.size ≤ k := (HO9.out.lt k e).1
            have h4 : k = g2 := hk
            omega)
          obtain ⟨Aq, cq, hvq, -, -, -, hrq⟩ := hOA.row
          obtain ⟨rfl, rfl⟩ : Aa = Aq ∧ ca = cq := by injection hvq with h1 _ h3; exact ⟨h1, h3⟩
          obtain ⟨BA, hBA⟩ : ∃ BA, BA = wA.heap.size := ⟨_, rfl⟩
          have HRA := Lib.hid (show evE.Row wA BA Aa M by rw [hBA]; exact hrq)
          have HRB := Lib.hid (show evE.Row wA BA Ab M by rw [hBA]; exact hrb)
          clear hBA hrq hrb hvq hOA hmA hfA ho3
          have HSM := Lib.hid (fun v (hra : evE.Row v BA Aa M) (hrb : evE.Row v BA Ab M) => esame_quiet v M M Aa Ab ca cb BA hra hrb HML.out HML.out)
          rw [decide_eq_true rfl] at HSM
          have HNW := Lib.hid (fun v (hv : PlAt v g1 A1 d1 Q') => now_ok v g1 d1 A1 Q' hv OKA.out)
          have HMN := Lib.hid (fun v (hv : MoAt v g2 AL cL Q') => mnow_ok v g2 Q'.l.length cL Q'.told AL Q'.start Q'.wall Q'.p Q'.q Q'.paused hv.1 OKA.out.s0 OKA.out.s1 OKA.out.w0 OKA.out.w1 OKA.out.p0 OKA.out.p1 OKA.out.q0 OKA.out.q1)
          rw [show min (Q'.start + Q'.wall * Q'.p / Q'.q) 4611686018427387904 = Q'.now from rfl] at HMN
          have htl' : Q'.told ≤ L.length := by rw [← PLA.out]; exact Pl.told_le FUA.out
          have HLF := Lib.hid (fun v (hv : PlAt v g1 A1 d1 Q') => left_ok v g1 d1 A1 Q' hv (by rw [PLA.out]; omega) (by rw [PLA.out]; exact htl'))
          rw [PLA.out] at HLF
          have HPU := Lib.hid (fun v (hv : PlAt v g1 A1 d1 Q') => paused_ok v g1 d1 A1 Q' hv)
          obtain ⟨e0, e1, e2, e3, e4, e5, e6⟩ := HMA.out.1.cells
          clear e0 e1 e2 e3 e4
          generalize Q'.now = qn at *
          generalize hqt : Q'.told = qt at *
          generalize hqp : Q'.paused = qb at *
          have hbb : (qb != qb) = false := by cases qb <;> rfl
          have hlb : 0 ≤ (L.length : Int) - (qt : Int) ∧ (L.length : Int) - (qt : Int) ≤ 60 := by omega
          clear hqt hqp
          go_wp2_with fail
          go_quiet (first | (go_at_call 20; exact Calls.quiet_of (HSM.out _ HRA.out HRB.out)) | (go_at_call 21; exact Calls.quiet_of (HNW.out _ HPA.out)) | (go_at_call 22; exact Calls.quiet_of (HMN.out _ HMA.out)) | (go_at_call 23; exact Calls.quiet_of (HLF.out _ HPA.out)) | (go_at_call 24; exact Calls.quiet_of_same (HPU.out _ HPA.out)))
          have HBZ := Lib.hid (below_drewN HBA.out nq)
          have HPZ := Lib.hid (show PlAt (wA.drewN nq) g1 A1 d1 Q' from HPA.out)
          have HMZ := Lib.hid (show MoAt (wA.drewN nq) g2 AL cL Q' from HMA.out)
          clear e5 e6
          generalize wA.drewN nq = wZ at *
          go_wp2_with fail
          go_roundw
          case rel => exact ⟨k + 1, Q', by omega, by simp, OKA.out, FUA.out, PLA.out, HBZ.out, HPZ.out, HMZ.out⟩
          case measure => simp [RowKit.intOf]; omega
        · have s0 : ((2 : Int) == 0) = false := rfl
          have s1 : ((2 : Int) == 1) = false := rfl
          have s2 : ((2 : Int) == 2) = true := rfl
          obtain ⟨on, hon⟩ : ∃ on, (dn % 2 == 1) = on := ⟨_, rfl⟩
          generalize dn % 2 = d2 at *
          have OKA := Lib.hid (HOK.out.pause on)
          have FUA := Lib.hid (Pl.pause_full HFU.out on)
          have PLA := Lib.hid (show (P.pause on).l = L from HPL.out)
          have HCP := Lib.hid (pause_ok w8 g1 d1 A1 P HP8.out on)
          have HST := Lib.hid (show ∀ v, MoAt v g2 AL cL P → MoAt (v.setCell ⟨g2, 6, none⟩ (.bool on)) g2 AL cL (P.pause on) from fun v hv => ⟨hv.1.set6 on, hv.sized (Fr.setCell (S := (· = g2)) (a := ⟨g2, 6, none⟩) _ rfl)⟩)
          generalize P.pause on = Q' at *
          go_wp2_with fail
          refine HCP.out.mono ?_
          rintro e w9 ⟨rfl, hp9, hf9⟩
          have HP9 := Lib.hid hp9
          have HB9 := Lib.hid (HB8.out.trans (hf9.below (by omega) (fun k hk => by omega)))
          have HM9 := Lib.hid (HM8.out.keep hf9 (by omega) HNA.out)
          obtain ⟨x0, x1, x2⟩ := (HD8.out.keep (hf9.block gd HD8.out.lt (by omega))).cells
          simp only at x0 x1 x2
          obtain ⟨-, -, -, -, -, -, e6⟩ := HM9.out.1.cells
          have f6 := HM9.out.1.thaw 6
          have hfA : Fr (· = g2) w9 (w9.setCell ⟨g2, 6, none⟩ (.bool on)) := Fr.setCell (a := ⟨g2, 6, none⟩) _ rfl
          have HPA := Lib.hid (HP9.out.fr hfA (fun k hk => by omega))
          have HBA := Lib.hid (HB9.out.trans (hfA.below HB9.out.size (fun k hk => by omega)))
          have HMA := Lib.hid (HST.out w9 HM9.out)
          clear hp9 hf9 hfA
          go_upto_region 30 with fail
          clear e6 f6 x0 x1 x2
          generalize w9.setCell ⟨g2, 6, none⟩ (.bool on) = wA at *
          obtain ⟨M, hM⟩ : ∃ M : List Ev, M = [] := ⟨_, rfl⟩
          have hM0 : (0 : Nat) = M.length := by rw [hM]; rfl
          have HML := Lib.hid (show M.length ≤ 1000 by omega)
          obtain ⟨BA, hBA⟩ : ∃ BA, BA = wA.heap.size := ⟨_, rfl⟩
          have HRA := Lib.hid (show evE.Row wA BA none M by rw [hM]; exact El.Row.nil)
          have HRB := Lib.hid (show evE.Row wA BA none M by rw [hM]; exact El.Row.nil)
          clear hM hBA
          have HSM := Lib.hid (fun v (hra : evE.Row v BA none M) (hrb : evE.Row v BA none M) => esame_quiet v M M none none 0 0 BA hra hrb HML.out HML.out)
          rw [← hM0] at HSM
          rw [decide_eq_true rfl] at HSM
          have HNW := Lib.hid (fun v (hv : PlAt v g1 A1 d1 Q') => now_ok v g1 d1 A1 Q' hv OKA.out)
          have HMN := Lib.hid (fun v (hv : MoAt v g2 AL cL Q') => mnow_ok v g2 Q'.l.length cL Q'.told AL Q'.start Q'.wall Q'.p Q'.q Q'.paused hv.1 OKA.out.s0 OKA.out.s1 OKA.out.w0 OKA.out.w1 OKA.out.p0 OKA.out.p1 OKA.out.q0 OKA.out.q1)
          rw [show min (Q'.start + Q'.wall * Q'.p / Q'.q) 4611686018427387904 = Q'.now from rfl] at HMN
          have htl' : Q'.told ≤ L.length := by rw [← PLA.out]; exact Pl.told_le FUA.out
          have HLF := Lib.hid (fun v (hv : PlAt v g1 A1 d1 Q') => left_ok v g1 d1 A1 Q' hv (by rw [PLA.out]; omega) (by rw [PLA.out]; exact htl'))
          rw [PLA.out] at HLF
          have HPU := Lib.hid (fun v (hv : PlAt v g1 A1 d1 Q') => paused_ok v g1 d1 A1 Q' hv)
          obtain ⟨e0, e1, e2, e3, e4, e5, e6⟩ := HMA.out.1.cells
          clear e0 e1 e2 e3 e4
          generalize Q'.now = qn at *
          generalize hqt : Q'.told = qt at *
          generalize hqp : Q'.paused = qb at *
          have hbb : (qb != qb) = false := by cases qb <;> rfl
          have hlb : 0 ≤ (L.length : Int) - (qt : Int) ∧ (L.length : Int) - (qt : Int) ≤ 60 := by omega
          clear hqt hqp hM0
          go_wp2_with fail
          go_quiet (first | (go_at_call 20; exact Calls.quiet_of (HSM.out _ HRA.out HRB.out)) | (go_at_call 21; exact Calls.quiet_of (HNW.out _ HPA.out)) | (go_at_call 22; exact Calls.quiet_of (HMN.out _ HMA.out)) | (go_at_call 23; exact Calls.quiet_of (HLF.out _ HPA.out)) | (go_at_call 24; exact Calls.quiet_of_same (HPU.out _ HPA.out)))
          have HBZ := Lib.hid (below_drewN HBA.out nq)
          have HPZ := Lib.hid (show PlAt (wA.drewN nq) g1 A1 d1 Q' from HPA.out)
          have HMZ := Lib.hid (show MoAt (wA.drewN nq) g2 AL cL Q' from HMA.out)
          clear e5 e6
          generalize wA.drewN nq = wZ at *
          go_wp2_with fail
          go_roundw
          case rel => exact ⟨k + 1, Q', by omega, by simp, OKA.out, FUA.out, PLA.out, HBZ.out, HPZ.out, HMZ.out⟩
          case measure => simp [RowKit.intOf]; omega
        · have s0 : ((3 : Int) == 0) = false := rfl
          have s1 : ((3 : Int) == 1) = false := rfl
          have s2 : ((3 : Int) == 2) = false := rfl
          have HCM := Lib.hid (mspeed_ok w8 g2 cL AL P HM8.out HOK.out dn dm)
          have HCP := Lib.hid (fun v (hv : PlAt v g1 A1 d1 P) => speed_ok v g1 d1 A1 P hv HOK.out dn dm)
          rcases hrs : rightS dn dm with _ | _
          · rw [hrs] at HCM HCP
            rw [if_neg (by decide)] at HCM
            rw [if_neg (by decide), if_neg (by decide)] at HCP
            have OKA := HOK
            have FUA := HFU
            have PLA := HPL
            obtain ⟨Q', hQ'⟩ : ∃ Q', Q' = P := ⟨_, rfl⟩
            clear hrs
            go_wp2_with fail
            refine HCM.out.mono ?_
            rintro e w9 ⟨rfl, hm9, hf9⟩
            have HB9 := Lib.hid (HB8.out.trans (hf9.below (by omega) (fun k hk => by omega)))
            have HP9 := Lib.hid (HP8.out.fr hf9 (fun k hk => by omega))
            have HM9 := Lib.hid hm9
            obtain ⟨x0, x1, x2⟩ := (HD8.out.keep (hf9.block gd HD8.out.lt (by omega))).cells
            simp only at x0 x1 x2
            clear hm9 hf9
            go_wp2_with fail
            refine (HCP.out w9 HP9.out).mono ?_
            rintro e wA ⟨rfl, hpA, hfA⟩
            have HPA := Lib.hid hpA
            have HBA := Lib.hid (HB9.out.trans (hfA.below HB9.out.size (fun k hk => by omega)))
            have HMA := Lib.hid (HM9.out.keep hfA (by omega) HNA.out)
            clear hpA hfA x0 x1 x2
            rw [← hQ'] at HPA HMA OKA FUA PLA
            clear hQ'
            obtain ⟨M, hM⟩ : ∃ M : List Ev, M = [] := ⟨_, rfl⟩
            have hM0 : (0 : Nat) = M.length := by rw [hM]; rfl
            have HML := Lib.hid (show M.length ≤ 1000 by omega)
            obtain ⟨BA, hBA⟩ : ∃ BA, BA = wA.heap.size := ⟨_, rfl⟩
            have HRA := Lib.hid (show evE.Row wA BA none M by rw [hM]; exact El.Row.nil)
            have HRB := Lib.hid (show evE.Row wA BA none M by rw [hM]; exact El.Row.nil)
            clear hM hBA
            have HSM := Lib.hid (fun v (hra : evE.Row v BA none M) (hrb : evE.Row v BA none M) => esame_quiet v M M none none 0 0 BA hra hrb HML.out HML.out)
            rw [← hM0] at HSM
            rw [decide_eq_true rfl] at HSM
            have HNW := Lib.hid (fun v (hv : PlAt v g1 A1 d1 Q') => now_ok v g1 d1 A1 Q' hv OKA.out)
            have HMN := Lib.hid (fun v (hv : MoAt v g2 AL cL Q') => mnow_ok v g2 Q'.l.length cL Q'.told AL Q'.start Q'.wall Q'.p Q'.q Q'.paused hv.1 OKA.out.s0 OKA.out.s1 OKA.out.w0 OKA.out.w1 OKA.out.p0 OKA.out.p1 OKA.out.q0 OKA.out.q1)
            rw [show min (Q'.start + Q'.wall * Q'.p / Q'.q) 4611686018427387904 = Q'.now from rfl] at HMN
            have htl' : Q'.told ≤ L.length := by rw [← PLA.out]; exact Pl.told_le FUA.out
            have HLF := Lib.hid (fun v (hv : PlAt v g1 A1 d1 Q') => left_ok v g1 d1 A1 Q' hv (by rw [PLA.out]; omega) (by rw [PLA.out]; exact htl'))
            rw [PLA.out] at HLF
            have HPU := Lib.hid (fun v (hv : PlAt v g1 A1 d1 Q') => paused_ok v g1 d1 A1 Q' hv)
            obtain ⟨e0, e1, e2, e3, e4, e5, e6⟩ := HMA.out.1.cells
            clear e0 e1 e2 e3 e4
            generalize Q'.now = qn at *
            generalize hqt : Q'.told = qt at *
            generalize hqp : Q'.paused = qb at *
            have hbb : (qb != qb) = false := by cases qb <;> rfl
            have hlb : 0 ≤ (L.length : Int) - (qt : Int) ∧ (L.length : Int) - (qt : Int) ≤ 60 := by omega
            clear hqt hqp hM0
            go_wp2_with fail
            go_quiet (first | (go_at_call 20; exact Calls.quiet_of (HSM.out _ HRA.out HRB.out)) | (go_at_call 21; exact Calls.quiet_of (HNW.out _ HPA.out)) | (go_at_call 22; exact Calls.quiet_of (HMN.out _ HMA.out)) | (go_at_call 23; exact Calls.quiet_of (HLF.out _ HPA.out)) | (go_at_call 24; exact Calls.quiet_of_same (HPU.out _ HPA.out)))
            have HBZ := Lib.hid (below_drewN HBA.out nq)
            have HPZ := Lib.hid (show PlAt (wA.drewN nq) g1 A1 d1 Q' from HPA.out)
            have HMZ := Lib.hid (show MoAt (wA.drewN nq) g2 AL cL Q' from HMA.out)
            clear e5 e6
            generalize wA.drewN nq = wZ at *
            go_wp2_with fail
            go_roundw
            case rel => exact ⟨k + 1, Q', by omega, by simp, OKA.out, FUA.out, PLA.out, HBZ.out, HPZ.out, HMZ.out⟩
            case measure => simp [RowKit.intOf]; omega
          · rw [hrs] at HCM HCP
            rw [if_pos rfl] at HCM
            rw [if_pos rfl, if_pos rfl] at HCP
            have OKA := Lib.hid (HOK.out.speed hrs)
            have FUA := Lib.hid (HOK.out.speed_full HFU.out dn dm)
            have PLA := Lib.hid (show (P.speed dn dm).l = L from HPL.out)
            clear hrs
            generalize P.speed dn dm = Q' at *
            go_wp2_with fail
            refine HCM.out.mono ?_
            rintro e w9 ⟨rfl, hm9, hf9⟩
            have HB9 := Lib.hid (HB8.out.trans (hf9.below (by omega) (fun k hk => by omega)))
            have HP9 := Lib.hid (HP8.out.fr hf9 (fun k hk => by omega))
            have HM9 := Lib.hid hm9
            obtain ⟨x0, x1, x2⟩ := (HD8.out.keep (hf9.block gd HD8.out.lt (by omega))).cells
            simp only at x0 x1 x2
            clear hm9 hf9
            go_wp2_with fail
            refine (HCP.out w9 HP9.out).mono ?_
            rintro e wA ⟨rfl, hpA, hfA⟩
            have HPA := Lib.hid hpA
            have HBA := Lib.hid (HB9.out.trans (hfA.below HB9.out.size (fun k hk => by omega)))
            have HMA := Lib.hid (HM9.out.keep hfA (by omega) HNA.out)
            clear hpA hfA x0 x1 x2
            obtain ⟨M, hM⟩ : ∃ M : List Ev, M = [] := ⟨_, rfl⟩
            have hM0 : (0 : Nat) = M.length := by rw [hM]; rfl
            have HML := Lib.hid (show M.length ≤ 1000 by omega)
            obtain ⟨BA, hBA⟩ : ∃ BA, BA = wA.heap.size := ⟨_, rfl⟩
            have HRA := Lib.hid (show evE.Row wA BA none M by rw [hM]; exact El.Row.nil)
            have HRB := Lib.hid (show evE.Row wA BA none M by rw [hM]; exact El.Row.nil)
            clear hM hBA
            have HSM := Lib.hid (fun v (hra : evE.Row v BA none M) (hrb : evE.Row v BA none M) => esame_quiet v M M none none 0 0 BA hra hrb HML.out HML.out)
            rw [← hM0] at HSM
            rw [decide_eq_true rfl] at HSM
            have HNW := Lib.hid (fun v (hv : PlAt v g1 A1 d1 Q') => now_ok v g1 d1 A1 Q' hv OKA.out)
            have HMN := Lib.hid (fun v (hv : MoAt v g2 AL cL Q') => mnow_ok v g2 Q'.l.length cL Q'.told AL Q'.start Q'.wall Q'.p Q'.q Q'.paused hv.1 OKA.out.s0 OKA.out.s1 OKA.out.w0 OKA.out.w1 OKA.out.p0 OKA.out.p1 OKA.out.q0 OKA.out.q1)
            rw [show min (Q'.start + Q'.wall * Q'.p / Q'.q) 4611686018427387904 = Q'.now from rfl] at HMN
            have htl' : Q'.told ≤ L.length := by rw [← PLA.out]; exact Pl.told_le FUA.out
            have HLF := Lib.hid (fun v (hv : PlAt v g1 A1 d1 Q') => left_ok v g1 d1 A1 Q' hv (by rw [PLA.out]; omega) (by rw [PLA.out]; exact htl'))
            rw [PLA.out] at HLF
            have HPU := Lib.hid (fun v (hv : PlAt v g1 A1 d1 Q') => paused_ok v g1 d1 A1 Q' hv)
            obtain ⟨e0, e1, e2, e3, e4, e5, e6⟩ := HMA.out.1.cells
            clear e0 e1 e2 e3 e4
            generalize Q'.now = qn at *
            generalize hqt : Q'.told = qt at *
            generalize hqp : Q'.paused = qb at *
            have hbb : (qb != qb) = false := by cases qb <;> rfl
            have hlb : 0 ≤ (L.length : Int) - (qt : Int) ∧ (L.length : Int) - (qt : Int) ≤ 60 := by omega
            clear hqt hqp hM0
            go_wp2_with fail
            go_quiet (first | (go_at_call 20; exact Calls.quiet_of (HSM.out _ HRA.out HRB.out)) | (go_at_call 21; exact Calls.quiet_of (HNW.out _ HPA.out)) | (go_at_call 22; exact Calls.quiet_of (HMN.out _ HMA.out)) | (go_at_call 23; exact Calls.quiet_of (HLF.out _ HPA.out)) | (go_at_call 24; exact Calls.quiet_of_same (HPU.out _ HPA.out)))
            have HBZ := Lib.hid (below_drewN HBA.out nq)
            have HPZ := Lib.hid (show PlAt (wA.drewN nq) g1 A1 d1 Q' from HPA.out)
            have HMZ := Lib.hid (show MoAt (wA.drewN nq) g2 AL cL Q' from HMA.out)
            clear e5 e6
            generalize wA.drewN nq = wZ at *
            go_wp2_with fail
            go_roundw
            case rel => exact ⟨k + 1, Q', by omega, by simp, OKA.out, FUA.out, PLA.out, HBZ.out, HPZ.out, HMZ.out⟩
            case measure => simp [RowKit.intOf]; omega
      · have g1' : decide ((k : Int) < (T.length : Int)) = false := by simp; omega
        have gn : decide (k < T.length) = false := by simp; omega
        go_wp2_with fail
        go_ret
        exact ⟨rfl, HB.out⟩

theorem walk (A : Option Addr) (len cap : Nat) (s p q : Int) (At : Option Addr) (lt ct : Nat) (w : World) (hw : IsEvs w A len cap) (ht : IsDps w At lt ct) :
    Calls Try.prog 3 #[.slice A len cap, .agg #[.int .i64 s, .int .i64 p, .int .i64 q], .slice At lt ct] w fun e w' => e = .returned (.bool true) ∧ Below w.heap.size w w' := by
  obtain ⟨l, rfl, _, h3⟩ := hw
  obtain ⟨T, rfl, _, h4⟩ := ht
  by_cases h : 60 < l.length ∨ 60 < T.length
  · exact big A At l.length cap T.length ct s p q w h
  · exact core A At cap ct l T s p q w (by omega) (by omega) h3 h4

theorem own : ownKnob Try.prog.godebug = none := by kernel_rfl
theorem laidOut : laidOutB Try.prog = true := by kernel_rfl

set_option maxRecDepth 100000 in
theorem lifted (os : Os) (started : os.Started) (H : Type) (enc : TypeId × Value → H) :
    ReturnsInHanded {} Try.checked os 3 .any (Rows.playRunsSpec.pre6 enc Try.prog Try.f3 Rows.playRunsRow.domain false) (Rows.playRunsSpec.post enc Try.prog Try.f3 false true false false) := by
  refine returnsInHanded_of_change (C := Try.checked) own started (by kernel_rfl) Try.func3
    (ChangeSpec.witness6 (enc := enc) (C := Try.checked) false ⟨#[], #[.slice none 0 0, .agg #[.int .i64 0, .int .i64 0, .int .i64 0], .slice none 0 0], []⟩ 8 (by kernel_rfl) (by kernel_rfl) (by kernel_rfl) (by kernel_rfl)) ?_
  intro W base args ds gs before hval0 hW hcnd _
  have hval : ∀ (j : Nat) t v, Try.f3.params[j]? = some t → args[j]? = some v → Value.okWide Try.prog W .any base t v := hval0
  have hW' := hW
  obtain ⟨p, q, hA0, hV, rfl, hfz, hnd⟩ := hW
  have hA : DataW.TrodAll enc Try.prog W 0 (fun _ => true) true Try.f3.params.toList args.toList ds p := hA0
  rw [Try.params3] at hA hval
  obtain ⟨v0, vs0, d0, ds0, p0, q0, hargs, rfl, rfl, h0, r0⟩ := trodAll_cons hA
  obtain ⟨v1, vs1, d1, ds1, p1, q1, rfl, rfl, rfl, h1, r1⟩ := trodAll_cons r0
  obtain ⟨v2, vs2, d2, ds2, p2, q2, rfl, rfl, rfl, h2, r2⟩ := trodAll_cons r1
  obtain ⟨rfl, rfl, rfl⟩ := trodAll_nil r2
  obtain rfl : args = #[v0, v1, v2] := by cases args; simp_all
  obtain ⟨rfl, rfl⟩ := trodVars_none hV
  obtain ⟨a0, len0, cap0, rfl⟩ := okWide_slice Try.underlying22 (hval 0 22 v0 rfl rfl)
  have k0 := h0
  have lt0 : ∀ x ∈ p0, x.block < W.heap.size := by obtain ⟨m, hm⟩ := k0; exact DataW.trod_lt m _ _ _ hm
  have w0 : IsEvs W a0 len0 cap0 := by
    obtain ⟨fuel, hf⟩ := h0
    exact evs_in hf
  have k1 := h1
  have lt1 : ∀ x ∈ p1, x.block < W.heap.size := by obtain ⟨m, hm⟩ := k1; exact DataW.trod_lt m _ _ _ hm
  obtain ⟨a1, b1, c1, rfl⟩ := open_three (hval 1 23 v1 rfl rfl) h1
  obtain ⟨a2, len2, cap2, rfl⟩ := okWide_slice Try.underlying24 (hval 2 24 v2 rfl rfl)
  have k2 := h2
  have lt2 : ∀ x ∈ p2, x.block < W.heap.size := by obtain ⟨m, hm⟩ := k2; exact DataW.trod_lt m _ _ _ hm
  have w2 : IsDps W a2 len2 cap2 := by
    obtain ⟨fuel, hf⟩ := h2
    exact dps_in hf
  clear hA0 hval0
  refine (walk a0 len0 cap0 a1 b1 c1 a2 len2 cap2 W w0 w2).mono fun e W' ⟨he, bel⟩ => ?_
  subst he
  exact ⟨_, rfl, _, _, _, [], _, [], hW', trodAll_mk1 (shut_bool Try.underlying4 _), (trodAll_cons_mk (Below.trod laidOut (by kernel_rfl) (of_decide_eq_true (by kernel_rfl)) k0 bel lt0) (trodAll_cons_mk (Below.trod laidOut (by kernel_rfl) (of_decide_eq_true (by kernel_rfl)) k1 bel lt1) (trodAll_cons_mk (Below.trod laidOut (by kernel_rfl) (of_decide_eq_true (by kernel_rfl)) k2 bel lt2) trodAll_mk0))), rfl, bel.frame _, fun h => by cases h⟩

theorem over : Rows.playRunsRow.holds Try.pinned (OpenSpec.ofChange Rows.playRunsSpec) :=
  OpenClaim.holds_of_wide 3 Try.f3 rfl rfl rfl rfl rfl rfl rfl ⟨rfl, rfl, rfl, rfl, rfl⟩ rfl rfl rfl rfl rfl (by kernel_rfl) Try.func3 (by kernel_rfl)
    (of_decide_eq_true (by kernel_rfl)) (by unfold Func.isWrapper; first | (rw [if_pos (by decide +kernel)]; kernel_rfl) | (rw [if_neg (by decide +kernel)]; exact ⟨rfl, rfl⟩))
    (fun os started H enc _ => lifted os started H enc)

end Go.Proofs.Ytdbnpdbnjipjiaa.playRuns
namespace Go.Proofs.Ytdbnpdbnjipjiaa
theorem playRuns_holds : Rows.PlayRunsSaid := playRuns.over
end Go.Proofs.Ytdbnpdbnjipjiaa
