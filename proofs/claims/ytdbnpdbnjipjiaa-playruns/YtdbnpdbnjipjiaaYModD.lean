/-
  Layer 15's laws: the reference's Tick, Step, Speed.
-/
import Derived.Test.YtdbnpdbnjipjiaaYMod
namespace Go.Proofs.Ytdbnpdbnjipjiaa
open Go.RowKit Go.Lib EM PM
set_option maxRecDepth 100000

set_option maxHeartbeats 2000000 in
theorem mtick_ok (w : World) (g c : Nat) (A : Option Addr) (P : Pl) (h : MoAt w g A c P) (ok : P.Ok) (hf : P.Full) (n : Int) :
    Calls Try.prog 14 #[.pointer (some ⟨g, 0, none⟩), .int .i64 n] w (MTell w g A c (seg P.l P.told (P.tick n).told) (P.tick n)) := by
  have HD := Lib.hid (fun v (hv : MoAt v g A c (P.goes n)) => mdue_ok v g c A (P.goes n) hv (ok.goes n) (ok.tick_told hf n))
  have htk : P.tick n = (P.goes n).due := rfl
  rw [htk]
  have hl : (P.goes n).l = P.l := rfl
  have ht : (P.goes n).told = P.told := rfl
  rw [hl, ht] at HD
  have hw0 := ok.w0
  have hw1 := ok.w1
  clear htk hl ht hf ok
  have H := Lib.hid h
  have hb := h.1
  clear h
  by_cases hs : P.paused = true ∨ n ≤ 0
  · have hg : P.goes n = P := by
      obtain ⟨l, told, s, wl, p, q, b⟩ := P
      simp only at hs hw0 hw1
      unfold Pl.goes
      simp only
      congr 1
      split
      · rfl
      · rcases hs with hs | hs
        · rename_i hb'; exact absurd hs hb'
        · omega
    rw [hg] at HD ⊢
    obtain ⟨-, -, -, -, -, -, e6⟩ := hb.cells
    clear hb hg
    rcases hp : P.paused with _ | _
    · rw [hp] at e6 hs
      have hn : n ≤ 0 := by
        rcases hs with hs | hs
        · cases hs
        · exact hs
      have g1 : decide (0 < n) = false := decide_eq_false (by omega)
      clear hs hp hn
      go_enter Try.func14, Try.ntmps14
      go_wp2_with fail
      refine (HD.out w H.out).mono ?_
      rintro e w1 ⟨v, rfl, ho, hpl⟩
      have HP := Lib.hid hpl
      have HO := Lib.hid ho
      clear hpl ho
      go_wp2_with fail
      go_ret
      exact ⟨v, rfl, HO.out, HP.out⟩
    · rw [hp] at e6
      clear hs hp
      go_enter Try.func14, Try.ntmps14
      go_wp2_with fail
      refine (HD.out w H.out).mono ?_
      rintro e w1 ⟨v, rfl, ho, hpl⟩
      have HP := Lib.hid hpl
      have HO := Lib.hid ho
      clear hpl ho
      go_wp2_with fail
      go_ret
      exact ⟨v, rfl, HO.out, HP.out⟩
  · have hp : P.paused = false := by
      rcases h : P.paused with _ | _
      · rfl
      · exact absurd (.inl h) hs
    have hn : 0 < n := by
      rcases Int.lt_or_le 0 n with h | h
      · exact h
      · exact absurd (.inr h) hs
    have g1 : decide (0 < n) = true := decide_eq_true hn
    obtain ⟨k, hk⟩ : ∃ k, k = P.wall + min (max n 0) (4611686018427387904 - P.wall) := ⟨_, rfl⟩
    have hg : P.goes n = { P with wall := k } := by
      unfold Pl.goes
      rw [hp, hk]
      simp
    have HG := Lib.hid hg
    have HB := Lib.hid hb
    rw [hp] at hb
    obtain ⟨-, -, -, -, e4, -, e6⟩ := hb.cells
    have f4 := hb.thaw 4
    have hF : ∀ k : Int, Fr (· = g) w (w.setCell ⟨g, 4, none⟩ (.int .i64 k)) := fun k => Fr.setCell (S := (· = g)) (a := ⟨g, 4, none⟩) _ rfl
    have HQ := Lib.hid (show MoAt (w.setCell ⟨g, 4, none⟩ (.int .i64 k)) g A c (P.goes n) by rw [hg]; exact ⟨HB.out.set4 k, H.out.sized (hF k)⟩)
    have HF := Lib.hid (hF k)
    clear hb hg hs hF HG
    generalize P.goes n = Q at *
    generalize P.wall = wl at *
    by_cases hc : 4611686018427387904 - wl < n
    · have g2 : decide (4611686018427387904 - wl < n) = true := decide_eq_true hc
      obtain rfl : k = 4611686018427387904 := by omega
      clear hk
      go_enter Try.func14, Try.ntmps14
      go_wp2_with fail
      refine (HD.out _ HQ.out).mono ?_
      rintro e w1 hpost
      obtain ⟨v, rfl, ho, hpl⟩ := MTell.from hpost HF.out
      have HP := Lib.hid hpl
      have HO := Lib.hid ho
      clear hpl ho hpost
      go_wp2_with fail
      go_ret
      exact ⟨v, rfl, HO.out, HP.out⟩
    · have g2 : decide (4611686018427387904 - wl < n) = false := decide_eq_false hc
      obtain rfl : k = wl + n := by omega
      clear hk
      go_enter Try.func14, Try.ntmps14
      go_wp2_with fail
      refine (HD.out _ HQ.out).mono ?_
      rintro e w1 hpost
      obtain ⟨v, rfl, ho, hpl⟩ := MTell.from hpost HF.out
      have HP := Lib.hid hpl
      have HO := Lib.hid ho
      clear hpl ho hpost
      go_wp2_with fail
      go_ret
      exact ⟨v, rfl, HO.out, HP.out⟩

set_option maxHeartbeats 2000000 in
theorem mstep_ok (w : World) (g c : Nat) (A : Option Addr) (P : Pl) (h : MoAt w g A c P) (ok : P.Ok) (hf : P.Full) :
    Calls Try.prog 16 #[.pointer (some ⟨g, 0, none⟩)] w (MTell w g A c (seg P.l P.told P.step.told) P.step) := by
  have htl := Pl.told_le hf
  have H := Lib.hid h
  have hb := h.1
  clear h
  by_cases hn : P.told = P.l.length
  · have hs : P.step = P := by unfold Pl.step; rw [if_pos hn]
    rw [hs, seg_self]
    have g0 : ((P.told : Int) == (P.l.length : Int)) = true := beq_iff_eq.2 (by omega)
    have g0' : (P.told == P.l.length) = true := beq_iff_eq.2 hn
    obtain ⟨e0, -, -, -, -, e5, -⟩ := hb.cells
    generalize P.l.length = n at *
    generalize P.told = t at *
    clear hs ok hf hb hn
    go_enter Try.func16, Try.ntmps16
    go_wp2_with fail
    go_quiet (fail)
    go_wp2_with fail
    go_ret
    exact ⟨_, rfl, El.Own.nil _ _, H.out.next (below_drewN (Below.refl _ _) _), Fr.drewN _ _ _⟩
  · have hlt : P.told < P.l.length := by omega
    have e : P.l.getD P.told zero = P.l[P.told] := by simp [hlt]
    have ht := ok.times P.told hlt
    have hs : P.step = (P.anew P.l[P.told].t).due := by unfold Pl.step; rw [if_neg hn, e]
    have HD := Lib.hid (fun v (hv : MoAt v g A c (P.anew P.l[P.told].t)) => mdue_ok v g c A (P.anew P.l[P.told].t) hv (ok.anew _ ht.1 ht.2) (by
      rw [now_anew P P.l[P.told].t (by omega)]
      show P.told ≤ upTo P.l P.l[P.told].t
      have := (ok.step_told hf hlt).1
      rw [hs] at this
      have h2 : (P.anew P.l[P.told].t).due.told = upTo P.l P.l[P.told].t := by
        show upTo P.l (P.anew P.l[P.told].t).now = _
        rw [now_anew P P.l[P.told].t (by omega)]
      omega))
    rw [hs]
    have hl2 : (P.anew P.l[P.told].t).l = P.l := rfl
    have ht2 : (P.anew P.l[P.told].t).told = P.told := rfl
    rw [hl2, ht2] at HD
    have g0 : ((P.told : Int) == (P.l.length : Int)) = false := beq_eq_false_iff_ne.2 (by omega)
    have g0' : (P.told == P.l.length) = false := beq_eq_false_iff_ne.2 hn
    obtain ⟨b0, off, hA, hbl, c0, -⟩ := ev_at H.out.2 hlt
    subst hA
    generalize P.l[P.told].t = t at *
    have hnl : (P.told : Int) < (P.l.length : Int) := by omega
    have hnl' : decide ((P.told : Int) < (P.l.length : Int)) = true := decide_eq_true hnl
    have hnl2 : decide (P.told < P.l.length) = true := decide_eq_true hlt
    obtain ⟨e0, -, -, -, -, e5, -⟩ := hb.cells
    have HC0 := Lib.hid c0
    clear hs hl2 ht2 e ok hf ht hb c0
    have HLN := Lib.hid (show P.l.length = P.l.length from rfl)
    go_enter Try.func16, Try.ntmps16
    go_wp2_with fail
    go_quiet (fail)
    have HM := Lib.hid (show MoAt (w.drewN nq) g (some ⟨b0, off, none⟩) c P from H.out)
    have HFq := Lib.hid (Fr.drewN (· = g) w nq)
    have c0 : (w.drewN nq).cell? ⟨b0, off + P.told * 5, none⟩ = some (.int .i64 t) := HC0.out
    have hzq : w.heap.size ≤ (w.drewN nq).heap.size := Nat.le_refl _
    clear e0 e5
    generalize w.drewN nq = wq at *
    have hb := HM.out.1
    obtain ⟨e0, e1, -, -, e4, e5, -⟩ := hb.cells
    have f1 := hb.thaw 1
    have h1 := hb.set1 t
    have hF1 : Fr (· = g) wq (wq.setCell ⟨g, 1, none⟩ (.int .i64 t)).drew := (Fr.setCell (S := (· = g)) (a := ⟨g, 1, none⟩) _ rfl).trans' (Fr.drew _ _)
    have HB1 := Lib.hid (show MoB (wq.setCell ⟨g, 1, none⟩ (.int .i64 t)).drew g (some ⟨b0, off, none⟩) P.l.length c P.told t P.wall P.p P.q P.paused from h1)
    have HF1 := Lib.hid hF1
    clear h1 hF1 hb
    go_wp2_with fail
    go_region
    clear e0 e1 e4 e5 f1 c0
    generalize (wq.setCell ⟨g, 1, none⟩ (.int .i64 t)).drew = w1 at *
    obtain ⟨-, -, -, -, e4, -, -⟩ := HB1.out.cells
    have f4 := HB1.out.thaw 4
    have hF2 : Fr (· = g) w1 (w1.setCell ⟨g, 4, none⟩ (.int .i64 0)) := Fr.setCell (S := (· = g)) (a := ⟨g, 4, none⟩) _ rfl
    have HF2 := Lib.hid (HFq.out.trans' (HF1.out.trans' hF2))
    have HQ := Lib.hid (show MoAt (w1.setCell ⟨g, 4, none⟩ (.int .i64 0)) g (some ⟨b0, off, none⟩) c (P.anew t) from ⟨HB1.out.set4 0, HM.out.sized (HF1.out.trans' hF2)⟩)
    clear hF2
    go_wp2_with fail
    refine (HD.out _ HQ.out).mono ?_
    rintro e w2 hpost
    obtain ⟨v, rfl, ho, hpl⟩ := MTell.from hpost HF2.out
    have HP := Lib.hid hpl
    have HO := Lib.hid ho
    clear hpl ho hpost
    go_wp2_with fail
    go_ret
    exact ⟨v, rfl, HO.out, HP.out⟩

set_option maxHeartbeats 2000000 in
theorem mspeed_ok (w : World) (g c : Nat) (A : Option Addr) (P : Pl) (h : MoAt w g A c P) (ok : P.Ok) (a b : Int) :
    Calls Try.prog 18 #[.pointer (some ⟨g, 0, none⟩), .int .i64 a, .int .i64 b] w fun e w' =>
      e = .returned (.bool (rightS a b)) ∧ MPost w g A c (if rightS a b = true then P.speed a b else P) w' := by
  have HS := Lib.hid (fun v => rrightS_ok v a b)
  have H := Lib.hid h
  rcases hr : rightS a b with _ | _
  · rw [hr] at HS
    rw [if_neg (by decide)]
    clear h ok hr
    go_enter Try.func18, Try.ntmps18
    go_wp2_with fail
    refine (HS.out w).mono ?_
    rintro e w1 ⟨rfl, hw⟩
    rw [hw]
    clear hw w1
    go_wp2_with fail
    go_ret
    exact ⟨rfl, H.out, Fr.refl _ _⟩
  · rw [hr] at HS
    rw [if_pos rfl]
    have HN := Lib.hid (mnow_ok w g P.l.length c P.told A P.start P.wall P.p P.q P.paused h.1 ok.s0 ok.s1 ok.w0 ok.w1 ok.p0 ok.p1 ok.q0 ok.q1)
    rw [show min (P.start + P.wall * P.p / P.q) 4611686018427387904 = P.now from rfl] at HN
    have hn0 := ok.now0
    have hn1 := P.now_top
    have hsp : P.speed a b = { P.anew (min P.now 4611686018427387903) with p := a, q := b } := rfl
    have HSP := Lib.hid hsp
    clear hsp ok hr h
    generalize hQ : P.speed a b = Q at *
    generalize P.now = N at *
    obtain ⟨m, hm⟩ : ∃ m, min N 4611686018427387903 = m := ⟨_, rfl⟩
    rw [hm] at HSP
    have HX : Hid (∀ v : World, MoAt v g A c P → MoAt ((((v.setCell ⟨g, 1, none⟩ (.int .i64 m)).setCell ⟨g, 4, none⟩ (.int .i64 0)).setCell ⟨g, 2, none⟩ (.int .i64 a)).setCell ⟨g, 3, none⟩ (.int .i64 b)) g A c Q ∧
        Fr (· = g) v ((((v.setCell ⟨g, 1, none⟩ (.int .i64 m)).setCell ⟨g, 4, none⟩ (.int .i64 0)).setCell ⟨g, 2, none⟩ (.int .i64 a)).setCell ⟨g, 3, none⟩ (.int .i64 b))) := Lib.hid (fun v hv => by
      have hf : Fr (· = g) v ((((v.setCell ⟨g, 1, none⟩ (.int .i64 m)).setCell ⟨g, 4, none⟩ (.int .i64 0)).setCell ⟨g, 2, none⟩ (.int .i64 a)).setCell ⟨g, 3, none⟩ (.int .i64 b)) :=
        (((Fr.setCell (S := (· = g)) (a := ⟨g, 1, none⟩) _ rfl).trans' (Fr.setCell (a := ⟨g, 4, none⟩) _ rfl)).trans' (Fr.setCell (a := ⟨g, 2, none⟩) _ rfl)).trans' (Fr.setCell (a := ⟨g, 3, none⟩) _ rfl)
      refine ⟨?_, hf⟩
      rw [HSP.out]
      exact ⟨(((hv.1.set1 m).set4 0).set2 a).set3 b, hv.sized hf⟩)
    clear hQ
    have H1 := Lib.hid (fun v (hv : MoAt v g A c P) => hv.1.cells)
    have HT := Lib.hid (fun v (hv : MoAt v g A c P) (j : Nat) => hv.1.thaw j)
    rcases Int.lt_or_le N 4611686018427387904 with hlt | hge
    · have g1 : (N == 4611686018427387904) = false := beq_eq_false_iff_ne.2 (by omega)
      obtain rfl : m = N := by omega
      clear hm
      go_enter Try.func18, Try.ntmps18
      go_wp2_with fail
      refine (HS.out w).mono ?_
      rintro e w1 ⟨rfl, hw⟩
      rw [hw]
      clear hw w1
      go_wp2_with fail
      refine HN.out.mono ?_
      rintro e w1 ⟨rfl, k, hw⟩
      have HM := Lib.hid (show MoAt w1 g A c P by rw [hw]; exact H.out.next (below_drewN (Below.refl _ _) _))
      have HF1 := Lib.hid (show Fr (· = g) w w1 by rw [hw]; exact Fr.drewN _ _ _)
      clear hw
      obtain ⟨e0, e1, e2, e3, e4, e5, e6⟩ := HM.out.1.cells
      have f1 := HM.out.1.thaw 1
      have f2 := HM.out.1.thaw 2
      have f3 := HM.out.1.thaw 3
      have f4 := HM.out.1.thaw 4
      obtain ⟨hx1, hx2⟩ := HX.out w1 HM.out
      have HX1 := Lib.hid hx1
      have HX2 := Lib.hid (HF1.out.trans' hx2)
      clear hx1 hx2
      go_wp2_with fail
      go_ret
      exact ⟨rfl, HX1.out, HX2.out⟩
    · obtain rfl : N = 4611686018427387904 := by omega
      obtain rfl : m = 4611686018427387903 := by omega
      clear hm
      go_enter Try.func18, Try.ntmps18
      go_wp2_with fail
      refine (HS.out w).mono ?_
      rintro e w1 ⟨rfl, hw⟩
      rw [hw]
      clear hw w1
      go_wp2_with fail
      refine HN.out.mono ?_
      rintro e w1 ⟨rfl, k, hw⟩
      have HM := Lib.hid (show MoAt w1 g A c P by rw [hw]; exact H.out.next (below_drewN (Below.refl _ _) _))
      have HF1 := Lib.hid (show Fr (· = g) w w1 by rw [hw]; exact Fr.drewN _ _ _)
      clear hw
      obtain ⟨e0, e1, e2, e3, e4, e5, e6⟩ := HM.out.1.cells
      have f1 := HM.out.1.thaw 1
      have f2 := HM.out.1.thaw 2
      have f3 := HM.out.1.thaw 3
      have f4 := HM.out.1.thaw 4
      obtain ⟨hx1, hx2⟩ := HX.out w1 HM.out
      have HX1 := Lib.hid hx1
      have HX2 := Lib.hid (HF1.out.trans' hx2)
      clear hx1 hx2
      go_wp2_with fail
      go_ret
      exact ⟨rfl, HX1.out, HX2.out⟩
end Go.Proofs.Ytdbnpdbnjipjiaa
