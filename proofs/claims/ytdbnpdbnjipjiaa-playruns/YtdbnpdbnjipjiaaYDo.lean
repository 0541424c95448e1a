/-
  Layer 15 (play): Tick, Step, Speed.
-/
import Derived.Test.YtdbnpdbnjipjiaaYDue
import Derived.Lib.MinMax
namespace Go.Proofs.Ytdbnpdbnjipjiaa
open Go.RowKit Go.Lib EM PM
set_option maxRecDepth 100000

theorem PlAt.sized {w : World} {g c : Nat} {A : Option Addr} {P : Pl} (h : PlAt w g A c P) {w' : World} (hf : Fr (· = g) w w') : evE.Row w' g A P.l := h.2.1.below (hf.below (Nat.le_of_lt h.lt) (fun k hk => by omega))
theorem TellPost.from {w w1 : World} {g c : Nat} {A : Option Addr} {L : List Ev} {P : Pl} {e : Ending} {w' : World} (h : TellPost w1 g A c L P e w') (hf : Fr (· = g) w w1) : TellPost w g A c L P e w' := by
  obtain ⟨v, he, ho, hp, hf'⟩ := h
  exact ⟨v, he, ho.mono hf.size, hp, hf.trans' hf'⟩

set_option maxHeartbeats 2000000 in
theorem tick_ok (w : World) (g c : Nat) (A : Option Addr) (P : Pl) (h : PlAt w g A c P) (ok : P.Ok) (hf : P.Full) (n : Int) :
    Calls Try.prog 13 #[.pointer (some ⟨g, 0, none⟩), .int .i64 n] w (TellPost w g A c (seg P.l P.told (P.tick n).told) (P.tick n)) := by
  have HD := Lib.hid (fun v (hv : PlAt v g A c (P.goes n)) => due_ok v g c A (P.goes n) hv (ok.goes n) (ok.tick_told hf n))
  have htk : P.tick n = (P.goes n).due := rfl
  rw [htk]
  have hl : (P.goes n).l = P.l := rfl
  have ht : (P.goes n).told = P.told := rfl
  rw [hl, ht] at HD
  clear htk hl ht hf
  have H := Lib.hid h
  have hb := h.1
  clear h
  rcases hp : P.paused with _ | _
  · have hw0 := ok.w0
    have hw1 := ok.w1
    obtain ⟨m, hm⟩ : ∃ m, max n 0 = m := ⟨_, rfl⟩
    obtain ⟨k, hk⟩ : ∃ k, min m (4611686018427387904 - P.wall) = k := ⟨_, rfl⟩
    have hkb : 0 ≤ k ∧ P.wall + k ≤ 4611686018427387904 := by omega
    have hg : P.goes n = { P with wall := P.wall + k } := by
      unfold Pl.goes
      rw [hp, hm, hk]
      simp
    have HG := Lib.hid hg
    have HB := Lib.hid hb
    rw [hp] at hb
    obtain ⟨-, -, -, e3, -, -, e6⟩ := hb.cells
    have f3 := hb.thaw 3
    clear hb hg ok
    generalize hQ : P.goes n = Q at *
    generalize hW : P.wall = wl at *
    go_enter Try.func13, Try.ntmps13
    go_wp2_with fail
    go_region
    have hf : Fr (· = g) w (w.setCell ⟨g, 3, none⟩ (.int .i64 (wl + k))).drew := (Fr.setCell (S := (· = g)) (a := ⟨g, 3, none⟩) _ rfl).trans' (Fr.drew _ _)
    have hQ2 : PlAt (w.setCell ⟨g, 3, none⟩ (.int .i64 (wl + k))).drew g A c Q := by
      rw [HG.out]
      exact ⟨(HB.out.set3 (wl + k) : PlB (w.setCell ⟨g, 3, none⟩ (.int .i64 (wl + k))) g A P.l.length c P.told P.start (wl + k) P.p P.q P.paused), H.out.sized hf, H.out.2.2⟩
    have HQ2 := Lib.hid hQ2
    have HF := Lib.hid hf
    clear hQ2 hf e3 e6 f3
    generalize (w.setCell ⟨g, 3, none⟩ (.int .i64 (wl + k))).drew = w1 at *
    go_wp2_with fail
    refine (HD.out w1 HQ2.out).mono ?_
    rintro e w2 hpost
    obtain ⟨v, rfl, ho, hpl⟩ := TellPost.from hpost HF.out
    have HP := Lib.hid hpl
    have HO := Lib.hid ho
    clear hpl ho hpost
    go_wp2_with fail
    go_ret
    exact ⟨v, rfl, HO.out, HP.out⟩
  · have hg : P.goes n = P := by
      obtain ⟨l, told, s, wl, p, q, b⟩ := P
      simp only at hp
      subst hp
      unfold Pl.goes
      simp
    rw [hg] at HD ⊢
    rw [hp] at hb
    obtain ⟨-, -, -, -, -, -, e6⟩ := hb.cells
    clear hb hg ok
    go_enter Try.func13, Try.ntmps13
    go_wp2_with fail
    refine (HD.out w H.out).mono ?_
    rintro e w1 hpost
    obtain ⟨v, rfl, ho, hpl⟩ := hpost
    have HP := Lib.hid hpl
    have HO := Lib.hid ho
    clear hpl ho
    go_wp2_with fail
    go_ret
    exact ⟨v, rfl, HO.out, HP.out⟩

set_option maxHeartbeats 2000000 in
theorem step_ok (w : World) (g c : Nat) (A : Option Addr) (P : Pl) (h : PlAt w g A c P) (ok : P.Ok) (hf : P.Full) :
    Calls Try.prog 15 #[.pointer (some ⟨g, 0, none⟩)] w (TellPost w g A c (seg P.l P.told P.step.told) P.step) := by
  have hlen := ok.len
  have htl := Pl.told_le hf
  have HL := Lib.hid (left_ok w g c A P h hlen htl)
  have H := Lib.hid h
  have hb := h.1
  clear h
  by_cases hn : P.told = P.l.length
  · have hs : P.step = P := by unfold Pl.step; rw [if_pos hn]
    rw [hs, seg_self]
    have g0 : ((P.l.length : Int) - (P.told : Int) == 0) = true := beq_iff_eq.2 (by omega)
    generalize (P.l.length : Int) - (P.told : Int) = z at *
    clear hs ok hf hb
    go_enter Try.func15, Try.ntmps15
    go_wp2_with fail
    refine HL.out.mono ?_
    rintro e w1 ⟨rfl, k, hw⟩
    go_wp2_with fail
    go_ret
    exact ⟨_, rfl, El.Own.nil _ _, H.out.next (below_drewN (Below.refl _ _) _), Fr.drewN _ _ _⟩
  · have hlt : P.told < P.l.length := by omega
    have e : P.l.getD P.told zero = P.l[P.told] := by simp [hlt]
    have ht := ok.times P.told hlt
    have hs : P.step = (P.anew P.l[P.told].t).due := by unfold Pl.step; rw [if_neg hn, e]
    have HD := Lib.hid (fun v (hv : PlAt v g A c (P.anew P.l[P.told].t)) => due_ok v g c A (P.anew P.l[P.told].t) hv (ok.anew _ ht.1 ht.2) (by
      rw [now_anew P P.l[P.told].t (by omega)]
      show P.told ≤ upTo P.l P.l[P.told].t
      have := (ok.step_told hf hlt).1
      rw [hs] at this
      have h2 : (P.anew P.l[P.told].t).due.told = upTo P.l P.l[P.told].t := by
        show upTo P.l (P.anew P.l[P.told].t).now = _
        rw [now_anew P P.l[P.told].t (by omega)]
      omega))
    have HA := Lib.hid (fun v (hv : PlAt v g A c P) => anew_ok v g c A P hv P.l[P.told].t)
    rw [hs]
    have hl2 : (P.anew P.l[P.told].t).l = P.l := rfl
    have ht2 : (P.anew P.l[P.told].t).told = P.told := rfl
    rw [hl2, ht2] at HD
    have g0 : ((P.l.length : Int) - (P.told : Int) == 0) = false := beq_eq_false_iff_ne.2 (by omega)
    have HCT := Lib.hid (fun v (hv : evE.Row v g A P.l) => ev_at hv hlt)
    generalize P.l[P.told].t = t at *
    have hnl : (P.told : Int) < (P.l.length : Int) := by omega
    have HB := Lib.hid hb
    generalize hz : (P.l.length : Int) - (P.told : Int) = z at *
    have HZ := Lib.hid hz
    clear hs hl2 ht2 e ok hf ht hb hz
    go_enter Try.func15, Try.ntmps15
    go_wp2_with fail
    refine HL.out.mono ?_
    rintro e w1 ⟨rfl, k, hw⟩
    have H1 := Lib.hid (show PlAt w1 g A c P by rw [hw]; exact H.out.next (below_drewN (Below.refl _ _) _))
    have HF1 := Lib.hid (show Fr (· = g) w w1 by rw [hw]; exact Fr.drewN _ _ _)
    clear hw
    go_wp2_with fail
    obtain ⟨b0, off, hA, hbl, c0, -⟩ := HCT.out w1 H1.out.row
    subst hA
    have HC0 := Lib.hid c0
    refine wp_region_noPanic ?_
    refine wp_region_held_drew (S := fun v => Fr (· = g) w1 v ∧ ∃ s wl, PlB v g (some ⟨b0, off, none⟩) P.l.length c P.told s wl P.p P.q P.paused) (by kernel_rfl) ⟨Fr.drew _ _, _, _, H1.out.1⟩ (fun hHeld => ?_)
    have HSd := Lib.hid hHeld
    have HB1 := Lib.hid (Nat.le_of_lt H1.out.lt)
    clear c0
    refine wpAnyH_take (i := 0) (v := ?va0) rfl (by kernel_rfl) (by kernel_rfl) (by kernel_rfl) (fun _ _ _ h => h) (Or.inl ⟨by rfl, ?ha0⟩) (by assumption) ?_
    case ha0 => intro w hSw; (try dsimp only at hSw); obtain ⟨hff, s, wl, hbb⟩ := hSw; obtain ⟨e0, e1, -⟩ := hbb.cells; have c0 := ((hff.below HB1.out (fun k hk => by omega)).cell (p := ⟨b0, off + P.told * 5, none⟩) hbl).trans HC0.out; clear hff hbb; go_simp; try with_reducible rfl
    simp only [List.getElem_toArray, List.getElem_cons_zero, Act.put, List.setIfInBounds_toArray, List.set_cons_zero, List.set_cons_succ]
    refine wpAnyH_take (i := 1) (v := ?va1) rfl (by kernel_rfl) (by kernel_rfl) (by kernel_rfl) (fun _ _ _ h => h) (Or.inl ⟨by rfl, ?ha1⟩) (by assumption) ?_
    case ha1 => intro w hSw; (try dsimp only at hSw); obtain ⟨hff, s, wl, hbb⟩ := hSw; obtain ⟨e0, e1, -⟩ := hbb.cells; have c0 := ((hff.below HB1.out (fun k hk => by omega)).cell (p := ⟨b0, off + P.told * 5, none⟩) hbl).trans HC0.out; clear hff hbb; go_simp; try with_reducible rfl
    simp only [List.getElem_toArray, List.getElem_cons_succ, List.getElem_cons_zero, Act.put, List.setIfInBounds_toArray, List.set_cons_zero, List.set_cons_succ]
    refine wpAnyH_take (i := 2) (v := ?va2) rfl (by kernel_rfl) (by kernel_rfl) (by kernel_rfl) (fun _ _ _ h => h) (Or.inl ⟨by rfl, ?ha2⟩) (by assumption) ?_
    case ha2 => intro w hSw; (try dsimp only at hSw); obtain ⟨hff, s, wl, hbb⟩ := hSw; obtain ⟨e0, e1, -⟩ := hbb.cells; have c0 := ((hff.below HB1.out (fun k hk => by omega)).cell (p := ⟨b0, off + P.told * 5, none⟩) hbl).trans HC0.out; clear hff hbb; go_simp; try with_reducible rfl
    simp only [List.getElem_toArray, List.getElem_cons_succ, List.getElem_cons_zero, Act.put, List.setIfInBounds_toArray, List.set_cons_zero, List.set_cons_succ]
    refine wpAnyH_take (i := 3) (v := ?va3) rfl (by kernel_rfl) (by kernel_rfl) (by kernel_rfl) (fun _ _ _ h => h) (Or.inl ⟨by rfl, ?ha3⟩) (by assumption) ?_
    case ha3 => intro w hSw; (try dsimp only at hSw); obtain ⟨hff, s, wl, hbb⟩ := hSw; obtain ⟨e0, e1, -⟩ := hbb.cells; have c0 := ((hff.below HB1.out (fun k hk => by omega)).cell (p := ⟨b0, off + P.told * 5, none⟩) hbl).trans HC0.out; clear hff hbb; go_simp; try with_reducible rfl
    simp only [List.getElem_toArray, List.getElem_cons_succ, List.getElem_cons_zero, Act.put, List.setIfInBounds_toArray, List.set_cons_zero, List.set_cons_succ]
    refine wpAnyH_take (i := 4) (v := ?va4) rfl (by kernel_rfl) (by kernel_rfl) (by kernel_rfl) (fun _ _ _ h => h) (Or.inl ⟨by rfl, ?ha4⟩) (by assumption) ?_
    case ha4 => intro w hSw; (try dsimp only at hSw); obtain ⟨hff, s, wl, hbb⟩ := hSw; obtain ⟨e0, e1, -⟩ := hbb.cells; have c0 := ((hff.below HB1.out (fun k hk => by omega)).cell (p := ⟨b0, off + P.told * 5, none⟩) hbl).trans HC0.out; clear hff hbb; go_simp; try with_reducible rfl
    simp only [List.getElem_toArray, List.getElem_cons_succ, List.getElem_cons_zero, Act.put, List.setIfInBounds_toArray, List.set_cons_zero, List.set_cons_succ]
    refine wpAnyH_take (i := 5) (v := ?va5) rfl (by kernel_rfl) (by kernel_rfl) (by kernel_rfl) (fun _ _ _ h => h) (Or.inl ⟨by rfl, ?ha5⟩) (by assumption) ?_
    case ha5 => intro w hSw; (try dsimp only at hSw); obtain ⟨hff, s, wl, hbb⟩ := hSw; obtain ⟨e0, e1, -⟩ := hbb.cells; have c0 := ((hff.below HB1.out (fun k hk => by omega)).cell (p := ⟨b0, off + P.told * 5, none⟩) hbl).trans HC0.out; clear hff hbb; go_simp; try with_reducible rfl
    simp only [List.getElem_toArray, List.getElem_cons_succ, List.getElem_cons_zero, Act.put, List.setIfInBounds_toArray, List.set_cons_zero, List.set_cons_succ]
    refine wpAnyH_take (i := 6) (v := ?va6) rfl (by kernel_rfl) (by kernel_rfl) (by kernel_rfl) (fun _ _ _ h => h) (Or.inl ⟨by rfl, ?ha6⟩) (by assumption) ?_
    case ha6 => intro w hSw; (try dsimp only at hSw); obtain ⟨hff, s, wl, hbb⟩ := hSw; obtain ⟨e0, e1, -⟩ := hbb.cells; have c0 := ((hff.below HB1.out (fun k hk => by omega)).cell (p := ⟨b0, off + P.told * 5, none⟩) hbl).trans HC0.out; clear hff hbb; go_simp; try with_reducible rfl
    simp only [List.getElem_toArray, List.getElem_cons_succ, List.getElem_cons_zero, Act.put, List.setIfInBounds_toArray, List.set_cons_zero, List.set_cons_succ]
    refine wpAnyH_take (i := 7) (v := ?va7) rfl (by kernel_rfl) (by kernel_rfl) (by kernel_rfl) (fun _ _ _ h => h) (Or.inl ⟨by rfl, ?ha7⟩) (by assumption) ?_
    case ha7 => intro w hSw; (try dsimp only at hSw); obtain ⟨hff, s, wl, hbb⟩ := hSw; obtain ⟨e0, e1, -⟩ := hbb.cells; have c0 := ((hff.below HB1.out (fun k hk => by omega)).cell (p := ⟨b0, off + P.told * 5, none⟩) hbl).trans HC0.out; clear hff hbb; go_simp; try with_reducible rfl
    simp only [List.getElem_toArray, List.getElem_cons_succ, List.getElem_cons_zero, Act.put, List.setIfInBounds_toArray, List.set_cons_zero, List.set_cons_succ]
    refine wpAnyH_take (i := 8) (v := ?va8) rfl (by kernel_rfl) (by kernel_rfl) (by kernel_rfl) (fun _ _ _ h => h) (Or.inl ⟨by rfl, ?ha8⟩) (by assumption) ?_
    case ha8 => intro w hSw; (try dsimp only at hSw); obtain ⟨hff, s, wl, hbb⟩ := hSw; obtain ⟨e0, e1, -⟩ := hbb.cells; have c0 := ((hff.below HB1.out (fun k hk => by omega)).cell (p := ⟨b0, off + P.told * 5, none⟩) hbl).trans HC0.out; clear hff hbb; go_simp; try with_reducible rfl
    simp only [List.getElem_toArray, List.getElem_cons_succ, List.getElem_cons_zero, Act.put, List.setIfInBounds_toArray, List.set_cons_zero, List.set_cons_succ]
    refine wpAnyH_take (i := 9) (v := ?va9) rfl (by kernel_rfl) (by kernel_rfl) (by kernel_rfl) (fun _ _ _ h => h) (Or.inl ⟨by rfl, ?ha9⟩) (by assumption) ?_
    case ha9 => intro w hSw; (try dsimp only at hSw); obtain ⟨hff, s, wl, hbb⟩ := hSw; obtain ⟨e0, e1, -⟩ := hbb.cells; have c0 := ((hff.below HB1.out (fun k hk => by omega)).cell (p := ⟨b0, off + P.told * 5, none⟩) hbl).trans HC0.out; clear hff hbb; go_simp; try with_reducible rfl
    simp only [List.getElem_toArray, List.getElem_cons_succ, List.getElem_cons_zero, Act.put, List.setIfInBounds_toArray, List.set_cons_zero, List.set_cons_succ]
    refine wpAnyH_take (i := 10) (v := ?va10) rfl (by kernel_rfl) (by kernel_rfl) (by kernel_rfl) (fun _ _ _ h => h) (Or.inl ⟨by rfl, ?ha10⟩) (by assumption) ?_
    case ha10 => intro w hSw; (try dsimp only at hSw); obtain ⟨hff, s, wl, hbb⟩ := hSw; obtain ⟨e0, e1, -⟩ := hbb.cells; have c0 := ((hff.below HB1.out (fun k hk => by omega)).cell (p := ⟨b0, off + P.told * 5, none⟩) hbl).trans HC0.out; clear hff hbb; go_simp; try with_reducible rfl
    simp only [List.getElem_toArray, List.getElem_cons_succ, List.getElem_cons_zero, Act.put, List.setIfInBounds_toArray, List.set_cons_zero, List.set_cons_succ]
    refine wpAnyH_take (i := 11) (v := ?va11) rfl (by kernel_rfl) (by kernel_rfl) (by kernel_rfl) (fun _ _ _ h => h) (Or.inl ⟨by rfl, ?ha11⟩) (by assumption) ?_
    case ha11 => intro w hSw; (try dsimp only at hSw); obtain ⟨hff, s, wl, hbb⟩ := hSw; obtain ⟨e0, e1, -⟩ := hbb.cells; have c0 := ((hff.below HB1.out (fun k hk => by omega)).cell (p := ⟨b0, off + P.told * 5, none⟩) hbl).trans HC0.out; clear hff hbb; go_simp; try with_reducible rfl
    simp only [List.getElem_toArray, List.getElem_cons_succ, List.getElem_cons_zero, Act.put, List.setIfInBounds_toArray, List.set_cons_zero, List.set_cons_succ]
    refine wpAnyH_ready (rs := [12]) (by kernel_rfl) (by simp) ?_
    refine AllReadyH.cons rfl (fun K hK => ?_) AllReadyH.nil
    rw [if_pos (by kernel_rfl)]
    go_simp
    refine (HA.out w1.drew H1.out).mono ?_
    rintro e y1 ⟨rfl, hp1, hf1⟩
    have HP1 := Lib.hid hp1
    have HG1 := Lib.hid ((Fr.drew (· = g) w1).trans' hf1)
    clear hp1 hf1
    dsimp only
    refine hK.out _ _ ?_ (fun hHeld => ?_)
    · exact ⟨HG1.out, _, _, HP1.out.1⟩
    clear hK K
    refine wpAnyH_done (by kernel_rfl) ?_ _
    refine NoPanic.normal ?_
    go_wp2_with fail
    refine (HD.out y1 HP1.out).mono ?_
    rintro e w2 hpost
    obtain ⟨v, rfl, ho, hpl⟩ := TellPost.from hpost (HF1.out.trans' HG1.out)
    have HP := Lib.hid hpl
    have HO := Lib.hid ho
    clear hpl ho hpost
    go_wp2_with fail
    go_ret
    exact ⟨v, rfl, HO.out, HP.out⟩

set_option maxHeartbeats 2000000 in
theorem speed_ok (w : World) (g c : Nat) (A : Option Addr) (P : Pl) (h : PlAt w g A c P) (ok : P.Ok) (a b : Int) :
    Calls Try.prog 19 #[.pointer (some ⟨g, 0, none⟩), .int .i64 a, .int .i64 b] w fun e w' =>
      e = .returned (.int .i64 (if rightS a b = true then 0 else 3)) ∧ PlPost w g A c (if rightS a b = true then P.speed a b else P) w' := by
  have HS := Lib.hid (fun v => speedS_ok v a b)
  have H := Lib.hid h
  rcases hr : rightS a b with _ | _
  · rw [hr] at HS
    rw [if_neg (by decide), if_neg (by decide)]
    clear h ok hr
    go_enter Try.func19, Try.ntmps19
    go_wp2_with fail
    refine (HS.out w).mono ?_
    rintro e w1 ⟨rfl, hw⟩
    rw [hw]
    clear hw w1
    go_wp2_with fail
    go_ret
    exact ⟨rfl, H.out, Fr.refl _ _⟩
  · rw [hr] at HS
    rw [if_pos rfl, if_pos rfl]
    have HN := Lib.hid (now_ok w g c A P h ok)
    have hn0 := ok.now0
    have hn1 := P.now_top
    have hsp : P.speed a b = { P.anew (min P.now 4611686018427387903) with p := a, q := b } := rfl
    have HSP := Lib.hid hsp
    have HA := Lib.hid (fun v (hv : PlAt v g A c P) (t : Int) => anew_ok v g c A P hv t)
    clear hsp ok hr h
    generalize hQ : P.speed a b = Q at *
    generalize P.now = N at *
    obtain ⟨m, hm⟩ : ∃ m, min N 4611686018427387903 = m := ⟨_, rfl⟩
    rw [hm] at HSP
    have hmb : 0 ≤ m ∧ m ≤ 4611686018427387903 := by omega
    clear hQ
    go_enter Try.func19, Try.ntmps19
    go_wp2_with fail
    refine (HS.out w).mono ?_
    rintro e w1 ⟨rfl, hw⟩
    rw [hw]
    clear hw w1
    go_wp2_with fail
    refine HN.out.mono ?_
    rintro e w1 ⟨rfl, k, hw⟩
    have H1 := Lib.hid (show PlAt w1 g A c P by rw [hw]; exact H.out.next (below_drewN (Below.refl _ _) _))
    have HF1 := Lib.hid (show Fr (· = g) w w1 by rw [hw]; exact Fr.drewN _ _ _)
    clear hw
    go_wp2_with fail
    refine (HA.out w1 H1.out m).mono ?_
    rintro e w2 ⟨rfl, hp2, hf2⟩
    have HF2 := Lib.hid (HF1.out.trans' hf2)
    have HP2 := Lib.hid hp2
    obtain ⟨-, -, -, -, e4, e5, -⟩ := hp2.1.cells
    have f4 := hp2.1.thaw 4
    have f5 := hp2.1.thaw 5
    have h3 := hp2.1.set4 a
    have k5 := h3.cells.2.2.2.2.2.1
    have t5 := h3.thaw 5
    have h4 := h3.set5 b
    have hf3 : Fr (· = g) w2 ((w2.setCell ⟨g, 4, none⟩ (.int .i64 a)).setCell ⟨g, 5, none⟩ (.int .i64 b)) := (Fr.setCell (S := (· = g)) (a := ⟨g, 4, none⟩) _ rfl).trans' (Fr.setCell (a := ⟨g, 5, none⟩) _ rfl)
    have HX := Lib.hid (show PlAt ((w2.setCell ⟨g, 4, none⟩ (.int .i64 a)).setCell ⟨g, 5, none⟩ (.int .i64 b)) g A c Q by rw [HSP.out]; exact ⟨h4, hp2.sized hf3, hp2.2.2⟩)
    have HF3 := Lib.hid (HF2.out.trans' hf3)
    clear hp2 hf2 h3 h4 hf3
    go_wp2_with fail
    go_ret
    exact ⟨rfl, HX.out, HF3.out⟩
end Go.Proofs.Ytdbnpdbnjipjiaa
