/-
  Layer 8 (cell): takeRun, takeRuns, TakeLine.
-/
import Derived.Test.YtalngmegenlfgaaDoorKSpread
namespace Go.Proofs.YtalngmegenlfgaaDoor
open Go.RowKit Go.Lib KM

/-- A run stored over another one. -/
def setR (w : World) (g : Nat) (n r : Int) (b u t : Bool) (f k : Int) : World := ((((((w.setCell ⟨g, 0, none⟩ (.int .i64 n)).setCell ⟨g, 1, none⟩ (.int .i32 r)).setCell ⟨g, 2, none⟩ (.bool b)).setCell ⟨g, 3, none⟩ (.bool u)).setCell ⟨g, 4, none⟩ (.bool t)).setCell ⟨g, 5, none⟩ (.int .i64 f)).setCell ⟨g, 6, none⟩ (.int .i64 k)
theorem setR_at {w : World} {g : Nat} {x : Nat × Cel} (h : RunAt w g x) (n : Nat) (r : Int) (b u t : Bool) (f k : Int) : RunAt (setR w g n r b u t f k) g (n, ⟨r, ⟨b, u, t, f, k⟩⟩) := by
  unfold RunAt at h ⊢
  simp [setR, World.setCell, Array.getElem?_modify, h]
theorem setR_below {w w0 : World} {g B : Nat} (h : Below B w0 w) (hg : B ≤ g) (n r : Int) (b u t : Bool) (f k : Int) : Below B w0 (setR w g n r b u t f k) := by
  unfold setR
  exact ((((((h.setCell (p := ⟨g, 0, none⟩) hg _).setCell (p := ⟨g, 1, none⟩) hg _).setCell (p := ⟨g, 2, none⟩) hg _).setCell (p := ⟨g, 3, none⟩) hg _).setCell (p := ⟨g, 4, none⟩) hg _).setCell (p := ⟨g, 5, none⟩) hg _).setCell (p := ⟨g, 6, none⟩) hg _
theorem RunAt.free {w : World} {g : Nat} {x : Nat × Cel} (h : RunAt w g x) : w.frozen? ⟨g, 0, none⟩ = false ∧ w.frozen? ⟨g, 1, none⟩ = false ∧ w.frozen? ⟨g, 2, none⟩ = false ∧ w.frozen? ⟨g, 3, none⟩ = false ∧ w.frozen? ⟨g, 4, none⟩ = false ∧ w.frozen? ⟨g, 5, none⟩ = false ∧ w.frozen? ⟨g, 6, none⟩ = false := by
  unfold RunAt at h
  refine ⟨?_, ?_, ?_, ?_, ?_, ?_, ?_⟩ <;> simp [World.frozen?, h]
theorem results_run {fn : Func} {p u : Tmp} (h : fn.results = #[.cell p 65, .tmp u]) (tmps : Array Value) (w : World) (g : Nat) (x : Nat × Cel) (hp : tmps.getD p undef = .pointer (some ⟨g, 0, none⟩)) (hg : RunAt w g x) :
    (results fn tmps).run Tryd.prog w = .ok (.tuple #[runV x, tmps.getD u undef]) w := by
  rw [results_cell_tmp h, hp]
  have := run_loadVar_row (P := Tryd.prog) w g 65 65 _ (0, 0) _ hg Tryd.underlying65 rfl (by kernel_rfl)
  simp [asAddr, this, runV]
def TakeRPost (w : World) (g : Nat) (r : Option (Nat × Cel) × List Nat × Bool) (e : Ending) (w' : World) : Prop :=
  e = .returned (.tuple #[runV (r.1.getD (0, ⟨0, KM.zero⟩)), .bool r.1.isSome]) ∧ Rd w' g r.2.1 r.2.2 ∧ w.grownBy w' (some g)

set_option maxRecDepth 100000 in
set_option maxHeartbeats 1000000 in
theorem takeRun_ok (w : World) (g : Nat) (l : List Nat) (bad : Bool) (h : Rd w g l bad) :
    Calls Tryd.prog 50 #[.pointer (some ⟨g, 0, none⟩)] w (TakeRPost w g (takeR l bad)) := by
  have hgl := h.lt
  have hz := fun w => build_run0 w
  have HN := Lib.hid (fun (v : World) (hv : Rd v g l bad) => num_any v g l bad 0 (by omega) hv)
  rw [show lim 0 = 9223372036854775808 from rfl] at HN
  have hlt := numOf_lt l bad 9223372036854775808 (by omega)
  have HR := Lib.hid h
  clear h
  unfold takeR
  simp only
  generalize numOf l bad 9223372036854775808 = r1 at *
  obtain ⟨n, l1, bad1⟩ := r1
  simp only at hlt ⊢
  have HN2 := Lib.hid (fun (v : World) (hv : Rd v g l1 bad1) => num_any v g l1 bad1 1114112 (by omega) hv)
  rw [show lim 1114112 = 1114112 from rfl] at HN2
  have hlt2 := numOf_lt l1 bad1 1114112 (by omega)
  generalize numOf l1 bad1 1114112 = r2 at *
  obtain ⟨r, l2, bad2⟩ := r2
  simp only at hlt2 ⊢
  have HS := Lib.hid (fun (v : World) (hv : Rd v g l2 bad2) => takeStyle_ok v g l2 bad2 hv)
  generalize takeS l2 bad2 = r3 at *
  obtain ⟨o, l3, bad3⟩ := r3
  simp only
  generalize hx : (o.bind fun s => if n = 0 then none else some (n, (⟨(r : Int), s⟩ : Cel))) = x
  have HX := Lib.hid hx
  clear hx
  obtain ⟨w0, hw0⟩ : ∃ w0, w0 = w.alloc (.cells #[.int .i64 0, .int .i32 0, .bool false, .bool false, .bool false, .int .i64 0, .int .i64 0] 65) := ⟨_, rfl⟩
  have hb0 : Below w.heap.size w w0 := by rw [hw0]; exact (Below.refl _ _).alloc (Nat.le_refl _) _
  have hs0 : RunAt w0 w.heap.size (0, ⟨0, KM.zero⟩) := by rw [hw0]; exact heap_alloc_new w _
  have W0 := Lib.hid hw0
  have HB0 := Lib.hid hb0
  have HS0 := Lib.hid hs0
  have hz0 := hb0.size
  clear hw0 hb0 hs0
  go_enter Tryd.func50, Tryd.ntmps50
  go_wp2_with fail
  rw [← W0.out]
  refine (HN.out w0 (HR.out.on HB0.out hgl)).mono ?_
  rintro e w1 ⟨rfl, hr1, hg1⟩
  have HR1 := Lib.hid hr1
  have HG1 := Lib.hid (only_first HB0.out hg1)
  have hz1 := hg1.size
  have HS1 := Lib.hid (show RunAt w1 w.heap.size (0, ⟨0, KM.zero⟩) from (hg1.block w.heap.size HS0.out.lt (by simp; omega)).trans HS0.out)
  clear hr1 hg1
  go_wp2_with fail
  refine (HN2.out w1 HR1.out).mono ?_
  rintro e w2 ⟨rfl, hr2, hg2⟩
  have HR2 := Lib.hid hr2
  have HG2 := Lib.hid (only_trans HG1.out hg2)
  have hz2 := hg2.size
  have HS2 := Lib.hid (show RunAt w2 w.heap.size (0, ⟨0, KM.zero⟩) from (hg2.block w.heap.size HS1.out.lt (by simp; omega)).trans HS1.out)
  clear hr2 hg2
  go_wp2_with fail
  refine (HS.out w2 HR2.out).mono ?_
  rintro e w3 ⟨rfl, hr3, hg3⟩
  have HR3 := Lib.hid hr3
  have HG3 := Lib.hid (only_trans HG2.out hg3)
  have hz3 := hg3.size
  have HS3 := Lib.hid (show RunAt w3 w.heap.size (0, ⟨0, KM.zero⟩) from (hg3.block w.heap.size HS2.out.lt (by simp; omega)).trans HS2.out)
  clear hr3 hg3
  simp only
  rcases o with _ | s
  · obtain rfl : x = none := by rw [← HX.out]; rfl
    simp only [Option.getD_none, Option.isSome_none, styV, KM.zero]
    go_upto_region 4 with fail
    obtain ⟨w4, hw4⟩ : ∃ w4, w4 = w3.alloc (.cells #[.bool false, .bool false, .bool false, .int .i64 0, .int .i64 0] 23) := ⟨_, rfl⟩
    rw [← hw4]
    have hb4 : Below w3.heap.size w3 w4 := by rw [hw4]; exact (Below.refl _ _).alloc (Nat.le_refl _) _
    have HR4 := Lib.hid (HR3.out.on hb4 HR3.out.lt)
    have HG4 := Lib.hid (only_next HG3.out (hb4.mono (by omega)))
    have HS4 := Lib.hid (HS3.out.below hb4 HS3.out.lt)
    obtain ⟨k0, k1, k2, k3, k4, k5, k6⟩ := HS4.out.free
    obtain ⟨m0, m1, m2, m3, m4, m5, m6⟩ := HS4.out.cells
    clear hb4 hw4
    go_wp2_with fail
    refine bodyPost_ret (results_run rfl _ _ w.heap.size (0, ⟨0, KM.zero⟩) rfl (setR_at HS4.out 0 0 false false false 0 0)) rfl ⟨rfl, HR4.out.on (setR_below (Below.refl w.heap.size w4) (Nat.le_refl _) 0 0 false false false 0 0) hgl, only_next HG4.out (setR_below (Below.refl w.heap.size w4) (Nat.le_refl _) 0 0 false false false 0 0)⟩
  · obtain ⟨b, u, t, f, k⟩ := s
    simp only [Option.getD_some, Option.isSome_some, styV]
    go_upto_region 4 with fail
    obtain ⟨w4, hw4⟩ : ∃ w4, w4 = w3.alloc (.cells #[.bool b, .bool u, .bool t, .int .i64 f, .int .i64 k] 23) := ⟨_, rfl⟩
    rw [← hw4]
    have hb4 : Below w3.heap.size w3 w4 := by rw [hw4]; exact (Below.refl _ _).alloc (Nat.le_refl _) _
    have hs4 : StyAt w4 w3.heap.size ⟨b, u, t, f, k⟩ := by rw [hw4]; exact heap_alloc_new w3 _
    obtain ⟨d0, d1, d2, d3, d4, _, _, _, _, _⟩ := hs4.cells
    simp only at d0 d1 d2 d3 d4
    have HR4 := Lib.hid (HR3.out.on hb4 HR3.out.lt)
    have HG4 := Lib.hid (only_next HG3.out (hb4.mono (by omega)))
    have HS4 := Lib.hid (HS3.out.below hb4 HS3.out.lt)
    obtain ⟨k0, k1, k2, k3, k4, k5, k6⟩ := HS4.out.free
    obtain ⟨m0, m1, m2, m3, m4, m5, m6⟩ := HS4.out.cells
    clear hb4 hw4 hs4
    by_cases hn : n = 0
    · have g0 : ((n : Int) == 0) = true := by simp [hn]
      obtain rfl : x = none := by rw [← HX.out, Option.bind_some, if_pos hn]
      clear hn
      go_wp2_with fail
      refine bodyPost_ret (results_run rfl _ _ w.heap.size (0, ⟨0, KM.zero⟩) rfl (setR_at HS4.out 0 0 false false false 0 0)) rfl ⟨rfl, HR4.out.on (setR_below (Below.refl w.heap.size w4) (Nat.le_refl _) 0 0 false false false 0 0) hgl, only_next HG4.out (setR_below (Below.refl w.heap.size w4) (Nat.le_refl _) 0 0 false false false 0 0)⟩
    · have g0 : ((n : Int) == 0) = false := by simp [hn]
      obtain rfl : x = some (n, ⟨(r : Int), ⟨b, u, t, f, k⟩⟩) := by rw [← HX.out, Option.bind_some, if_neg hn]
      have hbc := fun v => build_cell v (r : Int) b u t f k
      have hbr := fun v => build_run v (n : Int) (r : Int) b u t f k
      clear hn
      go_wp2_with fail
      refine bodyPost_ret (results_run rfl _ _ w.heap.size (n, ⟨(r : Int), ⟨b, u, t, f, k⟩⟩) rfl (setR_at HS4.out n r b u t f k)) rfl ⟨rfl, HR4.out.on (setR_below (Below.refl w.heap.size w4) (Nat.le_refl _) n r b u t f k) hgl, only_next HG4.out (setR_below (Below.refl w.heap.size w4) (Nat.le_refl _) n r b u t f k)⟩
/-- What takeRuns answers. -/
def RunsTPost (w : World) (g : Nat) (R : Option (List (Nat × Cel) × List Nat × Bool)) (e : Ending) (w' : World) : Prop :=
  (R = none ∧ e = .returned (.tuple #[.slice none 0 0, .bool false]) ∧ w.grownBy w' (some g)) ∨
  ∃ T v, R = some T ∧ e = .returned (.tuple #[v, .bool true]) ∧ runE.Own w' w.heap.size v T.1 ∧ Rd w' g T.2.1 T.2.2 ∧ w.grownBy w' (some g)
theorem own_apart {α : Type} {E : El α} {w : World} {base g : Nat} {v : Value} {L : List α} (h : E.Own w base v L) (hg : g < base) : ∀ k, v.ownBlock = some k → (some g : Option Nat) ≠ some k := fun k hk e => by
  have := (h.lt k hk).1
  injection e with e
  omega

set_option maxRecDepth 100000 in
set_option maxHeartbeats 1000000 in
theorem takeRuns_ok (w : World) (g : Nat) (l : List Nat) (bad : Bool) (W : Nat) (hW : W ≤ 1000) (h : Rd w g l bad) :
    Calls Tryd.prog 43 #[.pointer (some ⟨g, 0, none⟩), .int .i64 (W : Int)] w (RunsTPost w g (tr [] W l bad)) := by
  have hgl := h.lt
  have HR := Lib.hid h
  clear h
  generalize hR : tr [] W l bad = R
  have HTR := Lib.hid hR
  clear hR
  go_enter Tryd.func43, Tryd.ntmps43
  go_wp2
  go_loopw [6, 7] (fun v i wr => ∃ (out : List (Nat × Cel)) (left : Nat) (l' : List Nat) (bad' : Bool), out.length + left ≤ W ∧ i = .int .i64 (left : Int) ∧ w.grownBy wr (some g) ∧ runE.Own wr w.heap.size v out ∧ Rd wr g l' bad' ∧ tr out left l' bad' = R) (fun _ i _ => (RowKit.intOf i).toNat)
  case atStart => exact ⟨[], W, l, bad, by simp, rfl, only_refl _ _, El.Own.nil _ _, HR.out, HTR.out⟩
  case round =>
    obtain ⟨out, left, l', bad', hlen, rfl, hgr, ho, hrd, htr⟩ := hrel
    have HG := Lib.hid hgr
    have HO := Lib.hid ho
    have HRD := Lib.hid hrd
    have HTR' := Lib.hid htr
    have hz := hgr.size
    clear hgr ho hrd htr HTR
    rcases Nat.eq_zero_or_pos left with h0 | hp
    · subst h0
      have HE := Lib.hid ((tr_zero out l' bad').symm.trans HTR'.out)
      go_wp2_with fail
      go_ret2
      exact .inr ⟨(out, l', bad'), u6, HE.out.symm, rfl, HO.out, HRD.out, HG.out⟩
    · have g1 : decide ((0 : Int) < (left : Int)) = true := by simp; omega
      have gn : decide (0 < left) = true := by simp; omega
      have HT := Lib.hid (takeRun_ok wr g l' bad' HRD.out)
      have HN := Lib.hid (fun hx => (tr_none out left l' bad' hp hx).symm.trans HTR'.out)
      have HNT := Lib.hid (fun x hx hn => (tr_not out left l' bad' x hp hx hn).symm.trans HTR'.out)
      have HSM := Lib.hid (fun x hx h0 h1 hg => (tr_some out left l' bad' x hp hx h0 h1 hg).symm.trans HTR'.out)
      have HPS := Lib.hid (fun x => takeR_pos (l := l') (bad := bad') (x := x))
      generalize takeR l' bad' = r at *
      obtain ⟨o, l2, bad2⟩ := r
      simp only at *
      rcases o with _ | x
      · obtain rfl : R = none := (HN.out rfl).symm
        go_wp2_with fail
        refine HT.out.mono ?_
        rintro e w1 ⟨rfl, _, hg1⟩
        have HG1 := Lib.hid (only_trans HG.out hg1)
        have hz1 := hg1.size
        clear hg1
        simp only [Option.getD_none, Option.isSome_none, runV, KM.zero]
        go_upto_region 5 with fail
        obtain ⟨w2, hw2⟩ : ∃ w2, w2 = w1.alloc (.cells #[.int .i64 0, .int .i32 0, .bool false, .bool false, .bool false, .int .i64 0, .int .i64 0] 65) := ⟨_, rfl⟩
        have HG2 := Lib.hid (show w.grownBy w2 (some g) by rw [hw2]; exact only_next HG1.out (((Below.refl _ _).alloc (Nat.le_refl _) _).mono (by omega)))
        have W2 := Lib.hid hw2
        clear hw2
        have e0 : ((0 : Nat) : Int) = 0 := rfl
        try rw [e0]
        rw [← W2.out]
        go_wp2_with fail
        go_ret2
        exact .inl ⟨rfl, rfl, HG2.out⟩
      · have hx0 := HPS.out x rfl
        have HOA := Lib.hid (own_apart HO.out hgl)
        obtain ⟨n, ⟨r, ⟨b, u, t, f, k⟩⟩⟩ := x
        simp only at hx0
        by_cases hle : n ≤ left
        · have g2 : decide ((left : Int) < (n : Int)) = false := by simp; omega
          have g2n : decide (left < n) = false := by simp; omega
          rcases hgo : goes out ⟨r, ⟨b, u, t, f, k⟩⟩ with _ | _
          · have HST := Lib.hid (HSM.out _ rfl hx0 hle hgo)
            have HGO := Lib.hid hgo
            clear hgo
            go_wp2_with fail
            refine HT.out.mono ?_
            rintro e w1 ⟨rfl, hr1, hg1⟩
            have HG1 := Lib.hid (only_trans HG.out hg1)
            have hz1 := hg1.size
            have HO1 := Lib.hid (HO.out.grown hg1 HOA.out)
            have HR1 := Lib.hid hr1
            clear hg1 hr1
            simp only [Option.getD_some, Option.isSome_some, runV]
            go_upto_region 5 with fail
            obtain ⟨w2, hw2⟩ : ∃ w2, w2 = w1.alloc (.cells #[.int .i64 (n : Int), .int .i32 r, .bool b, .bool u, .bool t, .int .i64 f, .int .i64 k] 65) := ⟨_, rfl⟩
            have b2 : Below w1.heap.size w1 w2 := by rw [hw2]; exact (Below.refl _ _).alloc (Nat.le_refl _) _
            have hc2 : RunAt w2 w1.heap.size (n, ⟨r, ⟨b, u, t, f, k⟩⟩) := by rw [hw2]; exact heap_alloc_new w1 _
            have HG2 := Lib.hid (only_next HG1.out (b2.mono (by omega)))
            have HO2 := Lib.hid (HO1.out.below b2)
            have HR2 := Lib.hid (HR1.out.on b2 HR1.out.lt)
            have HC2 := Lib.hid hc2
            have z2 := b2.size
            have HNE := Lib.hid (show ∀ k, u6.ownBlock = some k → k ≠ w1.heap.size from fun k hk => by have := (HO1.out.lt k hk).2; omega)
            rw [← hw2]
            obtain ⟨d0, d1, d2, d3, d4, d5, d6⟩ := hc2.cells
            simp only at d0 d1 d2 d3 d4 d5 d6
            clear hw2 b2 hc2
            obtain ⟨A6, c6, rfl, _, _, _, hr6⟩ := HO2.out.row
            have HGC := Lib.hid (goesOn_ok w2 out A6 c6 w2.heap.size hr6 (Nat.le_refl _) (by omega) ⟨r, ⟨b, u, t, f, k⟩⟩)
            simp only [celV] at HGC
            clear hr6
            go_wp2_with fail
            refine HGC.out.mono ?_
            rw [HGO.out]
            rintro e w3 ⟨rfl, b3⟩
            have HG3 := Lib.hid (only_next HG2.out (b3.mono (by omega)))
            have HO3 := Lib.hid (HO2.out.below b3)
            have HR3 := Lib.hid (HR2.out.on b3 HR2.out.lt)
            have HC3 := Lib.hid (HC2.out.below b3 HC2.out.lt)
            have z3 := b3.size
            obtain ⟨e0, e1, e2, e3, e4, e5, e6⟩ := HC3.out.cells
            simp only at e0 e1 e2 e3 e4 e5 e6
            clear b3 d0 d1 d2 d3 d4 d5 d6
            go_wp2_with (at_builtin; refine runE.wp_append1 rfl (.tmp 32) (.tmp 34) rfl w.heap.size _ out rfl HO3.out (n, ⟨r, ⟨b, u, t, f, k⟩⟩) #[.int .i64 (n : Int), .int .i32 r, .bool b, .bool u, .bool t, .int .i64 f, .int .i64 k] 65 rfl rfl ?c1 ?c2 (by omega) ?_)
            case c1 => simp only [runE]; omega
            case c2 => unfold maxLen; omega
            intro v4 w4 o4 g4
            have b4 := HO3.out.grow_below g4 (by omega)
            have HO4 := Lib.hid o4
            have HG4 := Lib.hid (only_next HG3.out b4)
            have HR4 := Lib.hid (HR3.out.on b4 hgl)
            have hc4 := HC3.out.grow g4 HNE.out
            clear o4 g4 b4 e0 e1 e2 e3 e4 e5 e6
            obtain ⟨e0, e1, e2, e3, e4, e5, e6⟩ := hc4.cells
            simp only at e0 e1 e2 e3 e4 e5 e6
            clear hc4
            go_wp2_with fail
            go_roundw
            case rel => exact ⟨out ++ [(n, ⟨r, ⟨b, u, t, f, k⟩⟩)], left - n, l2, bad2, by simp; omega, by congr 1; omega, HG4.out, HO4.out, HR4.out, HST.out⟩
            case measure => simp [RowKit.intOf]; omega
          · obtain rfl : R = none := (HNT.out _ rfl (Or.inr hgo)).symm
            have HGO := Lib.hid hgo
            clear hgo
            go_wp2_with fail
            refine HT.out.mono ?_
            rintro e w1 ⟨rfl, hr1, hg1⟩
            have HG1 := Lib.hid (only_trans HG.out hg1)
            have hz1 := hg1.size
            have HO1 := Lib.hid (HO.out.grown hg1 HOA.out)
            clear hg1 hr1
            simp only [Option.getD_some, Option.isSome_some, runV]
            go_upto_region 5 with fail
            obtain ⟨w2, hw2⟩ : ∃ w2, w2 = w1.alloc (.cells #[.int .i64 (n : Int), .int .i32 r, .bool b, .bool u, .bool t, .int .i64 f, .int .i64 k] 65) := ⟨_, rfl⟩
            have b2 : Below w1.heap.size w1 w2 := by rw [hw2]; exact (Below.refl _ _).alloc (Nat.le_refl _) _
            have hc2 : RunAt w2 w1.heap.size (n, ⟨r, ⟨b, u, t, f, k⟩⟩) := by rw [hw2]; exact heap_alloc_new w1 _
            have HG2 := Lib.hid (only_next HG1.out (b2.mono (by omega)))
            have HO2 := Lib.hid (HO1.out.below b2)
            have z2 := b2.size
            rw [← hw2]
            obtain ⟨d0, d1, d2, d3, d4, d5, d6⟩ := hc2.cells
            simp only at d0 d1 d2 d3 d4 d5 d6
            clear hw2 b2 hc2
            obtain ⟨A6, c6, rfl, _, _, _, hr6⟩ := HO2.out.row
            have HGC := Lib.hid (goesOn_ok w2 out A6 c6 w2.heap.size hr6 (Nat.le_refl _) (by omega) ⟨r, ⟨b, u, t, f, k⟩⟩)
            simp only [celV] at HGC
            clear hr6
            go_wp2_with fail
            refine HGC.out.mono ?_
            rw [HGO.out]
            rintro e w3 ⟨rfl, b3⟩
            have HG3 := Lib.hid (only_next HG2.out (b3.mono (by omega)))
            clear b3
            go_wp2_with fail
            go_ret2
            exact .inl ⟨rfl, rfl, HG3.out⟩
        · have g2 : decide ((left : Int) < (n : Int)) = true := by simp; omega
          have g2n : decide (left < n) = true := by simp; omega
          obtain rfl : R = none := (HNT.out _ rfl (Or.inl (by simp only; omega))).symm
          go_wp2_with fail
          refine HT.out.mono ?_
          rintro e w1 ⟨rfl, hr1, hg1⟩
          have HG1 := Lib.hid (only_trans HG.out hg1)
          have hz1 := hg1.size
          clear hg1 hr1
          simp only [Option.getD_some, Option.isSome_some, runV]
          go_upto_region 5 with fail
          obtain ⟨w2, hw2⟩ : ∃ w2, w2 = w1.alloc (.cells #[.int .i64 (n : Int), .int .i32 r, .bool b, .bool u, .bool t, .int .i64 f, .int .i64 k] 65) := ⟨_, rfl⟩
          have b2 : Below w1.heap.size w1 w2 := by rw [hw2]; exact (Below.refl _ _).alloc (Nat.le_refl _) _
          have hc2 : RunAt w2 w1.heap.size (n, ⟨r, ⟨b, u, t, f, k⟩⟩) := by rw [hw2]; exact heap_alloc_new w1 _
          have HG2 := Lib.hid (only_next HG1.out (b2.mono (by omega)))
          rw [← hw2]
          obtain ⟨d0, d1, d2, d3, d4, d5, d6⟩ := hc2.cells
          simp only at d0 d1 d2 d3 d4 d5 d6
          clear hw2 b2 hc2
          go_wp2_with fail
          go_ret2
          exact .inl ⟨rfl, rfl, HG2.out⟩
end Go.Proofs.YtalngmegenlfgaaDoor
