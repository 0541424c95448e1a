/-
  KTakeR, KTakeL, SText, JMath, in one text.
-/
import Derived.Test.YtdolapobkhhanaaDoorM04
import Derived.Test.YtdolapobkhhanaaDoorM02
import Derived.Test.YtdolapobkhhanaaDoorM03
import Derived.Lib.MapLaws
/-
  Layer 8 (cell): takeRun, takeRuns, TakeLine.
-/
namespace Go.Proofs.YtdolapobkhhanaaDoor
open Go.RowKit Go.Lib KM

/-- A run stored over another one. -/
def setR (w : World) (g : Nat) (n r : Int) (b u t : Bool) (f k : Int) : World := ((((((w.setCell ⟨g, 0, none⟩ (.int .i64 n)).setCell ⟨g, 1, none⟩ (.int .i32 r)).setCell ⟨g, 2, none⟩ (.bool b)).setCell ⟨g, 3, none⟩ (.bool u)).setCell ⟨g, 4, none⟩ (.bool t)).setCell ⟨g, 5, none⟩ (.int .i64 f)).setCell ⟨g, 6, none⟩ (.int .i64 k)
theorem setR_at {w : World} {g : Nat} {x : Nat × Cel} (h : RunAt w g x) (n : Nat) (r : Int) (b u t : Bool) (f k : Int) : RunAt (setR w g n r b u t f k) g (n, ⟨r, ⟨b, u, t, f, k⟩⟩) := by
  unfold RunAt at h ⊢
  simp [setR, World.setCell, Array.getElem?_modify, h]
theorem setR_below {w w0 : World} {g B : Nat} (h : Below B w0 w) (hg : B ≤ g) (n r : Int) (b u t : Bool) (f k : Int) : Below B w0 (setR w g n r b u t f k) := by
  unfold setR
  exact ((((((h.setCell (p := ⟨g, 0, none⟩) hg _).setCell (p := ⟨g, 1, none⟩) hg _).setCell (p := ⟨g, 2, none⟩) hg _).setCell (p := ⟨g, 3, none⟩) hg _).setCell (p := ⟨g, 4, none⟩) hg _).setCell (p := ⟨g, 5, none⟩) hg _).setCell (p := ⟨g, 6, none⟩) hg _
theorem RunAt.free {w : World} {g : Nat} {x : Nat × Cel} (h : RunAt w g x) : w.frozen? ⟨g, 0, none⟩ = false ∧ w.frozen? ⟨g, 1, none⟩ = false ∧ w.frozen? ⟨g, 2, none⟩ = false ∧ w.frozen? ⟨g, 3, none⟩ = false ∧ w.frozen? ⟨g, 4, none⟩ = false ∧ w.frozen? ⟨g, 5, none⟩ = false ∧ w.frozen? ⟨g, 6, none⟩ = false := by
  unfold RunAt at h
  refine ⟨?_, ?_, ?_, ?_, ?_, ?_, ?_⟩ <;> simp [World.frozen?, h]
theorem results_run {fn : Func} {p u : Tmp} (h : fn.results = #[.cell p 130, .tmp u]) (tmps : Array Value) (w : World) (g : Nat) (x : Nat × Cel) (hp : tmps.getD p undef = .pointer (some ⟨g, 0, none⟩)) (hg : RunAt w g x) :
    (results fn tmps).run Tryd.prog w = .ok (.tuple #[runV x, tmps.getD u undef]) w := by
  rw [results_cell_tmp h, hp]
  have := run_loadVar_row (P := Tryd.prog) w g 130 130 _ (0, 0) _ hg Tryd.underlying130 rfl (by kernel_rfl)
  simp [asAddr, this, runV]
def TakeRPost (w : World) (g : Nat) (r : Option (Nat × Cel) × List Nat × Bool) (e : Ending) (w' : World) : Prop :=
  e = .returned (.tuple #[runV (r.1.getD (0, ⟨0, KM.zero⟩)), .bool r.1.isSome]) ∧ Rd w' g r.2.1 r.2.2 ∧ w.grownBy w' (some g)

set_option maxRecDepth 100000 in
set_option maxHeartbeats 1000000 in
theorem takeRun_ok (w : World) (g : Nat) (l : List Nat) (bad : Bool) (h : Rd w g l bad) :
    Calls Tryd.prog 74 #[.pointer (some ⟨g, 0, none⟩)] w (TakeRPost w g (takeR l bad)) := by
  have hgl := h.lt
  have hz := fun w => build_run0 w
  have HN := Lib.hid (fun (v : World) (hv : Rd v g l bad) => num_any v g l bad 0 (by omega) hv)
  rw [show lim 0 = 9223372036854775808 from rfl] at HN
  have hlt := numOf_lt l bad 9223372036854775808 (by omega)
  have HR := Lib.hid h
  clear h
  unfold takeR
  simp only
  generalize numOf l bad 9223372036854775808 = r1 at *
  obtain ⟨n, l1, bad1⟩ := r1
  simp only at hlt ⊢
  have HN2 := Lib.hid (fun (v : World) (hv : Rd v g l1 bad1) => num_any v g l1 bad1 1114112 (by omega) hv)
  rw [show lim 1114112 = 1114112 from rfl] at HN2
  have hlt2 := numOf_lt l1 bad1 1114112 (by omega)
  generalize numOf l1 bad1 1114112 = r2 at *
  obtain ⟨r, l2, bad2⟩ := r2
  simp only at hlt2 ⊢
  have HS := Lib.hid (fun (v : World) (hv : Rd v g l2 bad2) => takeStyle_ok v g l2 bad2 hv)
  generalize takeS l2 bad2 = r3 at *
  obtain ⟨o, l3, bad3⟩ := r3
  simp only
  generalize hx : (o.bind fun s => if n = 0 then none else some (n, (⟨(r : Int), s⟩ : Cel))) = x
  have HX := Lib.hid hx
  clear hx
  obtain ⟨w0, hw0⟩ : ∃ w0, w0 = w.alloc (.cells #[.int .i64 0, .int .i32 0, .bool false, .bool false, .bool false, .int .i64 0, .int .i64 0] 130) := ⟨_, rfl⟩
  have hb0 : Below w.heap.size w w0 := by rw [hw0]; exact (Below.refl _ _).alloc (Nat.le_refl _) _
  have hs0 : RunAt w0 w.heap.size (0, ⟨0, KM.zero⟩) := by rw [hw0]; exact heap_alloc_new w _
  have W0 := Lib.hid hw0
  have HB0 := Lib.hid hb0
  have HS0 := Lib.hid hs0
  have hz0 := hb0.size
  clear hw0 hb0 hs0
  go_enter Tryd.func74, Tryd.ntmps74
  go_wp2_with fail
  rw [← W0.out]
  refine (HN.out w0 (HR.out.on HB0.out hgl)).mono ?_
  rintro e w1 ⟨rfl, hr1, hg1⟩
  have HR1 := Lib.hid hr1
  have HG1 := Lib.hid (only_first HB0.out hg1)
  have hz1 := hg1.size
  have HS1 := Lib.hid (show RunAt w1 w.heap.size (0, ⟨0, KM.zero⟩) from (hg1.block w.heap.size HS0.out.lt (by simp; omega)).trans HS0.out)
  clear hr1 hg1
  go_wp2_with fail
  refine (HN2.out w1 HR1.out).mono ?_
  rintro e w2 ⟨rfl, hr2, hg2⟩
  have HR2 := Lib.hid hr2
  have HG2 := Lib.hid (only_trans HG1.out hg2)
  have hz2 := hg2.size
  have HS2 := Lib.hid (show RunAt w2 w.heap.size (0, ⟨0, KM.zero⟩) from (hg2.block w.heap.size HS1.out.lt (by simp; omega)).trans HS1.out)
  clear hr2 hg2
  go_wp2_with fail
  refine (HS.out w2 HR2.out).mono ?_
  rintro e w3 ⟨rfl, hr3, hg3⟩
  have HR3 := Lib.hid hr3
  have HG3 := Lib.hid (only_trans HG2.out hg3)
  have hz3 := hg3.size
  have HS3 := Lib.hid (show RunAt w3 w.heap.size (0, ⟨0, KM.zero⟩) from (hg3.block w.heap.size HS2.out.lt (by simp; omega)).trans HS2.out)
  clear hr3 hg3
  simp only
  rcases o with _ | s
  · obtain rfl : x = none := by rw [← HX.out]; rfl
    simp only [Option.getD_none, Option.isSome_none, styV, KM.zero]
    go_upto_region 4 with fail
    obtain ⟨w4, hw4⟩ : ∃ w4, w4 = w3.alloc (.cells #[.bool false, .bool false, .bool false, .int .i64 0, .int .i64 0] 30) := ⟨_, rfl⟩
    rw [← hw4]
    have hb4 : Below w3.heap.size w3 w4 := by rw [hw4]; exact (Below.refl _ _).alloc (Nat.le_refl _) _
    have HR4 := Lib.hid (HR3.out.on hb4 HR3.out.lt)
    have HG4 := Lib.hid (only_next HG3.out (hb4.mono (by omega)))
    have HS4 := Lib.hid (HS3.out.below hb4 HS3.out.lt)
    obtain ⟨k0, k1, k2, k3, k4, k5, k6⟩ := HS4.out.free
    obtain ⟨m0, m1, m2, m3, m4, m5, m6⟩ := HS4.out.cells
    clear hb4 hw4
    go_wp2_with fail
    refine bodyPost_ret (results_run rfl _ _ w.heap.size (0, ⟨0, KM.zero⟩) rfl (setR_at HS4.out 0 0 false false false 0 0)) rfl ⟨rfl, HR4.out.on (setR_below (Below.refl w.heap.size w4) (Nat.le_refl _) 0 0 false false false 0 0) hgl, only_next HG4.out (setR_below (Below.refl w.heap.size w4) (Nat.le_refl _) 0 0 false false false 0 0)⟩
  · obtain ⟨b, u, t, f, k⟩ := s
    simp only [Option.getD_some, Option.isSome_some, styV]
    go_upto_region 4 with fail
    obtain ⟨w4, hw4⟩ : ∃ w4, w4 = w3.alloc (.cells #[.bool b, .bool u, .bool t, .int .i64 f, .int .i64 k] 30) := ⟨_, rfl⟩
    rw [← hw4]
    have hb4 : Below w3.heap.size w3 w4 := by rw [hw4]; exact (Below.refl _ _).alloc (Nat.le_refl _) _
    have hs4 : StyAt w4 w3.heap.size ⟨b, u, t, f, k⟩ := by rw [hw4]; exact heap_alloc_new w3 _
    obtain ⟨d0, d1, d2, d3, d4, _, _, _, _, _⟩ := hs4.cells
    simp only at d0 d1 d2 d3 d4
    have HR4 := Lib.hid (HR3.out.on hb4 HR3.out.lt)
    have HG4 := Lib.hid (only_next HG3.out (hb4.mono (by omega)))
    have HS4 := Lib.hid (HS3.out.below hb4 HS3.out.lt)
    obtain ⟨k0, k1, k2, k3, k4, k5, k6⟩ := HS4.out.free
    obtain ⟨m0, m1, m2, m3, m4, m5, m6⟩ := HS4.out.cells
    clear hb4 hw4 hs4
    by_cases hn : n = 0
    · have g0 : ((n : Int) == 0) = true := by simp [hn]
      obtain rfl : x = none := by rw [← HX.out, Option.bind_some, if_pos hn]
      clear hn
      go_wp2_with fail
      refine bodyPost_ret (results_run rfl _ _ w.heap.size (0, ⟨0, KM.zero⟩) rfl (setR_at HS4.out 0 0 false false false 0 0)) rfl ⟨rfl, HR4.out.on (setR_below (Below.refl w.heap.size w4) (Nat.le_refl _) 0 0 false false false 0 0) hgl, only_next HG4.out (setR_below (Below.refl w.heap.size w4) (Nat.le_refl _) 0 0 false false false 0 0)⟩
    · have g0 : ((n : Int) == 0) = false := by simp [hn]
      obtain rfl : x = some (n, ⟨(r : Int), ⟨b, u, t, f, k⟩⟩) := by rw [← HX.out, Option.bind_some, if_neg hn]
      have hbc := fun v => build_cell v (r : Int) b u t f k
      have hbr := fun v => build_run v (n : Int) (r : Int) b u t f k
      clear hn
      go_wp2_with fail
      refine bodyPost_ret (results_run rfl _ _ w.heap.size (n, ⟨(r : Int), ⟨b, u, t, f, k⟩⟩) rfl (setR_at HS4.out n r b u t f k)) rfl ⟨rfl, HR4.out.on (setR_below (Below.refl w.heap.size w4) (Nat.le_refl _) n r b u t f k) hgl, only_next HG4.out (setR_below (Below.refl w.heap.size w4) (Nat.le_refl _) n r b u t f k)⟩
/-- What takeRuns answers. -/
def RunsTPost (w : World) (g : Nat) (R : Option (List (Nat × Cel) × List Nat × Bool)) (e : Ending) (w' : World) : Prop :=
  (R = none ∧ e = .returned (.tuple #[.slice none 0 0, .bool false]) ∧ w.grownBy w' (some g)) ∨
  ∃ T v, R = some T ∧ e = .returned (.tuple #[v, .bool true]) ∧ runE.Own w' w.heap.size v T.1 ∧ Rd w' g T.2.1 T.2.2 ∧ w.grownBy w' (some g)
theorem own_apart {α : Type} {E : El α} {w : World} {base g : Nat} {v : Value} {L : List α} (h : E.Own w base v L) (hg : g < base) : ∀ k, v.ownBlock = some k → (some g : Option Nat) ≠ some k := fun k hk e => by
  have := (h.lt k hk).1
  injection e with e
  omega

set_option maxRecDepth 100000 in
set_option maxHeartbeats 1000000 in
theorem takeRuns_ok (w : World) (g : Nat) (l : List Nat) (bad : Bool) (W : Nat) (hW : W ≤ 1000) (h : Rd w g l bad) :
    Calls Tryd.prog 67 #[.pointer (some ⟨g, 0, none⟩), .int .i64 (W : Int)] w (RunsTPost w g (tr [] W l bad)) := by
  have hgl := h.lt
  have HR := Lib.hid h
  clear h
  generalize hR : tr [] W l bad = R
  have HTR := Lib.hid hR
  clear hR
  go_enter Tryd.func67, Tryd.ntmps67
  go_wp2
  go_loopw [6, 7] (fun v i wr => ∃ (out : List (Nat × Cel)) (left : Nat) (l' : List Nat) (bad' : Bool), out.length + left ≤ W ∧ i = .int .i64 (left : Int) ∧ w.grownBy wr (some g) ∧ runE.Own wr w.heap.size v out ∧ Rd wr g l' bad' ∧ tr out left l' bad' = R) (fun _ i _ => (RowKit.intOf i).toNat)
  case atStart => exact ⟨[], W, l, bad, by simp, rfl, only_refl _ _, El.Own.nil _ _, HR.out, HTR.out⟩
  case round =>
    obtain ⟨out, left, l', bad', hlen, rfl, hgr, ho, hrd, htr⟩ := hrel
    have HG := Lib.hid hgr
    have HO := Lib.hid ho
    have HRD := Lib.hid hrd
    have HTR' := Lib.hid htr
    have hz := hgr.size
    clear hgr ho hrd htr HTR
    rcases Nat.eq_zero_or_pos left with h0 | hp
    · subst h0
      have HE := Lib.hid ((tr_zero out l' bad').symm.trans HTR'.out)
      go_wp2_with fail
      go_ret2
      exact .inr ⟨(out, l', bad'), u6, HE.out.symm, rfl, HO.out, HRD.out, HG.out⟩
    · have g1 : decide ((0 : Int) < (left : Int)) = true := by simp; omega
      have gn : decide (0 < left) = true := by simp; omega
      have HT := Lib.hid (takeRun_ok wr g l' bad' HRD.out)
      have HN := Lib.hid (fun hx => (tr_none out left l' bad' hp hx).symm.trans HTR'.out)
      have HNT := Lib.hid (fun x hx hn => (tr_not out left l' bad' x hp hx hn).symm.trans HTR'.out)
      have HSM := Lib.hid (fun x hx h0 h1 hg => (tr_some out left l' bad' x hp hx h0 h1 hg).symm.trans HTR'.out)
      have HPS := Lib.hid (fun x => takeR_pos (l := l') (bad := bad') (x := x))
      generalize takeR l' bad' = r at *
      obtain ⟨o, l2, bad2⟩ := r
      simp only at *
      rcases o with _ | x
      · obtain rfl : R = none := (HN.out rfl).symm
        go_wp2_with fail
        refine HT.out.mono ?_
        rintro e w1 ⟨rfl, _, hg1⟩
        have HG1 := Lib.hid (only_trans HG.out hg1)
        have hz1 := hg1.size
        clear hg1
        simp only [Option.getD_none, Option.isSome_none, runV, KM.zero]
        go_upto_region 5 with fail
        obtain ⟨w2, hw2⟩ : ∃ w2, w2 = w1.alloc (.cells #[.int .i64 0, .int .i32 0, .bool false, .bool false, .bool false, .int .i64 0, .int .i64 0] 130) := ⟨_, rfl⟩
        have HG2 := Lib.hid (show w.grownBy w2 (some g) by rw [hw2]; exact only_next HG1.out (((Below.refl _ _).alloc (Nat.le_refl _) _).mono (by omega)))
        have W2 := Lib.hid hw2
        clear hw2
        have e0 : ((0 : Nat) : Int) = 0 := rfl
        try rw [e0]
        rw [← W2.out]
        go_wp2_with fail
        go_ret2
        exact .inl ⟨rfl, rfl, HG2.out⟩
      · have hx0 := HPS.out x rfl
        have HOA := Lib.hid (own_apart HO.out hgl)
        obtain ⟨n, ⟨r, ⟨b, u, t, f, k⟩⟩⟩ := x
        simp only at hx0
        by_cases hle : n ≤ left
        · have g2 : decide ((left : Int) < (n : Int)) = false := by simp; omega
          have g2n : decide (left < n) = false := by simp; omega
          rcases hgo : goes out ⟨r, ⟨b, u, t, f, k⟩⟩ with _ | _
          · have HST := Lib.hid (HSM.out _ rfl hx0 hle hgo)
            have HGO := Lib.hid hgo
            clear hgo
            go_wp2_with fail
            refine HT.out.mono ?_
            rintro e w1 ⟨rfl, hr1, hg1⟩
            have HG1 := Lib.hid (only_trans HG.out hg1)
            have hz1 := hg1.size
            have HO1 := Lib.hid (HO.out.grown hg1 HOA.out)
            have HR1 := Lib.hid hr1
            clear hg1 hr1
            simp only [Option.getD_some, Option.isSome_some, runV]
            go_upto_region 5 with fail
            obtain ⟨w2, hw2⟩ : ∃ w2, w2 = w1.alloc (.cells #[.int .i64 (n : Int), .int .i32 r, .bool b, .bool u, .bool t, .int .i64 f, .int .i64 k] 130) := ⟨_, rfl⟩
            have b2 : Below w1.heap.size w1 w2 := by rw [hw2]; exact (Below.refl _ _).alloc (Nat.le_refl _) _
            have hc2 : RunAt w2 w1.heap.size (n, ⟨r, ⟨b, u, t, f, k⟩⟩) := by rw [hw2]; exact heap_alloc_new w1 _
            have HG2 := Lib.hid (only_next HG1.out (b2.mono (by omega)))
            have HO2 := Lib.hid (HO1.out.below b2)
            have HR2 := Lib.hid (HR1.out.on b2 HR1.out.lt)
            have HC2 := Lib.hid hc2
            have z2 := b2.size
            have HNE := Lib.hid (show ∀ k, u6.ownBlock = some k → k ≠ w1.heap.size from fun k hk => by have := (HO1.out.lt k hk).2; omega)
            rw [← hw2]
            obtain ⟨d0, d1, d2, d3, d4, d5, d6⟩ := hc2.cells
            simp only at d0 d1 d2 d3 d4 d5 d6
            clear hw2 b2 hc2
            obtain ⟨A6, c6, rfl, _, _, _, hr6⟩ := HO2.out.row
            have HGC := Lib.hid (goesOn_ok w2 out A6 c6 w2.heap.size hr6 (Nat.le_refl _) (by omega) ⟨r, ⟨b, u, t, f, k⟩⟩)
            simp only [celV] at HGC
            clear hr6
            go_wp2_with fail
            refine HGC.out.mono ?_
            rw [HGO.out]
            rintro e w3 ⟨rfl, b3⟩
            have HG3 := Lib.hid (only_next HG2.out (b3.mono (by omega)))
            have HO3 := Lib.hid (HO2.out.below b3)
            have HR3 := Lib.hid (HR2.out.on b3 HR2.out.lt)
            have HC3 := Lib.hid (HC2.out.below b3 HC2.out.lt)
            have z3 := b3.size
            obtain ⟨e0, e1, e2, e3, e4, e5, e6⟩ := HC3.out.cells
            simp only at e0 e1 e2 e3 e4 e5 e6
            clear b3 d0 d1 d2 d3 d4 d5 d6
            go_wp2_with (at_builtin; refine runE.wp_append1 rfl (.tmp 32) (.tmp 34) rfl w.heap.size _ out rfl HO3.out (n, ⟨r, ⟨b, u, t, f, k⟩⟩) #[.int .i64 (n : Int), .int .i32 r, .bool b, .bool u, .bool t, .int .i64 f, .int .i64 k] 130 rfl rfl ?c1 ?c2 (by omega) ?_)
            case c1 => simp only [runE]; omega
            case c2 => unfold maxLen; omega
            intro v4 w4 o4 g4
            have b4 := HO3.out.grow_below g4 (by omega)
            have HO4 := Lib.hid o4
            have HG4 := Lib.hid (only_next HG3.out b4)
            have HR4 := Lib.hid (HR3.out.on b4 hgl)
            have hc4 := HC3.out.grow g4 HNE.out
            clear o4 g4 b4 e0 e1 e2 e3 e4 e5 e6
            obtain ⟨e0, e1, e2, e3, e4, e5, e6⟩ := hc4.cells
            simp only at e0 e1 e2 e3 e4 e5 e6
            clear hc4
            go_wp2_with fail
            go_roundw
            case rel => exact ⟨out ++ [(n, ⟨r, ⟨b, u, t, f, k⟩⟩)], left - n, l2, bad2, by simp; omega, by congr 1; omega, HG4.out, HO4.out, HR4.out, HST.out⟩
            case measure => simp [RowKit.intOf]; omega
          · obtain rfl : R = none := (HNT.out _ rfl (Or.inr hgo)).symm
            have HGO := Lib.hid hgo
            clear hgo
            go_wp2_with fail
            refine HT.out.mono ?_
            rintro e w1 ⟨rfl, hr1, hg1⟩
            have HG1 := Lib.hid (only_trans HG.out hg1)
            have hz1 := hg1.size
            have HO1 := Lib.hid (HO.out.grown hg1 HOA.out)
            clear hg1 hr1
            simp only [Option.getD_some, Option.isSome_some, runV]
            go_upto_region 5 with fail
            obtain ⟨w2, hw2⟩ : ∃ w2, w2 = w1.alloc (.cells #[.int .i64 (n : Int), .int .i32 r, .bool b, .bool u, .bool t, .int .i64 f, .int .i64 k] 130) := ⟨_, rfl⟩
            have b2 : Below w1.heap.size w1 w2 := by rw [hw2]; exact (Below.refl _ _).alloc (Nat.le_refl _) _
            have hc2 : RunAt w2 w1.heap.size (n, ⟨r, ⟨b, u, t, f, k⟩⟩) := by rw [hw2]; exact heap_alloc_new w1 _
            have HG2 := Lib.hid (only_next HG1.out (b2.mono (by omega)))
            have HO2 := Lib.hid (HO1.out.below b2)
            have z2 := b2.size
            rw [← hw2]
            obtain ⟨d0, d1, d2, d3, d4, d5, d6⟩ := hc2.cells
            simp only at d0 d1 d2 d3 d4 d5 d6
            clear hw2 b2 hc2
            obtain ⟨A6, c6, rfl, _, _, _, hr6⟩ := HO2.out.row
            have HGC := Lib.hid (goesOn_ok w2 out A6 c6 w2.heap.size hr6 (Nat.le_refl _) (by omega) ⟨r, ⟨b, u, t, f, k⟩⟩)
            simp only [celV] at HGC
            clear hr6
            go_wp2_with fail
            refine HGC.out.mono ?_
            rw [HGO.out]
            rintro e w3 ⟨rfl, b3⟩
            have HG3 := Lib.hid (only_next HG2.out (b3.mono (by omega)))
            clear b3
            go_wp2_with fail
            go_ret2
            exact .inl ⟨rfl, rfl, HG3.out⟩
        · have g2 : decide ((left : Int) < (n : Int)) = true := by simp; omega
          have g2n : decide (left < n) = true := by simp; omega
          obtain rfl : R = none := (HNT.out _ rfl (Or.inl (by simp only; omega))).symm
          go_wp2_with fail
          refine HT.out.mono ?_
          rintro e w1 ⟨rfl, hr1, hg1⟩
          have HG1 := Lib.hid (only_trans HG.out hg1)
          have hz1 := hg1.size
          clear hg1 hr1
          simp only [Option.getD_some, Option.isSome_some, runV]
          go_upto_region 5 with fail
          obtain ⟨w2, hw2⟩ : ∃ w2, w2 = w1.alloc (.cells #[.int .i64 (n : Int), .int .i32 r, .bool b, .bool u, .bool t, .int .i64 f, .int .i64 k] 130) := ⟨_, rfl⟩
          have b2 : Below w1.heap.size w1 w2 := by rw [hw2]; exact (Below.refl _ _).alloc (Nat.le_refl _) _
          have hc2 : RunAt w2 w1.heap.size (n, ⟨r, ⟨b, u, t, f, k⟩⟩) := by rw [hw2]; exact heap_alloc_new w1 _
          have HG2 := Lib.hid (only_next HG1.out (b2.mono (by omega)))
          rw [← hw2]
          obtain ⟨d0, d1, d2, d3, d4, d5, d6⟩ := hc2.cells
          simp only at d0 d1 d2 d3 d4 d5 d6
          clear hw2 b2 hc2
          go_wp2_with fail
          go_ret2
          exact .inl ⟨rfl, rfl, HG2.out⟩
end Go.Proofs.YtdolapobkhhanaaDoor
/-
  Layer 8 (cell): TakeLine.
-/
namespace Go.Proofs.YtdolapobkhhanaaDoor
open Go.RowKit Go.Lib KM

/-- The line that is told of runs: none where there are none, or where it isn't whole. -/
def lineOf (R : Option (List (Nat × Cel) × List Nat × Bool)) : Option (List Cel × List Nat × Bool) := R.bind fun T => if whole (cells T.1) = true then some (cells T.1, T.2.1, T.2.2) else none
theorem tabs_only {w : World} {g : Nat} (h : Tabs w) (hg : 2 < g) : ∀ v, w.grownBy v (some g) → Tabs v := fun _ hv => h.on (only_below (B := 2 + 1) hv hg h.room) (Nat.lt_succ_self 2)
/-- What TakeLine answers. -/
def LineTPost (w : World) (g : Nat) (R : Option (List Cel × List Nat × Bool)) (e : Ending) (w' : World) : Prop :=
  (R = none ∧ e = .returned (.tuple #[.slice none 0 0, .bool false]) ∧ w.grownBy w' (some g)) ∨
  ∃ T v, R = some T ∧ e = .returned (.tuple #[v, .bool true]) ∧ celE.Own w' w.heap.size v T.1 ∧ Rd w' g T.2.1 T.2.2 ∧ w.grownBy w' (some g)

set_option maxRecDepth 100000 in
set_option maxHeartbeats 1000000 in
theorem takeLine_ok (w : World) (g : Nat) (l : List Nat) (bad : Bool) (W : Nat) (hW : W ≤ 1000) (h : Rd w g l bad) (hT : ∀ v, w.grownBy v (some g) → Tabs v) :
    Calls Tryd.prog 55 #[.pointer (some ⟨g, 0, none⟩), .int .i64 (W : Int)] w (LineTPost w g (lineOf (tr [] W l bad))) := by
  have hby : ∀ x ∈ l, x < 256 := by obtain ⟨_, _, _, _, _, _, h⟩ := h; exact h
  have hgl := h.lt
  have HT := Lib.hid hT
  have HTR := Lib.hid (takeRuns_ok w g l bad W hW h)
  have HBK := Lib.hid (fun T => tr_back W [] l bad hby trivial T)
  have g0 : decide ((W : Int) < 0) = false := by simp
  clear hT h hby
  generalize tr [] W l bad = R at *
  rcases R with _ | T
  · have e : lineOf none = none := rfl
    rw [e]
    clear e HBK
    go_enter Tryd.func55, Tryd.ntmps55
    go_wp2_with fail
    refine HTR.out.mono ?_
    rintro e w1 (⟨_, rfl, hg1⟩ | ⟨T, v, hn, _⟩)
    · have HG1 := Lib.hid hg1
      clear hg1
      go_wp2_with fail
      go_ret2
      exact .inl ⟨rfl, rfl, HG1.out⟩
    · cases hn
  · obtain ⟨more, m1, m2, m3, m4, m5, m6⟩ := HBK.out T rfl
    obtain ⟨rs, l2, bad2⟩ := T
    simp only [List.nil_append] at m1 m2 m3 m6
    subst m1
    have hpos := apart_pos rs m6
    have hlen := apart_len rs hpos
    have hw2 : whole (spread rs 2) = whole (cells rs) := whole_spread rs hpos none
    have hs2 := spread_len2 rs 2
    have hsW : spread rs W = cells rs := spread_all rs W fun x hx => by have := le_sumR rs x hx; omega
    have hcl := cells_len rs
    have HLO := Lib.hid (show lineOf (some (rs, l2, bad2)) = if whole (cells rs) = true then some (cells rs, l2, bad2) else none from rfl)
    rw [m4] at hlen hs2 hcl
    have HSP2 := Lib.hid (fun (v : World) (A : Option Addr) (c B : Nat) (hr : runE.Row v B A rs) (hB : B ≤ v.heap.size) => spread_ok v rs A c B 2 hr hB (by omega) (by omega))
    have HSPW := Lib.hid (fun (v : World) (A : Option Addr) (c B : Nat) (hr : runE.Row v B A rs) (hB : B ≤ v.heap.size) => spread_ok v rs A c B W hr hB (by omega) (by rw [hsW]; omega))
    rw [hsW] at HSPW
    have HW2 := Lib.hid hw2
    clear hpos m2 m3 m5 m6 hw2 hsW HBK
    generalize cells rs = L at *
    generalize spread rs 2 = S at *
    generalize lineOf (some (rs, l2, bad2)) = R at *
    go_enter Tryd.func55, Tryd.ntmps55
    go_wp2_with fail
    refine HTR.out.mono ?_
    rintro e w1 (⟨hn, _⟩ | ⟨T, v, hn, rfl, ho, hrd, hg1⟩)
    · cases hn
    injection hn with hn
    subst hn
    have HG1 := Lib.hid hg1
    have HR1 := Lib.hid hrd
    have z1 := hg1.size
    obtain ⟨A1, c1, rfl, _, _, _, hr1⟩ := ho.row
    have HRW1 := Lib.hid hr1
    have HT1 := Lib.hid (HT.out w1 hg1)
    clear hg1 hrd hr1 ho
    simp only
    go_wp2_with fail
    refine (HSP2.out w1 A1 c1 w1.heap.size HRW1.out (Nat.le_refl _)).mono ?_
    rintro e w2 ⟨v2, rfl, o2, b2⟩
    have HG2 := Lib.hid (only_next HG1.out (b2.mono z1))
    have HR2 := Lib.hid (HR1.out.on b2 HR1.out.lt)
    have HRW2 := Lib.hid (HRW1.out.below b2)
    have HT2 := Lib.hid (HT1.out.on b2 HT1.out.room)
    have z2 := b2.size
    obtain ⟨A2, c2, rfl, _, _, _, hr2⟩ := o2.row
    have HWH := Lib.hid (whole_ok w2 HT2.out S A2 c2 w2.heap.size hr2 (Nat.le_refl _) (by omega))
    clear b2 o2 hr2
    rcases hq : whole L with _ | _
    · have HQ : Hid (whole S = false) := Lib.hid (HW2.out.trans hq)
      obtain rfl : R = none := by rw [HLO.out, hq]; rfl
      clear hq
      go_wp2_with fail
      refine HWH.out.mono ?_
      rw [HQ.out]
      rintro e w3 ⟨rfl, b3⟩
      have HG3 := Lib.hid (only_next HG2.out (b3.mono (by omega)))
      clear b3
      go_wp2_with fail
      go_ret2
      exact .inl ⟨rfl, rfl, HG3.out⟩
    · have HQ : Hid (whole S = true) := Lib.hid (HW2.out.trans hq)
      obtain rfl : R = some (L, l2, bad2) := by rw [HLO.out, hq]; rfl
      clear hq
      go_wp2_with fail
      refine HWH.out.mono ?_
      rw [HQ.out]
      rintro e w3 ⟨rfl, b3⟩
      have HG3 := Lib.hid (only_next HG2.out (b3.mono (by omega)))
      have HR3 := Lib.hid (HR2.out.on b3 HR2.out.lt)
      have HRW3 := Lib.hid (HRW2.out.below (b3.mono z2))
      have z3 := b3.size
      clear b3
      go_wp2_with fail
      refine (HSPW.out w3 A1 c1 w1.heap.size HRW3.out (by omega)).mono ?_
      rintro e w4 ⟨v4, rfl, o4, b4⟩
      have HG4 := Lib.hid (only_next HG3.out (b4.mono (by omega)))
      have HR4 := Lib.hid (HR3.out.on b4 HR3.out.lt)
      have HO4 := Lib.hid (o4.mono (show w.heap.size ≤ w3.heap.size by omega))
      clear o4 b4
      go_wp2_with fail
      go_ret2
      exact .inr ⟨(L, l2, bad2), v4, rfl, rfl, HO4.out, HR4.out, HG4.out⟩
end Go.Proofs.YtdolapobkhhanaaDoor
/-
  Layer 1 (vary), for layer 11: a text that is asked for, and one that is put.
-/
namespace Go.Proofs.YtdolapobkhhanaaDoor
open Go.RowKit
set_option maxRecDepth 100000

/-- What a text of no more than 'most' bytes that is asked for leaves. -/
def textOf (l : List Nat) (bad : Bool) (most : Nat) : List Nat × List Nat × Bool :=
  if (numOf l bad (most + 1)).2.1.length < (numOf l bad (most + 1)).1 then ([], [], true)
  else ((numOf l bad (most + 1)).2.1.take (numOf l bad (most + 1)).1, (numOf l bad (most + 1)).2.1.drop (numOf l bad (most + 1)).1, (numOf l bad (most + 1)).2.2)

def TextPost (w : World) (g : Nat) (r : List Nat × List Nat × Bool) (e : Ending) (w' : World) : Prop :=
  e = .returned (.string (str r.1)) ∧ Rd w' g r.2.1 r.2.2 ∧ w.grownBy w' (some g)

set_option maxRecDepth 100000 in
theorem text_nat (w : World) (g : Nat) (l : List Nat) (bad : Bool) (most : Int) (M : Nat) (hM : M ≤ 9223372036854775807) (hcase : most < 0 ∧ M = 0 ∨ most = M) (h : Rd w g l bad) :
    Calls Tryd.prog 34 #[.pointer (some ⟨g, 0, none⟩), .int .i64 most] w (TextPost w g (textOf l bad M)) := by
  have HR := Lib.hid h; clear h
  have HC := Lib.hid (below_any w g l bad (M + 1) (by omega) HR.out)
  generalize hR0 : textOf l bad M = R
  unfold textOf at hR0
  generalize numOf l bad (M + 1) = r at *
  obtain ⟨n, l1, bad1⟩ := r
  dsimp only at hR0
  have HR0 := Lib.hid hR0; clear hR0
  rcases hcase with ⟨hneg, rfl⟩ | rfl
  · go_enter Tryd.func34, Tryd.ntmps34
    go_wp2_with fail
    refine HC.out.mono ?_
    rintro e w1 ⟨rfl, hrd, hon⟩
    dsimp only at hrd ⊢
    have HRD := Lib.hid hrd; have HON := Lib.hid hon
    obtain ⟨A, c, hg, hlc, hcm, hr, hby⟩ := hrd
    obtain ⟨h0, h1, f0, f1⟩ := two_cell hg
    have hcm' : c ≤ 9223372036854775807 := by unfold maxLen at hcm; omega
    by_cases hif : l1.length < n
    · have hR := HR0.out; rw [if_pos hif] at hR
      subst hR
      clear hg hr hby hon hcm HR0
      go_wp2_with fail
      refine (fail_any w1 g l1 bad1 HRD.out).mono ?_
      rintro e w2 ⟨rfl, hrd2, hon2⟩
      have H1 := Lib.hid hrd2; have H2 := Lib.hid hon2; clear hrd2 hon2
      go_wp2
      go_ret
      exact ⟨rfl, H1.out, only_trans HON.out H2.out⟩
    · have hR := HR0.out; rw [if_neg hif] at hR
      subst hR
      have hln : (l1.take n).length = n := by rw [List.length_take]; omega
      have hcv := run_string A (l1.take n) c _ w1 (hr.take n)
      rw [hln] at hcv
      have hhead : ∀ W, (Instr.slice 22 (.slice A l1.length c) none (some (.int .i64 (n : Int))) none).run Tryd.prog W = .ok (.slice A n c) W := fun W => run_head A _ c _ W (by omega)
      have hcut : ∀ W, (Instr.slice 22 (.slice A l1.length c) (some (.int .i64 (n : Int))) none none).run Tryd.prog W = .ok (.slice (cutA A c n) (l1.length - n) (c - n)) W := fun W => run_cut _ _ _ _ W (by omega)
      have HG := Lib.hid hg; have HRow := Lib.hid hr; have HBY := Lib.hid hby
      clear hg hr hby hon hcm HR0 hln
      go_wp2
      go_ret
      refine ⟨rfl, ⟨cutA A c n, c - n, by rw [List.length_drop]; exact two_set0 HG.out _, by rw [List.length_drop]; omega, by unfold maxLen; omega, ?_, fun x hx => HBY.out x (List.mem_of_mem_drop hx)⟩, only_set HON.out 0 _⟩
      exact (HRow.out.cut (by omega) hlc).below ((Below.refl g w1).setCell (p := ⟨g, 0, none⟩) (Nat.le_refl g) _)
  · go_enter Tryd.func34, Tryd.ntmps34
    go_wp2_with fail
    rw [show ((M : Int) + 1) = ((M + 1 : Nat) : Int) from by omega]
    refine HC.out.mono ?_
    rintro e w1 ⟨rfl, hrd, hon⟩
    dsimp only at hrd ⊢
    have HRD := Lib.hid hrd; have HON := Lib.hid hon
    obtain ⟨A, c, hg, hlc, hcm, hr, hby⟩ := hrd
    obtain ⟨h0, h1, f0, f1⟩ := two_cell hg
    have hcm' : c ≤ 9223372036854775807 := by unfold maxLen at hcm; omega
    by_cases hif : l1.length < n
    · have hR := HR0.out; rw [if_pos hif] at hR
      subst hR
      clear hg hr hby hon hcm HR0
      go_wp2_with fail
      refine (fail_any w1 g l1 bad1 HRD.out).mono ?_
      rintro e w2 ⟨rfl, hrd2, hon2⟩
      have H1 := Lib.hid hrd2; have H2 := Lib.hid hon2; clear hrd2 hon2
      go_wp2
      go_ret
      exact ⟨rfl, H1.out, only_trans HON.out H2.out⟩
    · have hR := HR0.out; rw [if_neg hif] at hR
      subst hR
      have hln : (l1.take n).length = n := by rw [List.length_take]; omega
      have hcv := run_string A (l1.take n) c _ w1 (hr.take n)
      rw [hln] at hcv
      have hhead : ∀ W, (Instr.slice 22 (.slice A l1.length c) none (some (.int .i64 (n : Int))) none).run Tryd.prog W = .ok (.slice A n c) W := fun W => run_head A _ c _ W (by omega)
      have hcut : ∀ W, (Instr.slice 22 (.slice A l1.length c) (some (.int .i64 (n : Int))) none none).run Tryd.prog W = .ok (.slice (cutA A c n) (l1.length - n) (c - n)) W := fun W => run_cut _ _ _ _ W (by omega)
      have HG := Lib.hid hg; have HRow := Lib.hid hr; have HBY := Lib.hid hby
      clear hg hr hby hon hcm HR0 hln
      go_wp2
      go_ret
      refine ⟨rfl, ⟨cutA A c n, c - n, by rw [List.length_drop]; exact two_set0 HG.out _, by rw [List.length_drop]; omega, by unfold maxLen; omega, ?_, fun x hx => HBY.out x (List.mem_of_mem_drop hx)⟩, only_set HON.out 0 _⟩
      exact (HRow.out.cut (by omega) hlc).below ((Below.refl g w1).setCell (p := ⟨g, 0, none⟩) (Nat.le_refl g) _)

theorem text_any (w : World) (g : Nat) (l : List Nat) (bad : Bool) (most : Int) (hM : most ≤ 9223372036854775807) (h : Rd w g l bad) :
    Calls Tryd.prog 34 #[.pointer (some ⟨g, 0, none⟩), .int .i64 most] w (TextPost w g (textOf l bad most.toNat)) :=
  text_nat w g l bad most most.toNat (by omega) (by omega) h

/-- A text's bytes, as numbers. -/
def sb (s : ByteArray) : List Nat := s.data.toList.map UInt8.toNat
theorem sb_len (s : ByteArray) : (sb s).length = s.size := by unfold sb; rw [List.length_map, Array.length_toList]; rfl
theorem sb_byte (s : ByteArray) : ∀ x ∈ sb s, x < 256 := by
  intro x hx
  obtain ⟨b, _, rfl⟩ := List.mem_map.1 hx
  exact b.toNat_lt
theorem str_sb (s : ByteArray) : str (sb s) = s := by
  refine ByteArray.ext (Array.toList_inj.1 ?_)
  rw [str_list, sb, List.map_map]
  conv => rhs; rw [← List.map_id s.data.toList]
  exact List.map_congr_left fun b _ => UInt8.ofNat_toNat
theorem strCells_sb (s : ByteArray) : Lib.strCells s = nums .u8 (sb s) := by unfold Lib.strCells nums sb; rw [List.map_map]; rfl

theorem putText_any (v : Value) (xs : List Nat) (s : ByteArray) (w : World) (base : Nat) (hs : s.size ≤ 100000000000) (hx : xs.length ≤ 1000000000) (hown : Own w base v xs) (hbase : base ≤ w.heap.size) :
    Calls Tryd.prog 48 #[v, .string s] w fun e w' => ∃ v', e = .returned v' ∧ Own w' base v' (xs ++ VM.enc s.size ++ sb s) ∧ Below base w w' := by
  obtain ⟨i0, hi, hz0, hz1, hz2⟩ := info_parts Tryd.info5
  have hlen := VM.enc_len64 (n := s.size) (by omega)
  go_enter Tryd.func48, Tryd.ntmps48
  go_wp2_with fail
  refine (putOne_any v xs s.size w base (by omega) hx hown hbase).mono ?_
  rintro e w1 ⟨v1, rfl, ho1, hb1⟩
  have hz := hb1.size
  have hxl : (xs ++ VM.enc s.size).length ≤ 1000000010 := by rw [List.length_append]; omega
  have HO1 := Lib.hid ho1; have HB1 := Lib.hid hb1; clear ho1 hb1 hown
  go_wp2_with (at_builtin; refine Lib.wpList_append_own_string _ rfl (.tmp 9) (.tmp 10) 22 9 rfl base 5 i0 Tryd.underlying22 Tryd.underlying9 hi hz0 hz1 hz2 v1 _ _ rfl HO1.out s rfl (by unfold maxLen; omega) (by omega) (by omega) ?_; intro v2 w2 ho2 hg2 _; have HO2 := Lib.hid ho2; have HG2 := Lib.hid (HB1.out.grown hg2 (by omega) HO1.out.lt); clear ho2 hg2)
  go_ret
  refine ⟨v2, rfl, ?_, HG2.out⟩
  have h := HO2.out
  rw [strCells_sb, ← nums_append] at h
  unfold Own
  rw [List.length_append, sb_len]
  exact h

theorem textOf_enc (l rest : List Nat) (bad : Bool) (most : Nat) (hn : l.length < 18446744073709551616) : textOf (VM.enc l.length ++ (l ++ rest)) bad most = if most < l.length then ([], [], true) else (l, rest, bad) := by
  unfold textOf
  rw [numOf_enc _ _ _ _ hn]
  by_cases h : most < l.length
  · rw [if_pos (show most + 1 ≤ l.length from h), if_pos h]; rfl
  · rw [if_neg (show ¬ most + 1 ≤ l.length from h), if_neg h]
    rw [if_neg (by simp)]
    simp
theorem textOf_nil (bad : Bool) (most : Nat) : textOf [] bad most = ([], [], true) := by unfold textOf; rw [numOf_nil]; rfl
end Go.Proofs.YtdolapobkhhanaaDoor
/-
  Plain mathematics of layer 3 (json): the runes of bytes, how a rune stands between quotes, what a quoted text says. No program, no walk.
-/
namespace Go.Proofs.YtdolapobkhhanaaDoor.JM
open Go.Lib

/-- A rune as UTF-8. -/
def enc (r : Nat) : List UInt8 := encodeRune (r : Int)
/-- A number that is a rune. -/
def good (r : Nat) : Prop := r < 55296 ∨ (57343 < r ∧ r ≤ 1114111)

theorem decodeL_good (l : List UInt8) : good (decodeL l).1 := by
  rw [decodeL_N]
  unfold good
  have k0 := (l.getD 0 0).toNat_lt
  rcases decodeN_shape l.length (l.getD 0 0).toNat (l.getD 1 0).toNat (l.getD 2 0).toNat (l.getD 3 0).toNat with ⟨c, e⟩ | ⟨c1, c2, c3, cv, e⟩ | ⟨c1, c2, c3, c4, cv, cs, e⟩ | ⟨c1, c2, c3, c4, c5, cv, cw, e⟩ | e
  all_goals (rw [e]; dsimp only; omega)

theorem enc_one {r : Nat} (h : r < 128) : enc r = [UInt8.ofNat r] := by
  unfold enc encodeRune
  rw [encodeRuneZ_one (by omega) (by omega)]
  simp
theorem enc_two {r : Nat} (h0 : 128 ≤ r) (h1 : r < 2048) : enc r = [UInt8.ofNat (192 + r / 64), UInt8.ofNat (128 + r % 64)] := by
  unfold enc encodeRune
  rw [encodeRuneZ_two (by omega) (by omega)]
  simp only [List.map_cons, List.map_nil]
  congr 2
theorem enc_three {r : Nat} (h0 : 2048 ≤ r) (h1 : r < 65536) (h : good r) : enc r = [UInt8.ofNat (224 + r / 4096), UInt8.ofNat (128 + r / 64 % 64), UInt8.ofNat (128 + r % 64)] := by
  unfold enc encodeRune
  unfold good at h
  rw [encodeRuneZ_three (by omega)]
  simp only [List.map_cons, List.map_nil]
  have e1 : ((224 : Int) + (r : Int) / 4096).toNat = 224 + r / 4096 := by omega
  have e2 : ((128 : Int) + (r : Int) / 64 % 64).toNat = 128 + r / 64 % 64 := by omega
  have e3 : ((128 : Int) + (r : Int) % 64).toNat = 128 + r % 64 := by omega
  rw [e1, e2, e3]
theorem enc_four {r : Nat} (h0 : 65536 ≤ r) (h1 : r ≤ 1114111) : enc r = [UInt8.ofNat (240 + r / 262144), UInt8.ofNat (128 + r / 4096 % 64), UInt8.ofNat (128 + r / 64 % 64), UInt8.ofNat (128 + r % 64)] := by
  unfold enc encodeRune
  rw [encodeRuneZ_four (by omega) (by omega)]
  simp only [List.map_cons, List.map_nil]
  have e1 : ((240 : Int) + (r : Int) / 262144).toNat = 240 + r / 262144 := by omega
  have e4 : ((128 : Int) + (r : Int) / 4096 % 64).toNat = 128 + r / 4096 % 64 := by omega
  have e2 : ((128 : Int) + (r : Int) / 64 % 64).toNat = 128 + r / 64 % 64 := by omega
  have e3 : ((128 : Int) + (r : Int) % 64).toNat = 128 + r % 64 := by omega
  rw [e1, e2, e3, e4]

theorem ofNat_toNat {n : Nat} (h : n < 256) : (UInt8.ofNat n).toNat = n := by simp; omega

/-- A rune comes back from its bytes, whatever is behind them. -/
theorem decode_enc {r : Nat} (h : good r) (t : List UInt8) : decodeL (enc r ++ t) = (r, (enc r).length) := by
  rw [decodeL_N]
  by_cases h1 : r < 128
  · rw [enc_one h1]
    simp only [List.singleton_append, List.getD_cons_zero, List.length_singleton, ofNat_toNat (show r < 256 by omega)]
    rcases decodeN_shape (UInt8.ofNat r :: t).length r ((UInt8.ofNat r :: t).getD 1 0).toNat ((UInt8.ofNat r :: t).getD 2 0).toNat ((UInt8.ofNat r :: t).getD 3 0).toNat with ⟨c, e⟩ | ⟨c1, c2, c3, cv, e⟩ | ⟨c1, c2, c3, c4, cv, cs, e⟩ | ⟨c1, c2, c3, c4, c5, cv, cw, e⟩ | e
    · exact e
    all_goals (unfold decodeN; rw [if_pos h1])
  by_cases h2 : r < 2048
  · rw [enc_two (by omega) h2]
    simp only [List.cons_append, List.nil_append, List.getD_cons_zero, List.getD_cons_succ, List.length_cons, List.length_nil, ofNat_toNat (show 192 + r / 64 < 256 by omega), ofNat_toNat (show 128 + r % 64 < 256 by omega)]
    unfold decodeN
    rw [if_neg (by omega), if_pos (by omega), if_pos (by omega)]
    congr 1
    omega
  by_cases h3 : r < 65536
  · rw [enc_three (by omega) h3 h]
    unfold good at h
    simp only [List.cons_append, List.nil_append, List.getD_cons_zero, List.getD_cons_succ, List.length_cons, List.length_nil, ofNat_toNat (show 224 + r / 4096 < 256 by omega), ofNat_toNat (show 128 + r / 64 % 64 < 256 by omega), ofNat_toNat (show 128 + r % 64 < 256 by omega)]
    unfold decodeN
    rw [if_neg (by omega), if_neg (by omega), if_pos (by omega), if_pos (by omega)]
    congr 1
    omega
  · have h4 : r ≤ 1114111 := by unfold good at h; omega
    rw [enc_four (by omega) h4]
    simp only [List.cons_append, List.nil_append, List.getD_cons_zero, List.getD_cons_succ, List.length_cons, List.length_nil, ofNat_toNat (show 240 + r / 262144 < 256 by omega), ofNat_toNat (show 128 + r / 4096 % 64 < 256 by omega), ofNat_toNat (show 128 + r / 64 % 64 < 256 by omega), ofNat_toNat (show 128 + r % 64 < 256 by omega)]
    unfold decodeN
    rw [if_neg (by omega), if_neg (by omega), if_neg (by omega), if_pos (by omega), if_pos (by omega)]
    congr 1
    omega

theorem enc_len (r : Nat) : 1 ≤ (enc r).length ∧ (enc r).length ≤ 4 := by
  have := encodeRuneZ_length (r : Int)
  simpa [enc, encodeRune] using this

/-- The first byte of a rune from 128 on is from 128 on; so are all. -/
theorem enc_high {r : Nat} (h : 128 ≤ r) : ∀ b ∈ enc r, 128 ≤ b.toNat := by
  intro b hb
  unfold enc encodeRune at hb
  obtain ⟨x, hx, rfl⟩ := List.mem_map.1 hb
  obtain ⟨b0, b1⟩ := encodeRuneZ_byte (r : Int) x hx
  have : 128 ≤ x := by
    unfold encodeRuneZ at hx
    split at hx
    · omega
    · split at hx
      · simp at hx; omega
      · split at hx
        · simp at hx; omega
        · split at hx
          · simp at hx; omega
          · simp at hx; omega
  simp
  omega

/-! ### the runes of bytes -/
def runesN : Nat → List UInt8 → List Nat
  | 0, _ => []
  | n + 1, l => if l = [] then [] else (decodeL l).1 :: runesN n (l.drop (decodeL l).2)
def runes (l : List UInt8) : List Nat := runesN l.length l

theorem runesN_nil (n : Nat) : runesN n [] = [] := by cases n <;> simp [runesN]
theorem runesN_more : ∀ (n m : Nat) (l : List UInt8), l.length ≤ n → l.length ≤ m → runesN n l = runesN m l
  | 0, m, l, h, _ => by
    obtain rfl : l = [] := List.length_eq_zero_iff.1 (by omega)
    rw [runesN_nil, runesN_nil]
  | n + 1, 0, l, _, h => by
    obtain rfl : l = [] := List.length_eq_zero_iff.1 (by omega)
    rw [runesN_nil, runesN_nil]
  | n + 1, m + 1, l, hn, hm => by
    unfold runesN
    by_cases h : l = []
    · simp [h]
    · rw [if_neg h, if_neg h]
      have hw := decodeL_width l
      have hl : 0 < l.length := List.length_pos_iff.2 h
      rw [runesN_more n m (l.drop (decodeL l).2) (by simp; omega) (by simp; omega)]
theorem runes_nil : runes [] = [] := rfl
theorem runes_step {l : List UInt8} (h : l ≠ []) : runes l = (decodeL l).1 :: runes (l.drop (decodeL l).2) := by
  have hl : 0 < l.length := List.length_pos_iff.2 h
  have hw := decodeL_width l
  unfold runes
  obtain ⟨n, hn⟩ : ∃ n, l.length = n + 1 := ⟨l.length - 1, by omega⟩
  rw [hn]
  conv => lhs; unfold runesN
  rw [if_neg h]
  congr 1
  exact runesN_more _ _ _ (by simp; omega) (Nat.le_refl _)
theorem runes_good (l : List UInt8) : ∀ r ∈ runes l, good r := by
  generalize hn : l.length = n
  induction n using Nat.strongRecOn generalizing l with
  | ind n ih =>
    by_cases h : l = []
    · subst h; simp [runes_nil]
    · rw [runes_step h]
      intro r hr
      rcases List.mem_cons.1 hr with rfl | hr
      · exact decodeL_good l
      · have hl : 0 < l.length := List.length_pos_iff.2 h
        have hw := decodeL_width l
        exact ih (l.drop (decodeL l).2).length (by simp; omega) _ rfl r hr
theorem runes_len (l : List UInt8) : (runes l).length ≤ l.length := by
  generalize hn : l.length = n
  induction n using Nat.strongRecOn generalizing l with
  | ind n ih =>
    by_cases h : l = []
    · subst h; simp [runes_nil]
    · rw [runes_step h]
      have hl : 0 < l.length := List.length_pos_iff.2 h
      have hw := decodeL_width l
      have := ih (l.drop (decodeL l).2).length (by simp; omega) _ rfl
      simp at this ⊢
      omega
theorem enc_ne (r : Nat) : enc r ≠ [] := fun h => by have := (enc_len r).1; rw [h] at this; simp at this
theorem runes_enc {r : Nat} (h : good r) (t : List UInt8) : runes (enc r ++ t) = r :: runes t := by
  rw [runes_step (by simp [enc_ne]), decode_enc h]
  simp
theorem runes_flat : ∀ (rs : List Nat), (∀ r ∈ rs, good r) → runes (rs.flatMap enc) = rs
  | [], _ => rfl
  | r :: rs, h => by
    rw [List.flatMap_cons, runes_enc (h r (by simp)), runes_flat rs (fun x hx => h x (by simp [hx]))]
/-- The text with U+FFFD for each byte that is no UTF-8. -/
def whole (l : List UInt8) : List UInt8 := (runes l).flatMap enc
theorem runes_whole (l : List UInt8) : runes (whole l) = runes l := runes_flat _ (runes_good l)
theorem flat_len : ∀ (f : Nat → List UInt8) (k : Nat) (rs : List Nat), (∀ r, (f r).length ≤ k) → (rs.flatMap f).length ≤ k * rs.length
  | f, k, [], h => by simp
  | f, k, r :: rs, h => by
    have h1 := flat_len f k rs h
    have h2 := h r
    rw [List.flatMap_cons, List.length_append, List.length_cons, Nat.mul_add, Nat.mul_one]
    omega

/-! ### a rune between the quotes -/
/-- A digit of base 16. -/
def hexd (n : Nat) : UInt8 := if n < 10 then UInt8.ofNat (48 + n) else UInt8.ofNat (87 + n)
def wr (r : Nat) : List UInt8 :=
  if r = 34 ∨ r = 92 then 92 :: enc r
  else if r = 10 then [92, 110]
  else if r = 13 then [92, 114]
  else if r < 32 ∨ r = 127 then [92, 117, 48, 48, hexd (r / 16), hexd (r % 16)]
  else enc r
def quote (l : List UInt8) : List UInt8 := 34 :: ((runes l).flatMap wr ++ [34])

theorem wr_len (r : Nat) : (wr r).length ≤ 6 := by
  have := (enc_len r).2
  unfold wr
  repeat' split
  all_goals (simp; try omega)
theorem wr_ne (r : Nat) : wr r ≠ [] := by
  unfold wr
  repeat' split
  all_goals (first | exact enc_ne r | simp)
theorem quote_len (l : List UInt8) : (quote l).length ≤ 6 * l.length + 2 := by
  have h1 := flat_len wr 6 (runes l) wr_len
  have h2 := runes_len l
  unfold quote
  rw [List.length_cons, List.length_append, List.length_singleton]
  omega

theorem enc_small_byte {r : Nat} : ∀ b ∈ enc r, r < 128 → b.toNat = r := by
  intro b hb h
  rw [enc_one h] at hb
  simp at hb
  subst hb
  exact ofNat_toNat (by omega)
theorem hexd_byte {n : Nat} (h : n < 16) : (hexd n).toNat = if n < 10 then 48 + n else 87 + n := by
  unfold hexd
  split
  · exact ofNat_toNat (by omega)
  · exact ofNat_toNat (by omega)
/-- Between the quotes stands no byte below 32, and no 127. -/
theorem wr_byte (r : Nat) : ∀ b ∈ wr r, 32 ≤ b.toNat ∧ b.toNat ≠ 127 := by
  intro b hb
  unfold wr at hb
  split at hb
  · rename_i h
    rcases List.mem_cons.1 hb with rfl | hb
    · decide
    · have := enc_small_byte b hb (by omega); omega
  · split at hb
    · simp at hb; rcases hb with rfl | rfl <;> decide
    · split at hb
      · simp at hb; rcases hb with rfl | rfl <;> decide
      · split at hb
        · rename_i h
          simp at hb
          rcases hb with rfl | rfl | rfl | rfl | rfl
          · decide
          · decide
          · decide
          · rw [hexd_byte (by omega)]; split <;> omega
          · rw [hexd_byte (by omega)]; split <;> omega
        · rename_i h1 h2 h3 h4
          by_cases h : r < 128
          · have := enc_small_byte b hb h; omega
          · have := enc_high (r := r) (by omega) b hb; omega
/-- What stands between the quotes begins with no quote. -/
theorem wr_head (r : Nat) : ∃ b t, wr r = b :: t ∧ b ≠ 34 := by
  have hn := wr_ne r
  cases e : wr r with
  | nil => exact absurd e hn
  | cons b t =>
    refine ⟨b, t, rfl, ?_⟩
    rintro rfl
    unfold wr at e
    split at e
    · cases e
    · split at e
      · cases e
      · split at e
        · cases e
        · split at e
          · cases e
          · rename_i h1 h2 h3 h4
            have hb : (34 : UInt8) ∈ enc r := by rw [e]; simp
            by_cases h : r < 128
            · have := enc_small_byte _ hb h; simp at this; omega
            · have := enc_high (r := r) (by omega) _ hb; simp at this

/-! ### what a quoted text says -/
def hexv (b : UInt8) : Option Nat :=
  if 48 ≤ b.toNat ∧ b.toNat ≤ 57 then some (b.toNat - 48)
  else if 97 ≤ b.toNat ||| 32 ∧ b.toNat ||| 32 ≤ 122 then (if (b.toNat ||| 32) - 87 < 16 then some ((b.toNat ||| 32) - 87) else none)
  else none
def hexFrom (acc : Nat) : List UInt8 → Option Nat
  | [] => some acc
  | b :: t => match hexv b with
    | some d => hexFrom (acc * 16 + d) t
    | none => none
def hexNum (l : List UInt8) : Option Nat := if l = [] then none else hexFrom 0 l
def sgn (l : List UInt8) : Nat := (hexNum (l.take 4)).getD 65533
def meant (l : List UInt8) : Nat :=
  if (decodeL l).1 ≠ 92 ∨ l.length < 2 then (decodeL l).1
  else if l.getD 1 0 = 110 then 10
  else if l.getD 1 0 = 114 then 13
  else if l.getD 1 0 = 117 then sgn (l.drop 2)
  else (l.getD 1 0).toNat

theorem hexv_hexd {n : Nat} (h : n < 16) : hexv (hexd n) = some n := by
  have : ∀ n : Fin 16, hexv (hexd n.val) = some n.val := by decide
  exact this ⟨n, h⟩
theorem hexv_lt {b : UInt8} {d : Nat} (h : hexv b = some d) : d < 16 := by
  unfold hexv at h
  split at h
  · cases h; omega
  · split at h
    · split at h
      · cases h; assumption
      · cases h
    · cases h
theorem hexFrom_lt : ∀ (l : List UInt8) (acc n : Nat), hexFrom acc l = some n → n < (acc + 1) * 16 ^ l.length
  | [], acc, n, h => by simp [hexFrom] at h; simp; omega
  | b :: t, acc, n, h => by
    unfold hexFrom at h
    split at h
    · rename_i d hd
      have := hexFrom_lt t _ _ h
      have hd' := hexv_lt hd
      calc n < (acc * 16 + d + 1) * 16 ^ t.length := this
        _ ≤ ((acc + 1) * 16) * 16 ^ t.length := Nat.mul_le_mul_right _ (by omega)
        _ = (acc + 1) * 16 ^ (b :: t).length := by rw [List.length_cons, Nat.pow_succ, Nat.mul_assoc, Nat.mul_comm 16]
    · cases h
theorem sgn_le (l : List UInt8) : sgn l ≤ 65535 := by
  unfold sgn hexNum
  split
  · simp
  · cases e : hexFrom 0 (l.take 4) with
    | none => simp
    | some n =>
      have := hexFrom_lt _ _ _ e
      have hl : (l.take 4).length ≤ 4 := by simp; omega
      have : 16 ^ (l.take 4).length ≤ 16 ^ 4 := Nat.pow_le_pow_right (by omega) hl
      simp
      omega
theorem meant_le (l : List UInt8) : meant l ≤ 1114111 := by
  have h1 := decodeL_rune l
  have h2 := sgn_le (l.drop 2)
  have h3 := (l.getD 1 0).toNat_lt
  unfold meant
  repeat' split
  all_goals omega

theorem decode_back (t : List UInt8) : decodeL (92 :: t) = (92, 1) := by
  rw [decodeL_N]
  simp [decodeN]
/-- A rune is meant by what is written for it. -/
theorem meant_wr {r : Nat} (h : good r) (t : List UInt8) : meant (wr r ++ t) = r := by
  have hle : r ≤ 1114111 := by unfold good at h; omega
  unfold wr
  split
  · rename_i h1
    rw [enc_one (by omega)]
    rcases h1 with rfl | rfl <;> (simp only [List.cons_append, List.nil_append]; unfold meant; rw [decode_back]; simp)
  · split
    · rename_i h1; subst h1
      simp only [List.cons_append, List.nil_append]; unfold meant; rw [decode_back]; simp
    · split
      · rename_i h1; subst h1
        simp only [List.cons_append, List.nil_append]; unfold meant; rw [decode_back]; simp
      · split
        · rename_i h1
          simp only [List.cons_append, List.nil_append]; unfold meant; rw [decode_back]
          have a1 : r / 16 < 16 := by omega
          have a2 : r % 16 < 16 := by omega
          have hs : sgn (48 :: 48 :: hexd (r / 16) :: hexd (r % 16) :: t) = r := by
            simp [sgn, hexNum, hexFrom, hexv_hexd a1, hexv_hexd a2, show hexv 48 = some 0 by decide]
            omega
          simp [hs]
          omega
        · rename_i h1 h2 h3 h4
          unfold meant
          rw [decode_enc h]
          rw [if_pos (by left; dsimp only; omega)]
/-- What is meant, if it is written so, is a rune. -/
theorem meant_good {l : List UInt8} (hp : wr (meant l) <+: l) : good (meant l) := by
  by_cases hc : (decodeL l).1 ≠ 92 ∨ l.length < 2
  · have : meant l = (decodeL l).1 := by unfold meant; rw [if_pos hc]
    rw [this]
    exact decodeL_good l
  by_cases h1 : meant l < 55296
  · exact .inl h1
  by_cases h2 : 57343 < meant l
  · exact .inr ⟨h2, meant_le l⟩
  exfalso
  have hb : wr (meant l) = [239, 191, 189] := by
    unfold wr
    rw [if_neg (by omega), if_neg (by omega), if_neg (by omega), if_neg (by omega)]
    unfold enc encodeRune
    rw [encodeRuneZ_bad (by omega)]
    rfl
  rw [hb] at hp
  obtain ⟨t, ht⟩ := hp
  have hd : (decodeL l).1 = 92 := by
    by_cases hx : (decodeL l).1 = 92
    · exact hx
    · exact absurd (.inl hx) hc
  rw [← ht] at hd
  rw [decodeL_N] at hd
  simp only [List.cons_append, List.nil_append, List.getD_cons_zero, List.getD_cons_succ] at hd
  unfold decodeN at hd
  simp at hd

/-- The runes of a quoted text behind its first quote, and what is behind its last. -/
def unqN : Nat → List UInt8 → List Nat → Option (List Nat × List UInt8)
  | 0, _, _ => none
  | n + 1, l, acc => if l = [] then none
    else if l.getD 0 0 = 34 then some (acc, l.drop 1)
    else if wr (meant l) <+: l then unqN n (l.drop (wr (meant l)).length) (acc ++ [meant l])
    else none
def unq (l : List UInt8) : Option (List Nat × List UInt8) := if l.getD 0 0 = 34 then unqN l.length (l.drop 1) [] else none

theorem unqN_sound : ∀ (n : Nat) (l : List UInt8) (acc rs : List Nat) (rest : List UInt8), unqN n l acc = some (rs, rest) →
    ∃ new, rs = acc ++ new ∧ (∀ r ∈ new, good r) ∧ l = new.flatMap wr ++ 34 :: rest
  | 0, _, _, _, _, h => by cases h
  | n + 1, l, acc, rs, rest, h => by
    unfold unqN at h
    by_cases h0 : l = []
    · rw [if_pos h0] at h; cases h
    rw [if_neg h0] at h
    by_cases h1 : l.getD 0 0 = 34
    · rw [if_pos h1] at h
      cases h
      refine ⟨[], by simp, by simp, ?_⟩
      cases l with
      | nil => exact absurd rfl h0
      | cons b t => simp at h1; subst h1; simp
    rw [if_neg h1] at h
    by_cases h2 : wr (meant l) <+: l
    · rw [if_pos h2] at h
      obtain ⟨new, e1, e2, e3⟩ := unqN_sound n _ _ _ _ h
      refine ⟨meant l :: new, by rw [e1]; simp, ?_, ?_⟩
      · intro r hr
        rcases List.mem_cons.1 hr with rfl | hr
        · exact meant_good h2
        · exact e2 r hr
      · rw [List.flatMap_cons, List.append_assoc, ← e3]
        obtain ⟨t, ht⟩ := h2
        conv => lhs; rw [← ht]
        congr 1
        have hd := congrArg (List.drop (wr (meant l)).length) ht
        rw [List.drop_left] at hd
        exact hd
    · rw [if_neg h2] at h; cases h
theorem unqN_full : ∀ (rs : List Nat) (n : Nat) (acc : List Nat) (more : List UInt8), rs.length < n → (∀ r ∈ rs, good r) → unqN n (rs.flatMap wr ++ 34 :: more) acc = some (acc ++ rs, more)
  | [], n + 1, acc, more, _, _ => by unfold unqN; simp
  | [], 0, _, _, h, _ => by simp at h
  | r :: rs, 0, _, _, h, _ => by simp at h
  | r :: rs, n + 1, acc, more, hn, hg => by
    have hr := hg r (by simp)
    have hm : meant (wr r ++ (rs.flatMap wr ++ 34 :: more)) = r := meant_wr hr _
    obtain ⟨b, t, e, hb⟩ := wr_head r
    unfold unqN
    rw [List.flatMap_cons, List.append_assoc, if_neg (by simp [wr_ne]), if_neg (by rw [e]; simpa using hb), hm, if_pos (List.prefix_append _ _), List.drop_left,
      unqN_full rs n _ more (by simp at hn; omega) (fun x hx => hg x (by simp [hx]))]
    simp

theorem unq_quote (l more : List UInt8) : unq (quote l ++ more) = some (runes l, more) := by
  have hl : (runes l).length ≤ ((runes l).flatMap wr).length := by
    generalize runes l = rs
    induction rs with
    | nil => simp
    | cons r rs ih =>
      have := List.length_pos_iff.2 (wr_ne r)
      rw [List.flatMap_cons, List.length_append, List.length_cons]
      omega
  unfold unq quote
  rw [if_pos (by simp)]
  simp only [List.cons_append, List.append_assoc, List.drop_succ_cons, List.drop_zero, List.nil_append]
  rw [unqN_full _ _ _ _ (by rw [List.length_cons, List.length_append]; omega) (runes_good l)]
  simp
theorem unq_sound {l : List UInt8} {rs : List Nat} {rest : List UInt8} (h : unq l = some (rs, rest)) : (∀ r ∈ rs, good r) ∧ quote (rs.flatMap enc) ++ rest = l := by
  unfold unq at h
  split at h
  · rename_i h34
    obtain ⟨new, e1, e2, e3⟩ := unqN_sound _ _ _ _ _ h
    simp at e1
    subst e1
    refine ⟨e2, ?_⟩
    unfold quote
    rw [runes_flat _ e2]
    cases l with
    | nil => simp at h34
    | cons b t =>
      simp at h34 e3
      subst h34
      rw [e3]
      simp
  · cases h
end Go.Proofs.YtdolapobkhhanaaDoor.JM
