/-
  Layer 8 (cell): a style behind parameters (Change); a style's parameters (Params).
-/
import Derived.Test.YtalngmegenlfgaaDoorKChange
import Derived.Test.YtalngmegenlfgaaDoorKRow
import Derived.Deep.CutRange
namespace Go.Proofs.YtalngmegenlfgaaDoor
open Go.RowKit Go.Lib KM

/-- A style that lies in a block of its own. -/
def StyAt (w : World) (g : Nat) (s : Sty) : Prop := w.heap[g]? = some (.cells #[.bool s.bold, .bool s.under, .bool s.turned, .int .i64 s.fore, .int .i64 s.back] 23 (0, 0))
theorem StyAt.cells {w : World} {g : Nat} {s : Sty} (h : StyAt w g s) : w.cell? ⟨g, 0, none⟩ = some (.bool s.bold) ∧ w.cell? ⟨g, 1, none⟩ = some (.bool s.under) ∧ w.cell? ⟨g, 2, none⟩ = some (.bool s.turned) ∧ w.cell? ⟨g, 3, none⟩ = some (.int .i64 s.fore) ∧ w.cell? ⟨g, 4, none⟩ = some (.int .i64 s.back) ∧
    w.frozen? ⟨g, 0, none⟩ = false ∧ w.frozen? ⟨g, 1, none⟩ = false ∧ w.frozen? ⟨g, 2, none⟩ = false ∧ w.frozen? ⟨g, 3, none⟩ = false ∧ w.frozen? ⟨g, 4, none⟩ = false := by
  unfold StyAt at h
  refine ⟨?_, ?_, ?_, ?_, ?_, ?_, ?_, ?_, ?_, ?_⟩ <;> simp [World.cell?, World.frozen?, h]
theorem StyAt.below {w w' : World} {g B : Nat} {s : Sty} (h : StyAt w g s) (hb : Below B w w') (hg : g < B) : StyAt w' g s := (hb.block g hg).trans h
theorem StyAt.lt {w : World} {g : Nat} {s : Sty} (h : StyAt w g s) : g < w.heap.size := (Array.getElem?_eq_some_iff.1 h).1

/-- A style stored over another one. -/
def setS (w : World) (g : Nat) (b u t : Bool) (f k : Int) : World := ((((w.setCell ⟨g, 0, none⟩ (.bool b)).setCell ⟨g, 1, none⟩ (.bool u)).setCell ⟨g, 2, none⟩ (.bool t)).setCell ⟨g, 3, none⟩ (.int .i64 f)).setCell ⟨g, 4, none⟩ (.int .i64 k)
theorem setS_at {w : World} {g : Nat} {s : Sty} (h : StyAt w g s) (b u t : Bool) (f k : Int) : StyAt (setS w g b u t f k) g ⟨b, u, t, f, k⟩ := by
  unfold StyAt at h ⊢
  simp [setS, World.setCell, Array.getElem?_modify, h]
theorem setS_below {w w0 : World} {g B : Nat} (h : Below B w0 w) (hg : B ≤ g) (b u t : Bool) (f k : Int) : Below B w0 (setS w g b u t f k) := by
  unfold setS
  exact ((((h.setCell (p := ⟨g, 0, none⟩) hg _).setCell (p := ⟨g, 1, none⟩) hg _).setCell (p := ⟨g, 2, none⟩) hg _).setCell (p := ⟨g, 3, none⟩) hg _).setCell (p := ⟨g, 4, none⟩) hg _
theorem setS_other {w : World} {g g' : Nat} (hne : g' ≠ g) (b u t : Bool) (f k : Int) : (setS w g b u t f k).heap[g']? = w.heap[g']? := by
  unfold setS
  rw [Below.heap_setCell _ _ _ g' (hne), Below.heap_setCell _ _ _ g' (hne), Below.heap_setCell _ _ _ g' (hne), Below.heap_setCell _ _ _ g' (hne), Below.heap_setCell _ _ _ g' (hne)]

set_option maxRecDepth 100000 in
set_option maxHeartbeats 1000000 in
theorem change_ok (w : World) (s : Sty) (l : List Int) (A : Option Addr) (c B : Nat) (hr : intE.Row w B A l) (hB : B ≤ w.heap.size) (hl : l.length ≤ 1000) (hi : ∀ z ∈ l, -9223372036854775808 ≤ z ∧ z ≤ 9223372036854775807) :
    Calls Tryd.prog 14 #[styV s, .slice A l.length c] w fun e w' => e = .returned (styV (chgA s l)) ∧ Below w.heap.size w w' := by
  have hz := fun w => build_zero w
  by_cases h0 : l = []
  · subst h0
    have e : chgA s [] = zero := rfl
    rw [e]
    simp only [styV, zero, List.length_nil]
    go_enter Tryd.func14, Tryd.ntmps14
    go_wp2
    exact bodyPost_ret (v := .agg #[.bool false, .bool false, .bool false, .int .i64 0, .int .i64 0]) (by simp [results, Tryd.results14, go_sem]) rfl ⟨rfl, ((Below.refl _ _).alloc (Nat.le_refl _) _).alloc (by simp) _⟩
  · have e : chgA s l = chgL s l := by unfold chgA; rw [if_neg h0]
    rw [e]
    have hp : 0 < l.length := List.length_pos_iff.2 h0
    have g0 : ((l.length : Int) == 0) = false := by simp; exact h0
    have HR := Lib.hid hr
    have HI := Lib.hid hi
    clear e h0 hr hi
    simp only [styV]
    go_enter Tryd.func14, Tryd.ntmps14
    go_wp2
    go_loopw [13] (fun i wr => ∃ k : Nat, k ≤ l.length ∧ i = .int .i64 (k : Int) ∧ Below w.heap.size w wr ∧ StyAt wr w.heap.size (chgL s (l.take k)) ∧ StyAt wr (w.heap.size + 1) zero) (fun i _ => l.length - (RowKit.intOf i).toNat)
    case atStart => 
      refine ⟨0, Nat.zero_le _, rfl, ?_, ?_, ?_⟩
      · exact ((Below.refl _ _).alloc (Nat.le_refl _) _).alloc (by simp) _
      · exact StyAt.below (s := s) (heap_alloc_new w _) ((Below.refl _ _).alloc (Nat.le_refl _) _) (by simp)
      · have h := heap_alloc_new (w.alloc (.cells #[.bool s.bold, .bool s.under, .bool s.turned, .int .i64 s.fore, .int .i64 s.back] 23)) (.cells #[.bool false, .bool false, .bool false, .int .i64 0, .int .i64 0] 23)
        rw [show (w.alloc (.cells #[.bool s.bold, .bool s.under, .bool s.turned, .int .i64 s.fore, .int .i64 s.back] 23)).heap.size = w.heap.size + 1 by simp] at h
        exact h
    case round =>
      obtain ⟨k, hk, rfl, hb, hs1, hs2⟩ := hrel
      have HB := Lib.hid hb
      have HS1 := Lib.hid hs1
      have HS2 := Lib.hid hs2
      clear hb hs1 hs2
      by_cases hlt : k < l.length
      · have g1 : decide ((k : Int) < (l.length : Int)) = true := by simp; omega
        have gn : decide (k < l.length) = true := by simp; omega
        obtain ⟨b, off, rfl, hbl, hc⟩ := HR.out.at_ hlt
        have hck : wr.cell? ⟨b, off + k, none⟩ = some (.int .i64 l[k]) := (HB.out.cell (p := ⟨b, off + k, none⟩) (by show b < _; omega)).trans (by have := hc 0 (by decide); simpa [intE] using this)
        have hz' := HI.out l[k] (List.getElem_mem hlt)
        have HTK := Lib.hid (show chgL s (l.take (k + 1)) = chg (chgL s (l.take k)) l[k] by rw [List.take_succ_eq_append_getElem hlt, chgL_append, chgL_one])
        have HCH := Lib.hid (fun w => changeOne_ok w (chgL s (l.take k)) l[k] hz')
        obtain ⟨d0, d1, d2, d3, d4, f0, f1, f2, f3, f4⟩ := HS1.out.cells
        clear hc hz'
        generalize l[k] = p at *
        generalize chgL s (l.take k) = q at *
        obtain ⟨b0, u0, t0, fo, ba⟩ := q
        simp only [styV] at d0 d1 d2 d3 d4 HCH
        go_wp2_with fail
        refine (HCH.out _).mono ?_
        rintro e w1 ⟨rfl, hb1⟩
        have HB1 := Lib.hid hb1
        clear hb1
        generalize hq : chg ⟨b0, u0, t0, fo, ba⟩ p = q at *
        obtain ⟨b1, u1, t1, fo1, ba1⟩ := q
        clear hq
        obtain ⟨e0, e1, e2, e3, e4, k0, k1, k2, k3, k4⟩ := (HS1.out.below HB1.out HS1.out.lt).cells
        go_wp2_with fail
        go_roundw
        case rel =>
          refine ⟨k + 1, by omega, by simp, setS_below (below_next HB.out HB1.out) (Nat.le_refl _) b1 u1 t1 fo1 ba1, ?_, ?_⟩
          · rw [HTK.out]
            exact setS_at (HS1.out.below HB1.out HS1.out.lt) b1 u1 t1 fo1 ba1
          · exact (setS_other (by omega) b1 u1 t1 fo1 ba1).trans (HS2.out.below HB1.out HS2.out.lt)
        case measure => simp [RowKit.intOf]; omega
      · have g1 : decide ((k : Int) < (l.length : Int)) = false := by simp; omega
        have gn : decide (k < l.length) = false := by simp; omega
        obtain rfl : k = l.length := by omega
        have hs := HS1.out
        rw [List.take_length] at hs
        obtain ⟨d0, d1, d2, d3, d4, f0, f1, f2, f3, f4⟩ := hs.cells
        obtain ⟨e0, e1, e2, e3, e4, k0, k1, k2, k3, k4⟩ := HS2.out.cells
        clear hs
        go_wp2
        exact bodyPost_ret (results_cell_row rfl _ _ (w.heap.size + 1) _ _ _ _ rfl (setS_at HS2.out _ _ _ _ _) Tryd.underlying23 rfl (by kernel_rfl)) rfl ⟨rfl, setS_below HB.out (by omega) _ _ _ _ _⟩

/-- What Params answers. -/
def ParamsPost (w : World) (l : List Int) (e : Ending) (w' : World) : Prop := ∃ A c, e = .returned (.slice A l.length c) ∧ intE.Row w' w'.heap.size A l ∧ Below w.heap.size w w'
/-- Where Params stands: the parameters so far, in a row of its own; the style lies where it lay. -/
def ParRel (w w1 : World) (L : List Int) (v : Value) (wc : World) : Prop := intE.Own wc (w.heap.size + 1) v L ∧ Below (w.heap.size + 1) w1 wc
theorem ParRel.step {w w1 wc wd : World} {L : List Int} {v v' : Value} {x : Int} (h : ParRel w w1 L v wc) (hz : w1.heap.size = w.heap.size + 1) (ho : intE.Own wd (w.heap.size + 1) v' (L ++ [x])) (hg : Grow wc wd v v') : ParRel w w1 (L ++ [x]) v' wd :=
  ⟨ho, h.2.trans (h.1.grow_below hg (by have := h.2.size; omega))⟩

set_option maxRecDepth 100000 in
set_option maxHeartbeats 1000000 in
theorem params_ok (w : World) (s : Sty) (hs : sright s = true) :
    Calls Tryd.prog 15 #[styV s] w (ParamsPost w (params s)) := by
  rw [sright_iff] at hs
  obtain ⟨b, u, t, f, k⟩ := s
  simp only [styV] at hs ⊢
  obtain ⟨w1, hw1⟩ : ∃ w1, w1 = w.alloc (.cells #[.bool b, .bool u, .bool t, .int .i64 f, .int .i64 k] 23) := ⟨_, rfl⟩
  have hz1 : w1.heap.size = w.heap.size + 1 := by rw [hw1]; simp
  have HST := Lib.hid (show StyAt w1 w.heap.size ⟨b, u, t, f, k⟩ by rw [hw1]; exact heap_alloc_new w _)
  have HB1 := Lib.hid (show Below w.heap.size w w1 by rw [hw1]; exact (Below.refl _ _).alloc (Nat.le_refl _) _)
  have W1 := Lib.hid hw1
  clear hw1
  obtain ⟨L0, hL0⟩ : ∃ L : List Int, L = [0] := ⟨_, rfl⟩
  have LEN0 : L0.length ≤ 1 := by rw [hL0]; simp
  obtain ⟨L1, hL1⟩ : ∃ L : List Int, L = L0 ++ (if b = true then [1] else []) := ⟨_, rfl⟩
  have LEN1 : L1.length ≤ 2 := by rw [hL1, List.length_append]; split <;> simp <;> omega
  obtain ⟨L2, hL2⟩ : ∃ L : List Int, L = L1 ++ (if u = true then [4] else []) := ⟨_, rfl⟩
  have LEN2 : L2.length ≤ 3 := by rw [hL2, List.length_append]; split <;> simp <;> omega
  obtain ⟨L3, hL3⟩ : ∃ L : List Int, L = L2 ++ (if t = true then [7] else []) := ⟨_, rfl⟩
  have LEN3 : L3.length ≤ 4 := by rw [hL3, List.length_append]; split <;> simp <;> omega
  obtain ⟨L4, hL4⟩ : ∃ L : List Int, L = L3 ++ (if f ≠ 0 then [29 + f] else []) := ⟨_, rfl⟩
  have LEN4 : L4.length ≤ 5 := by rw [hL4, List.length_append]; split <;> simp <;> omega
  obtain ⟨L5, hL5⟩ : ∃ L : List Int, L = L4 ++ (if k ≠ 0 then [39 + k] else []) := ⟨_, rfl⟩
  have LEN5 : L5.length ≤ 6 := by rw [hL5, List.length_append]; split <;> simp <;> omega
  have HP : Hid (params ⟨b, u, t, f, k⟩ = L5) := Lib.hid (by rw [hL5, hL4, hL3, hL2, hL1, hL0]; rfl)
  have HL0 := Lib.hid hL0
  have HL1 := Lib.hid hL1
  have HL2 := Lib.hid hL2
  have HL3 := Lib.hid hL3
  have HL4 := Lib.hid hL4
  have HL5 := Lib.hid hL5
  clear hL5 hL4 hL3 hL2 hL1 hL0
  go_enter Tryd.func15, Tryd.ntmps15
  go_upto_if 6 with fail
  rw [← W1.out]
  have hrel : ParRel w w1 L0 (.slice (some ⟨w.heap.size + 1, 0, none⟩) 1 1) (w1.alloc (.cells #[.int .i64 0] 3)) := ⟨by rw [HL0.out]; have h := intE.own_new w1 (w.heap.size + 1) 0 #[.int .i64 0] rfl (by omega); rw [hz1] at h; exact h, (Below.refl _ _).alloc (by omega) _⟩
  generalize w1.alloc (.cells #[.int .i64 0] 3) = x0 at hrel ⊢
  have HR0 := Lib.hid hrel
  have hs0 := hrel.2.size
  clear hrel
  go_cut [3] from 4 to 37 (fun v wc => ParRel w w1 (L1) v wc)
  case first =>
    rcases b with _ | _
    · go_wp2
      go_meet
      case rel => rw [HL1.out]; simpa using HR0.out
    · skip
      go_wp2_with (at_builtin; refine intE.wp_append1 rfl (.tmp 7) (.tmp 8) rfl (w.heap.size + 1) _ (L0) rfl HR0.out.1 (1) #[.int .i64 (1)] 3 rfl rfl ?c1 ?c2 (by omega) ?_)
      case c1 => have := LEN0; simp only [intE]; omega
      case c2 => have := LEN0; unfold maxLen; omega
      intro v1 y1 ho1 hg1
      have HO := Lib.hid (ParRel.step HR0.out hz1 ho1 hg1)
      clear ho1 hg1
      go_wp2
      go_meet
      case rel => rw [HL1.out]; simpa using HO.out
  case rest =>
    have hrel := hcut
    clear hcut HR0
    obtain ⟨x1, hx⟩ : ∃ x, x = wc := ⟨_, rfl⟩
    rw [← hx] at hrel ⊢
    clear hx wc hs0
    have hd0 := (HST.out.below hrel.2 (by omega)).cells.2.1
    simp only at hd0
    go_upto_if 11 with fail
    have HR1 := Lib.hid hrel
    have hs1 := hrel.2.size
    clear hrel
    go_cut [3] from 4 to 37 (fun v wc => ParRel w w1 (L2) v wc)
    case first =>
      rcases u with _ | _
      · go_wp2
        go_meet
        case rel => rw [HL2.out]; simpa using HR1.out
      · skip
        go_wp2_with (at_builtin; refine intE.wp_append1 rfl (.tmp 12) (.tmp 13) rfl (w.heap.size + 1) _ (L1) rfl HR1.out.1 (4) #[.int .i64 (4)] 3 rfl rfl ?c1 ?c2 (by omega) ?_)
        case c1 => have := LEN1; simp only [intE]; omega
        case c2 => have := LEN1; unfold maxLen; omega
        intro v1 y1 ho1 hg1
        have HO := Lib.hid (ParRel.step HR1.out hz1 ho1 hg1)
        clear ho1 hg1
        go_wp2
        go_meet
        case rel => rw [HL2.out]; simpa using HO.out
    case rest =>
      have hrel := hcut
      clear hcut HR1
      obtain ⟨x2, hx⟩ : ∃ x, x = wc := ⟨_, rfl⟩
      rw [← hx] at hrel ⊢
      clear hx wc hs1
      have hd1 := (HST.out.below hrel.2 (by omega)).cells.2.2.1
      simp only at hd1
      go_upto_if 16 with fail
      have HR2 := Lib.hid hrel
      have hs2 := hrel.2.size
      clear hrel
      go_cut [3] from 4 to 37 (fun v wc => ParRel w w1 (L3) v wc)
      case first =>
        rcases t with _ | _
        · go_wp2
          go_meet
          case rel => rw [HL3.out]; simpa using HR2.out
        · skip
          go_wp2_with (at_builtin; refine intE.wp_append1 rfl (.tmp 17) (.tmp 18) rfl (w.heap.size + 1) _ (L2) rfl HR2.out.1 (7) #[.int .i64 (7)] 3 rfl rfl ?c1 ?c2 (by omega) ?_)
          case c1 => have := LEN2; simp only [intE]; omega
          case c2 => have := LEN2; unfold maxLen; omega
          intro v1 y1 ho1 hg1
          have HO := Lib.hid (ParRel.step HR2.out hz1 ho1 hg1)
          clear ho1 hg1
          go_wp2
          go_meet
          case rel => rw [HL3.out]; simpa using HO.out
      case rest =>
        have hrel := hcut
        clear hcut HR2
        obtain ⟨x3, hx⟩ : ∃ x, x = wc := ⟨_, rfl⟩
        rw [← hx] at hrel ⊢
        clear hx wc hs2
        have hd2 := (HST.out.below hrel.2 (by omega)).cells.2.2.2.1
        simp only at hd2
        go_upto_if 22 with fail
        have HR3 := Lib.hid hrel
        have hs3 := hrel.2.size
        clear hrel
        go_cut [3] from 4 to 37 (fun v wc => ParRel w w1 (L4) v wc)
        case first =>
          by_cases hf : f = 0
          · have g : (f != 0) = false := by simp [hf]
            go_wp2
            go_meet
            case rel => rw [HL4.out, if_neg (by simp [hf]), List.append_nil]; exact HR3.out
          · have g : (f != 0) = true := by simp [hf]
            have hwr : IntKind.i64.wrap (29 + f) = 29 + f := by rw [IntKind.wrap_i64]; omega
            go_wp2_with (at_builtin; refine intE.wp_append1 rfl (.tmp 23) (.tmp 27) rfl (w.heap.size + 1) _ (L3) rfl HR3.out.1 (29 + f) #[.int .i64 (29 + f)] 3 rfl rfl ?c1 ?c2 (by omega) ?_)
            case c1 => have := LEN3; simp only [intE]; omega
            case c2 => have := LEN3; unfold maxLen; omega
            intro v1 y1 ho1 hg1
            have HO := Lib.hid (ParRel.step HR3.out hz1 ho1 hg1)
            clear ho1 hg1
            go_wp2
            go_meet
            case rel => rw [HL4.out, if_pos hf]; exact HO.out
        case rest =>
          have hrel := hcut
          clear hcut HR3
          obtain ⟨x4, hx⟩ : ∃ x, x = wc := ⟨_, rfl⟩
          rw [← hx] at hrel ⊢
          clear hx wc hs3
          have hd3 := (HST.out.below hrel.2 (by omega)).cells.2.2.2.2.1
          simp only at hd3
          go_upto_if 31 with fail
          have HR4 := Lib.hid hrel
          have hs4 := hrel.2.size
          clear hrel
          go_cut [3] from 4 to 37 (fun v wc => ParRel w w1 (L5) v wc)
          case first =>
            by_cases hk : k = 0
            · have g : (k != 0) = false := by simp [hk]
              go_wp2
              go_meet
              case rel => rw [HL5.out, if_neg (by simp [hk]), List.append_nil]; exact HR4.out
            · have g : (k != 0) = true := by simp [hk]
              have hwr : IntKind.i64.wrap (39 + k) = 39 + k := by rw [IntKind.wrap_i64]; omega
              go_wp2_with (at_builtin; refine intE.wp_append1 rfl (.tmp 32) (.tmp 36) rfl (w.heap.size + 1) _ (L4) rfl HR4.out.1 (39 + k) #[.int .i64 (39 + k)] 3 rfl rfl ?c1 ?c2 (by omega) ?_)
              case c1 => have := LEN4; simp only [intE]; omega
              case c2 => have := LEN4; unfold maxLen; omega
              intro v1 y1 ho1 hg1
              have HO := Lib.hid (ParRel.step HR4.out hz1 ho1 hg1)
              clear ho1 hg1
              go_wp2
              go_meet
              case rel => rw [HL5.out, if_pos hk]; exact HO.out
          case rest =>
            have hrel := hcut
            clear hcut HR4
            obtain ⟨x5, hx⟩ : ∃ x, x = wc := ⟨_, rfl⟩
            rw [← hx] at hrel ⊢
            clear hx wc hs4
            go_wp2
            go_ret
            obtain ⟨A, c, hv, _, _, _, hrow⟩ := hrel.1.row
            exact ⟨A, c, by rw [HP.out, ← hv]; rfl, by rw [HP.out]; exact hrow, HB1.out.trans (hrel.2.mono (by omega))⟩
end Go.Proofs.YtalngmegenlfgaaDoor
