/-
  Layer 8's laws: Tame.
-/
import Derived.Test.YtbpkklcegiiheaaDoorKSame
namespace Go.Proofs.YtbpkklcegiiheaaDoor
open Go.RowKit Go.Lib KM

/-- What Tame makes of a cell. -/
def tameS (s : Sty) : Sty := if sright s = true then s else zero
def tameR (r : Int) : Int := if (decide (r = 0) || GM.right r) = true then r else 120
def tameC (c : Cel) : Cel := ⟨tameR c.rune, tameS c.sty⟩
theorem tameC_tame (c : Cel) : tame (tameC c) := by
  constructor
  · simp only [tameC, tameS]
    split
    · assumption
    · rfl
  · simp only [tameC, tameR]
    split
    · rename_i h
      simpa using h
    · exact .inr (by decide)
theorem tameL_tame (l : List Cel) : ∀ c ∈ l.map tameC, tame c := by
  intro c hc
  obtain ⟨x, _, rfl⟩ := List.mem_map.1 hc
  exact tameC_tame x

/-- A style stored over a cell's. -/
def setSt (w : World) (g : Nat) (b u t : Bool) (f k : Int) : World := ((((w.setCell ⟨g, 1, none⟩ (.bool b)).setCell ⟨g, 2, none⟩ (.bool u)).setCell ⟨g, 3, none⟩ (.bool t)).setCell ⟨g, 4, none⟩ (.int .i64 f)).setCell ⟨g, 5, none⟩ (.int .i64 k)
theorem setSt_at {w : World} {g : Nat} {c : Cel} (h : CelAt w g c) (b u t : Bool) (f k : Int) : CelAt (setSt w g b u t f k) g ⟨c.rune, ⟨b, u, t, f, k⟩⟩ := by
  unfold CelAt at h ⊢
  simp [setSt, World.setCell, Array.getElem?_modify, h]
theorem setSt_below {w w0 : World} {g B : Nat} (h : Below B w0 w) (hg : B ≤ g) (b u t : Bool) (f k : Int) : Below B w0 (setSt w g b u t f k) := by
  unfold setSt
  exact ((((h.setCell (p := ⟨g, 1, none⟩) hg _).setCell (p := ⟨g, 2, none⟩) hg _).setCell (p := ⟨g, 3, none⟩) hg _).setCell (p := ⟨g, 4, none⟩) hg _).setCell (p := ⟨g, 5, none⟩) hg _
theorem setRune_at {w : World} {g : Nat} {c : Cel} (h : CelAt w g c) (r : Int) : CelAt (w.setCell ⟨g, 0, none⟩ (.int .i32 r)) g ⟨r, c.sty⟩ := by
  unfold CelAt at h ⊢
  simp [World.setCell, Array.getElem?_modify, h]
theorem CelAt.thaw {w : World} {g : Nat} {c : Cel} (h : CelAt w g c) (j : Nat) : w.frozen? ⟨g, j, none⟩ = false := by
  unfold CelAt at h
  simp [World.frozen?, h]

set_option maxRecDepth 100000 in
set_option maxHeartbeats 1000000 in
theorem tame_ok (w : World) (l : List Cel) (A : Option Addr) (c B : Nat) (hr : celE.Row w B A l) (hB : B ≤ w.heap.size) (hl : l.length ≤ 3000) :
    Calls Tryd.prog 28 #[.slice A l.length c] w (CelsPost w (l.map tameC)) := by
  have HR := Lib.hid hr
  have hz0 := fun w => build_zero w
  clear hr
  go_enter Tryd.func28, Tryd.ntmps28
  go_wp2
  go_loopw [3, 8] (fun v i wr => ∃ k : Nat, k ≤ l.length ∧ i = .int .i64 (k : Int) ∧ Below w.heap.size w wr ∧ celE.Own wr w.heap.size v ((l.take k).map tameC)) (fun _ i _ => l.length - (RowKit.intOf i).toNat)
  case atStart => exact ⟨0, Nat.zero_le _, rfl, Below.refl _ _, El.Own.nil _ _⟩
  case round =>
    obtain ⟨k, hk, rfl, hb, ho⟩ := hrel
    have HB := Lib.hid hb
    have HO := Lib.hid ho
    have hz := hb.size
    clear hb ho
    by_cases hlt : k < l.length
    · have g1 : decide ((k : Int) < (l.length : Int)) = true := by simp; omega
      have gn : decide (k < l.length) = true := by simp; omega
      obtain ⟨b, off, rfl, hbl, c0, c1, c2, c3, c4, c5⟩ := cel_at (HR.out.below (HB.out.mono hB)) hlt
      have HTK := Lib.hid (show (l.take (k + 1)).map tameC = (l.take k).map tameC ++ [tameC l[k]] by rw [List.take_succ_eq_append_getElem hlt, List.map_append]; rfl)
      have hlm : ((l.take k).map tameC).length ≤ 3000 := by rw [List.length_map, List.length_take]; omega
      generalize (l.take k).map tameC = L at *
      have HRS := Lib.hid (fun v => rstyle_ok v l[k].sty)
      generalize l[k] = y at *
      obtain ⟨r, ⟨bo, u, t, f, ba⟩⟩ := y
      simp only [styV] at *
      obtain ⟨w1, hw1⟩ : ∃ w1, w1 = wr.alloc (.cells #[.int .i32 r, .bool bo, .bool u, .bool t, .int .i64 f, .int .i64 ba] 37) := ⟨_, rfl⟩
      have hb1 : Below wr.heap.size wr w1 := by rw [hw1]; exact (Below.refl _ _).alloc (Nat.le_refl _) _
      have hc1 : CelAt w1 wr.heap.size ⟨r, ⟨bo, u, t, f, ba⟩⟩ := by rw [hw1]; exact heap_alloc_new wr _
      have W1 := Lib.hid hw1
      have HB1 := Lib.hid hb1
      have HC1 := Lib.hid hc1
      have hz1 := hb1.size
      clear hw1 hb1 hc1
      go_wp2_with fail
      rw [← W1.out]
      refine (HRS.out w1).mono ?_
      rintro e w2 ⟨rfl, hb2⟩
      have hc2 := HC1.out.below hb2 HC1.out.lt
      have HC2 := Lib.hid hc2
      have HB2 := Lib.hid (HB1.out.trans (hb2.mono HB1.out.size))
      clear hb2 hc2
      generalize hs' : tameS ⟨bo, u, t, f, ba⟩ = s'
      have HS' := Lib.hid hs'
      clear hs'
      generalize hr' : tameR r = r'
      have HR' := Lib.hid hr'
      clear hr'
      go_upto_if 15 with fail
      go_cut [] from 9 to 32 (fun wc => CelAt wc wr.heap.size ⟨r, s'⟩ ∧ Below wr.heap.size wr wc)
      case first =>
        rcases hsr : sright ⟨bo, u, t, f, ba⟩ with _ | _
        · have e : s' = zero := by rw [← HS'.out]; unfold tameS; rw [hsr]; simp
          have f1 := HC2.out.thaw 1; have f2 := HC2.out.thaw 2; have f3 := HC2.out.thaw 3; have f4 := HC2.out.thaw 4; have f5 := HC2.out.thaw 5
          obtain ⟨d0, d1, d2, d3, d4, d5⟩ := HC2.out.cells
          have HE := Lib.hid e
          clear e
          go_wp2_with fail
          go_meet
          case rel => rw [HE.out]; exact ⟨setSt_at HC2.out false false false 0 0, setSt_below HB2.out (Nat.le_refl _) false false false 0 0⟩
        · have e : s' = ⟨bo, u, t, f, ba⟩ := by rw [← HS'.out]; unfold tameS; rw [hsr]; simp
          have HE := Lib.hid e
          clear e
          go_wp2_with fail
          go_meet
          case rel => rw [HE.out]; exact ⟨HC2.out, HB2.out⟩
      case rest =>
        obtain ⟨hcx, hbx⟩ := hcut
        obtain ⟨w3, hw3⟩ : ∃ w3, w3 = wc := ⟨_, rfl⟩
        rw [← hw3] at hcx hbx ⊢
        clear hw3 wc
        have HC3 := Lib.hid hcx
        have HB3 := Lib.hid hbx
        have d0 := hcx.cells.1
        have f0 := hcx.thaw 0
        simp only at d0
        clear hcx hbx
        by_cases h0 : r = 0
        · have g0 : (r != 0) = false := by simp [h0]
          have e : tameR r = r := by simp [tameR, h0]
          have er : r' = r := HR'.out.symm.trans e
          clear e h0
          subst er
          go_upto_region 9 with fail
          have hcw := HC3.out
          obtain ⟨e0, e1, e2, e3, e4, e5⟩ := hcw.cells
          have HOW := Lib.hid (HO.out.below HB3.out)
          have HBW := Lib.hid (HB.out.trans ((HB3.out).mono hz))
          have hzw := (HB3.out).size
          clear hcw
          generalize w3 = W at *
          obtain ⟨x0, x1, x2, x3, x4⟩ := s'
          simp only at e0 e1 e2 e3 e4 e5
          go_wp2_with (at_builtin; refine celE.wp_append1 rfl (.tmp 28) (.tmp 30) rfl w.heap.size _ L rfl HOW.out ⟨r', ⟨x0, x1, x2, x3, x4⟩⟩ #[.int .i32 r', .bool x0, .bool x1, .bool x2, .int .i64 x3, .int .i64 x4] 37 rfl rfl ?c1 ?c2 (by omega) ?_)
          case c1 => simp only [celE]; omega
          case c2 => unfold maxLen; omega
          intro v1 y1 ho1 hg1
          have HO1 := Lib.hid ho1
          have HB1' := Lib.hid (HBW.out.trans (HOW.out.grow_below hg1 (by omega)))
          clear ho1 hg1
          go_wp2_with fail
          go_roundw
          case rel => exact ⟨k + 1, by omega, by simp, HB1'.out, by rw [HTK.out]; have := HO1.out; rw [← HR'.out, ← HS'.out] at this; exact this⟩
          case measure => simp [RowKit.intOf]; omega
        · have g0 : (r != 0) = true := by simp [h0]
          rcases hri : GM.right r with _ | _
          · have er : r' = 120 := HR'.out.symm.trans (by simp [tameR, h0, hri])
            have HRI := Lib.hid hri
            clear hri h0
            subst er
            go_wp2_with fail
            refine (rright_ok w3 r).mono ?_
            rw [HRI.out]
            rintro e w4 ⟨rfl, hw4⟩
            rw [hw4]
            clear hw4 w4
            go_upto_region 9 with fail
            have hcw := setRune_at HC3.out 120
            obtain ⟨e0, e1, e2, e3, e4, e5⟩ := hcw.cells
            have HOW := Lib.hid (HO.out.below (HB3.out.setCell (p := ⟨wr.heap.size, 0, none⟩) (Nat.le_refl _) (.int .i32 120)))
            have HBW := Lib.hid (HB.out.trans (((HB3.out.setCell (p := ⟨wr.heap.size, 0, none⟩) (Nat.le_refl _) (.int .i32 120))).mono hz))
            have hzw := ((HB3.out.setCell (p := ⟨wr.heap.size, 0, none⟩) (Nat.le_refl _) (.int .i32 120))).size
            clear hcw
            generalize w3.setCell ⟨wr.heap.size, 0, none⟩ (.int .i32 120) = W at *
            obtain ⟨x0, x1, x2, x3, x4⟩ := s'
            simp only at e0 e1 e2 e3 e4 e5
            go_wp2_with (at_builtin; refine celE.wp_append1 rfl (.tmp 28) (.tmp 30) rfl w.heap.size _ L rfl HOW.out ⟨120, ⟨x0, x1, x2, x3, x4⟩⟩ #[.int .i32 120, .bool x0, .bool x1, .bool x2, .int .i64 x3, .int .i64 x4] 37 rfl rfl ?c1 ?c2 (by omega) ?_)
            case c1 => simp only [celE]; omega
            case c2 => unfold maxLen; omega
            intro v1 y1 ho1 hg1
            have HO1 := Lib.hid ho1
            have HB1' := Lib.hid (HBW.out.trans (HOW.out.grow_below hg1 (by omega)))
            clear ho1 hg1
            go_wp2_with fail
            go_roundw
            case rel => exact ⟨k + 1, by omega, by simp, HB1'.out, by rw [HTK.out]; have := HO1.out; rw [← HR'.out, ← HS'.out] at this; exact this⟩
            case measure => simp [RowKit.intOf]; omega
          · have er : r' = r := HR'.out.symm.trans (by simp [tameR, hri])
            have HRI := Lib.hid hri
            clear hri h0
            subst er
            go_wp2_with fail
            refine (rright_ok w3 r').mono ?_
            rw [HRI.out]
            rintro e w4 ⟨rfl, hw4⟩
            rw [hw4]
            clear hw4 w4
            go_upto_region 9 with fail
            have hcw := HC3.out
            obtain ⟨e0, e1, e2, e3, e4, e5⟩ := hcw.cells
            have HOW := Lib.hid (HO.out.below HB3.out)
            have HBW := Lib.hid (HB.out.trans ((HB3.out).mono hz))
            have hzw := (HB3.out).size
            clear hcw
            generalize w3 = W at *
            obtain ⟨x0, x1, x2, x3, x4⟩ := s'
            simp only at e0 e1 e2 e3 e4 e5
            go_wp2_with (at_builtin; refine celE.wp_append1 rfl (.tmp 28) (.tmp 30) rfl w.heap.size _ L rfl HOW.out ⟨r', ⟨x0, x1, x2, x3, x4⟩⟩ #[.int .i32 r', .bool x0, .bool x1, .bool x2, .int .i64 x3, .int .i64 x4] 37 rfl rfl ?c1 ?c2 (by omega) ?_)
            case c1 => simp only [celE]; omega
            case c2 => unfold maxLen; omega
            intro v1 y1 ho1 hg1
            have HO1 := Lib.hid ho1
            have HB1' := Lib.hid (HBW.out.trans (HOW.out.grow_below hg1 (by omega)))
            clear ho1 hg1
            go_wp2_with fail
            go_roundw
            case rel => exact ⟨k + 1, by omega, by simp, HB1'.out, by rw [HTK.out]; have := HO1.out; rw [← HR'.out, ← HS'.out] at this; exact this⟩
            case measure => simp [RowKit.intOf]; omega
    · have g1 : decide ((k : Int) < (l.length : Int)) = false := by simp; omega
      have gn : decide (k < l.length) = false := by simp; omega
      obtain rfl : k = l.length := by omega
      have ho := HO.out
      rw [List.take_length] at ho
      have HO2 := Lib.hid ho
      clear ho
      go_wp2_with fail
      go_ret
      exact ⟨u3, rfl, HO2.out, HB.out⟩
end Go.Proofs.YtbpkklcegiiheaaDoor
