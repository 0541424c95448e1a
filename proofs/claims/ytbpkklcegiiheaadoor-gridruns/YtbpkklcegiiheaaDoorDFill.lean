/-
  Layer 9's laws: Fill.
-/
import Derived.Test.YtbpkklcegiiheaaDoorDPut
import Derived.Test.YtbpkklcegiiheaaDoorDFit
import Derived.Test.YtbpkklcegiiheaaDoorKTame
import Derived.Test.YtbpkklcegiiheaaDoorKRef
namespace Go.Proofs.YtbpkklcegiiheaaDoor
open Go.RowKit Go.Lib KM

theorem setCel_at {w : World} {b : Nat} {c0 : Cel} (h : CelAt w b c0) (c : Cel) : CelAt (setCel w b 0 c) b c := by
  have h1 := setRune_at h c.rune
  exact setSt_at h1 c.sty.bold c.sty.under c.sty.turned c.sty.fore c.sty.back
theorem gput_w (g : Gr) (x y : Int) (c : Cel) : (gput g x y c).w = g.w ∧ (gput g x y c).h = g.h := by unfold gput; split <;> exact ⟨rfl, rfl⟩

set_option maxRecDepth 100000 in
set_option maxHeartbeats 4000000 in
theorem fill_ok (w : World) (hT : Tabs w) (x y : Int) (A : Option Addr) (c : Nat) (l : List Cel) (hr : celE.Row w w.heap.size A l) (hl : l.length ≤ 2000) :
    Calls Tryd.prog 11 #[.int .i64 x, .int .i64 y, .slice A l.length c] w fun e w' => ∃ p g, e = .returned (.pointer (some ⟨p, 0, none⟩)) ∧ NewGrid w w' p g ∧ g.Ok ∧ g.w = (nr x 1 60).toNat ∧ g.h = (nr y 1 60).toNat := by
  have hx := nr_in (n := x) (a := 1) (b := 60) (by omega)
  have hy := nr_in (n := y) (a := 1) (b := 60) (by omega)
  have HNW := Lib.hid (new_ok w x y)
  have hok0 := gnew_ok x y
  have hw0 : (gnew x y).w = (nr x 1 60).toNat := rfl
  have hh0 : (gnew x y).h = (nr y 1 60).toNat := rfl
  generalize gnew x y = g0 at *
  obtain ⟨W, hW⟩ := Int.eq_ofNat_of_zero_le (show 0 ≤ nr x 1 60 by omega)
  obtain ⟨H, hH⟩ := Int.eq_ofNat_of_zero_le (show 0 ≤ nr y 1 60 by omega)
  rw [hW, Int.toNat_natCast] at hw0 ⊢
  rw [hH, Int.toNat_natCast] at hh0 ⊢
  have hW1 : 1 ≤ W ∧ W ≤ 60 := by omega
  have hH1 : 1 ≤ H ∧ H ≤ 60 := by omega
  have HT := Lib.hid hT
  have HR := Lib.hid hr
  have HOK0 := Lib.hid hok0
  have HW0 := Lib.hid hw0
  have HH0 := Lib.hid hh0
  obtain ⟨m, hm⟩ : ∃ m, m = W * H := ⟨_, rfl⟩
  have hm3 : m ≤ 3600 := by rw [hm]; exact Nat.mul_le_mul hW1.2 hH1.2
  have hmul : (W : Int) * (H : Int) = (m : Int) := by rw [hm]; simp
  have hwm : IntKind.i64.wrap (m : Int) = (m : Int) := by rw [IntKind.wrap_i64]; omega
  clear hx hy hW hH hok0 hw0 hh0 hT hr hm
  go_enter Tryd.func11, Tryd.ntmps11
  go_wp2_with fail
  refine HNW.out.mono ?_
  rintro e w1 ⟨p, rfl, ⟨⟨F0, hat0, hF0⟩, hb1⟩⟩
  have z1 := hb1.size
  have HB1 := Lib.hid hb1
  have HAT0 := Lib.hid hat0
  have HF0 := Lib.hid hF0
  have HF0' := Lib.hid hat0.lt
  have hpw1 : p < w1.heap.size := hat0.lt p hat0.p_mem
  clear hb1 hat0 hF0
  go_wp2_with fail
  refine (tame_ok w1 l A c w.heap.size (HR.out.below HB1.out) z1 (by omega)).mono ?_
  have hlt : (l.map tameC).length ≤ 2000 := by rw [List.length_map]; omega
  generalize l.map tameC = t at *
  rintro e w2 ⟨v2, rfl, o2, b2⟩
  obtain ⟨A2, c2, rfl, _, _, hA2, r2⟩ := o2.row
  have HO2 := Lib.hid o2
  have HB2 := Lib.hid (below_next HB1.out b2)
  have HAT2 := Lib.hid (HAT0.out.below b2)
  have z2 := b2.size
  clear o2 b2 r2
  go_wp2_with fail
  go_loopw [8, 17] (fun i j wr => ∃ (k n : Nat) (F : List Nat) (g : Gr), k ≤ t.length ∧ n ≤ 2 * k ∧ j = .int .i64 (k : Int) ∧ i = .int .i64 (n : Int) ∧ Below w.heap.size w wr ∧ GridAt wr F p g ∧ (∀ q ∈ F, w.heap.size ≤ q ∧ (q < w1.heap.size ∨ w2.heap.size ≤ q)) ∧ g.Ok ∧ g.w = W ∧ g.h = H ∧ celE.Own wr w1.heap.size (.slice A2 t.length c2) t ∧ (∀ q, w1.heap.size ≤ q → q < w2.heap.size → wr.heap[q]? = w2.heap[q]?) ∧ w2.heap.size ≤ wr.heap.size) (fun _ j _ => t.length - (RowKit.intOf j).toNat)
  case atStart => exact ⟨0, 0, F0, g0, Nat.zero_le _, Nat.zero_le _, rfl, rfl, HB2.out, HAT2.out, fun q hq => ⟨HF0.out q hq, .inl (HF0'.out q hq)⟩, HOK0.out, HW0.out, HH0.out, HO2.out, fun _ _ _ => rfl, Nat.le_refl _⟩
  case round =>
    obtain ⟨k, n, F, g, hk, hn, rfl, rfl, hbr, hat, hF, hok, hgw, hgh, ho, hkeep, z2r⟩ := hrel
    have HBR := Lib.hid hbr
    have HAT := Lib.hid hat
    have HF := Lib.hid hF
    have HOK := Lib.hid hok
    have HGW := Lib.hid hgw
    have HGH := Lib.hid hgh
    have HO := Lib.hid ho
    have HKEEP := Lib.hid hkeep
    have zr := hbr.size
    clear hbr hat hF hok hgw hgh ho hkeep
    by_cases hlt' : k < t.length
    · have g1 : decide ((k : Int) < (t.length : Int)) = true := by simp; omega
      have gm : decide (k < t.length) = true := by simp; omega
      have hrow3 := El.Row.of_own HO.out
      obtain ⟨b, off, rfl, _, q0, q1, q2, q3, q4, q5⟩ := cel_at hrow3 hlt'
      generalize hcd : t[k] = cd at *
      obtain ⟨w4, hw4⟩ : ∃ w4, w4 = wr.alloc (.cells #[.int .i32 cd.rune, .bool cd.sty.bold, .bool cd.sty.under, .bool cd.sty.turned, .int .i64 cd.sty.fore, .int .i64 cd.sty.back] 37) := ⟨_, rfl⟩
      have hb4 : Below wr.heap.size wr w4 := by rw [hw4]; exact (Below.refl _ _).alloc (Nat.le_refl _) _
      have hz4 : w4.heap.size = wr.heap.size + 1 := by rw [hw4]; simp
      have hc4 : CelAt w4 wr.heap.size cd := by rw [hw4]; exact CelAt.fresh wr cd
      have hat4 := HAT.out.below hb4
      obtain ⟨w5, hw5⟩ : ∃ w5, w5 = w4.drew := ⟨_, rfl⟩
      have hb45 : Below w4.heap.size w4 w5 := by rw [hw5]; exact (Below.refl _ _).drew
      have hz5 : w5.heap.size = w4.heap.size := by rw [hw5]; rfl
      have hat5 := hat4.below hb45
      obtain ⟨hb, hc, L, hG5, hFf⟩ := hat5
      have c50 := hG5.cell0
      have c51 := hG5.cell1
      rw [HGW.out] at c50
      rw [HGH.out] at c51
      have HG5 := Lib.hid hG5
      have hlp : p < wr.heap.size := HAT.out.lt p HAT.out.p_mem
      have HC5 := Lib.hid (hc4.below hb45 hc4.lt)
      have HB5 := Lib.hid (below_next hb4 hb45)
      have HAT5 := Lib.hid (HAT.out.below (below_next hb4 hb45))
      have W4 := Lib.hid hw4
      have W5 := Lib.hid hw5
      clear hrow3 hcd hw4 hc4 hb4 hat4 hw5 hb45 hG5 hFf
      obtain ⟨r, ⟨bo, u, t', f, ba⟩⟩ := cd
      simp only at q0 q1 q2 q3 q4 q5
      go_upto_region 6 with fail
      rw [← W4.out]
      refine wp_region_noPanic ?_
      refine wp_region_held_drew (S := fun v => v.cell? ⟨p, 0, none⟩ = some (.int .i64 (W : Int)) ∧ v.cell? ⟨p, 1, none⟩ = some (.int .i64 (H : Int))) (by kernel_rfl) (by rw [← W5.out]; exact ⟨c50, c51⟩) (fun hHeld => ?_)
      rw [← W5.out]
      have hS5 : w5.cell? ⟨p, 0, none⟩ = some (.int .i64 (W : Int)) ∧ w5.cell? ⟨p, 1, none⟩ = some (.int .i64 (H : Int)) := ⟨c50, c51⟩
      refine wpAnyH_take (i := 0) (v := ?va0) rfl (by kernel_rfl) (by kernel_rfl) (by kernel_rfl) (fun _ _ _ h => h) (Or.inl ⟨by rfl, ?ha0⟩) (by assumption) ?_
      case ha0 => intro w hSw; (try dsimp only at hSw); go_simp; try with_reducible rfl
      simp only [List.getElem_toArray, List.getElem_cons_zero, Act.put, List.setIfInBounds_toArray, List.set_cons_zero, List.set_cons_succ]
      refine wpAnyH_take (i := 1) (v := ?va1) rfl (by kernel_rfl) (by kernel_rfl) (by kernel_rfl) (fun _ _ _ h => h) (Or.inl ⟨by rfl, ?ha1⟩) (by assumption) ?_
      case ha1 => intro w hSw; (try dsimp only at hSw); go_simp; try with_reducible rfl
      simp only [List.getElem_toArray, List.getElem_cons_succ, List.getElem_cons_zero, Act.put, List.setIfInBounds_toArray, List.set_cons_zero, List.set_cons_succ]
      refine wpAnyH_take (i := 2) (v := ?va2) rfl (by kernel_rfl) (by kernel_rfl) (by kernel_rfl) (fun _ _ _ h => h) (Or.inl ⟨by rfl, ?ha2⟩) (by assumption) ?_
      case ha2 => intro w hSw; (try dsimp only at hSw); go_simp; try with_reducible rfl
      simp only [List.getElem_toArray, List.getElem_cons_succ, List.getElem_cons_zero, Act.put, List.setIfInBounds_toArray, List.set_cons_zero, List.set_cons_succ]
      refine wpAnyH_take (i := 3) (v := ?va3) rfl (by kernel_rfl) (by kernel_rfl) (by kernel_rfl) (fun _ _ _ h => h) (Or.inl ⟨by rfl, ?ha3⟩) (by assumption) ?_
      case ha3 => intro w hSw; (try dsimp only at hSw); go_simp; try with_reducible rfl
      simp only [List.getElem_toArray, List.getElem_cons_succ, List.getElem_cons_zero, Act.put, List.setIfInBounds_toArray, List.set_cons_zero, List.set_cons_succ]
      refine wpAnyH_take (i := 4) (v := ?va4) rfl (by kernel_rfl) (by kernel_rfl) (by kernel_rfl) (fun _ _ _ h => h) (Or.inl ⟨by rfl, ?ha4⟩) (by assumption) ?_
      case ha4 => intro w hSw; (try dsimp only at hSw); go_simp; try with_reducible rfl
      simp only [List.getElem_toArray, List.getElem_cons_succ, List.getElem_cons_zero, Act.put, List.setIfInBounds_toArray, List.set_cons_zero, List.set_cons_succ]
      refine wpAnyH_take (i := 5) (v := ?va5) rfl (by kernel_rfl) (by kernel_rfl) (by kernel_rfl) (fun _ _ _ h => h) (Or.inl ⟨by rfl, ?ha5⟩) (by assumption) ?_
      case ha5 => intro w hSw; (try dsimp only at hSw); go_simp; try with_reducible rfl
      simp only [List.getElem_toArray, List.getElem_cons_succ, List.getElem_cons_zero, Act.put, List.setIfInBounds_toArray, List.set_cons_zero, List.set_cons_succ]
      refine wpAnyH_take (i := 6) (v := ?va6) rfl (by kernel_rfl) (by kernel_rfl) (by kernel_rfl) (fun _ _ _ h => h) (Or.inl ⟨by rfl, ?ha6⟩) (by assumption) ?_
      case ha6 => intro w hSw; (try dsimp only at hSw); go_simp; try with_reducible rfl
      simp only [List.getElem_toArray, List.getElem_cons_succ, List.getElem_cons_zero, Act.put, List.setIfInBounds_toArray, List.set_cons_zero, List.set_cons_succ]
      refine wpAnyH_take (i := 7) (v := ?va7) rfl (by kernel_rfl) (by kernel_rfl) (by kernel_rfl) (fun _ _ _ h => h) (Or.inl ⟨by rfl, ?ha7⟩) (by assumption) ?_
      case ha7 => intro w hSw; (try dsimp only at hSw); go_simp; try with_reducible rfl
      simp only [List.getElem_toArray, List.getElem_cons_succ, List.getElem_cons_zero, Act.put, List.setIfInBounds_toArray, List.set_cons_zero, List.set_cons_succ]
      refine wpAnyH_take (i := 8) (v := ?va8) rfl (by kernel_rfl) (by kernel_rfl) (by kernel_rfl) (fun _ _ _ h => h) (Or.inl ⟨by rfl, ?ha8⟩) (by assumption) ?_
      case ha8 => intro w hSw; (try dsimp only at hSw); go_simp; try with_reducible rfl
      simp only [List.getElem_toArray, List.getElem_cons_succ, List.getElem_cons_zero, Act.put, List.setIfInBounds_toArray, List.set_cons_zero, List.set_cons_succ]
      refine wpAnyH_take (i := 9) (v := ?va9) rfl (by kernel_rfl) (by kernel_rfl) (by kernel_rfl) (fun _ _ _ h => h) (Or.inl ⟨by rfl, ?ha9⟩) (by assumption) ?_
      case ha9 => intro w hSw; (try dsimp only at hSw); go_simp; try with_reducible rfl
      simp only [List.getElem_toArray, List.getElem_cons_succ, List.getElem_cons_zero, Act.put, List.setIfInBounds_toArray, List.set_cons_zero, List.set_cons_succ]
      refine wpAnyH_take (i := 10) (v := ?va10) rfl (by kernel_rfl) (by kernel_rfl) (by kernel_rfl) (fun _ _ _ h => h) (Or.inl ⟨by rfl, ?ha10⟩) (by assumption) ?_
      case ha10 => intro w hSw; (try dsimp only at hSw); go_simp; try with_reducible rfl
      simp only [List.getElem_toArray, List.getElem_cons_succ, List.getElem_cons_zero, Act.put, List.setIfInBounds_toArray, List.set_cons_zero, List.set_cons_succ]
      refine wpAnyH_done (by kernel_rfl) ?_ _
      refine NoPanic.normal ?_
      clear hHeld hS5 c50 c51 q0 q1 q2 q3 q4 q5
      have HTR := Lib.hid (HT.out.on (HBR.out.trans (HB5.out.mono zr)) HT.out.room)
      have HPUT := Lib.hid (put_ok w5 HTR.out HAT5.out HOK.out)
      by_cases hge : m ≤ n
      · have g2 : decide ((m : Int) ≤ (n : Int)) = true := by simp; omega
        have gq : decide (m ≤ n) = true := by simp; omega
        go_wp2_with fail
        go_ret
        exact ⟨p, rfl, g, ⟨⟨F, HAT5.out, fun q hq => (HF.out q hq).1⟩, HBR.out.trans (HB5.out.mono zr)⟩, HOK.out, HGW.out, HGH.out⟩
      · have g2 : decide ((m : Int) ≤ (n : Int)) = false := by simp; omega
        have gq : decide (m ≤ n) = false := by simp; omega
        obtain ⟨w6, hw6⟩ : ∃ w6, w6 = w5.drew := ⟨_, rfl⟩
        have hb56 : Below w5.heap.size w5 w6 := by rw [hw6]; exact (Below.refl _ _).drew
        have hz6 : w6.heap.size = w5.heap.size := by rw [hw6]; rfl
        have HAT6 := Lib.hid (HAT5.out.below hb56)
        have HPUT : Hid (∀ X Y : Int, Calls Tryd.prog 30 #[.pointer (some ⟨p, 0, none⟩), .int .i64 X, .int .i64 Y, .agg #[.int .i32 r, .bool bo, .bool u, .bool t', .int .i64 f, .int .i64 ba]] w6 fun e w' => e = .returned (.tuple #[]) ∧ GPost w6 F p (gput g X Y ⟨r, ⟨bo, u, t', f, ba⟩⟩) w') := Lib.hid (fun X Y => put_ok w6 (HTR.out.on hb56 HTR.out.room) HAT6.out HOK.out X Y ⟨r, ⟨bo, u, t', f, ba⟩⟩)
        have HC6 := Lib.hid (HC5.out.below hb56 HC5.out.lt)
        have c60 := (HG5.out.below hb56).cell0
        rw [HGW.out] at c60
        obtain ⟨s0, s1, s2, s3, s4, s5⟩ := HC6.out.cells
        simp only at s0 s1 s2 s3 s4 s5
        have HB6 := Lib.hid (HB5.out.trans (hb56.mono (by omega)))
        have W6 := Lib.hid hw6
        have hS6 : w6.cell? ⟨p, 0, none⟩ = some (.int .i64 (W : Int)) ∧ w6.cell? ⟨wr.heap.size, 0, none⟩ = some (.int .i32 r) ∧ w6.cell? ⟨wr.heap.size, 1, none⟩ = some (.bool bo) ∧ w6.cell? ⟨wr.heap.size, 2, none⟩ = some (.bool u) ∧ w6.cell? ⟨wr.heap.size, 3, none⟩ = some (.bool t') ∧ w6.cell? ⟨wr.heap.size, 4, none⟩ = some (.int .i64 f) ∧ w6.cell? ⟨wr.heap.size, 5, none⟩ = some (.int .i64 ba) := ⟨c60, s0, s1, s2, s3, s4, s5⟩
        clear hw6 hb56 c60 s0 s1 s2 s3 s4 s5
        have hmod : Int.tmod (n : Int) (W : Int) = ((n % W : Nat) : Int) := by rw [Int.tmod_eq_emod_of_nonneg (by omega)]; simp
        have hdiv : Int.tdiv (n : Int) (W : Int) = ((n / W : Nat) : Int) := by rw [Int.tdiv_eq_ediv_of_nonneg (by omega)]; simp
        have hne : (W : Int) ≠ 0 := by omega
        have hne' : (W = 0) = False := by simp; omega
        generalize n % W = X at *
        have hYl : n / W ≤ n := Nat.div_le_self _ _
        generalize n / W = Y at *
        have hwY : IntKind.i64.wrap (Y : Int) = (Y : Int) := by rw [IntKind.wrap_i64]; omega
        go_upto_region 7 with fail
        refine wp_region_noPanic ?_
        refine wp_region_held_drew (S := fun v => v.cell? ⟨p, 0, none⟩ = some (.int .i64 (W : Int)) ∧ v.cell? ⟨wr.heap.size, 0, none⟩ = some (.int .i32 r) ∧ v.cell? ⟨wr.heap.size, 1, none⟩ = some (.bool bo) ∧ v.cell? ⟨wr.heap.size, 2, none⟩ = some (.bool u) ∧ v.cell? ⟨wr.heap.size, 3, none⟩ = some (.bool t') ∧ v.cell? ⟨wr.heap.size, 4, none⟩ = some (.int .i64 f) ∧ v.cell? ⟨wr.heap.size, 5, none⟩ = some (.int .i64 ba)) (by kernel_rfl) (by rw [← W6.out]; exact hS6) (fun hHeld => ?_)
        rw [← W6.out]
        refine wpAnyH_take (i := 0) (v := ?vb0) rfl (by kernel_rfl) (by kernel_rfl) (by kernel_rfl) (fun _ _ _ h => h) (Or.inl ⟨by rfl, ?hb0⟩) (by assumption) ?_
        case hb0 => intro w hSw; (try dsimp only at hSw); go_simp; try with_reducible rfl
        simp only [List.getElem_toArray, List.getElem_cons_zero, Act.put, List.setIfInBounds_toArray, List.set_cons_zero, List.set_cons_succ]
        refine wpAnyH_take (i := 1) (v := ?vb1) rfl (by kernel_rfl) (by kernel_rfl) (by kernel_rfl) (fun _ _ _ h => h) (Or.inl ⟨by rfl, ?hb1⟩) (by assumption) ?_
        case hb1 => intro w hSw; (try dsimp only at hSw); go_simp; try with_reducible rfl
        simp only [List.getElem_toArray, List.getElem_cons_succ, List.getElem_cons_zero, Act.put, List.setIfInBounds_toArray, List.set_cons_zero, List.set_cons_succ]
        refine wpAnyH_take (i := 2) (v := ?vb2) rfl (by kernel_rfl) (by kernel_rfl) (by kernel_rfl) (fun _ _ _ h => h) (Or.inl ⟨by rfl, ?hb2⟩) (by assumption) ?_
        case hb2 => intro w hSw; (try dsimp only at hSw); go_simp; try with_reducible rfl
        simp only [List.getElem_toArray, List.getElem_cons_succ, List.getElem_cons_zero, Act.put, List.setIfInBounds_toArray, List.set_cons_zero, List.set_cons_succ]
        refine wpAnyH_take (i := 3) (v := ?vb3) rfl (by kernel_rfl) (by kernel_rfl) (by kernel_rfl) (fun _ _ _ h => h) (Or.inl ⟨by rfl, ?hb3⟩) (by assumption) ?_
        case hb3 => intro w hSw; (try dsimp only at hSw); go_simp; try with_reducible rfl
        simp only [List.getElem_toArray, List.getElem_cons_succ, List.getElem_cons_zero, Act.put, List.setIfInBounds_toArray, List.set_cons_zero, List.set_cons_succ]
        refine wpAnyH_take (i := 4) (v := ?vb4) rfl (by kernel_rfl) (by kernel_rfl) (by kernel_rfl) (fun _ _ _ h => h) (Or.inl ⟨by rfl, ?hb4⟩) (by assumption) ?_
        case hb4 => intro w hSw; (try dsimp only at hSw); go_simp; try with_reducible rfl
        simp only [List.getElem_toArray, List.getElem_cons_succ, List.getElem_cons_zero, Act.put, List.setIfInBounds_toArray, List.set_cons_zero, List.set_cons_succ]
        refine wpAnyH_take (i := 5) (v := ?vb5) rfl (by kernel_rfl) (by kernel_rfl) (by kernel_rfl) (fun _ _ _ h => h) (Or.inl ⟨by rfl, ?hb5⟩) (by assumption) ?_
        case hb5 => intro w hSw; (try dsimp only at hSw); go_simp; try with_reducible rfl
        simp only [List.getElem_toArray, List.getElem_cons_succ, List.getElem_cons_zero, Act.put, List.setIfInBounds_toArray, List.set_cons_zero, List.set_cons_succ]
        refine wpAnyH_take (i := 6) (v := ?vb6) rfl (by kernel_rfl) (by kernel_rfl) (by kernel_rfl) (fun _ _ _ h => h) (Or.inl ⟨by rfl, ?hb6⟩) (by assumption) ?_
        case hb6 => intro w hSw; (try dsimp only at hSw); go_simp; try with_reducible rfl
        simp only [List.getElem_toArray, List.getElem_cons_succ, List.getElem_cons_zero, Act.put, List.setIfInBounds_toArray, List.set_cons_zero, List.set_cons_succ]
        refine wpAnyH_take (i := 7) (v := ?vb7) rfl (by kernel_rfl) (by kernel_rfl) (by kernel_rfl) (fun _ _ _ h => h) (Or.inl ⟨by rfl, ?hb7⟩) (by assumption) ?_
        case hb7 => intro w hSw; (try dsimp only at hSw); go_simp; try with_reducible rfl
        simp only [List.getElem_toArray, List.getElem_cons_succ, List.getElem_cons_zero, Act.put, List.setIfInBounds_toArray, List.set_cons_zero, List.set_cons_succ]
        refine wpAnyH_take (i := 8) (v := ?vb8) rfl (by kernel_rfl) (by kernel_rfl) (by kernel_rfl) (fun _ _ _ h => h) (Or.inl ⟨by rfl, ?hb8⟩) (by assumption) ?_
        case hb8 => intro w hSw; (try dsimp only at hSw); go_simp; try with_reducible rfl
        simp only [List.getElem_toArray, List.getElem_cons_succ, List.getElem_cons_zero, Act.put, List.setIfInBounds_toArray, List.set_cons_zero, List.set_cons_succ]
        refine wpAnyH_take (i := 9) (v := ?vb9) rfl (by kernel_rfl) (by kernel_rfl) (by kernel_rfl) (fun _ _ _ h => h) (Or.inl ⟨by rfl, ?hb9⟩) (by assumption) ?_
        case hb9 => intro w hSw; (try dsimp only at hSw); go_simp; try with_reducible rfl
        simp only [List.getElem_toArray, List.getElem_cons_succ, List.getElem_cons_zero, Act.put, List.setIfInBounds_toArray, List.set_cons_zero, List.set_cons_succ]
        refine wpAnyH_take (i := 10) (v := ?vb10) rfl (by kernel_rfl) (by kernel_rfl) (by kernel_rfl) (fun _ _ _ h => h) (Or.inl ⟨by rfl, ?hb10⟩) (by assumption) ?_
        case hb10 => intro w hSw; (try dsimp only at hSw); go_simp; try with_reducible rfl
        simp only [List.getElem_toArray, List.getElem_cons_succ, List.getElem_cons_zero, Act.put, List.setIfInBounds_toArray, List.set_cons_zero, List.set_cons_succ]
        refine wpAnyH_take (i := 11) (v := ?vb11) rfl (by kernel_rfl) (by kernel_rfl) (by kernel_rfl) (fun _ _ _ h => h) (Or.inl ⟨by rfl, ?hb11⟩) (by assumption) ?_
        case hb11 => intro w hSw; (try dsimp only at hSw); go_simp; try with_reducible rfl
        simp only [List.getElem_toArray, List.getElem_cons_succ, List.getElem_cons_zero, Act.put, List.setIfInBounds_toArray, List.set_cons_zero, List.set_cons_succ]
        refine wpAnyH_take (i := 12) (v := ?vb12) rfl (by kernel_rfl) (by kernel_rfl) (by kernel_rfl) (fun _ _ _ h => h) (Or.inl ⟨by rfl, ?hb12⟩) (by assumption) ?_
        case hb12 => intro w hSw; (try dsimp only at hSw); go_simp; try with_reducible rfl
        simp only [List.getElem_toArray, List.getElem_cons_succ, List.getElem_cons_zero, Act.put, List.setIfInBounds_toArray, List.set_cons_zero, List.set_cons_succ]
        refine wpAnyH_take (i := 13) (v := ?vb13) rfl (by kernel_rfl) (by kernel_rfl) (by kernel_rfl) (fun _ _ _ h => h) (Or.inl ⟨by rfl, ?hb13⟩) (by assumption) ?_
        case hb13 => intro w hSw; (try dsimp only at hSw); go_simp; try with_reducible rfl
        simp only [List.getElem_toArray, List.getElem_cons_succ, List.getElem_cons_zero, Act.put, List.setIfInBounds_toArray, List.set_cons_zero, List.set_cons_succ]
        refine wpAnyH_ready (rs := [14]) (by kernel_rfl) (by simp) ?_
        refine AllReadyH.cons rfl (fun K hK => ?_) AllReadyH.nil
        go_simp
        with_reducible refine (HPUT.out X Y).mono ?_
        rintro e w7 ⟨rfl, ⟨⟨F', hat7, hF7⟩, hfr7⟩⟩
        have hnF : wr.heap.size ∉ F := fun hm => by have := HAT.out.lt _ hm; omega
        have HC7 : Hid (CelAt w7 wr.heap.size ⟨r, ⟨bo, u, t', f, ba⟩⟩) := Lib.hid ((hfr7.block _ HC6.out.lt hnF).trans HC6.out)
        have hp0 : w7.cell? ⟨p, 0, none⟩ = some (.int .i64 (W : Int)) := by
          obtain ⟨hb7, hc7, L7, hG7, _⟩ := hat7
          have := hG7.cell0
          rwa [show (gput g X Y ⟨r, ⟨bo, u, t', f, ba⟩⟩).w = W from (gput_w g _ _ _).1.trans HGW.out] at this
        obtain ⟨s0, s1, s2, s3, s4, s5⟩ := HC7.out.cells
        simp only at s0 s1 s2 s3 s4 s5
        have HAT7 := Lib.hid hat7
        have hb7 : Below w.heap.size w w7 := (HBR.out.trans (HB6.out.mono zr)).trans (hfr7.below (by have := HB6.out.size; omega) (fun q hq => (HF.out q hq).1))
        have HB7 := Lib.hid hb7
        have HF7 : Hid (∀ q ∈ F', w.heap.size ≤ q ∧ (q < w1.heap.size ∨ w2.heap.size ≤ q)) := Lib.hid (fun q hq => by
          rcases hF7 q hq with h | h
          · exact HF.out q h
          · exact ⟨by omega, .inr (by omega)⟩)
        have hk7 : ∀ q, w1.heap.size ≤ q → q < w2.heap.size → w7.heap[q]? = w2.heap[q]? := fun q q1 q2 => by
          rw [hfr7.block q (by omega) (fun hm => by rcases (HF.out q hm).2 with h | h <;> omega), HB6.out.block q (by omega)]
          exact HKEEP.out q q1 q2
        have HK7 := Lib.hid hk7
        have z27 : w2.heap.size ≤ w7.heap.size := by have := hfr7.size; have := HB6.out.size; omega
        have HO7 : Hid (celE.Own w7 w1.heap.size (.slice (some ⟨b, off, none⟩) t.length c2) t) := Lib.hid (HO2.out.keep fun q hq => hk7 q (HO2.out.lt q hq).1 (HO2.out.lt q hq).2)
        have HOK7 := Lib.hid (gput_ok HOK.out X Y ⟨r, ⟨bo, u, t', f, ba⟩⟩)
        have HGW7 := Lib.hid ((gput_w g X Y ⟨r, ⟨bo, u, t', f, ba⟩⟩).1.trans HGW.out)
        have HGH7 := Lib.hid ((gput_w g X Y ⟨r, ⟨bo, u, t', f, ba⟩⟩).2.trans HGH.out)
        clear hat7 hF7 hfr7 hb7 hk7
        generalize gput g X Y ⟨r, ⟨bo, u, t', f, ba⟩⟩ = g7 at *
        refine hK.out _ _ ?_ (fun hHeld => ?_)
        · exact ⟨hp0, s0, s1, s2, s3, s4, s5⟩
        clear hK K
        refine wpAnyH_done (by kernel_rfl) ?_ _
        refine NoPanic.normal ?_
        clear hHeld hS6 hp0 hmod hdiv hne hne' hYl hwY
        have hw1 : IntKind.i64.wrap ((n : Int) + 1) = ((n + 1 : Nat) : Int) := by rw [IntKind.wrap_i64]; omega
        have hw2 : IntKind.i64.wrap (((n + 1 : Nat) : Int) + 1) = ((n + 2 : Nat) : Int) := by rw [IntKind.wrap_i64]; omega
        have HWD := Lib.hid (rwide_ok w7 r)
        generalize GM.wide r = wd at *
        rcases wd with _ | _
        · go_wp2_with fail
          refine HWD.out.mono ?_
          rintro e w8 ⟨rfl, rfl⟩
          go_wp2_with fail
          go_roundw
          case rel => exact ⟨k + 1, n + 1, F', g7, by omega, by omega, by simp, rfl, HB7.out, HAT7.out, HF7.out, HOK7.out, HGW7.out, HGH7.out, HO7.out, HK7.out, z27⟩
          case measure => simp [RowKit.intOf]; omega
        · go_wp2_with fail
          refine HWD.out.mono ?_
          rintro e w8 ⟨rfl, rfl⟩
          go_wp2_with fail
          go_roundw
          case rel => exact ⟨k + 1, n + 2, F', g7, by omega, by omega, by simp, rfl, HB7.out, HAT7.out, HF7.out, HOK7.out, HGW7.out, HGH7.out, HO7.out, HK7.out, z27⟩
          case measure => simp [RowKit.intOf]; omega
    · have g1 : decide ((k : Int) < (t.length : Int)) = false := by simp; omega
      have gm : decide (k < t.length) = false := by simp; omega
      go_wp2_with fail
      go_ret
      exact ⟨p, g, rfl, ⟨⟨F, HAT.out, fun q hq => (HF.out q hq).1⟩, HBR.out⟩, HOK.out, HGW.out, HGH.out⟩
end Go.Proofs.YtbpkklcegiiheaaDoor
