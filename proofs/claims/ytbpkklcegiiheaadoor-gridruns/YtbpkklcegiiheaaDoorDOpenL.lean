/-
  Layer 9 (grid): Open, Shut.
-/
import Derived.Test.YtbpkklcegiiheaaDoorDClear
namespace Go.Proofs.YtbpkklcegiiheaaDoor
open Go.RowKit Go.Lib KM

/-- A new block of three slices. -/
theorem rows3 {w : World} {B : Nat} {A1 A2 A3 : Option Addr} {c1 c2 c3 n1 n2 n3 : Nat} {l1 l2 l3 : List Cel} (h1 : celE.Row w B A1 l1) (h2 : celE.Row w B A2 l2) (h3 : celE.Row w B A3 l3) (e1 : A1 = none → c1 = 0) (e2 : A2 = none → c2 = 0) (e3 : A3 = none → c3 = 0) (m1 : n1 = l1.length) (m2 : n2 = l2.length) (m3 : n3 = l3.length) (hB : B ≤ w.heap.size) (t : TypeId) :
    celE.Rows (w.alloc (.cells #[.slice A1 n1 c1, .slice A2 n2 c2, .slice A3 n3 c3] t)) (w.heap.size + 1) (some ⟨w.heap.size, 0, none⟩) [l1, l2, l3] := fun _ => by
  subst m1 m2 m3
  have hb : Below B w (w.alloc (.cells #[.slice A1 l1.length c1, .slice A2 l2.length c2, .slice A3 l3.length c3] t)) := (Below.refl _ _).alloc hB _
  refine ⟨w.heap.size, 0, rfl, by omega, fun j hj => ?_⟩
  match j, hj with
  | 0, _ => exact ⟨A1, c1, by simp, (h1.below hb).mono (by omega), e1⟩
  | 1, _ => exact ⟨A2, c2, by simp, (h2.below hb).mono (by omega), e2⟩
  | 2, _ => exact ⟨A3, c3, by simp, (h3.below hb).mono (by omega), e3⟩
theorem Gr.setL_self {g : Gr} {y : Nat} (hy : y < g.ls.length) : g.setL y (g.line y) = g := by
  obtain ⟨a, b, l⟩ := g
  simp only [Gr.setL, Gr.line, Gr.mk.injEq, true_and]
  have : l.getD y [] = l[y] := by simp only at hy; simp [hy]
  rw [this]
  exact List.set_getElem_self _

set_option maxRecDepth 100000 in
set_option maxHeartbeats 4000000 in
theorem open_ok (w : World) (hT : Tabs w) {p : Nat} {F : List Nat} {g : Gr} (h : GridAt w F p g) (hok : g.Ok) (x y n : Int) (s : Sty) :
    Calls Tryd.prog 39 #[.pointer (some ⟨p, 0, none⟩), .int .i64 x, .int .i64 y, .int .i64 n, styV s] w fun e w' => e = .returned (.tuple #[]) ∧ GPost w F p (gopen g x y n s) w' := by
  obtain ⟨hb, hc, L, hG, rfl⟩ := h
  obtain ⟨w1, hw1⟩ : ∃ w1, w1 = w.alloc (.cells #[.bool s.bold, .bool s.under, .bool s.turned, .int .i64 s.fore, .int .i64 s.back] 35) := ⟨_, rfl⟩
  have hb1 : Below w.heap.size w w1 := by rw [hw1]; exact (Below.refl _ _).alloc (Nat.le_refl _) _
  have hz1 : w1.heap.size = w.heap.size + 1 := by rw [hw1]; simp
  have hs1 : StyIn w1 w.heap.size s := by rw [hw1]; exact StyIn.fresh w s
  have hG1 := hG.below hb1
  have HTHE := Lib.hid (there_ok w1 hG1 x y)
  have g0 : w1.cell? ⟨p, 0, none⟩ = some (.int .i64 (g.w : Int)) := hG1.cell0
  have g2 := hG1.cell2
  obtain ⟨w2, hw2⟩ : ∃ w2, w2 = w1.drew := ⟨_, rfl⟩
  have hd2 : Below w1.heap.size w1 w2 := by rw [hw2]; exact (Below.refl _ _).drew
  have hb2 := below_next hb1 hd2
  have hG2 := hG.below hb2
  have HT2 := Lib.hid (hT.on hb2 hT.room)
  have HG := Lib.hid hG
  have HG1 := Lib.hid hG1
  have HG2 := Lib.hid hG2
  have HB1 := Lib.hid hb1
  have HB2 := Lib.hid hb2
  have HS2 := Lib.hid (hs1.below hd2)
  have W1 := Lib.hid hw1
  have W2 := Lib.hid hw2
  have HOK := Lib.hid hok
  have hBL := fun (v : World) (m : Nat) (hm : m ≤ 1000) => blanks_ok v m hm s
  have HBL := Lib.hid hBL
  obtain ⟨s0, hs0⟩ : ∃ s0, s0 = s := ⟨_, rfl⟩
  have HS0 := Lib.hid hs0
  rcases hth : g.there x y with _ | _
  · have e : gopen g x y n s = g := by unfold gopen; rw [hth]; rfl
    rw [e]
    rw [hth] at HTHE
    clear hth e hw1 hb1 hG hG2 hT hok hw2 hd2 hb2 hs1 hG1 hBL hs0
    obtain ⟨sb, su, st, sf, sk⟩ := s
    simp only [styV] at *
    go_enter Tryd.func39, Tryd.ntmps39
    go_wp2_with fail
    rw [← W1.out]
    refine HTHE.out.mono ?_
    rintro e w3 ⟨rfl, rfl⟩
    go_wp2_with fail
    (try simp only [Exit.inBlock, Exit.then]); refine bodyPost_ret (results_none rfl _ _ _) rfl ?_
    exact ⟨rfl, GPost.of_below ⟨_, _, _, HG.out, rfl⟩ HB1.out⟩
  · have hxy := (g.there_iff x y).1 hth
    rw [hth] at HTHE
    obtain ⟨X, rfl⟩ := Int.eq_ofNat_of_zero_le hxy.1.1
    obtain ⟨Y, rfl⟩ := Int.eq_ofNat_of_zero_le hxy.2.1
    have hnr := nr_in (n := n) (a := 0) (b := (g.w : Int) - (X : Int)) (by omega)
    obtain ⟨m, hm⟩ := Int.eq_ofNat_of_zero_le hnr.1
    have hmx : X + m ≤ g.w := by omega
    have HNR := Lib.hid (fun v => nearest_ok v n 0 ((g.w : Int) - (X : Int)))
    rw [hm] at HNR
    have e : gopen g X Y n s = g.setL Y (mend (openC (g.line Y) X m s)) := by unfold gopen; rw [hth, hm]; rfl
    rw [e]
    have hXw : X < g.w := by omega
    have hYh : Y < g.h := by omega
    clear hth e hxy hnr hm
    have hG3 := HG2.out
    have hLl : L.length = g.h := hG3.len.trans HOK.out.len
    have hYL : Y < L.length := by omega
    have hlo := HOK.out.line hYh
    have hll : (g.line Y).length = g.w := hlo.len
    have dh := hG1.hcell' hYL
    have eh := hG3.hcell' hYL
    have e0 : w2.cell? ⟨p, 0, none⟩ = some (.int .i64 (g.w : Int)) := hG3.cell0
    have e2 := hG3.cell2
    have ef := hG3.hfrozen Y
    rw [hll] at dh eh
    have hcc : g.w ≤ L[Y].c := by
      obtain ⟨_, _, _, h, _⟩ := (hG3.row' hYL).block rfl
      omega
    have HRW := Lib.hid (hG3.rowR hYL)
    obtain ⟨lz, hlz⟩ : ∃ l, l = openC (g.line Y) X m s := ⟨_, rfl⟩
    rw [← hlz]
    have hlzl : lz.length = g.w := by rw [hlz, openC_len _ _ _ _ (by rw [hll]; exact hmx), hll]
    have HLZ := Lib.hid hlzl
    have HYL := Lib.hid hYL
    have HLL := Lib.hid hll
    have HLQ := Lib.hid hlz
    have hW60 := HOK.out.w2
    have HFS := Lib.hid (Gr.setL_self (g := g) (y := Y) (by rw [← hG3.len]; exact hYL))
    generalize hb0 : L[Y].b = b0 at *
    generalize hcc0 : L[Y].c = cc at *
    clear hb0 hcc0
    have hs2c := HS2.out.cells
    have hwx : IntKind.i64.wrap ((g.w : Int) - (X : Int)) = (g.w : Int) - (X : Int) := by rw [IntKind.wrap_i64]; omega
    have hsub : (g.w : Int) - (m : Int) = ((g.w - m : Nat) : Int) := by omega
    have hwm : IntKind.i64.wrap ((g.w - m : Nat) : Int) = ((g.w - m : Nat) : Int) := by rw [IntKind.wrap_i64]; omega
    have hhd : ∀ V, (Instr.slice 23 (.slice (some ⟨b0, 0, none⟩) g.w cc) none (some (.int .i64 (X : Int))) none).run Tryd.prog V = .ok (.slice (some ⟨b0, 0, none⟩) X cc) V := fun V => headC _ _ _ _ V (by omega)
    have hmid : ∀ V, (Instr.slice 23 (.slice (some ⟨b0, 0, none⟩) g.w cc) (some (.int .i64 (X : Int))) (some (.int .i64 ((g.w - m : Nat) : Int))) none).run Tryd.prog V = .ok (.slice (some ⟨b0, X * 6, none⟩) (g.w - m - X) (cc - X)) V := fun V => by
      rw [midC _ _ _ _ _ V (by omega) (by omega), celE.cutA_some _ _ _ _ (by omega), Nat.zero_add]; rfl
    have hwl : w.heap.size < w2.heap.size := HS2.out.lt
    have hwb : w.heap.size ∉ foot p hb L := fun hm => absurd (HG.out.lt _ hm) (Nat.lt_irrefl _)
    have hpl : p < w2.heap.size := hG3.lt p (by simp [foot])
    have hhl : hb < w2.heap.size := hG3.lt hb (by simp [foot])
    have hphb : p ≠ hb := hG3.ne_hb
    have hYi : (Y : Int) < (L.length : Int) := by omega
    clear hw1 hb1 hG hG2 hT hok hw2 hd2 hb2 hs1 hG1 hBL hlz hlzl hLl hlo hG3
    have HSC := Lib.hid hs2c
    have HBM := Lib.hid (HBL.out w2 m (by omega))
    clear hs0
    obtain ⟨sb, su, st, sf, sk⟩ := s
    simp only [styV] at *
    clear HBL
    go_enter Tryd.func39, Tryd.ntmps39
    go_wp2_with fail
    rw [← W1.out]
    refine HTHE.out.mono ?_
    rintro e w3 ⟨rfl, hw3⟩
    rw [hw3]
    clear hw3 w3
    go_wp2_with fail
    refine (HNR.out _).mono ?_
    rintro e w3 ⟨rfl, hw3⟩
    rw [hw3]
    clear hw3 w3
    go_wp2_with fail
    clear g0 g2 dh
    refine wp_region_noPanic ?_
    refine wp_region_held_drew (S := fun w' => (w'.cell? ⟨p, 0, none⟩ = some (.int .i64 (g.w : Int)) ∧ w'.cell? ⟨p, 2, none⟩ = some (.slice (some ⟨hb, 0, none⟩) L.length hc)) ∧ w'.cell? ⟨w.heap.size, 0, none⟩ = some (.bool sb) ∧ w'.cell? ⟨w.heap.size, 1, none⟩ = some (.bool su) ∧ w'.cell? ⟨w.heap.size, 2, none⟩ = some (.bool st) ∧ w'.cell? ⟨w.heap.size, 3, none⟩ = some (.int .i64 sf) ∧ w'.cell? ⟨w.heap.size, 4, none⟩ = some (.int .i64 sk)) (by kernel_rfl) (by rw [← W2.out]; exact ⟨⟨e0, e2⟩, hs2c⟩) (fun hHeld => ?_)
    rw [← W2.out]
    have hS0 : (w2.cell? ⟨p, 0, none⟩ = some (.int .i64 (g.w : Int)) ∧ w2.cell? ⟨p, 2, none⟩ = some (.slice (some ⟨hb, 0, none⟩) L.length hc)) ∧ w2.cell? ⟨w.heap.size, 0, none⟩ = some (.bool sb) ∧ w2.cell? ⟨w.heap.size, 1, none⟩ = some (.bool su) ∧ w2.cell? ⟨w.heap.size, 2, none⟩ = some (.bool st) ∧ w2.cell? ⟨w.heap.size, 3, none⟩ = some (.int .i64 sf) ∧ w2.cell? ⟨w.heap.size, 4, none⟩ = some (.int .i64 sk) := ⟨⟨e0, e2⟩, hs2c⟩
    have HSK := Lib.hid (fun (v : World) (hv : Below w2.heap.size w2 v) => show (v.cell? ⟨p, 0, none⟩ = some (.int .i64 (g.w : Int)) ∧ v.cell? ⟨p, 2, none⟩ = some (.slice (some ⟨hb, 0, none⟩) L.length hc)) ∧ v.cell? ⟨w.heap.size, 0, none⟩ = some (.bool sb) ∧ v.cell? ⟨w.heap.size, 1, none⟩ = some (.bool su) ∧ v.cell? ⟨w.heap.size, 2, none⟩ = some (.bool st) ∧ v.cell? ⟨w.heap.size, 3, none⟩ = some (.int .i64 sf) ∧ v.cell? ⟨w.heap.size, 4, none⟩ = some (.int .i64 sk) from
      ⟨⟨(hv.cell (p := ⟨p, 0, none⟩) hpl).trans e0, (hv.cell (p := ⟨p, 2, none⟩) hpl).trans e2⟩, (hv.cell (p := ⟨w.heap.size, 0, none⟩) hwl).trans hs2c.1, (hv.cell (p := ⟨w.heap.size, 1, none⟩) hwl).trans hs2c.2.1, (hv.cell (p := ⟨w.heap.size, 2, none⟩) hwl).trans hs2c.2.2.1, (hv.cell (p := ⟨w.heap.size, 3, none⟩) hwl).trans hs2c.2.2.2.1, (hv.cell (p := ⟨w.heap.size, 4, none⟩) hwl).trans hs2c.2.2.2.2⟩)
    clear e0 e2 hs2c
    refine wpAnyH_take (i := 0) (v := ?voa0) rfl (by kernel_rfl) (by kernel_rfl) (by kernel_rfl) (fun _ _ _ h => h) (Or.inl ⟨by rfl, ?hoa0⟩) (by assumption) ?_
    case hoa0 => intro w hSw; (try dsimp only at hSw); go_simp; try with_reducible rfl
    simp only [List.getElem_toArray, List.getElem_cons_zero, Act.put, List.setIfInBounds_toArray, List.set_cons_zero, List.set_cons_succ]
    refine wpAnyH_take (i := 1) (v := ?voa1) rfl (by kernel_rfl) (by kernel_rfl) (by kernel_rfl) (fun _ _ _ h => h) (Or.inl ⟨by rfl, ?hoa1⟩) (by assumption) ?_
    case hoa1 => intro w hSw; (try dsimp only at hSw); go_simp; try with_reducible rfl
    simp only [List.getElem_toArray, List.getElem_cons_succ, List.getElem_cons_zero, Act.put, List.setIfInBounds_toArray, List.set_cons_zero, List.set_cons_succ]
    refine wpAnyH_take (i := 2) (v := ?voa2) rfl (by kernel_rfl) (by kernel_rfl) (by kernel_rfl) (fun _ _ _ h => h) (Or.inl ⟨by rfl, ?hoa2⟩) (by assumption) ?_
    case hoa2 => intro w hSw; (try dsimp only at hSw); go_simp; try with_reducible rfl
    simp only [List.getElem_toArray, List.getElem_cons_succ, List.getElem_cons_zero, Act.put, List.setIfInBounds_toArray, List.set_cons_zero, List.set_cons_succ]
    refine wpAnyH_take (i := 3) (v := ?voa3) rfl (by kernel_rfl) (by kernel_rfl) (by kernel_rfl) (fun _ _ _ h => h) (Or.inl ⟨by rfl, ?hoa3⟩) (by assumption) ?_
    case hoa3 => intro w hSw; (try dsimp only at hSw); go_simp; try with_reducible rfl
    simp only [List.getElem_toArray, List.getElem_cons_succ, List.getElem_cons_zero, Act.put, List.setIfInBounds_toArray, List.set_cons_zero, List.set_cons_succ]
    refine wpAnyH_take (i := 4) (v := ?voa4) rfl (by kernel_rfl) (by kernel_rfl) (by kernel_rfl) (fun _ _ _ h => h) (Or.inl ⟨by rfl, ?hoa4⟩) (by assumption) ?_
    case hoa4 => intro w hSw; (try dsimp only at hSw); go_simp; try with_reducible rfl
    simp only [List.getElem_toArray, List.getElem_cons_succ, List.getElem_cons_zero, Act.put, List.setIfInBounds_toArray, List.set_cons_zero, List.set_cons_succ]
    refine wpAnyH_take (i := 5) (v := ?voa5) rfl (by kernel_rfl) (by kernel_rfl) (by kernel_rfl) (fun _ _ _ h => h) (Or.inl ⟨by rfl, ?hoa5⟩) (by assumption) ?_
    case hoa5 => intro w hSw; (try dsimp only at hSw); go_simp; try with_reducible rfl
    simp only [List.getElem_toArray, List.getElem_cons_succ, List.getElem_cons_zero, Act.put, List.setIfInBounds_toArray, List.set_cons_zero, List.set_cons_succ]
    refine wpAnyH_take (i := 6) (v := ?voa6) rfl (by kernel_rfl) (by kernel_rfl) (by kernel_rfl) (fun _ _ _ h => h) (Or.inl ⟨by rfl, ?hoa6⟩) (by assumption) ?_
    case hoa6 => intro w hSw; (try dsimp only at hSw); go_simp; try with_reducible rfl
    simp only [List.getElem_toArray, List.getElem_cons_succ, List.getElem_cons_zero, Act.put, List.setIfInBounds_toArray, List.set_cons_zero, List.set_cons_succ]
    refine wpAnyH_take (i := 7) (v := ?voa7) rfl (by kernel_rfl) (by kernel_rfl) (by kernel_rfl) (fun _ _ _ h => h) (Or.inl ⟨by rfl, ?hoa7⟩) (by assumption) ?_
    case hoa7 => intro w hSw; (try dsimp only at hSw); go_simp; try with_reducible rfl
    simp only [List.getElem_toArray, List.getElem_cons_succ, List.getElem_cons_zero, Act.put, List.setIfInBounds_toArray, List.set_cons_zero, List.set_cons_succ]
    refine wpAnyH_take (i := 8) (v := ?voa8) rfl (by kernel_rfl) (by kernel_rfl) (by kernel_rfl) (fun _ _ _ h => h) (Or.inl ⟨by rfl, ?hoa8⟩) (by assumption) ?_
    case hoa8 => intro w hSw; (try dsimp only at hSw); go_simp; try with_reducible rfl
    simp only [List.getElem_toArray, List.getElem_cons_succ, List.getElem_cons_zero, Act.put, List.setIfInBounds_toArray, List.set_cons_zero, List.set_cons_succ]
    refine wpAnyH_take (i := 9) (v := ?voa9) rfl (by kernel_rfl) (by kernel_rfl) (by kernel_rfl) (fun _ _ _ h => h) (Or.inl ⟨by rfl, ?hoa9⟩) (by assumption) ?_
    case hoa9 => intro w hSw; (try dsimp only at hSw); go_simp; try with_reducible rfl
    simp only [List.getElem_toArray, List.getElem_cons_succ, List.getElem_cons_zero, Act.put, List.setIfInBounds_toArray, List.set_cons_zero, List.set_cons_succ]
    refine wpAnyH_take (i := 11) (v := ?voa11) rfl (by kernel_rfl) (by kernel_rfl) (by kernel_rfl) (fun _ _ _ h => h) (Or.inl ⟨by rfl, ?hoa11⟩) (by assumption) ?_
    case hoa11 => intro w hSw; (try dsimp only at hSw); go_simp; try with_reducible rfl
    simp only [List.getElem_toArray, List.getElem_cons_succ, List.getElem_cons_zero, Act.put, List.setIfInBounds_toArray, List.set_cons_zero, List.set_cons_succ]
    refine wpAnyH_take (i := 12) (v := ?voa12) rfl (by kernel_rfl) (by kernel_rfl) (by kernel_rfl) (fun _ _ _ h => h) (Or.inl ⟨by rfl, ?hoa12⟩) (by assumption) ?_
    case hoa12 => intro w hSw; (try dsimp only at hSw); go_simp; try with_reducible rfl
    simp only [List.getElem_toArray, List.getElem_cons_succ, List.getElem_cons_zero, Act.put, List.setIfInBounds_toArray, List.set_cons_zero, List.set_cons_succ]
    refine wpAnyH_take (i := 13) (v := ?voa13) rfl (by kernel_rfl) (by kernel_rfl) (by kernel_rfl) (fun _ _ _ h => h) (Or.inl ⟨by rfl, ?hoa13⟩) (by assumption) ?_
    case hoa13 => intro w hSw; (try dsimp only at hSw); go_simp; try with_reducible rfl
    simp only [List.getElem_toArray, List.getElem_cons_succ, List.getElem_cons_zero, Act.put, List.setIfInBounds_toArray, List.set_cons_zero, List.set_cons_succ]
    refine wpAnyH_take (i := 14) (v := ?voa14) rfl (by kernel_rfl) (by kernel_rfl) (by kernel_rfl) (fun _ _ _ h => h) (Or.inl ⟨by rfl, ?hoa14⟩) (by assumption) ?_
    case hoa14 => intro w hSw; (try dsimp only at hSw); go_simp; try with_reducible rfl
    simp only [List.getElem_toArray, List.getElem_cons_succ, List.getElem_cons_zero, Act.put, List.setIfInBounds_toArray, List.set_cons_zero, List.set_cons_succ]
    refine wpAnyH_take (i := 15) (v := ?voa15) rfl (by kernel_rfl) (by kernel_rfl) (by kernel_rfl) (fun _ _ _ h => h) (Or.inl ⟨by rfl, ?hoa15⟩) (by assumption) ?_
    case hoa15 => intro w hSw; (try dsimp only at hSw); go_simp; try with_reducible rfl
    simp only [List.getElem_toArray, List.getElem_cons_succ, List.getElem_cons_zero, Act.put, List.setIfInBounds_toArray, List.set_cons_zero, List.set_cons_succ]
    refine wpAnyH_take (i := 16) (v := ?voa16) rfl (by kernel_rfl) (by kernel_rfl) (by kernel_rfl) (fun _ _ _ h => h) (Or.inl ⟨by rfl, ?hoa16⟩) (by assumption) ?_
    case hoa16 => intro w hSw; (try dsimp only at hSw); go_simp; try with_reducible rfl
    simp only [List.getElem_toArray, List.getElem_cons_succ, List.getElem_cons_zero, Act.put, List.setIfInBounds_toArray, List.set_cons_zero, List.set_cons_succ]
    refine wpAnyH_take (i := 17) (v := ?voa17) rfl (by kernel_rfl) (by kernel_rfl) (by kernel_rfl) (fun _ _ _ h => h) (Or.inl ⟨by rfl, ?hoa17⟩) (by assumption) ?_
    case hoa17 => intro w hSw; (try dsimp only at hSw); go_simp; try with_reducible rfl
    simp only [List.getElem_toArray, List.getElem_cons_succ, List.getElem_cons_zero, Act.put, List.setIfInBounds_toArray, List.set_cons_zero, List.set_cons_succ]
    refine wpAnyH_take (i := 18) (v := ?voa18) rfl (by kernel_rfl) (by kernel_rfl) (by kernel_rfl) (fun _ _ _ h => h) (Or.inl ⟨by rfl, ?hoa18⟩) (by assumption) ?_
    case hoa18 => intro w hSw; (try dsimp only at hSw); go_simp; try with_reducible rfl
    simp only [List.getElem_toArray, List.getElem_cons_succ, List.getElem_cons_zero, Act.put, List.setIfInBounds_toArray, List.set_cons_zero, List.set_cons_succ]
    refine wpAnyH_take (i := 19) (v := ?voa19) rfl (by kernel_rfl) (by kernel_rfl) (by kernel_rfl) (fun _ _ _ h => h) (Or.inl ⟨by rfl, ?hoa19⟩) (by assumption) ?_
    case hoa19 => intro w hSw; (try dsimp only at hSw); go_simp; try with_reducible rfl
    simp only [List.getElem_toArray, List.getElem_cons_succ, List.getElem_cons_zero, Act.put, List.setIfInBounds_toArray, List.set_cons_zero, List.set_cons_succ]
    refine wpAnyH_ready (rs := [10]) (by kernel_rfl) (by simp) ?_
    refine AllReadyH.cons rfl (fun K hK => ?_) AllReadyH.nil
    go_simp
    refine HBM.out.mono ?_
    rintro e w3 ⟨v3, rfl, ho3, hb3⟩
    obtain ⟨A3, c3, hv3, _, _, hA3, hr3⟩ := ho3.row
    rw [blanks_len] at hv3
    have HB3 := Lib.hid (below_next HB2.out hb3)
    have hz3 := hb3.size
    have HB23 := Lib.hid hb3
    have hrw := (HRW.out.below hb3).mono hz3
    have hl1 := hrw.take X
    have hl3 := hrw.mid (k := X) (j := g.w - m) (c := cc) (by omega) (by rw [HLL.out]; omega) (by rw [HLL.out]; omega)
    rw [celE.cutA_some _ _ _ _ (by omega), Nat.zero_add] at hl3
    have hrr := rows3 (w := w3) (B := w3.heap.size) (A1 := some ⟨b0, 0, none⟩) (A2 := A3) (A3 := some ⟨b0, X * 6, none⟩) (c1 := cc) (c2 := c3) (c3 := cc - X) (n1 := X) (n2 := m) (n3 := g.w - m - X) hl1 hr3 hl3 (by simp) hA3 (by simp) (by rw [List.length_take, HLL.out]; omega) (blanks_len _ _).symm (by rw [List.length_take, List.length_drop, HLL.out]; omega) (Nat.le_refl _) (t := 23)
    have hS3 := HSK.out w3 hb3
    rw [hv3]
    have HRR := Lib.hid hrr
    clear ho3 hv3 hb3 hrw hl1 hrr hr3 hA3 hl3
    dsimp only
    refine hK.out _ _ ?_ (fun hHeld => ?_)
    · exact hS3
    clear hK K
    refine wpAnyH_ready (rs := [20]) (by kernel_rfl) (by simp) ?_
    refine AllReadyH.cons rfl (fun K hK => ?_) AllReadyH.nil
    go_simp
    obtain ⟨w4, hw4⟩ : ∃ w4, w4 = w3.alloc (.cells #[.slice (some ⟨b0, 0, none⟩) X cc, .slice A3 m c3, .slice (some ⟨b0, X * 6, none⟩) (g.w - m - X) (cc - X)] 23) := ⟨_, rfl⟩
    have hb4 : Below w2.heap.size w2 w4 := by rw [hw4]; exact HB23.out.alloc HB23.out.size _
    have hb34 : Below w3.heap.size w3 w4 := by rw [hw4]; exact (Below.refl _ _).alloc (Nat.le_refl _) _
    have hz4 : w4.heap.size = w3.heap.size + 1 := by rw [hw4]; simp
    have hS4 := HSK.out w4 hb4
    rw [← hw4] at HRR ⊢
    have HB4 := Lib.hid hb4
    have HB34 := Lib.hid hb34
    have hcat := concatC w4 (some ⟨w3.heap.size, 0, none⟩) 3 (w3.heap.size + 1) [(g.line Y).take X, KM.blanks m ⟨sb, su, st, sf, sk⟩, ((g.line Y).drop X).take (g.w - m - X)] HRR.out (by omega) (by simp) (by simp only [sizes, List.map_cons, List.map_nil, List.sum_cons, List.sum_nil, List.length_take, List.length_drop, blanks_len, HLL.out]; omega)
    have hflat : [(g.line Y).take X, KM.blanks m ⟨sb, su, st, sf, sk⟩, ((g.line Y).drop X).take (g.w - m - X)].flatten = lz := by rw [HLQ.out, ← HS0.out]; unfold openC; rw [HLL.out]; simp
    rw [hflat] at hcat
    have HCAT := Lib.hid hcat
    clear hw4 hb4 hb34 hflat hcat
    refine hK.out _ _ ?_ (fun hHeld => ?_)
    · exact hS4
    clear hK K
    refine wpAnyH_ready (rs := [21]) (by kernel_rfl) (by simp) ?_
    refine AllReadyH.cons rfl (fun K hK => ?_) AllReadyH.nil
    go_simp
    refine HCAT.out.mono ?_
    rintro e w5 ⟨v5, rfl, ho5, hb5⟩
    obtain ⟨g5, c5, hv5, -, -, -, -, -, -⟩ := ho5.place (by have := HLZ.out; omega)
    rw [HLZ.out] at hv5
    have hb25 : Below w2.heap.size w2 w5 := HB4.out.trans (hb5.mono HB4.out.size)
    have hS5 := HSK.out w5 hb25
    rw [hv5] at ho5
    have hr5 : celE.Row w5 w5.heap.size (some ⟨g5, 0, none⟩) lz := El.Row.of_own (c := c5) (by rw [HLZ.out]; exact ho5)
    have hmend := mend_ok w5 (HT2.out.on hb25 HT2.out.room) lz (some ⟨g5, 0, none⟩) c5 w5.heap.size hr5 (by simp) (Nat.le_refl _) (by have := HLZ.out; omega)
    rw [HLZ.out] at hmend
    have HMEND := Lib.hid hmend
    have HB25 := Lib.hid hb25
    rw [hv5]
    clear ho5 hv5 hr5 hmend hb5 hb25
    dsimp only
    refine hK.out _ _ ?_ (fun hHeld => ?_)
    · exact hS5
    clear hK K
    refine wpAnyH_ready (rs := [22]) (by kernel_rfl) (by simp) ?_
    refine AllReadyH.cons rfl (fun K hK => ?_) AllReadyH.nil
    go_simp
    refine HMEND.out.mono ?_
    rintro e w7 ⟨v7, rfl, ho7, hb7⟩
    obtain ⟨gx, cx, hv7, -, -, -, -, -, -⟩ := ho7.place (by rw [mend_len]; have := HLZ.out; omega)
    obtain ⟨z, hzd⟩ : ∃ z : Ln, z = ⟨gx, cx, mend lz⟩ := ⟨_, rfl⟩
    have hvs : v7 = z.s.v := by rw [hv7, hzd]; rfl
    have hzl : z.l = mend lz := by rw [hzd]
    rw [hvs, ← hzl] at ho7
    have hG5 : GridB w5 p hb hc L (g.setL Y (g.line Y)) := by rw [HFS.out]; exact HG2.out.below HB25.out
    have hfin := GPost.finish (w := w) (L := L) (Fr.of_below (below_next HB2.out HB25.out)) hG5 rfl HYL.out z ho7 hb7
    rw [hzl, ← hvs, hv7] at hfin
    have HFIN := Lib.hid hfin
    have hb27 : Below w2.heap.size w2 w7 := HB25.out.trans (hb7.mono HB25.out.size)
    have hS7 := HSK.out w7 hb27
    have u7 := (hb27.cell (p := ⟨hb, Y, none⟩) hhl).trans eh
    have f7 := (hb27.frozen (p := ⟨hb, Y, none⟩) hhl).trans ef
    have hne : ∀ q j, q ≠ hb → ∀ u, (w7.setCell ⟨hb, Y, none⟩ u).cell? ⟨q, j, none⟩ = w7.cell? ⟨q, j, none⟩ := fun q j hq u => World.cell?_setCell_other _ _ _ _ (fun e => hq.symm (by simpa using congrArg Addr.block e))
    have HNE := Lib.hid hne
    have hwhb : w.heap.size ≠ hb := fun e => hwb (by rw [e]; simp [foot])
    rw [hv7]
    clear hfin hv7 hvs hzl hzd ho7 hb7 hG5 hb27 hne
    generalize (mend lz).length = q at *
    dsimp only
    refine hK.out _ _ ?_ (fun hHeld => ?_)
    · exact hS7
    clear hK K
    refine wpAnyH_take (i := 23) (v := ?vob23) rfl (by kernel_rfl) (by kernel_rfl) (by kernel_rfl) (fun _ _ _ h => h) (Or.inl ⟨by rfl, ?hob23⟩) (by assumption) ?_
    case hob23 => intro w hSw; (try dsimp only at hSw); go_simp; try with_reducible rfl
    simp only [List.getElem_toArray, List.getElem_cons_succ, List.getElem_cons_zero, Act.put, List.setIfInBounds_toArray, List.set_cons_zero, List.set_cons_succ]
    refine wpAnyH_ready (rs := [24]) (by kernel_rfl) (by simp) ?_
    refine AllReadyH.cons rfl (fun K hK => ?_) AllReadyH.nil
    go_simp
    refine hK.out _ _ ?_ (fun hHeld => ?_)
    · exact ⟨⟨(HNE.out p 0 hphb _).trans hS7.1.1, (HNE.out p 2 hphb _).trans hS7.1.2⟩, (HNE.out _ 0 hwhb _).trans hS7.2.1, (HNE.out _ 1 hwhb _).trans hS7.2.2.1, (HNE.out _ 2 hwhb _).trans hS7.2.2.2.1, (HNE.out _ 3 hwhb _).trans hS7.2.2.2.2.1, (HNE.out _ 4 hwhb _).trans hS7.2.2.2.2.2⟩
    clear hK K
    refine wpAnyH_done (by kernel_rfl) ?_ _
    refine NoPanic.normal ?_
    clear hHeld
    go_wp2
    go_end0
    exact ⟨rfl, HFIN.out⟩

set_option maxRecDepth 100000 in
set_option maxHeartbeats 4000000 in
theorem shut_ok (w : World) (hT : Tabs w) {p : Nat} {F : List Nat} {g : Gr} (h : GridAt w F p g) (hok : g.Ok) (x y n : Int) (s : Sty) :
    Calls Tryd.prog 40 #[.pointer (some ⟨p, 0, none⟩), .int .i64 x, .int .i64 y, .int .i64 n, styV s] w fun e w' => e = .returned (.tuple #[]) ∧ GPost w F p (gshut g x y n s) w' := by
  obtain ⟨hb, hc, L, hG, rfl⟩ := h
  obtain ⟨w1, hw1⟩ : ∃ w1, w1 = w.alloc (.cells #[.bool s.bold, .bool s.under, .bool s.turned, .int .i64 s.fore, .int .i64 s.back] 35) := ⟨_, rfl⟩
  have hb1 : Below w.heap.size w w1 := by rw [hw1]; exact (Below.refl _ _).alloc (Nat.le_refl _) _
  have hz1 : w1.heap.size = w.heap.size + 1 := by rw [hw1]; simp
  have hs1 : StyIn w1 w.heap.size s := by rw [hw1]; exact StyIn.fresh w s
  have hG1 := hG.below hb1
  have HTHE := Lib.hid (there_ok w1 hG1 x y)
  have g0 : w1.cell? ⟨p, 0, none⟩ = some (.int .i64 (g.w : Int)) := hG1.cell0
  have g2 := hG1.cell2
  obtain ⟨w2, hw2⟩ : ∃ w2, w2 = w1.drew := ⟨_, rfl⟩
  have hd2 : Below w1.heap.size w1 w2 := by rw [hw2]; exact (Below.refl _ _).drew
  have hb2 := below_next hb1 hd2
  have hG2 := hG.below hb2
  have HT2 := Lib.hid (hT.on hb2 hT.room)
  have HG := Lib.hid hG
  have HG1 := Lib.hid hG1
  have HG2 := Lib.hid hG2
  have HB1 := Lib.hid hb1
  have HB2 := Lib.hid hb2
  have HS2 := Lib.hid (hs1.below hd2)
  have W1 := Lib.hid hw1
  have W2 := Lib.hid hw2
  have HOK := Lib.hid hok
  have hBL := fun (v : World) (m : Nat) (hm : m ≤ 1000) => blanks_ok v m hm s
  have HBL := Lib.hid hBL
  obtain ⟨s0, hs0⟩ : ∃ s0, s0 = s := ⟨_, rfl⟩
  have HS0 := Lib.hid hs0
  rcases hth : g.there x y with _ | _
  · have e : gshut g x y n s = g := by unfold gshut; rw [hth]; rfl
    rw [e]
    rw [hth] at HTHE
    clear hth e hw1 hb1 hG hG2 hT hok hw2 hd2 hb2 hs1 hG1 hBL hs0
    obtain ⟨sb, su, st, sf, sk⟩ := s
    simp only [styV] at *
    go_enter Tryd.func40, Tryd.ntmps40
    go_wp2_with fail
    rw [← W1.out]
    refine HTHE.out.mono ?_
    rintro e w3 ⟨rfl, rfl⟩
    go_wp2_with fail
    (try simp only [Exit.inBlock, Exit.then]); refine bodyPost_ret (results_none rfl _ _ _) rfl ?_
    exact ⟨rfl, GPost.of_below ⟨_, _, _, HG.out, rfl⟩ HB1.out⟩
  · have hxy := (g.there_iff x y).1 hth
    rw [hth] at HTHE
    obtain ⟨X, rfl⟩ := Int.eq_ofNat_of_zero_le hxy.1.1
    obtain ⟨Y, rfl⟩ := Int.eq_ofNat_of_zero_le hxy.2.1
    have hnr := nr_in (n := n) (a := 0) (b := (g.w : Int) - (X : Int)) (by omega)
    obtain ⟨m, hm⟩ := Int.eq_ofNat_of_zero_le hnr.1
    have hmx : X + m ≤ g.w := by omega
    have HNR := Lib.hid (fun v => nearest_ok v n 0 ((g.w : Int) - (X : Int)))
    rw [hm] at HNR
    have e : gshut g X Y n s = g.setL Y (mend (shutC (g.line Y) X m s)) := by unfold gshut; rw [hth, hm]; rfl
    rw [e]
    have hXw : X < g.w := by omega
    have hYh : Y < g.h := by omega
    clear hth e hxy hnr hm
    have hG3 := HG2.out
    have hLl : L.length = g.h := hG3.len.trans HOK.out.len
    have hYL : Y < L.length := by omega
    have hlo := HOK.out.line hYh
    have hll : (g.line Y).length = g.w := hlo.len
    have dh := hG1.hcell' hYL
    have eh := hG3.hcell' hYL
    have e0 : w2.cell? ⟨p, 0, none⟩ = some (.int .i64 (g.w : Int)) := hG3.cell0
    have e2 := hG3.cell2
    have ef := hG3.hfrozen Y
    rw [hll] at dh eh
    have hcc : g.w ≤ L[Y].c := by
      obtain ⟨_, _, _, h, _⟩ := (hG3.row' hYL).block rfl
      omega
    have HRW := Lib.hid (hG3.rowR hYL)
    obtain ⟨lz, hlz⟩ : ∃ l, l = shutC (g.line Y) X m s := ⟨_, rfl⟩
    rw [← hlz]
    have hlzl : lz.length = g.w := by rw [hlz, shutC_len _ _ _ _ (by rw [hll]; exact hmx), hll]
    have HLZ := Lib.hid hlzl
    have HYL := Lib.hid hYL
    have HLL := Lib.hid hll
    have HLQ := Lib.hid hlz
    have hW60 := HOK.out.w2
    have HFS := Lib.hid (Gr.setL_self (g := g) (y := Y) (by rw [← hG3.len]; exact hYL))
    generalize hb0 : L[Y].b = b0 at *
    generalize hcc0 : L[Y].c = cc at *
    clear hb0 hcc0
    have hs2c := HS2.out.cells
    have hwx : IntKind.i64.wrap ((g.w : Int) - (X : Int)) = (g.w : Int) - (X : Int) := by rw [IntKind.wrap_i64]; omega
    obtain ⟨q, hq⟩ : ∃ q, q = X + m := ⟨_, rfl⟩
    have hqw : q ≤ g.w := by omega
    have hsum : (X : Int) + (m : Int) = (q : Int) := by omega
    have hwm : IntKind.i64.wrap (q : Int) = (q : Int) := by rw [IntKind.wrap_i64]; omega
    have hhd : ∀ V, (Instr.slice 23 (.slice (some ⟨b0, 0, none⟩) g.w cc) none (some (.int .i64 (X : Int))) none).run Tryd.prog V = .ok (.slice (some ⟨b0, 0, none⟩) X cc) V := fun V => headC _ _ _ _ V (by omega)
    have hct : ∀ V, (Instr.slice 23 (.slice (some ⟨b0, 0, none⟩) g.w cc) (some (.int .i64 (q : Int))) none none).run Tryd.prog V = .ok (.slice (celE.cutA (some ⟨b0, 0, none⟩) cc q) (g.w - q) (cc - q)) V := fun V => cutC _ _ _ _ V (by omega)
    have HQ := Lib.hid hq
    clear hq
    have hwl : w.heap.size < w2.heap.size := HS2.out.lt
    have hwb : w.heap.size ∉ foot p hb L := fun hm => absurd (HG.out.lt _ hm) (Nat.lt_irrefl _)
    have hpl : p < w2.heap.size := hG3.lt p (by simp [foot])
    have hhl : hb < w2.heap.size := hG3.lt hb (by simp [foot])
    have hphb : p ≠ hb := hG3.ne_hb
    have hYi : (Y : Int) < (L.length : Int) := by omega
    clear hw1 hb1 hG hG2 hT hok hw2 hd2 hb2 hs1 hG1 hBL hlz hlzl hLl hlo hG3
    have HSC := Lib.hid hs2c
    have HBM := Lib.hid (HBL.out w2 m (by omega))
    clear hs0
    obtain ⟨sb, su, st, sf, sk⟩ := s
    simp only [styV] at *
    clear HBL
    go_enter Tryd.func40, Tryd.ntmps40
    go_wp2_with fail
    rw [← W1.out]
    refine HTHE.out.mono ?_
    rintro e w3 ⟨rfl, hw3⟩
    rw [hw3]
    clear hw3 w3
    go_wp2_with fail
    refine (HNR.out _).mono ?_
    rintro e w3 ⟨rfl, hw3⟩
    rw [hw3]
    clear hw3 w3
    go_wp2_with fail
    clear g0 g2 dh
    refine wp_region_noPanic ?_
    refine wp_region_held_drew (S := fun w' => (w'.cell? ⟨p, 0, none⟩ = some (.int .i64 (g.w : Int)) ∧ w'.cell? ⟨p, 2, none⟩ = some (.slice (some ⟨hb, 0, none⟩) L.length hc)) ∧ w'.cell? ⟨w.heap.size, 0, none⟩ = some (.bool sb) ∧ w'.cell? ⟨w.heap.size, 1, none⟩ = some (.bool su) ∧ w'.cell? ⟨w.heap.size, 2, none⟩ = some (.bool st) ∧ w'.cell? ⟨w.heap.size, 3, none⟩ = some (.int .i64 sf) ∧ w'.cell? ⟨w.heap.size, 4, none⟩ = some (.int .i64 sk)) (by kernel_rfl) (by rw [← W2.out]; exact ⟨⟨e0, e2⟩, hs2c⟩) (fun hHeld => ?_)
    rw [← W2.out]
    have hS0 : (w2.cell? ⟨p, 0, none⟩ = some (.int .i64 (g.w : Int)) ∧ w2.cell? ⟨p, 2, none⟩ = some (.slice (some ⟨hb, 0, none⟩) L.length hc)) ∧ w2.cell? ⟨w.heap.size, 0, none⟩ = some (.bool sb) ∧ w2.cell? ⟨w.heap.size, 1, none⟩ = some (.bool su) ∧ w2.cell? ⟨w.heap.size, 2, none⟩ = some (.bool st) ∧ w2.cell? ⟨w.heap.size, 3, none⟩ = some (.int .i64 sf) ∧ w2.cell? ⟨w.heap.size, 4, none⟩ = some (.int .i64 sk) := ⟨⟨e0, e2⟩, hs2c⟩
    have HSK := Lib.hid (fun (v : World) (hv : Below w2.heap.size w2 v) => show (v.cell? ⟨p, 0, none⟩ = some (.int .i64 (g.w : Int)) ∧ v.cell? ⟨p, 2, none⟩ = some (.slice (some ⟨hb, 0, none⟩) L.length hc)) ∧ v.cell? ⟨w.heap.size, 0, none⟩ = some (.bool sb) ∧ v.cell? ⟨w.heap.size, 1, none⟩ = some (.bool su) ∧ v.cell? ⟨w.heap.size, 2, none⟩ = some (.bool st) ∧ v.cell? ⟨w.heap.size, 3, none⟩ = some (.int .i64 sf) ∧ v.cell? ⟨w.heap.size, 4, none⟩ = some (.int .i64 sk) from
      ⟨⟨(hv.cell (p := ⟨p, 0, none⟩) hpl).trans e0, (hv.cell (p := ⟨p, 2, none⟩) hpl).trans e2⟩, (hv.cell (p := ⟨w.heap.size, 0, none⟩) hwl).trans hs2c.1, (hv.cell (p := ⟨w.heap.size, 1, none⟩) hwl).trans hs2c.2.1, (hv.cell (p := ⟨w.heap.size, 2, none⟩) hwl).trans hs2c.2.2.1, (hv.cell (p := ⟨w.heap.size, 3, none⟩) hwl).trans hs2c.2.2.2.1, (hv.cell (p := ⟨w.heap.size, 4, none⟩) hwl).trans hs2c.2.2.2.2⟩)
    clear e0 e2 hs2c
    refine wpAnyH_take (i := 0) (v := ?vsa0) rfl (by kernel_rfl) (by kernel_rfl) (by kernel_rfl) (fun _ _ _ h => h) (Or.inl ⟨by rfl, ?hsa0⟩) (by assumption) ?_
    case hsa0 => intro w hSw; (try dsimp only at hSw); go_simp; try with_reducible rfl
    simp only [List.getElem_toArray, List.getElem_cons_zero, Act.put, List.setIfInBounds_toArray, List.set_cons_zero, List.set_cons_succ]
    refine wpAnyH_take (i := 1) (v := ?vsa1) rfl (by kernel_rfl) (by kernel_rfl) (by kernel_rfl) (fun _ _ _ h => h) (Or.inl ⟨by rfl, ?hsa1⟩) (by assumption) ?_
    case hsa1 => intro w hSw; (try dsimp only at hSw); go_simp; try with_reducible rfl
    simp only [List.getElem_toArray, List.getElem_cons_succ, List.getElem_cons_zero, Act.put, List.setIfInBounds_toArray, List.set_cons_zero, List.set_cons_succ]
    refine wpAnyH_take (i := 2) (v := ?vsa2) rfl (by kernel_rfl) (by kernel_rfl) (by kernel_rfl) (fun _ _ _ h => h) (Or.inl ⟨by rfl, ?hsa2⟩) (by assumption) ?_
    case hsa2 => intro w hSw; (try dsimp only at hSw); go_simp; try with_reducible rfl
    simp only [List.getElem_toArray, List.getElem_cons_succ, List.getElem_cons_zero, Act.put, List.setIfInBounds_toArray, List.set_cons_zero, List.set_cons_succ]
    refine wpAnyH_take (i := 3) (v := ?vsa3) rfl (by kernel_rfl) (by kernel_rfl) (by kernel_rfl) (fun _ _ _ h => h) (Or.inl ⟨by rfl, ?hsa3⟩) (by assumption) ?_
    case hsa3 => intro w hSw; (try dsimp only at hSw); go_simp; try with_reducible rfl
    simp only [List.getElem_toArray, List.getElem_cons_succ, List.getElem_cons_zero, Act.put, List.setIfInBounds_toArray, List.set_cons_zero, List.set_cons_succ]
    refine wpAnyH_take (i := 4) (v := ?vsa4) rfl (by kernel_rfl) (by kernel_rfl) (by kernel_rfl) (fun _ _ _ h => h) (Or.inl ⟨by rfl, ?hsa4⟩) (by assumption) ?_
    case hsa4 => intro w hSw; (try dsimp only at hSw); go_simp; try with_reducible rfl
    simp only [List.getElem_toArray, List.getElem_cons_succ, List.getElem_cons_zero, Act.put, List.setIfInBounds_toArray, List.set_cons_zero, List.set_cons_succ]
    refine wpAnyH_take (i := 5) (v := ?vsa5) rfl (by kernel_rfl) (by kernel_rfl) (by kernel_rfl) (fun _ _ _ h => h) (Or.inl ⟨by rfl, ?hsa5⟩) (by assumption) ?_
    case hsa5 => intro w hSw; (try dsimp only at hSw); go_simp; try with_reducible rfl
    simp only [List.getElem_toArray, List.getElem_cons_succ, List.getElem_cons_zero, Act.put, List.setIfInBounds_toArray, List.set_cons_zero, List.set_cons_succ]
    refine wpAnyH_take (i := 6) (v := ?vsa6) rfl (by kernel_rfl) (by kernel_rfl) (by kernel_rfl) (fun _ _ _ h => h) (Or.inl ⟨by rfl, ?hsa6⟩) (by assumption) ?_
    case hsa6 => intro w hSw; (try dsimp only at hSw); go_simp; try with_reducible rfl
    simp only [List.getElem_toArray, List.getElem_cons_succ, List.getElem_cons_zero, Act.put, List.setIfInBounds_toArray, List.set_cons_zero, List.set_cons_succ]
    refine wpAnyH_take (i := 7) (v := ?vsa7) rfl (by kernel_rfl) (by kernel_rfl) (by kernel_rfl) (fun _ _ _ h => h) (Or.inl ⟨by rfl, ?hsa7⟩) (by assumption) ?_
    case hsa7 => intro w hSw; (try dsimp only at hSw); go_simp; try with_reducible rfl
    simp only [List.getElem_toArray, List.getElem_cons_succ, List.getElem_cons_zero, Act.put, List.setIfInBounds_toArray, List.set_cons_zero, List.set_cons_succ]
    refine wpAnyH_take (i := 8) (v := ?vsa8) rfl (by kernel_rfl) (by kernel_rfl) (by kernel_rfl) (fun _ _ _ h => h) (Or.inl ⟨by rfl, ?hsa8⟩) (by assumption) ?_
    case hsa8 => intro w hSw; (try dsimp only at hSw); go_simp; try with_reducible rfl
    simp only [List.getElem_toArray, List.getElem_cons_succ, List.getElem_cons_zero, Act.put, List.setIfInBounds_toArray, List.set_cons_zero, List.set_cons_succ]
    refine wpAnyH_take (i := 9) (v := ?vsa9) rfl (by kernel_rfl) (by kernel_rfl) (by kernel_rfl) (fun _ _ _ h => h) (Or.inl ⟨by rfl, ?hsa9⟩) (by assumption) ?_
    case hsa9 => intro w hSw; (try dsimp only at hSw); go_simp; try with_reducible rfl
    simp only [List.getElem_toArray, List.getElem_cons_succ, List.getElem_cons_zero, Act.put, List.setIfInBounds_toArray, List.set_cons_zero, List.set_cons_succ]
    refine wpAnyH_take (i := 10) (v := ?vsa10) rfl (by kernel_rfl) (by kernel_rfl) (by kernel_rfl) (fun _ _ _ h => h) (Or.inl ⟨by rfl, ?hsa10⟩) (by assumption) ?_
    case hsa10 => intro w hSw; (try dsimp only at hSw); go_simp; try with_reducible rfl
    simp only [List.getElem_toArray, List.getElem_cons_succ, List.getElem_cons_zero, Act.put, List.setIfInBounds_toArray, List.set_cons_zero, List.set_cons_succ]
    refine wpAnyH_take (i := 11) (v := ?vsa11) rfl (by kernel_rfl) (by kernel_rfl) (by kernel_rfl) (fun _ _ _ h => h) (Or.inl ⟨by rfl, ?hsa11⟩) (by assumption) ?_
    case hsa11 => intro w hSw; (try dsimp only at hSw); go_simp; try with_reducible rfl
    simp only [List.getElem_toArray, List.getElem_cons_succ, List.getElem_cons_zero, Act.put, List.setIfInBounds_toArray, List.set_cons_zero, List.set_cons_succ]
    refine wpAnyH_take (i := 12) (v := ?vsa12) rfl (by kernel_rfl) (by kernel_rfl) (by kernel_rfl) (fun _ _ _ h => h) (Or.inl ⟨by rfl, ?hsa12⟩) (by assumption) ?_
    case hsa12 => intro w hSw; (try dsimp only at hSw); go_simp; try with_reducible rfl
    simp only [List.getElem_toArray, List.getElem_cons_succ, List.getElem_cons_zero, Act.put, List.setIfInBounds_toArray, List.set_cons_zero, List.set_cons_succ]
    refine wpAnyH_take (i := 13) (v := ?vsa13) rfl (by kernel_rfl) (by kernel_rfl) (by kernel_rfl) (fun _ _ _ h => h) (Or.inl ⟨by rfl, ?hsa13⟩) (by assumption) ?_
    case hsa13 => intro w hSw; (try dsimp only at hSw); go_simp; try with_reducible rfl
    simp only [List.getElem_toArray, List.getElem_cons_succ, List.getElem_cons_zero, Act.put, List.setIfInBounds_toArray, List.set_cons_zero, List.set_cons_succ]
    refine wpAnyH_take (i := 14) (v := ?vsa14) rfl (by kernel_rfl) (by kernel_rfl) (by kernel_rfl) (fun _ _ _ h => h) (Or.inl ⟨by rfl, ?hsa14⟩) (by assumption) ?_
    case hsa14 => intro w hSw; (try dsimp only at hSw); go_simp; try with_reducible rfl
    simp only [List.getElem_toArray, List.getElem_cons_succ, List.getElem_cons_zero, Act.put, List.setIfInBounds_toArray, List.set_cons_zero, List.set_cons_succ]
    refine wpAnyH_ready (rs := [15]) (by kernel_rfl) (by simp) ?_
    refine AllReadyH.cons rfl (fun K hK => ?_) AllReadyH.nil
    go_simp
    refine HBM.out.mono ?_
    rintro e w3 ⟨v3, rfl, ho3, hb3⟩
    obtain ⟨A3, c3, hv3, _, _, hA3, hr3⟩ := ho3.row
    rw [blanks_len] at hv3
    have HB3 := Lib.hid (below_next HB2.out hb3)
    have hz3 := hb3.size
    have HB23 := Lib.hid hb3
    have hrw := (HRW.out.below hb3).mono hz3
    have hl1 := hrw.take X
    have hl2 := hrw.cut (k := q) (c := cc) (by rw [HLL.out]; exact hqw) (by rw [HLL.out]; omega)
    have hrr := rows3 (w := w3) (B := w3.heap.size) (A1 := some ⟨b0, 0, none⟩) (A2 := celE.cutA (some ⟨b0, 0, none⟩) cc q) (A3 := A3) (c1 := cc) (c2 := cc - q) (c3 := c3) (n1 := X) (n2 := g.w - q) (n3 := m) hl1 hl2 hr3 (by simp) (fun h => by unfold El.cutA at h; split at h <;> simp at h) hA3 (by rw [List.length_take, HLL.out]; omega) (by rw [List.length_drop, HLL.out]) (blanks_len _ _).symm (Nat.le_refl _) (t := 23)
    have hS3 := HSK.out w3 hb3
    rw [hv3]
    have HRR := Lib.hid hrr
    clear ho3 hv3 hb3 hrw hl1 hrr hr3 hA3 hl2
    dsimp only
    refine hK.out _ _ ?_ (fun hHeld => ?_)
    · exact hS3
    clear hK K
    refine wpAnyH_ready (rs := [16]) (by kernel_rfl) (by simp) ?_
    refine AllReadyH.cons rfl (fun K hK => ?_) AllReadyH.nil
    go_simp
    obtain ⟨w4, hw4⟩ : ∃ w4, w4 = w3.alloc (.cells #[.slice (some ⟨b0, 0, none⟩) X cc, .slice (celE.cutA (some ⟨b0, 0, none⟩) cc q) (g.w - q) (cc - q), .slice A3 m c3] 23) := ⟨_, rfl⟩
    have hb4 : Below w2.heap.size w2 w4 := by rw [hw4]; exact HB23.out.alloc HB23.out.size _
    have hb34 : Below w3.heap.size w3 w4 := by rw [hw4]; exact (Below.refl _ _).alloc (Nat.le_refl _) _
    have hz4 : w4.heap.size = w3.heap.size + 1 := by rw [hw4]; simp
    have hS4 := HSK.out w4 hb4
    rw [← hw4] at HRR ⊢
    have HB4 := Lib.hid hb4
    have HB34 := Lib.hid hb34
    have hcat := concatC w4 (some ⟨w3.heap.size, 0, none⟩) 3 (w3.heap.size + 1) [(g.line Y).take X, (g.line Y).drop q, KM.blanks m ⟨sb, su, st, sf, sk⟩] HRR.out (by omega) (by simp) (by simp only [sizes, List.map_cons, List.map_nil, List.sum_cons, List.sum_nil, List.length_take, List.length_drop, blanks_len, HLL.out]; have := HQ.out; omega)
    have hflat : [(g.line Y).take X, (g.line Y).drop q, KM.blanks m ⟨sb, su, st, sf, sk⟩].flatten = lz := by rw [HLQ.out, ← HS0.out]; unfold shutC; rw [HQ.out]; simp
    rw [hflat] at hcat
    have HCAT := Lib.hid hcat
    clear hw4 hb4 hb34 hflat hcat
    refine hK.out _ _ ?_ (fun hHeld => ?_)
    · exact hS4
    clear hK K
    refine wpAnyH_ready (rs := [17]) (by kernel_rfl) (by simp) ?_
    refine AllReadyH.cons rfl (fun K hK => ?_) AllReadyH.nil
    go_simp
    refine HCAT.out.mono ?_
    rintro e w5 ⟨v5, rfl, ho5, hb5⟩
    obtain ⟨g5, c5, hv5, -, -, -, -, -, -⟩ := ho5.place (by have := HLZ.out; omega)
    rw [HLZ.out] at hv5
    have hb25 : Below w2.heap.size w2 w5 := HB4.out.trans (hb5.mono HB4.out.size)
    have hS5 := HSK.out w5 hb25
    rw [hv5] at ho5
    have hr5 : celE.Row w5 w5.heap.size (some ⟨g5, 0, none⟩) lz := El.Row.of_own (c := c5) (by rw [HLZ.out]; exact ho5)
    have hmend := mend_ok w5 (HT2.out.on hb25 HT2.out.room) lz (some ⟨g5, 0, none⟩) c5 w5.heap.size hr5 (by simp) (Nat.le_refl _) (by have := HLZ.out; omega)
    rw [HLZ.out] at hmend
    have HMEND := Lib.hid hmend
    have HB25 := Lib.hid hb25
    rw [hv5]
    clear ho5 hv5 hr5 hmend hb5 hb25
    dsimp only
    refine hK.out _ _ ?_ (fun hHeld => ?_)
    · exact hS5
    clear hK K
    refine wpAnyH_ready (rs := [18]) (by kernel_rfl) (by simp) ?_
    refine AllReadyH.cons rfl (fun K hK => ?_) AllReadyH.nil
    go_simp
    refine HMEND.out.mono ?_
    rintro e w7 ⟨v7, rfl, ho7, hb7⟩
    obtain ⟨gx, cx, hv7, -, -, -, -, -, -⟩ := ho7.place (by rw [mend_len]; have := HLZ.out; omega)
    obtain ⟨z, hzd⟩ : ∃ z : Ln, z = ⟨gx, cx, mend lz⟩ := ⟨_, rfl⟩
    have hvs : v7 = z.s.v := by rw [hv7, hzd]; rfl
    have hzl : z.l = mend lz := by rw [hzd]
    rw [hvs, ← hzl] at ho7
    have hG5 : GridB w5 p hb hc L (g.setL Y (g.line Y)) := by rw [HFS.out]; exact HG2.out.below HB25.out
    have hfin := GPost.finish (w := w) (L := L) (Fr.of_below (below_next HB2.out HB25.out)) hG5 rfl HYL.out z ho7 hb7
    rw [hzl, ← hvs, hv7] at hfin
    have HFIN := Lib.hid hfin
    have hb27 : Below w2.heap.size w2 w7 := HB25.out.trans (hb7.mono HB25.out.size)
    have hS7 := HSK.out w7 hb27
    have u7 := (hb27.cell (p := ⟨hb, Y, none⟩) hhl).trans eh
    have f7 := (hb27.frozen (p := ⟨hb, Y, none⟩) hhl).trans ef
    have hne : ∀ q j, q ≠ hb → ∀ u, (w7.setCell ⟨hb, Y, none⟩ u).cell? ⟨q, j, none⟩ = w7.cell? ⟨q, j, none⟩ := fun q j hq u => World.cell?_setCell_other _ _ _ _ (fun e => hq.symm (by simpa using congrArg Addr.block e))
    have HNE := Lib.hid hne
    have hwhb : w.heap.size ≠ hb := fun e => hwb (by rw [e]; simp [foot])
    rw [hv7]
    clear hfin hv7 hvs hzl hzd ho7 hb7 hG5 hb27 hne
    generalize (mend lz).length = q at *
    dsimp only
    refine hK.out _ _ ?_ (fun hHeld => ?_)
    · exact hS7
    clear hK K
    refine wpAnyH_take (i := 19) (v := ?vsb19) rfl (by kernel_rfl) (by kernel_rfl) (by kernel_rfl) (fun _ _ _ h => h) (Or.inl ⟨by rfl, ?hsb19⟩) (by assumption) ?_
    case hsb19 => intro w hSw; (try dsimp only at hSw); go_simp; try with_reducible rfl
    simp only [List.getElem_toArray, List.getElem_cons_succ, List.getElem_cons_zero, Act.put, List.setIfInBounds_toArray, List.set_cons_zero, List.set_cons_succ]
    refine wpAnyH_ready (rs := [20]) (by kernel_rfl) (by simp) ?_
    refine AllReadyH.cons rfl (fun K hK => ?_) AllReadyH.nil
    go_simp
    refine hK.out _ _ ?_ (fun hHeld => ?_)
    · exact ⟨⟨(HNE.out p 0 hphb _).trans hS7.1.1, (HNE.out p 2 hphb _).trans hS7.1.2⟩, (HNE.out _ 0 hwhb _).trans hS7.2.1, (HNE.out _ 1 hwhb _).trans hS7.2.2.1, (HNE.out _ 2 hwhb _).trans hS7.2.2.2.1, (HNE.out _ 3 hwhb _).trans hS7.2.2.2.2.1, (HNE.out _ 4 hwhb _).trans hS7.2.2.2.2.2⟩
    clear hK K
    refine wpAnyH_done (by kernel_rfl) ?_ _
    refine NoPanic.normal ?_
    clear hHeld
    go_wp2
    go_end0
    exact ⟨rfl, HFIN.out⟩
end Go.Proofs.YtbpkklcegiiheaaDoor
