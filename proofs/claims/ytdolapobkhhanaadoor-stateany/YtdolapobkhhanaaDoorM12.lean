/-
  STakeC, STakeS, in one text.
-/
import Derived.Test.YtdolapobkhhanaaDoorM11
import Derived.Test.YtdolapobkhhanaaDoorM03
import Derived.Deep.RegionHeld3
import Derived.Test.YtdolapobkhhanaaDoorM07
import Derived.Test.YtdolapobkhhanaaDoorM10
import Derived.Test.YtdolapobkhhanaaDoorM05
/-
  Layer 11 (state): the cursors are taken.
-/
namespace Go.Proofs.YtdolapobkhhanaaDoor
open Go.RowKit Go.Lib KM
set_option maxRecDepth 100000

/-- What is carried: the reader, the terminal's cells, its grid's sides; only the reader's block and the terminal's were changed. -/
structure CK (w0 wr : World) (g p gp W H : Nat) (l : List Nat) (bad : Bool) (f : Nat → Value) : Prop where
  rd : Rd wr g l bad
  cells : CellsF wr p 43 108 f
  f0 : f 0 = .pointer (some ⟨gp, 0, none⟩)
  s0 : wr.cell? ⟨gp, 0, none⟩ = some (.int .i64 (W : Int))
  s1 : wr.cell? ⟨gp, 1, none⟩ = some (.int .i64 (H : Int))
  fr : Fr (fun k => k = g ∨ k = p) w0 wr
  ne : g < p ∧ gp ≠ p ∧ g ≠ gp
section
variable {w0 w w' : World} {g p gp W H : Nat} {l l' : List Nat} {bad bad' : Bool} {f : Nat → Value}
theorem CK.ptr (h : CK w0 w g p gp W H l bad f) : w.cell? ⟨p, 0, none⟩ = some (.pointer (some ⟨gp, 0, none⟩)) := by rw [← h.f0]; exact h.cells.cell (by omega)
theorem CK.gpl (h : CK w0 w g p gp W H l bad f) : gp < w.heap.size := World.block_lt_of_cell? w _ h.s0
theorem CK.num (h : CK w0 w g p gp W H l bad f) (hg : w.grownBy w' (some g)) (hr : Rd w' g l' bad') : CK w0 w' g p gp W H l' bad' f :=
  ⟨hr, h.cells.keep (hg.block p h.cells.lt (by intro e; injection e with e; have := h.ne.1; omega)), h.f0,
   (World.cell?_of_block (hg.block gp h.gpl (by intro e; injection e with e; exact h.ne.2.2 e.symm))).trans h.s0,
   (World.cell?_of_block (hg.block gp h.gpl (by intro e; injection e with e; exact h.ne.2.2 e.symm))).trans h.s1,
   h.fr.trans' ⟨hg.os, hg.tape, hg.output, hg.size, fun k hk hs => hg.block k hk (by intro e; injection e with e; exact hs (.inl e))⟩, h.ne⟩
theorem CK.any (h : CK w0 w g p gp W H l bad f) (hg : w.grownBy w' (some g)) : Fr (fun k => k = g ∨ k = p) w0 w' :=
  h.fr.trans' ⟨hg.os, hg.tape, hg.output, hg.size, fun k hk hs => hg.block k hk (by intro e; injection e with e; exact hs (.inl e))⟩
theorem CK.below (h : CK w0 w g p gp W H l bad f) (hb : Below w.heap.size w w') : CK w0 w' g p gp W H l bad f :=
  ⟨h.rd.on hb h.rd.lt, h.cells.below hb h.cells.lt, h.f0, (hb.cell (p := ⟨gp, 0, none⟩) h.gpl).trans h.s0, (hb.cell (p := ⟨gp, 1, none⟩) h.gpl).trans h.s1, h.fr.trans' (Fr.of_below hb), h.ne⟩
theorem CK.set (h : CK w0 w g p gp W H l bad f) {i : Nat} (hi : i < 108) (h0 : i ≠ 0) (v : Value) : CK w0 (w.setCell ⟨p, i, none⟩ v) g p gp W H l bad (upd f i v) := by
  have hk : ∀ k, k ≠ p → (w.setCell ⟨p, i, none⟩ v).heap[k]? = w.heap[k]? := fun k hk => Below.heap_setCell _ _ _ _ hk
  have hrd : Rd (w.setCell ⟨p, i, none⟩ v) g l bad := by
    obtain ⟨A, c, hA, h2, h3, h4, h5⟩ := h.rd
    refine ⟨A, c, (hk g (Nat.ne_of_lt h.ne.1)).trans hA, h2, h3, ?_, h5⟩
    intro hl
    obtain ⟨b, off, e, hb, hc⟩ := h4 hl
    refine ⟨b, off, e, hb, fun j hj => ?_⟩
    exact (World.cell?_of_block (w := w) (a := ⟨b, off + j, none⟩) (hk b (by have := h.ne.1; omega))).trans (hc j hj)
  refine ⟨hrd, h.cells.set hi v, ?_, (World.cell?_of_block (w := w) (a := ⟨gp, 0, none⟩) (hk gp h.ne.2.1)).trans h.s0, (World.cell?_of_block (w := w) (a := ⟨gp, 1, none⟩) (hk gp h.ne.2.1)).trans h.s1, h.fr.trans' (Fr.setCell _ (.inr rfl)), h.ne⟩
  unfold upd
  rw [if_neg (fun e => h0 e.symm)]
  exact h.f0
end

/-- What becomes of a terminal's cells where its cursor k is another one. -/
theorem tm_cur (t : Tm) (gp op : Nat) (bv : Value) (PA : Option Addr) (pc k : Nat) (hk : k < 3) (hl : t.cs.length = 3) (c : Cur) (f : Nat → Value)
    (h1 : ∀ j, j < 8 → f (2 + 8 * k + j) = curAt c j) (h2 : ∀ i, i < 108 → (i < 2 + 8 * k ∨ 2 + 8 * k + 8 ≤ i) → f i = tmAt t gp op bv PA pc i) :
    ∀ i, i < 108 → f i = tmAt { t with cs := t.cs.set k c } gp op bv PA pc i := by
  intro i hi
  by_cases hr : i < 2 + 8 * k ∨ 2 + 8 * k + 8 ≤ i
  · rw [h2 i hi hr]
    unfold tmAt
    dsimp only
    by_cases h26 : i < 26
    · by_cases h0 : i = 0
      · rw [if_pos h0, if_pos h0]
      rw [if_neg h0, if_neg h0]
      by_cases h1 : i = 1
      · rw [if_pos h1, if_pos h1]
      rw [if_neg h1, if_neg h1, if_pos h26, if_pos h26]
      have hne : k ≠ (i - 2) / 8 := by omega
      simp only [List.getD_eq_getElem?_getD, List.getElem?_set_ne hne]
    · simp only [h26, if_false]
  · obtain ⟨j, hj, rfl⟩ : ∃ j, j < 8 ∧ i = 2 + 8 * k + j := ⟨i - (2 + 8 * k), by omega, by omega⟩
    rw [h1 j hj, tm_cs _ _ _ _ _ _ k j hk hj]
    congr 1
    simp [List.getD_eq_getElem?_getD, hl, hk]
/-- What takeCursors leaves. -/
def CsPost (w0 : World) (g p gp W H : Nat) (t : Tm) (op : Nat) (bv : Value) (PA : Option Addr) (pc : Nat) (R : Option (List Cur × List Nat × Bool)) (e : Ending) (w' : World) : Prop :=
  (R = none ∧ e = .returned (.bool false) ∧ Fr (fun k => k = g ∨ k = p) w0 w') ∨
  ∃ T, R = some T ∧ e = .returned (.bool true) ∧ CK w0 w' g p gp W H T.2.1 T.2.2 (tmAt { t with cs := T.1 } gp op bv PA pc)
theorem takeCs_none (W H n : Nat) (l : List Nat) (bad : Bool) (h : (takeC W H l bad).1 = none) : takeCs W H (n + 1) l bad = none := by
  simp [takeCs, h]
theorem takeCs_some (W H n : Nat) (l : List Nat) (bad : Bool) (c : Cur) (l2 : List Nat) (b2 : Bool) (h : takeC W H l bad = (some c, l2, b2)) : takeCs W H (n + 1) l bad = (takeCs W H n l2 b2).map fun R => (c :: R.1, R.2) := by
  simp [takeCs, h]

set_option maxHeartbeats 8000000 in
theorem takeCursors_ok (w0 w : World) (g p gp W H : Nat) (l : List Nat) (bad : Bool) (t : Tm) (op : Nat) (bv : Value) (PA : Option Addr) (pc : Nat) (hW : 1 ≤ W ∧ W ≤ 60) (hH : 1 ≤ H ∧ H ≤ 60) (hl : t.cs.length = 3)
    (h : CK w0 w g p gp W H l bad (tmAt t gp op bv PA pc)) :
    Calls Tryd.prog 31 #[.pointer (some ⟨g, 0, none⟩), .pointer (some ⟨p, 0, none⟩)] w (CsPost w0 g p gp W H t op bv PA pc (takeCs W H 3 l bad)) := by
  have HK := Lib.hid h
  have HLL := Lib.hid hl
  obtain ⟨R, hR⟩ : ∃ R, R = takeCs W H 3 l bad := ⟨_, rfl⟩
  rw [← hR]
  have HRR := Lib.hid hR
  clear h hR hl
  go_enter Tryd.func31, Tryd.ntmps31
  go_wp2_with fail
  refine (cursors_ok w p).mono ?_
  rintro e w1 ⟨rfl, hb1⟩
  have HK1 := Lib.hid (HK.out.below hb1)
  clear hb1 HK
  go_wp2
  go_loopw [10] (fun i wr => ∃ k : Nat, k ≤ 3 ∧ i = .int .i64 (k : Int) ∧ ∃ cs l1 b1, cs.length = 3 ∧ CK w0 wr g p gp W H l1 b1 (tmAt { t with cs := cs } gp op bv PA pc) ∧ (takeCs W H (3 - k) l1 b1).map (fun Q => (cs.take k ++ Q.1, Q.2)) = R) (fun i _ => 3 - (RowKit.intOf i).toNat)
  case atStart => exact ⟨0, Nat.zero_le _, rfl, t.cs, l, bad, HLL.out, HK1.out, by rw [HRR.out]; simp⟩
  case round =>
    obtain ⟨k, hk, rfl, cs, l1, b1, hcl, hck, hrel⟩ := hrel
    have H1 := Lib.hid hck
    have H2 := Lib.hid hrel
    have H3 := Lib.hid hcl
    clear hck hrel hcl
    by_cases hlt : k < 3
    · have hix := fun W => index3 W p k hlt
      obtain ⟨o, ho⟩ : ∃ o, o = 2 + 8 * k := ⟨_, rfl⟩
      rw [← ho] at hix
      have HOO := Lib.hid ho
      have hob : o + 8 ≤ 26 ∧ 2 ≤ o := by omega
      have g1 : decide ((k : Int) < 3) = true := by simp; omega
      clear ho
      -- what comes
      obtain ⟨⟨x, l2, b2⟩, e1⟩ : ∃ q, numOf l1 b1 W = q := ⟨_, rfl⟩
      obtain ⟨⟨y, l3, b3⟩, e2⟩ : ∃ q, numOf l2 b2 H = q := ⟨_, rfl⟩
      obtain ⟨⟨fl, l4, b4⟩, e3⟩ : ∃ q, numOf l3 b3 2 = q := ⟨_, rfl⟩
      obtain ⟨⟨S, l5, b5⟩, e4⟩ : ∃ q, takeS l4 b4 = q := ⟨_, rfl⟩
      have HC := Lib.hid (takeC_eq W H l1 b1 x l2 b2 y l3 b3 fl l4 b4 (S, l5, b5) e1 e2 e3 e4)
      have hx : x < W := by have := numOf_lt l1 b1 W (by omega); rwa [e1] at this
      have N1 := Lib.hid (fun (V : World) (hr : Rd V g l1 b1) => (show Calls Tryd.prog 53 #[.pointer (some ⟨g, 0, none⟩), .int .i64 (W : Int)] V (NumPost V g (x, l2, b2)) by
        have := num_any V g l1 b1 (W : Int) (by omega) hr
        rwa [show lim (W : Int) = W by unfold lim; rw [if_neg (by omega)]; simp, e1] at this))
      have N2 := Lib.hid (fun (V : World) (hr : Rd V g l2 b2) => (show Calls Tryd.prog 53 #[.pointer (some ⟨g, 0, none⟩), .int .i64 (H : Int)] V (NumPost V g (y, l3, b3)) by
        have := num_any V g l2 b2 (H : Int) (by omega) hr
        rwa [show lim (H : Int) = H by unfold lim; rw [if_neg (by omega)]; simp, e2] at this))
      have E3 := Lib.hid e3
      have N4 := Lib.hid (fun (V : World) (hr : Rd V g l4 b4) => (show Calls Tryd.prog 54 #[.pointer (some ⟨g, 0, none⟩)] V (TakeSPost V g (S, l5, b5)) by rw [← e4]; exact takeStyle_ok V g l4 b4 hr))
      clear e1 e2 e3 e4
      go_wp2
      refine wp_region_noPanic ?_
      refine wp_region_held_drew (S := fun v => v.cell? ⟨p, 0, none⟩ = some (.pointer (some ⟨gp, 0, none⟩)) ∧ v.cell? ⟨gp, 0, none⟩ = some (.int .i64 (W : Int)) ∧ v.cell? ⟨gp, 1, none⟩ = some (.int .i64 (H : Int))) (by kernel_rfl) ⟨H1.out.ptr, H1.out.s0, H1.out.s1⟩ (fun hHeld => ?_)
      refine wpAnyH_take (i := 0) (v := ?va0) rfl (by kernel_rfl) (by kernel_rfl) (by kernel_rfl) (fun _ _ _ h => h) (Or.inl ⟨by rfl, ?ha0⟩) (by assumption) ?_
      case ha0 => intro w hSw; (try dsimp only at hSw); go_simp; try with_reducible rfl
      simp only [List.getElem_toArray, List.getElem_cons_zero, Act.put, List.setIfInBounds_toArray, List.set_cons_zero, List.set_cons_succ]
      refine wpAnyH_take (i := 1) (v := ?va1) rfl (by kernel_rfl) (by kernel_rfl) (by kernel_rfl) (fun _ _ _ h => h) (Or.inl ⟨by rfl, ?ha1⟩) (by assumption) ?_
      case ha1 => intro w hSw; (try dsimp only at hSw); go_simp; try with_reducible rfl
      simp only [List.getElem_toArray, List.getElem_cons_succ, List.getElem_cons_zero, Act.put, List.setIfInBounds_toArray, List.set_cons_zero, List.set_cons_succ]
      refine wpAnyH_take (i := 2) (v := ?va2) rfl (by kernel_rfl) (by kernel_rfl) (by kernel_rfl) (fun _ _ _ h => h) (Or.inl ⟨by rfl, ?ha2⟩) (by assumption) ?_
      case ha2 => intro w hSw; (try dsimp only at hSw); go_simp; try with_reducible rfl
      simp only [List.getElem_toArray, List.getElem_cons_succ, List.getElem_cons_zero, Act.put, List.setIfInBounds_toArray, List.set_cons_zero, List.set_cons_succ]
      refine wpAnyH_take (i := 3) (v := ?va3) rfl (by kernel_rfl) (by kernel_rfl) (by kernel_rfl) (fun _ _ _ h => h) (Or.inl ⟨by rfl, ?ha3⟩) (by assumption) ?_
      case ha3 => intro w hSw; (try dsimp only at hSw); go_simp; try with_reducible rfl
      simp only [List.getElem_toArray, List.getElem_cons_succ, List.getElem_cons_zero, Act.put, List.setIfInBounds_toArray, List.set_cons_zero, List.set_cons_succ]
      refine wpAnyH_take (i := 4) (v := ?va4) rfl (by kernel_rfl) (by kernel_rfl) (by kernel_rfl) (fun _ _ _ h => h) (Or.inl ⟨by rfl, ?ha4⟩) (by assumption) ?_
      case ha4 => intro w hSw; (try dsimp only at hSw); go_simp; try with_reducible rfl
      simp only [List.getElem_toArray, List.getElem_cons_succ, List.getElem_cons_zero, Act.put, List.setIfInBounds_toArray, List.set_cons_zero, List.set_cons_succ]
      refine wpAnyH_take (i := 5) (v := ?va5) rfl (by kernel_rfl) (by kernel_rfl) (by kernel_rfl) (fun _ _ _ h => h) (Or.inl ⟨by rfl, ?ha5⟩) (by assumption) ?_
      case ha5 => intro w hSw; (try dsimp only at hSw); go_simp; try with_reducible rfl
      simp only [List.getElem_toArray, List.getElem_cons_succ, List.getElem_cons_zero, Act.put, List.setIfInBounds_toArray, List.set_cons_zero, List.set_cons_succ]
      refine wpAnyH_take (i := 6) (v := ?va6) rfl (by kernel_rfl) (by kernel_rfl) (by kernel_rfl) (fun _ _ _ h => h) (Or.inl ⟨by rfl, ?ha6⟩) (by assumption) ?_
      case ha6 => intro w hSw; (try dsimp only at hSw); go_simp; try with_reducible rfl
      simp only [List.getElem_toArray, List.getElem_cons_succ, List.getElem_cons_zero, Act.put, List.setIfInBounds_toArray, List.set_cons_zero, List.set_cons_succ]
      refine wpAnyH_take (i := 7) (v := ?va7) rfl (by kernel_rfl) (by kernel_rfl) (by kernel_rfl) (fun _ _ _ h => h) (Or.inl ⟨by rfl, ?ha7⟩) (by assumption) ?_
      case ha7 => intro w hSw; (try dsimp only at hSw); go_simp; try with_reducible rfl
      simp only [List.getElem_toArray, List.getElem_cons_succ, List.getElem_cons_zero, Act.put, List.setIfInBounds_toArray, List.set_cons_zero, List.set_cons_succ]
      refine wpAnyH_take (i := 8) (v := ?va8) rfl (by kernel_rfl) (by kernel_rfl) (by kernel_rfl) (fun _ _ _ h => h) (Or.inl ⟨by rfl, ?ha8⟩) (by assumption) ?_
      case ha8 => intro w hSw; (try dsimp only at hSw); go_simp; try with_reducible rfl
      simp only [List.getElem_toArray, List.getElem_cons_succ, List.getElem_cons_zero, Act.put, List.setIfInBounds_toArray, List.set_cons_zero, List.set_cons_succ]
      refine wpAnyH_take (i := 9) (v := ?va9) rfl (by kernel_rfl) (by kernel_rfl) (by kernel_rfl) (fun _ _ _ h => h) (Or.inl ⟨by rfl, ?ha9⟩) (by assumption) ?_
      case ha9 => intro w hSw; (try dsimp only at hSw); go_simp; try with_reducible rfl
      simp only [List.getElem_toArray, List.getElem_cons_succ, List.getElem_cons_zero, Act.put, List.setIfInBounds_toArray, List.set_cons_zero, List.set_cons_succ]
      refine wpAnyH_take (i := 11) (v := ?va11) rfl (by kernel_rfl) (by kernel_rfl) (by kernel_rfl) (fun _ _ _ h => h) (Or.inl ⟨by rfl, ?ha11⟩) (by assumption) ?_
      case ha11 => intro w hSw; (try dsimp only at hSw); go_simp; try with_reducible rfl
      simp only [List.getElem_toArray, List.getElem_cons_succ, List.getElem_cons_zero, Act.put, List.setIfInBounds_toArray, List.set_cons_zero, List.set_cons_succ]
      refine wpAnyH_take (i := 12) (v := ?va12) rfl (by kernel_rfl) (by kernel_rfl) (by kernel_rfl) (fun _ _ _ h => h) (Or.inl ⟨by rfl, ?ha12⟩) (by assumption) ?_
      case ha12 => intro w hSw; (try dsimp only at hSw); go_simp; try with_reducible rfl
      simp only [List.getElem_toArray, List.getElem_cons_succ, List.getElem_cons_zero, Act.put, List.setIfInBounds_toArray, List.set_cons_zero, List.set_cons_succ]
      refine wpAnyH_take (i := 13) (v := ?va13) rfl (by kernel_rfl) (by kernel_rfl) (by kernel_rfl) (fun _ _ _ h => h) (Or.inl ⟨by rfl, ?ha13⟩) (by assumption) ?_
      case ha13 => intro w hSw; (try dsimp only at hSw); go_simp; try with_reducible rfl
      simp only [List.getElem_toArray, List.getElem_cons_succ, List.getElem_cons_zero, Act.put, List.setIfInBounds_toArray, List.set_cons_zero, List.set_cons_succ]
      refine wpAnyH_take (i := 14) (v := ?va14) rfl (by kernel_rfl) (by kernel_rfl) (by kernel_rfl) (fun _ _ _ h => h) (Or.inl ⟨by rfl, ?ha14⟩) (by assumption) ?_
      case ha14 => intro w hSw; (try dsimp only at hSw); go_simp; try with_reducible rfl
      simp only [List.getElem_toArray, List.getElem_cons_succ, List.getElem_cons_zero, Act.put, List.setIfInBounds_toArray, List.set_cons_zero, List.set_cons_succ]
      refine wpAnyH_take (i := 15) (v := ?va15) rfl (by kernel_rfl) (by kernel_rfl) (by kernel_rfl) (fun _ _ _ h => h) (Or.inl ⟨by rfl, ?ha15⟩) (by assumption) ?_
      case ha15 => intro w hSw; (try dsimp only at hSw); go_simp; try with_reducible rfl
      simp only [List.getElem_toArray, List.getElem_cons_succ, List.getElem_cons_zero, Act.put, List.setIfInBounds_toArray, List.set_cons_zero, List.set_cons_succ]
      refine wpAnyH_take (i := 16) (v := ?va16) rfl (by kernel_rfl) (by kernel_rfl) (by kernel_rfl) (fun _ _ _ h => h) (Or.inl ⟨by rfl, ?ha16⟩) (by assumption) ?_
      case ha16 => intro w hSw; (try dsimp only at hSw); go_simp; try with_reducible rfl
      simp only [List.getElem_toArray, List.getElem_cons_succ, List.getElem_cons_zero, Act.put, List.setIfInBounds_toArray, List.set_cons_zero, List.set_cons_succ]
      refine wpAnyH_take (i := 17) (v := ?va17) rfl (by kernel_rfl) (by kernel_rfl) (by kernel_rfl) (fun _ _ _ h => h) (Or.inl ⟨by rfl, ?ha17⟩) (by assumption) ?_
      case ha17 => intro w hSw; (try dsimp only at hSw); go_simp; try with_reducible rfl
      simp only [List.getElem_toArray, List.getElem_cons_succ, List.getElem_cons_zero, Act.put, List.setIfInBounds_toArray, List.set_cons_zero, List.set_cons_succ]
      refine wpAnyH_take (i := 18) (v := ?va18) rfl (by kernel_rfl) (by kernel_rfl) (by kernel_rfl) (fun _ _ _ h => h) (Or.inl ⟨by rfl, ?ha18⟩) (by assumption) ?_
      case ha18 => intro w hSw; (try dsimp only at hSw); go_simp; try with_reducible rfl
      simp only [List.getElem_toArray, List.getElem_cons_succ, List.getElem_cons_zero, Act.put, List.setIfInBounds_toArray, List.set_cons_zero, List.set_cons_succ]
      refine wpAnyH_ready (rs := [10]) (by kernel_rfl) (by simp) ?_
      refine AllReadyH.cons rfl (fun K hK => ?_) AllReadyH.nil
      rw [if_pos (by kernel_rfl)]
      have hk0 := H1.out.below (Below.refl _ wr).drew
      refine wp_enter 53 #[.pointer (some ⟨g, 0, none⟩), .int .i64 (W : Int)] (w0 := wr.drew) (by kernel_rfl) (fun v v1 => v = .int .i64 (x : Int) ∧ CK w0 v1 g p gp W H l2 b2 (tmAt { t with cs := cs } gp op bv PA pc)) ((N1.out wr.drew hk0.rd).mono (by rintro e v1 ⟨rfl, hr, hg⟩; exact ⟨_, rfl, rfl, hk0.num hg hr⟩)) ?_
      rintro _ w2 ⟨rfl, hk2⟩
      simp only [List.getElem_toArray, List.getElem_cons_succ, List.getElem_cons_zero, Act.put, List.setIfInBounds_toArray, List.set_cons_zero, List.set_cons_succ]
      clear hk0
      refine hK.out _ _ ?_ (fun hHeld => ?_)
      · exact ⟨hk2.ptr, hk2.s0, hk2.s1⟩
      clear hK K
      refine wpAnyH_ready (rs := [19]) (by kernel_rfl) (by simp) ?_
      refine AllReadyH.cons rfl (fun K hK => ?_) AllReadyH.nil
      rw [if_pos (by kernel_rfl)]
      refine wp_enter 53 #[.pointer (some ⟨g, 0, none⟩), .int .i64 (H : Int)] (w0 := w2) (by kernel_rfl) (fun v v1 => v = .int .i64 (y : Int) ∧ CK w0 v1 g p gp W H l3 b3 (tmAt { t with cs := cs } gp op bv PA pc)) ((N2.out w2 hk2.rd).mono (by rintro e v1 ⟨rfl, hr, hg⟩; exact ⟨_, rfl, rfl, hk2.num hg hr⟩)) ?_
      rintro _ w3 ⟨rfl, hk3⟩
      simp only [List.getElem_toArray, List.getElem_cons_succ, List.getElem_cons_zero, Act.put, List.setIfInBounds_toArray, List.set_cons_zero, List.set_cons_succ]
      clear hk2
      refine hK.out _ _ ?_ (fun hHeld => ?_)
      · exact ⟨hk3.ptr, hk3.s0, hk3.s1⟩
      clear hK K
      have z0 := hk3.cells.cell (i := o) (by omega)
      have z1 := hk3.cells.cell (i := o + 1) (by omega)
      have z2 := hk3.cells.frozen o
      have z3 := hk3.cells.frozen (o + 1)
      refine wpAnyH_take (i := 20) (v := ?vc20) rfl (by kernel_rfl) (by kernel_rfl) (by kernel_rfl) (fun _ _ _ h => h) (Or.inl ⟨by rfl, ?hc20⟩) (by assumption) ?_
      case hc20 => intro w hSw; (try dsimp only at hSw); go_simp; try with_reducible rfl
      simp only [List.getElem_toArray, List.getElem_cons_succ, List.getElem_cons_zero, Act.put, List.setIfInBounds_toArray, List.set_cons_zero, List.set_cons_succ]
      refine wpAnyH_take (i := 21) (v := ?vc21) rfl (by kernel_rfl) (by kernel_rfl) (by kernel_rfl) (fun _ _ _ h => h) (Or.inl ⟨by rfl, ?hc21⟩) (by assumption) ?_
      case hc21 => intro w hSw; (try dsimp only at hSw); go_simp; try with_reducible rfl
      simp only [List.getElem_toArray, List.getElem_cons_succ, List.getElem_cons_zero, Act.put, List.setIfInBounds_toArray, List.set_cons_zero, List.set_cons_succ]
      refine wpAnyH_ready (rs := [22]) (by kernel_rfl) (by simp) ?_
      refine AllReadyH.cons rfl (fun K hK => ?_) AllReadyH.nil
      rw [if_pos (by kernel_rfl)]
      go_simp
      have HK4 := Lib.hid (hk3.set (i := o) (by omega) (by omega) (.int .i64 (x : Int)))
      obtain ⟨w4, hw4⟩ : ∃ w4, w4 = w3.setCell ⟨p, o, none⟩ (.int .i64 (x : Int)) := ⟨_, rfl⟩
      rw [← hw4]
      rw [← hw4] at HK4
      clear hk3 z0 z1 z2 z3 hw4
      refine hK.out _ _ ?_ (fun hHeld => ?_)
      · exact ⟨HK4.out.ptr, HK4.out.s0, HK4.out.s1⟩
      clear hK K
      refine wpAnyH_take (i := 23) (v := ?vb23) rfl (by kernel_rfl) (by kernel_rfl) (by kernel_rfl) (fun _ _ _ h => h) (Or.inl ⟨by rfl, ?hb23⟩) (by assumption) ?_
      case hb23 => intro w hSw; (try dsimp only at hSw); go_simp; try with_reducible rfl
      simp only [List.getElem_toArray, List.getElem_cons_succ, List.getElem_cons_zero, Act.put, List.setIfInBounds_toArray, List.set_cons_zero, List.set_cons_succ]
      refine wpAnyH_take (i := 24) (v := ?vb24) rfl (by kernel_rfl) (by kernel_rfl) (by kernel_rfl) (fun _ _ _ h => h) (Or.inl ⟨by rfl, ?hb24⟩) (by assumption) ?_
      case hb24 => intro w hSw; (try dsimp only at hSw); go_simp; try with_reducible rfl
      simp only [List.getElem_toArray, List.getElem_cons_succ, List.getElem_cons_zero, Act.put, List.setIfInBounds_toArray, List.set_cons_zero, List.set_cons_succ]
      have z1 := HK4.out.cells.cell (i := o + 1) (by omega)
      have z3 := HK4.out.cells.frozen (o + 1)
      refine wpAnyH_ready (rs := [25]) (by kernel_rfl) (by simp) ?_
      refine AllReadyH.cons rfl (fun K hK => ?_) AllReadyH.nil
      rw [if_pos (by kernel_rfl)]
      go_simp
      have HK5 := Lib.hid (HK4.out.set (i := o + 1) (by omega) (by omega) (.int .i64 (y : Int)))
      obtain ⟨w5, hw5⟩ : ∃ w5, w5 = w4.setCell ⟨p, o + 1, none⟩ (.int .i64 (y : Int)) := ⟨_, rfl⟩
      rw [← hw5]
      rw [← hw5] at HK5
      clear z1 z3 hw5 HK4
      refine hK.out _ _ ?_ (fun hHeld => ?_)
      · exact ⟨HK5.out.ptr, HK5.out.s0, HK5.out.s1⟩
      clear hK K
      refine wpAnyH_done (by kernel_rfl) ?_ _
      refine NoPanic.normal ?_
      -- region 6: Late
      obtain ⟨w6, hw6⟩ : ∃ w6, w6 = w5.alloc (.cells #[.pointer (some ⟨p, o + 2, none⟩)] 71) := ⟨_, rfl⟩
      have hb6 : Below w5.heap.size w5 w6 := by rw [hw6]; exact (Below.refl _ _).alloc (Nat.le_refl _) _
      have hk6 := HK5.out.below hb6
      have HFL := Lib.hid (takeFlags_ok w6 g l3 b3 hk6.rd w5.heap.size 0 1 1 p 108 43 _ (fun _ => o + 2) (by omega) (by have := HK5.out.rd.lt; omega) (by have := HK5.out.cells.lt; omega) (by have := HK5.out.ne.1; omega) (by rw [hw6]; simp) hk6.cells (fun _ _ => by omega) (fun j hj => by
        obtain rfl : j = 0 := by omega
        rw [hw6]
        simp))
      rw [show (2 : Nat) ^ 1 = 2 from rfl, E3.out] at HFL
      have HK6 := Lib.hid hk6
      have W6 := Lib.hid hw6
      clear hw6 hb6 hk6
      go_wp2_with (rw [← W6.out])
      refine HFL.out.mono ?_
      rintro e w7 ⟨rfl, w7', hr7, hg7, hw7⟩
      have hk7 := HK6.out.num hg7 hr7
      have HK8 := Lib.hid (show CK w0 w7 g p gp W H l4 b4 _ by rw [hw7]; exact hk7.set (i := o + 2) (by omega) (by omega) (.bool (fl.testBit 0)))
      clear hr7 hg7 hw7 hk7
      go_wp2_with fail
      refine (N4.out w7 HK8.out.rd).mono ?_
      rintro e w8 ⟨rfl, hr8, hg8⟩
      have HK9 := Lib.hid (HK8.out.num hg8 hr8)
      clear hr8 hg8
      simp only [styV]
      obtain ⟨sy, hsy⟩ : ∃ sy, sy = S.getD zero := ⟨_, rfl⟩
      obtain ⟨ok, hok⟩ : ∃ ok, ok = S.isSome := ⟨_, rfl⟩
      rw [← hsy, ← hok]
      have HSY := Lib.hid hsy
      have HOKK := Lib.hid hok
      clear hsy hok
      obtain ⟨bo, un, tu, fo, ba⟩ := sy
      have y3 := HK9.out.cells.cell (i := o + 3) (by omega)
      have y4 := HK9.out.cells.cell (i := o + 4) (by omega)
      have y5 := HK9.out.cells.cell (i := o + 5) (by omega)
      have y6 := HK9.out.cells.cell (i := o + 6) (by omega)
      have y7 := HK9.out.cells.cell (i := o + 7) (by omega)
      have x3 := HK9.out.cells.frozen (o + 3)
      have x4 := HK9.out.cells.frozen (o + 4)
      have x5 := HK9.out.cells.frozen (o + 5)
      have x6 := HK9.out.cells.frozen (o + 6)
      have x7 := HK9.out.cells.frozen (o + 7)
      have HKA := Lib.hid (((((HK9.out.set (i := o + 3) (by omega) (by omega) (.bool bo)).set (i := o + 4) (by omega) (by omega) (.bool un)).set (i := o + 5) (by omega) (by omega) (.bool tu)).set (i := o + 6) (by omega) (by omega) (.int .i64 fo)).set (i := o + 7) (by omega) (by omega) (.int .i64 ba))
      obtain ⟨wa, hwa⟩ : ∃ wa, wa = ((((w8.setCell ⟨p, o + 3, none⟩ (.bool bo)).setCell ⟨p, o + 4, none⟩ (.bool un)).setCell ⟨p, o + 5, none⟩ (.bool tu)).setCell ⟨p, o + 6, none⟩ (.int .i64 fo)).setCell ⟨p, o + 7, none⟩ (.int .i64 ba) := ⟨_, rfl⟩
      rw [← hwa] at HKA
      have WA := Lib.hid hwa
      clear hwa
      go_upto_region 8 with fail
      rw [← WA.out]
      clear y3 y4 y5 y6 y7 x3 x4 x5 x6 x7
      -- the cursor's cells
      have HCU := Lib.hid (show ∀ i, i < 108 → upd (upd (upd (upd (upd (upd (upd (upd (tmAt { t with cs := cs } gp op bv PA pc) o (.int .i64 (x : Int))) (o + 1) (.int .i64 (y : Int))) (o + 2) (.bool (fl.testBit 0))) (o + 3) (.bool bo)) (o + 4) (.bool un)) (o + 5) (.bool tu)) (o + 6) (.int .i64 fo)) (o + 7) (.int .i64 ba) i = tmAt { t with cs := cs.set k ⟨x, y, fl.testBit 0, ⟨bo, un, tu, fo, ba⟩⟩ } gp op bv PA pc i from
        tm_cur { t with cs := cs } gp op bv PA pc k hlt H3.out ⟨x, y, fl.testBit 0, ⟨bo, un, tu, fo, ba⟩⟩ _ (fun j hj => by
          rw [← HOO.out]
          rcases (by omega : j = 0 ∨ j = 1 ∨ j = 2 ∨ j = 3 ∨ j = 4 ∨ j = 5 ∨ j = 6 ∨ j = 7) with rfl | rfl | rfl | rfl | rfl | rfl | rfl | rfl <;> simp [upd, curAt]) (fun i hi hr => by
          rw [← HOO.out] at hr
          unfold upd
          rw [if_neg (by omega), if_neg (by omega), if_neg (by omega), if_neg (by omega), if_neg (by omega), if_neg (by omega), if_neg (by omega), if_neg (by omega)]))
      have HKB := Lib.hid (show CK w0 wa g p gp W H l5 b5 (tmAt { t with cs := cs.set k ⟨x, y, fl.testBit 0, ⟨bo, un, tu, fo, ba⟩⟩ } gp op bv PA pc) from
        ⟨HKA.out.rd, HKA.out.cells.congr HCU.out, rfl, HKA.out.s0, HKA.out.s1, HKA.out.fr, HKA.out.ne⟩)
      have q0 : wa.cell? ⟨p, 0, none⟩ = some (.pointer (some ⟨gp, 0, none⟩)) := HKB.out.ptr
      have q1 : wa.cell? ⟨gp, 0, none⟩ = some (.int .i64 (W : Int)) := HKB.out.s0
      have q2 : wa.cell? ⟨p, o + 2, none⟩ = some (.bool (fl.testBit 0)) := (HKA.out.cells.cell (i := o + 2) (by omega)).trans (by simp [upd])
      have q3 : wa.cell? ⟨p, o, none⟩ = some (.int .i64 (x : Int)) := (HKA.out.cells.cell (i := o) (by omega)).trans (by simp [upd])
      clear HKA HCU HK5 HK6 HK8 HK9 HFL N1 N2 N4 H1
      have hwrap : IntKind.i64.wrap ((W : Int) - 1) = (W : Int) - 1 := by rw [IntKind.wrap_i64]; omega
      have FRR := Lib.hid (fun n => (show Fr (fun k => k = g ∨ k = p) w0 (wa.drewN n) from HKB.out.fr.trans' (Fr.drewN _ _ n)))
      rcases S with _ | s
      · obtain rfl : ok = false := HOKK.out
        go_quiet (fail)
        go_wp2
        go_ret
        refine .inl ⟨?_, rfl, FRR.out _⟩
        rw [← H2.out, show 3 - k = (3 - (k + 1)) + 1 by omega, takeCs_none W H _ l1 b1 (by rw [HC.out]; rfl)]
        rfl
      · obtain rfl : ok = true := HOKK.out
        obtain rfl : (⟨bo, un, tu, fo, ba⟩ : Sty) = s := HSY.out
        rcases hf : fl.testBit 0 with _ | _
        · rw [hf] at q2 HKB HC
          have HRC := Lib.hid (show (takeCs W H (3 - (k + 1)) l5 b5).map (fun Q => ((cs.set k ⟨x, y, false, ⟨bo, un, tu, fo, ba⟩⟩).take (k + 1) ++ Q.1, Q.2)) = R by
            rw [← H2.out, show 3 - k = (3 - (k + 1)) + 1 by omega, takeCs_some W H _ l1 b1 ⟨x, y, false, ⟨bo, un, tu, fo, ba⟩⟩ l5 b5 (by rw [HC.out]; rfl), Option.map_map]
            congr 1
            funext Q
            have hk3 : k < cs.length := by rw [H3.out]; exact hlt
            have e : (cs.set k ⟨x, y, false, ⟨bo, un, tu, fo, ba⟩⟩).take (k + 1) = cs.take k ++ [⟨x, y, false, ⟨bo, un, tu, fo, ba⟩⟩] := by
              rw [List.take_succ_eq_append_getElem (by simpa using hk3)]
              simp [List.take_set_of_le]
            simp [e])
          have HKC := Lib.hid (fun n => (show CK w0 (wa.drewN n) g p gp W H l5 b5 (tmAt { t with cs := cs.set k ⟨x, y, false, ⟨bo, un, tu, fo, ba⟩⟩ } gp op bv PA pc) from HKB.out.below (below_drewN (Below.refl _ _) n)))
          go_quiet (fail)
          go_wp2
          go_roundw
          case rel => exact ⟨k + 1, by omega, by simp, _, l5, b5, by simpa using H3.out, HKC.out _, HRC.out⟩
          case measure => simp [RowKit.intOf]; omega
        · rw [hf] at q2 HKB HC
          by_cases hxw : x + 1 = W
          · have hq : ((x : Int) != (W : Int) - 1) = false := by simp; omega
            have HRC := Lib.hid (show (takeCs W H (3 - (k + 1)) l5 b5).map (fun Q => ((cs.set k ⟨x, y, true, ⟨bo, un, tu, fo, ba⟩⟩).take (k + 1) ++ Q.1, Q.2)) = R by
              rw [← H2.out, show 3 - k = (3 - (k + 1)) + 1 by omega, takeCs_some W H _ l1 b1 ⟨x, y, true, ⟨bo, un, tu, fo, ba⟩⟩ l5 b5 (by rw [HC.out]; simp only [Option.bind_some]; rw [if_neg (by omega)]), Option.map_map]
              congr 1
              funext Q
              have hk3 : k < cs.length := by rw [H3.out]; exact hlt
              have e : (cs.set k ⟨x, y, true, ⟨bo, un, tu, fo, ba⟩⟩).take (k + 1) = cs.take k ++ [⟨x, y, true, ⟨bo, un, tu, fo, ba⟩⟩] := by
                rw [List.take_succ_eq_append_getElem (by simpa using hk3)]
                simp [List.take_set_of_le]
              simp [e])
            have HKC := Lib.hid (fun n => (show CK w0 (wa.drewN n) g p gp W H l5 b5 (tmAt { t with cs := cs.set k ⟨x, y, true, ⟨bo, un, tu, fo, ba⟩⟩ } gp op bv PA pc) from HKB.out.below (below_drewN (Below.refl _ _) n)))
            clear hxw
            go_quiet (fail)
            go_wp2
            go_roundw
            case rel => exact ⟨k + 1, by omega, by simp, _, l5, b5, by simpa using H3.out, HKC.out _, HRC.out⟩
            case measure => simp [RowKit.intOf]; omega
          · have hq : ((x : Int) != (W : Int) - 1) = true := by simp; omega
            have HXW := Lib.hid hxw
            clear hxw
            go_quiet (fail)
            go_wp2
            go_ret
            refine .inl ⟨?_, rfl, FRR.out _⟩
            rw [← H2.out, show 3 - k = (3 - (k + 1)) + 1 by omega, takeCs_none W H _ l1 b1 (by rw [HC.out]; simp [HXW.out])]
            rfl
    · have hk3 : k = 3 := by omega
      have g1 : decide ((k : Int) < 3) = false := by simp; omega
      go_wp2
      go_ret
      have hr := H2.out
      have hcl := H3.out
      rw [hk3] at hr
      simp only [Nat.sub_self, takeCs, Option.map_some, List.append_nil, List.take_of_length_le (Nat.le_of_eq hcl)] at hr
      exact .inr ⟨_, hr.symm, rfl, H1.out⟩
end Go.Proofs.YtdolapobkhhanaaDoor
/-
  Layer 11 (state): a screen's lines are taken.
-/
namespace Go.Proofs.YtdolapobkhhanaaDoor
open Go.RowKit Go.Lib KM
set_option maxRecDepth 100000

/-- What is carried: the reader, the grid; only the reader's block, and those of the grid, were changed. -/
structure SK (w0 wr : World) (g q hb hc : Nat) (F : List Nat) (W H : Nat) (l : List Nat) (bad : Bool) (L : List Ln) : Prop where
  rd : Rd wr g l bad
  grid : GridB wr q hb hc L ⟨W, H, L.map Ln.l⟩
  len : L.length = H
  fr : Fr (fun k => k = g ∨ k ∈ F) w0 wr
  newF : ∀ k ∈ foot q hb L, k ∈ F ∨ w0.heap.size ≤ k
  above : ∀ k ∈ foot q hb L, g < k
  tabs : Tabs wr
section
variable {w0 w w' : World} {g q hb hc W H : Nat} {F : List Nat} {l l' : List Nat} {bad bad' : Bool} {L : List Ln}
theorem SK.grown (h : SK w0 w g q hb hc F W H l bad L) (hg : w.grownBy w' (some g)) (hr : Rd w' g l' bad') (hT : Tabs w') : SK w0 w' g q hb hc F W H l' bad' L :=
  ⟨hr, h.grid.keep fun k hk => hg.block k (h.grid.lt k hk) (by intro e; injection e with e; have := h.above k hk; omega), h.len,
   h.fr.trans' ⟨hg.os, hg.tape, hg.output, hg.size, fun k hk hs => hg.block k hk (by intro e; injection e with e; exact hs (.inl e))⟩, h.newF, h.above, hT⟩
theorem SK.any (h : SK w0 w g q hb hc F W H l bad L) (hg : w.grownBy w' (some g)) : Fr (fun k => k = g ∨ k ∈ F) w0 w' :=
  h.fr.trans' ⟨hg.os, hg.tape, hg.output, hg.size, fun k hk hs => hg.block k hk (by intro e; injection e with e; exact hs (.inl e))⟩
theorem SK.drew (h : SK w0 w g q hb hc F W H l bad L) : SK w0 w.drew g q hb hc F W H l bad L :=
  ⟨h.rd, h.grid.keep fun _ _ => rfl, h.len, h.fr.trans' (Fr.drew _ _), h.newF, h.above, h.tabs.of_block rfl (Nat.le_refl _)⟩
theorem SK.row (h : SK w0 w g q hb hc F W H l bad L) {k : Nat} (hk : k < L.length) (hbF : hb ∈ F) (x : Ln) (ho : celE.Own w 0 x.s.v x.l) (hx : x.b ∉ foot q hb L) (hx0 : w0.heap.size ≤ x.b) (hxg : g < x.b) :
    SK w0 (w.setCell ⟨hb, k, none⟩ x.s.v) g q hb hc F W H l bad (L.set k x) := by
  have hne : ∀ j, j ≠ hb → (w.setCell ⟨hb, k, none⟩ x.s.v).heap[j]? = w.heap[j]? := fun j hj => Below.heap_setCell _ _ _ _ hj
  have hgb : g < hb := h.above hb (by simp [foot])
  have hfs : ∀ j ∈ foot q hb (L.set k x), j ∈ foot q hb L ∨ j = x.b := foot_set x
  have hT0 : 2 ≠ hb := fun e => by
    have t0 : w.cell? ⟨2, 0, none⟩ = some (.int .i32 4352) := h.tabs.wide 0 _ rfl
    have := h.grid.hcell hk
    rw [e] at t0
    have h0 := h.grid.hcell (y := 0) (by omega)
    rw [t0] at h0
    cases h0
  refine ⟨?_, ?_, by simpa using h.len, ?_, fun j hj => ?_, fun j hj => ?_, h.tabs.of_block (hne _ hT0) (by simp [World.setCell])⟩
  · obtain ⟨A, c, hA, h2, h3, h4, h5⟩ := h.rd
    refine ⟨A, c, (hne g (by omega)).trans hA, h2, h3, h4.keep fun p hp => World.cell?_of_block (hne p.block (by omega)), h5⟩
  · have e := h.grid.setHead hk x ho hx
    have e2 : (⟨W, H, L.map Ln.l⟩ : Gr).setL k x.l = ⟨W, H, (L.set k x).map Ln.l⟩ := by simp [Gr.setL, List.map_set]
    rw [e2] at e
    exact e
  · exact h.fr.trans' (Fr.setCell (a := ⟨hb, k, none⟩) _ (.inr hbF))
  · rcases hfs j hj with h1 | rfl
    · exact h.newF j h1
    · exact .inr hx0
  · rcases hfs j hj with h1 | rfl
    · exact h.above j h1
    · exact hxg
end
theorem line_post {w w' : World} {g : Nat} {X : Option (List Cel × List Nat × Bool)} {e : Ending} (h : LineTPost w g X e w') : ∃ A n c ok, e = .returned (.tuple #[.slice A n c, .bool ok]) ∧ w.grownBy w' (some g) ∧
    ((ok = false ∧ X = none) ∨ (ok = true ∧ ∃ T, X = some T ∧ celE.Own w' w.heap.size (.slice A n c) T.1 ∧ n = T.1.length ∧ Rd w' g T.2.1 T.2.2)) := by
  rcases h with ⟨h1, h2, h3⟩ | ⟨T, v, h1, h2, h3, h4, h5⟩
  · exact ⟨none, 0, 0, false, h2, h3, .inl ⟨rfl, h1⟩⟩
  · obtain ⟨A, c, hv, _⟩ := h3.row
    subst hv
    exact ⟨A, T.1.length, c, true, h2, h5, .inr ⟨rfl, T, h1, h3, rfl, h4⟩⟩
/-- What takeScreen leaves. -/
def SnPost (w0 : World) (g q : Nat) (F : List Nat) (W H : Nat) (R : Option (List (List Cel) × List Nat × Bool)) (e : Ending) (w' : World) : Prop :=
  (R = none ∧ e = .returned (.bool false) ∧ Fr (fun k => k = g ∨ k ∈ F) w0 w') ∨
  ∃ T hb hc L, R = some T ∧ e = .returned (.bool true) ∧ SK w0 w' g q hb hc F W H T.2.1 T.2.2 L ∧ L.map Ln.l = T.1
theorem takeLs_none (W n : Nat) (l : List Nat) (bad : Bool) (h : takeL W l bad = none) : takeLs W (n + 1) l bad = none := by
  simp [takeLs, h]
theorem takeLs_some (W n : Nat) (l : List Nat) (bad : Bool) (x : List Cel × List Nat × Bool) (h : takeL W l bad = some x) : takeLs W (n + 1) l bad = (takeLs W n x.2.1 x.2.2).map fun R => (x.1 :: R.1, R.2) := by
  simp [takeLs, h]

set_option maxHeartbeats 8000000 in
theorem takeScreen_ok (w0 w : World) (g q hb hc : Nat) (F : List Nat) (W H : Nat) (l : List Nat) (bad : Bool) (L : List Ln) (hW : 1 ≤ W ∧ W ≤ 60) (hH : 1 ≤ H ∧ H ≤ 60) (hF : hb ∈ F) (hG : 2 < g) (hgw : g < w0.heap.size)
    (h : SK w0 w g q hb hc F W H l bad L) (hbyte : ∀ x ∈ l, x < 256) :
    Calls Tryd.prog 32 #[.pointer (some ⟨g, 0, none⟩), .pointer (some ⟨q, 0, none⟩)] w (SnPost w0 g q F W H (takeLs W H l bad)) := by
  obtain ⟨R, hR⟩ : ∃ R, R = takeLs W H l bad := ⟨_, rfl⟩
  rw [← hR]
  have HRR := Lib.hid hR
  have HK := Lib.hid h
  have c2 : w.cell? ⟨q, 2, none⟩ = some (.slice (some ⟨hb, 0, none⟩) H hc) := by have := h.grid.cell2; rwa [h.len] at this
  have HBY := Lib.hid hbyte
  clear h hR hbyte
  go_enter Tryd.func32, Tryd.ntmps32
  go_wp2
  clear c2
  go_loopw [12] (fun i wr => ∃ k : Nat, k ≤ H ∧ i = .int .i64 (k : Int) ∧ ∃ L l1 b1, SK w0 wr g q hb hc F W H l1 b1 L ∧ (∀ x ∈ l1, x < 256) ∧ (takeLs W (H - k) l1 b1).map (fun Q => ((L.map Ln.l).take k ++ Q.1, Q.2)) = R) (fun i _ => H - (RowKit.intOf i).toNat)
  case atStart => exact ⟨0, Nat.zero_le _, rfl, L, l, bad, HK.out, HBY.out, by rw [HRR.out]; simp⟩
  case round =>
    obtain ⟨k, hk, rfl, L1, l1, b1, hsk, hby, hrel⟩ := hrel
    have H1 := Lib.hid hsk
    have H2 := Lib.hid hrel
    have H3 := Lib.hid hby
    have hlen := hsk.len
    have HLN := Lib.hid hlen
    clear hsk hrel hby
    by_cases hlt : k < H
    · have g1 : decide ((k : Int) < (H : Int)) = true := by simp; omega
      have gn : decide (k < H) = true := by simp; omega
      have gin : (0 : Int) ≤ (k : Int) ∧ (k : Int) < (H : Int) := by omega
      obtain ⟨X, hX⟩ : ∃ X, takeL W l1 b1 = X := ⟨_, rfl⟩
      have HX := Lib.hid hX
      have NL := Lib.hid (fun (V : World) (hr : Rd V g l1 b1) (hT : Tabs V) => (show Calls Tryd.prog 55 #[.pointer (some ⟨g, 0, none⟩), .int .i64 (W : Int)] V (LineTPost V g X) by
        rw [← hX]
        exact takeLine_ok V g l1 b1 W (by omega) hr (tabs_only hT hG)))
      clear hX hlen
      have s0 : wr.cell? ⟨q, 0, none⟩ = some (.int .i64 (W : Int)) := H1.out.grid.cell0
      have s2 : wr.cell? ⟨q, 2, none⟩ = some (.slice (some ⟨hb, 0, none⟩) H hc) := by have := H1.out.grid.cell2; rwa [HLN.out] at this
      go_wp2
      refine wp_region_noPanic ?_
      refine wp_region_held_drew (S := fun v => v.cell? ⟨q, 0, none⟩ = some (.int .i64 (W : Int)) ∧ v.cell? ⟨q, 2, none⟩ = some (.slice (some ⟨hb, 0, none⟩) H hc)) (by kernel_rfl) ⟨s0, s2⟩ (fun hHeld => ?_)
      clear s0 s2
      refine wpAnyH_take (i := 0) (v := ?va0) rfl (by kernel_rfl) (by kernel_rfl) (by kernel_rfl) (fun _ _ _ h => h) (Or.inl ⟨by rfl, ?ha0⟩) (by assumption) ?_
      case ha0 => intro w hSw; (try dsimp only at hSw); go_simp; try with_reducible rfl
      simp only [List.getElem_toArray, List.getElem_cons_zero, Act.put, List.setIfInBounds_toArray, List.set_cons_zero, List.set_cons_succ]
      refine wpAnyH_take (i := 1) (v := ?va1) rfl (by kernel_rfl) (by kernel_rfl) (by kernel_rfl) (fun _ _ _ h => h) (Or.inl ⟨by rfl, ?ha1⟩) (by assumption) ?_
      case ha1 => intro w hSw; (try dsimp only at hSw); go_simp; try with_reducible rfl
      simp only [List.getElem_toArray, List.getElem_cons_succ, List.getElem_cons_zero, Act.put, List.setIfInBounds_toArray, List.set_cons_zero, List.set_cons_succ]
      refine wpAnyH_take (i := 2) (v := ?va2) rfl (by kernel_rfl) (by kernel_rfl) (by kernel_rfl) (fun _ _ _ h => h) (Or.inl ⟨by rfl, ?ha2⟩) (by assumption) ?_
      case ha2 => intro w hSw; (try dsimp only at hSw); go_simp; try with_reducible rfl
      simp only [List.getElem_toArray, List.getElem_cons_succ, List.getElem_cons_zero, Act.put, List.setIfInBounds_toArray, List.set_cons_zero, List.set_cons_succ]
      refine wpAnyH_take (i := 3) (v := ?va3) rfl (by kernel_rfl) (by kernel_rfl) (by kernel_rfl) (fun _ _ _ h => h) (Or.inl ⟨by rfl, ?ha3⟩) (by assumption) ?_
      case ha3 => intro w hSw; (try dsimp only at hSw); go_simp; try with_reducible rfl
      simp only [List.getElem_toArray, List.getElem_cons_succ, List.getElem_cons_zero, Act.put, List.setIfInBounds_toArray, List.set_cons_zero, List.set_cons_succ]
      refine wpAnyH_take (i := 4) (v := ?va4) rfl (by kernel_rfl) (by kernel_rfl) (by kernel_rfl) (fun _ _ _ h => h) (Or.inl ⟨by rfl, ?ha4⟩) (by assumption) ?_
      case ha4 => intro w hSw; (try dsimp only at hSw); go_simp; try with_reducible rfl
      simp only [List.getElem_toArray, List.getElem_cons_succ, List.getElem_cons_zero, Act.put, List.setIfInBounds_toArray, List.set_cons_zero, List.set_cons_succ]
      refine wpAnyH_take (i := 5) (v := ?va5) rfl (by kernel_rfl) (by kernel_rfl) (by kernel_rfl) (fun _ _ _ h => h) (Or.inl ⟨by rfl, ?ha5⟩) (by assumption) ?_
      case ha5 => intro w hSw; (try dsimp only at hSw); go_simp; try with_reducible rfl
      simp only [List.getElem_toArray, List.getElem_cons_succ, List.getElem_cons_zero, Act.put, List.setIfInBounds_toArray, List.set_cons_zero, List.set_cons_succ]
      refine wpAnyH_take (i := 6) (v := ?va6) rfl (by kernel_rfl) (by kernel_rfl) (by kernel_rfl) (fun _ _ _ h => h) (Or.inl ⟨by rfl, ?ha6⟩) (by assumption) ?_
      case ha6 => intro w hSw; (try dsimp only at hSw); go_simp; try with_reducible rfl
      simp only [List.getElem_toArray, List.getElem_cons_succ, List.getElem_cons_zero, Act.put, List.setIfInBounds_toArray, List.set_cons_zero, List.set_cons_succ]
      refine wpAnyH_take (i := 7) (v := ?va7) rfl (by kernel_rfl) (by kernel_rfl) (by kernel_rfl) (fun _ _ _ h => h) (Or.inl ⟨by rfl, ?ha7⟩) (by assumption) ?_
      case ha7 => intro w hSw; (try dsimp only at hSw); go_simp; try with_reducible rfl
      simp only [List.getElem_toArray, List.getElem_cons_succ, List.getElem_cons_zero, Act.put, List.setIfInBounds_toArray, List.set_cons_zero, List.set_cons_succ]
      refine wpAnyH_take (i := 8) (v := ?va8) rfl (by kernel_rfl) (by kernel_rfl) (by kernel_rfl) (fun _ _ _ h => h) (Or.inl ⟨by rfl, ?ha8⟩) (by assumption) ?_
      case ha8 => intro w hSw; (try dsimp only at hSw); go_simp; try with_reducible rfl
      simp only [List.getElem_toArray, List.getElem_cons_succ, List.getElem_cons_zero, Act.put, List.setIfInBounds_toArray, List.set_cons_zero, List.set_cons_succ]
      refine wpAnyH_take (i := 9) (v := ?va9) rfl (by kernel_rfl) (by kernel_rfl) (by kernel_rfl) (fun _ _ _ h => h) (Or.inl ⟨by rfl, ?ha9⟩) (by assumption) ?_
      case ha9 => intro w hSw; (try dsimp only at hSw); go_simp; try with_reducible rfl
      simp only [List.getElem_toArray, List.getElem_cons_succ, List.getElem_cons_zero, Act.put, List.setIfInBounds_toArray, List.set_cons_zero, List.set_cons_succ]
      refine wpAnyH_ready (rs := [10]) (by kernel_rfl) (by simp) ?_
      refine AllReadyH.cons rfl (fun K hK => ?_) AllReadyH.nil
      rw [if_pos (by kernel_rfl)]
      have hk0 := H1.out.drew
      have HRUN := Lib.hid (NL.out wr.drew hk0.rd hk0.tabs)
      go_simp
      refine HRUN.out.mono ?_
      intro e w2 hpost
      obtain ⟨A, n, c, ok, rfl, hg2, hcase⟩ := line_post hpost
      have hqg : q ≠ g := by have := H1.out.above q (by simp [foot]); omega
      have t0 : w2.cell? ⟨q, 0, none⟩ = some (.int .i64 (W : Int)) := (World.cell?_of_block (w := wr.drew) (a := ⟨q, 0, none⟩) (hg2.block q (hk0.grid.lt q (by simp [foot])) (by intro e; injection e with e; exact hqg e))).trans hk0.grid.cell0
      have t2 : w2.cell? ⟨q, 2, none⟩ = some (.slice (some ⟨hb, 0, none⟩) H hc) := (World.cell?_of_block (w := wr.drew) (a := ⟨q, 2, none⟩) (hg2.block q (hk0.grid.lt q (by simp [foot])) (by intro e; injection e with e; exact hqg e))).trans (by have := hk0.grid.cell2; rwa [HLN.out] at this)
      have hbg : hb ≠ g := by have := H1.out.above hb (by simp [foot]); omega
      have hkL : k < L1.length := by rw [HLN.out]; exact hlt
      have t3 : w2.cell? ⟨hb, k, none⟩ = some (L1[k]'hkL).s.v := (World.cell?_of_block (w := wr.drew) (a := ⟨hb, k, none⟩) (hg2.block hb (hk0.grid.lt hb (by simp [foot])) (by intro e; injection e with e; exact hbg e))).trans (hk0.grid.hcell hkL)
      have t4 : w2.frozen? ⟨hb, k, none⟩ = false := by
        have := hk0.grid.hfrozen k
        unfold World.frozen? at this ⊢
        rw [hg2.block hb (hk0.grid.lt hb (by simp [foot])) (by intro e; injection e with e; exact hbg e)]
        exact this
      have HK0 := Lib.hid hk0
      have HG2 := Lib.hid hg2
      have HCS := Lib.hid hcase
      have HTB := Lib.hid (tabs_only hk0.tabs hG w2 hg2)
      generalize (L1[k]'hkL).s.v = vold at t3
      clear hpost hk0 hg2 hcase hkL
      dsimp only
      refine hK.out _ _ ?_ (fun hHeld => ?_)
      · exact ⟨t0, t2⟩
      clear hK K
      refine wpAnyH_take (i := 11) (v := ?vb11) rfl (by kernel_rfl) (by kernel_rfl) (by kernel_rfl) (fun _ _ _ h => h) (Or.inl ⟨by rfl, ?hb11⟩) (by assumption) ?_
      case hb11 => intro w hSw; (try dsimp only at hSw); go_simp; try with_reducible rfl
      simp only [List.getElem_toArray, List.getElem_cons_succ, List.getElem_cons_zero, Act.put, List.setIfInBounds_toArray, List.set_cons_zero, List.set_cons_succ]
      refine wpAnyH_take (i := 12) (v := ?vb12) rfl (by kernel_rfl) (by kernel_rfl) (by kernel_rfl) (fun _ _ _ h => h) (Or.inl ⟨by rfl, ?hb12⟩) (by assumption) ?_
      case hb12 => intro w hSw; (try dsimp only at hSw); go_simp; try with_reducible rfl
      simp only [List.getElem_toArray, List.getElem_cons_succ, List.getElem_cons_zero, Act.put, List.setIfInBounds_toArray, List.set_cons_zero, List.set_cons_succ]
      refine wpAnyH_take (i := 13) (v := ?vb13) rfl (by kernel_rfl) (by kernel_rfl) (by kernel_rfl) (fun _ _ _ h => h) (Or.inl ⟨by rfl, ?hb13⟩) (by assumption) ?_
      case hb13 => intro w hSw; (try dsimp only at hSw); go_simp; try with_reducible rfl
      simp only [List.getElem_toArray, List.getElem_cons_succ, List.getElem_cons_zero, Act.put, List.setIfInBounds_toArray, List.set_cons_zero, List.set_cons_succ]
      refine wpAnyH_take (i := 14) (v := ?vb14) rfl (by kernel_rfl) (by kernel_rfl) (by kernel_rfl) (fun _ _ _ h => h) (Or.inl ⟨by rfl, ?hb14⟩) (by assumption) ?_
      case hb14 => intro w hSw; (try dsimp only at hSw); go_simp; try with_reducible rfl
      simp only [List.getElem_toArray, List.getElem_cons_succ, List.getElem_cons_zero, Act.put, List.setIfInBounds_toArray, List.set_cons_zero, List.set_cons_succ]
      refine wpAnyH_ready (rs := [15]) (by kernel_rfl) (by simp) ?_
      refine AllReadyH.cons rfl (fun K hK => ?_) AllReadyH.nil
      rw [if_pos (by kernel_rfl)]
      go_simp
      obtain ⟨w3, hw3⟩ : ∃ w3, w3 = w2.setCell ⟨hb, k, none⟩ (.slice A n c) := ⟨_, rfl⟩
      rw [← hw3]
      have hne3 : ∀ j, j ≠ hb → w3.heap[j]? = w2.heap[j]? := fun j hj => by rw [hw3]; exact Below.heap_setCell _ _ _ _ hj
      have hqb : q ≠ hb := H1.out.grid.ne_hb
      refine hK.out _ _ ?_ (fun hHeld => ?_)
      · exact ⟨(World.cell?_of_block (w := w2) (a := ⟨q, 0, none⟩) (hne3 q hqb)).trans t0, (World.cell?_of_block (w := w2) (a := ⟨q, 2, none⟩) (hne3 q hqb)).trans t2⟩
      clear hK K
      refine wpAnyH_take (i := 16) (v := ?vd16) rfl (by kernel_rfl) (by kernel_rfl) (by kernel_rfl) (fun _ _ _ h => h) (Or.inl ⟨by rfl, ?hd16⟩) (by assumption) ?_
      case hd16 => intro w hSw; (try dsimp only at hSw); go_simp; try with_reducible rfl
      simp only [List.getElem_toArray, List.getElem_cons_succ, List.getElem_cons_zero, Act.put, List.setIfInBounds_toArray, List.set_cons_zero, List.set_cons_succ]
      refine wpAnyH_done (by kernel_rfl) ?_ _
      refine NoPanic.normal ?_
      clear t0 t2 t3 t4 hne3
      rcases ok with _ | _
      · have hX : X = none := by
          rcases HCS.out with ⟨_, h⟩ | ⟨h, _⟩
          · exact h
          · cases h
        have HFR := Lib.hid (show Fr (fun k => k = g ∨ k ∈ F) w0 w3 by rw [hw3]; exact (HK0.out.any HG2.out).trans' (Fr.setCell (a := ⟨hb, k, none⟩) _ (.inr hF)))
        have HXN := Lib.hid (HX.out.trans hX)
        clear hw3 hX
        go_wp2
        go_ret
        refine .inl ⟨?_, rfl, HFR.out⟩
        rw [← H2.out, show H - k = (H - (k + 1)) + 1 by omega, takeLs_none W _ l1 b1 HXN.out]
        rfl
      · obtain ⟨T, hXT, ho, hn, hr⟩ : ∃ T, X = some T ∧ celE.Own w2 wr.drew.heap.size (.slice A n c) T.1 ∧ n = T.1.length ∧ Rd w2 g T.2.1 T.2.2 := by
          rcases HCS.out with ⟨h, _⟩ | ⟨_, h⟩
          · cases h
          · exact h
        have hXX := HX.out.trans hXT
        obtain ⟨_, _, hok, _⟩ := takeL_back (by omega) H3.out hXX
        obtain ⟨gx, cx, hv, _, _, _, _, _, _⟩ := ho.place (by rw [hok.1]; omega)
        obtain ⟨x, hx⟩ : ∃ x : Ln, x = ⟨gx, cx, T.1⟩ := ⟨_, rfl⟩
        have hvx : (.slice A n c : Value) = x.s.v := by rw [hv, hx]; rfl
        have hox : celE.Own w2 wr.drew.heap.size x.s.v x.l := by rw [← hvx, hx]; exact ho
        have hxb := (hox.lt x.b rfl).1
        have hz : wr.drew.heap.size = wr.heap.size := rfl
        have hfz := H1.out.fr.size
        have hsk2 := HK0.out.grown HG2.out hr HTB.out
        have hnf : x.b ∉ foot q hb L1 := fun hm => by have := H1.out.grid.lt x.b hm; omega
        have HS3 := Lib.hid (show SK w0 w3 g q hb hc F W H T.2.1 T.2.2 (L1.set k x) by
          rw [hw3, hvx]
          exact hsk2.row (by rw [HLN.out]; exact hlt) hF x (hox.mono (Nat.zero_le _)) hnf (by omega) (by omega))
        have HBY3 := Lib.hid (takeL_bytes (by omega) H3.out hXX)
        have HRL := Lib.hid (show (takeLs W (H - (k + 1)) T.2.1 T.2.2).map (fun Q => (((L1.set k x).map Ln.l).take (k + 1) ++ Q.1, Q.2)) = R by
          rw [← H2.out, show H - k = (H - (k + 1)) + 1 by omega, takeLs_some W _ l1 b1 T hXX, Option.map_map]
          congr 1
          funext Q
          have hk3 : k < (L1.map Ln.l).length := by rw [List.length_map, HLN.out]; exact hlt
          have e : ((L1.set k x).map Ln.l).take (k + 1) = (L1.map Ln.l).take k ++ [T.1] := by
            rw [List.map_set, List.take_succ_eq_append_getElem (by simpa using hk3)]
            simp [List.take_set_of_le, hx]
          rw [e]
          simp)
        clear hw3 hXT ho hn hr hXX hok hv hx hvx hox hxb hz hfz hsk2 hnf
        go_wp2
        go_roundw
        case rel => exact ⟨k + 1, by omega, by simp, _, _, _, HS3.out, HBY3.out, HRL.out⟩
        case measure => simp [RowKit.intOf]; omega
    · have hkH : k = H := by omega
      have g1 : decide ((k : Int) < (H : Int)) = false := by simp; omega
      have gn : decide (k < H) = false := by simp; omega
      have HKH := Lib.hid hkH
      clear hkH hlen
      go_wp2
      go_ret
      have hr := H2.out
      have hkH := HKH.out
      rw [hkH] at hr
      have hll : (L1.map Ln.l).length ≤ H := by rw [List.length_map, HLN.out]; exact Nat.le_refl _
      simp only [Nat.sub_self, takeLs, Option.map_some, List.append_nil, List.take_of_length_le hll] at hr
      exact .inr ⟨_, hb, hc, L1, hr.symm, rfl, H1.out, rfl⟩
end Go.Proofs.YtdolapobkhhanaaDoor
