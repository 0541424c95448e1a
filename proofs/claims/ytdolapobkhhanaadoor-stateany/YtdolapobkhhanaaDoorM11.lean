/-
  STm, SNew, STakeA, SPtrs, SPutA, SCall, in one text.
-/
import Derived.Test.YtdolapobkhhanaaDoorM08
import Derived.Test.YtdolapobkhhanaaDoorM10
import Derived.Deep.RegionHeld3
import Derived.Deep.MidRow
import Derived.Deep.QuietTactic
/-
  Layer 11 (state): a terminal in memory: the cells of its struct.
-/
namespace Go.Proofs.YtdolapobkhhanaaDoor
open Go.RowKit Go.Lib KM
set_option maxRecDepth 100000

/-- A cursor's cells. -/
def curAt (c : Cur) (i : Nat) : Value :=
  if i = 0 then .int .i64 (c.x : Int) else if i = 1 then .int .i64 (c.y : Int) else if i = 2 then .bool c.late
  else if i = 3 then .bool c.sty.bold else if i = 4 then .bool c.sty.under else if i = 5 then .bool c.sty.turned else if i = 6 then .int .i64 c.sty.fore else .int .i64 c.sty.back
/-- A parser's cells. -/
def parAt (p : Ps) (PA : Option Addr) (pc : Nat) (i : Nat) : Value :=
  if i = 0 then .int .i64 (p.st : Int) else if i = 1 then .int .u8 ((nat8 p.u).getD 0 0 : Nat) else if i = 2 then .int .u8 ((nat8 p.u).getD 1 0 : Nat) else if i = 3 then .int .u8 ((nat8 p.u).getD 2 0 : Nat)
  else if i = 4 then .int .i64 (p.u.length : Int) else if i = 5 then .string (str p.marks) else if i = 6 then .slice PA p.params.length pc else if i = 7 then .string (str p.text) else .int .i64 (p.wi : Int)
/-- Which bit of a terminal's number is the flag at this place. -/
def modeI (i : Nat) : Nat := if i ≤ 3 then i else if i = 7 then 4 else i + 1
def zcur : Cur := ⟨0, 0, false, zero⟩
def zps : Ps := ⟨0, 0, [], [], [], []⟩
/-- A terminal's cells: its grids at gp and op, its lines that went out bv, its parser's parameters at PA. -/
def tmAt (t : Tm) (gp op : Nat) (bv : Value) (PA : Option Addr) (pc : Nat) (i : Nat) : Value :=
  if i = 0 then .pointer (some ⟨gp, 0, none⟩) else if i = 1 then .pointer (some ⟨op, 0, none⟩)
  else if i < 26 then curAt (t.cs.getD ((i - 2) / 8) zcur) ((i - 2) % 8)
  else if i = 26 then .int .i64 (t.top : Int) else if i = 27 then .int .i64 (t.en : Int)
  else if i < 88 then .bool (t.s.testBit (i - 28))
  else if i < 96 then .bool (t.m.testBit (modeI (i - 88)))
  else if i = 96 then .string (str t.title) else if i = 97 then bv
  else if i < 107 then parAt t.p PA pc (i - 98)
  else .string (str t.reply)
/-- A terminal as it is at first. -/
def newT (w h : Nat) : Tm := ⟨w, h, 0, h, 1, 72340172838076672, [zcur, zcur, zcur], List.replicate h (KM.blanks w zero), List.replicate h (KM.blanks w zero), [], [], [], zps⟩
/-- .. ahead of its tab stops. -/
def newT0 (w h : Nat) : Tm := ⟨w, h, 0, h, 1, 0, [zcur, zcur, zcur], List.replicate h (KM.blanks w zero), List.replicate h (KM.blanks w zero), [], [], [], zps⟩

section
variable {w : World} {p : Nat} {f : Nat → Value}
theorem tm_cs (t : Tm) (gp op : Nat) (bv : Value) (PA : Option Addr) (pc k j : Nat) (hk : k < 3) (hj : j < 8) : tmAt t gp op bv PA pc (2 + 8 * k + j) = curAt (t.cs.getD k zcur) j := by
  unfold tmAt
  rw [if_neg (by omega), if_neg (by omega), if_pos (by omega), show (2 + 8 * k + j - 2) / 8 = k by omega, show (2 + 8 * k + j - 2) % 8 = j by omega]
theorem tm_tab (t : Tm) (gp op : Nat) (bv : Value) (PA : Option Addr) (pc k : Nat) (hk : k < 60) : tmAt t gp op bv PA pc (28 + k) = .bool (t.s.testBit k) := by
  unfold tmAt
  rw [if_neg (by omega), if_neg (by omega), if_neg (by omega), if_neg (by omega), if_neg (by omega), if_pos (by omega), show 28 + k - 28 = k by omega]
theorem tm_par (t : Tm) (gp op : Nat) (bv : Value) (PA : Option Addr) (pc k : Nat) (hk : k < 9) : tmAt t gp op bv PA pc (98 + k) = parAt t.p PA pc k := by
  unfold tmAt
  rw [if_neg (by omega), if_neg (by omega), if_neg (by omega), if_neg (by omega), if_neg (by omega), if_neg (by omega), if_neg (by omega), if_neg (by omega), if_neg (by omega), if_pos (by omega), show 98 + k - 98 = k by omega]
end
/-- The places of a terminal's flags, in the order of their bits. -/
def modeP (k : Nat) : Nat := if k ≤ 3 then 88 + k else if k = 4 then 95 else 87 + k
theorem tm_mode (t : Tm) (gp op : Nat) (bv : Value) (PA : Option Addr) (pc k : Nat) (hk : k < 8) : tmAt t gp op bv PA pc (modeP k) = .bool (t.m.testBit k) := by
  rcases (by omega : k = 0 ∨ k = 1 ∨ k = 2 ∨ k = 3 ∨ k = 4 ∨ k = 5 ∨ k = 6 ∨ k = 7) with rfl | rfl | rfl | rfl | rfl | rfl | rfl | rfl <;> simp [modeP, tmAt, modeI]
end Go.Proofs.YtdolapobkhhanaaDoor
/-
  Layer 10 (term), for layer 11: New.
-/
namespace Go.Proofs.YtdolapobkhhanaaDoor
open Go.RowKit Go.Lib KM
set_option maxRecDepth 100000

/-- A new terminal's cells, ahead of its tab stops. -/
def newV (gp op H : Nat) : Array Value := #[.pointer (some ⟨gp, 0, none⟩), .pointer (some ⟨op, 0, none⟩), .int .i64 0, .int .i64 0, .bool false, .bool false, .bool false, .bool false, .int .i64 0, .int .i64 0, .int .i64 0, .int .i64 0, .bool false, .bool false, .bool false, .bool false, .int .i64 0, .int .i64 0, .int .i64 0, .int .i64 0, .bool false, .bool false, .bool false, .bool false, .int .i64 0, .int .i64 0, .int .i64 0, .int .i64 (H : Int), .bool false, .bool false, .bool false, .bool false, .bool false, .bool false, .bool false, .bool false, .bool false, .bool false, .bool false, .bool false, .bool false, .bool false, .bool false, .bool false, .bool false, .bool false, .bool false, .bool false, .bool false, .bool false, .bool false, .bool false, .bool false, .bool false, .bool false, .bool false, .bool false, .bool false, .bool false, .bool false, .bool false, .bool false, .bool false, .bool false, .bool false, .bool false, .bool false, .bool false, .bool false, .bool false, .bool false, .bool false, .bool false, .bool false, .bool false, .bool false, .bool false, .bool false, .bool false, .bool false, .bool false, .bool false, .bool false, .bool false, .bool false, .bool false, .bool false, .bool false, .bool true, .bool false, .bool false, .bool false, .bool false, .bool false, .bool false, .bool false, .string ⟨#[]⟩, .slice none 0 0, .int .i64 0, .int .u8 0, .int .u8 0, .int .u8 0, .int .i64 0, .string ⟨#[]⟩, .slice none 0 0, .string ⟨#[]⟩, .int .i64 0, .string ⟨#[]⟩]
theorem newV_size (gp op H : Nat) : (newV gp op H).size = 108 := rfl
theorem newV_list (gp op W H : Nat) : (newV gp op H).toList = (List.range 108).map (tmAt (newT0 W H) gp op (.slice none 0 0) none 0) := by kernel_rfl
theorem newV_at (gp op W H : Nat) : ∀ i, i < 108 → (newV gp op H)[i]? = some (tmAt (newT0 W H) gp op (.slice none 0 0) none 0 i) := by
  intro i hi
  rw [← Array.getElem?_toList, newV_list gp op W H]
  simp [hi]
theorem newV_eq (gp op H : Nat) : ((((Tryd.zeroCells43.setIfInBounds 0 (.pointer (some ⟨gp, 0, none⟩))).setIfInBounds 1 (.pointer (some ⟨op, 0, none⟩))).setIfInBounds 27 (.int .i64 (H : Int))).setIfInBounds 88 (.bool true)) = newV gp op H := by kernel_rfl
theorem build_term (gp op H : Nat) (w : World) : (Instr.build 43 #[(0, .pointer (some ⟨gp, 0, none⟩)), (1, .pointer (some ⟨op, 0, none⟩)), (6, .int .i64 (H : Int)), (8, .bool true)]).run Tryd.prog w = .ok (.agg (newV gp op H)) w := by kernel_rfl

/-- A new terminal: its blocks. -/
structure TmB (w : World) (p gp op : Nat) (F O : List Nat) (bv : Value) (PA : Option Addr) (pc : Nat) (t : Tm) : Prop where
  cells : CellsF w p 43 108 (tmAt t gp op bv PA pc)
  shown : GridAt w F gp ⟨t.w, t.h, t.ls⟩
  other : GridAt w O op ⟨t.w, t.h, t.os⟩
  apart : p ∉ F ∧ p ∉ O ∧ ∀ k ∈ F, k ∉ O

/-- A new terminal's tab stops, the first k of them. -/
def tabS (k : Nat) : Nat := ((List.range k).map fun i => 2 ^ (8 * (i + 1))).sum
theorem tab_bit (k : Nat) (hk : k < 7) : ∀ i, i < 60 → (if i = 8 * (k + 1) then true else (tabS k).testBit i) = (tabS (k + 1)).testBit i := by
  have : ∀ k : Fin 7, ∀ i : Fin 60, (if i.val = 8 * (k.val + 1) then true else (tabS k.val).testBit i.val) = (tabS (k.val + 1)).testBit i.val := by decide
  exact fun i hi => this ⟨k, hk⟩ ⟨i, hi⟩
def newTk (W H k : Nat) : Tm := { newT0 W H with s := tabS k }
theorem newTk_step (gp op W H k : Nat) (hk : k < 7) : ∀ i, i < 108 → upd (tmAt (newTk W H k) gp op (.slice none 0 0) none 0) (28 + 8 * (k + 1)) (.bool true) i = tmAt (newTk W H (k + 1)) gp op (.slice none 0 0) none 0 i := by
  intro i hi
  by_cases hr : 28 ≤ i ∧ i < 88
  · obtain ⟨j, rfl⟩ : ∃ j, i = 28 + j := ⟨i - 28, by omega⟩
    have hb := tab_bit k hk j (by omega)
    unfold upd
    rw [tm_tab _ _ _ _ _ _ j (by omega), tm_tab _ _ _ _ _ _ j (by omega)]
    simp only [newTk]
    rw [← hb]
    by_cases e : j = 8 * (k + 1)
    · rw [if_pos (by omega), if_pos e]
    · rw [if_neg (by omega), if_neg e]
  · unfold upd
    rw [if_neg (by omega)]
    unfold tmAt newTk
    simp only
    by_cases h0 : i = 0
    · rw [if_pos h0, if_pos h0]
    rw [if_neg h0, if_neg h0]
    by_cases h1 : i = 1
    · rw [if_pos h1, if_pos h1]
    rw [if_neg h1, if_neg h1]
    by_cases h2 : i < 26
    · rw [if_pos h2, if_pos h2]
    rw [if_neg h2, if_neg h2]
    by_cases h3 : i = 26
    · rw [if_pos h3, if_pos h3]
    rw [if_neg h3, if_neg h3]
    by_cases h4 : i = 27
    · rw [if_pos h4, if_pos h4]
    rw [if_neg h4, if_neg h4, if_neg (show ¬ i < 88 by omega), if_neg (show ¬ i < 88 by omega)]

set_option maxHeartbeats 2000000 in
theorem tnew_ok (w : World) (W H : Nat) (hW : 1 ≤ W ∧ W ≤ 60) (hH : 1 ≤ H ∧ H ≤ 60) :
    Calls Tryd.prog 10 #[.int .i64 (W : Int), .int .i64 (H : Int)] w fun e w' => ∃ p gp op F O, e = .returned (.pointer (some ⟨p, 0, none⟩)) ∧ TmB w' p gp op F O (.slice none 0 0) none 0 (newT W H) ∧
      (∀ k ∈ F, w.heap.size ≤ k) ∧ (∀ k ∈ O, w.heap.size ≤ k) ∧ w.heap.size ≤ p ∧ Below w.heap.size w w' := by
  have hgn : gnew (W : Int) (H : Int) = ⟨W, H, List.replicate H (blanks W zero)⟩ := by
    have e1 : nr (W : Int) 1 60 = (W : Int) := by unfold nr; omega
    have e2 : nr (H : Int) 1 60 = (H : Int) := by unfold nr; omega
    unfold gnew
    rw [e1, e2]
    simp
  have HGN := Lib.hid (fun w => new_ok w (W : Int) (H : Int))
  rw [hgn] at HGN
  have hok := gnew_ok (W : Int) (H : Int)
  rw [hgn] at hok
  have HCP := Lib.hid (fun (v : World) (p : Nat) (F : List Nat) (h : GridAt v F p ⟨W, H, List.replicate H (blanks W zero)⟩) => copy_ok v h hok)
  clear hgn hok
  go_enter Tryd.func10, Tryd.ntmps10
  go_wp2_with fail
  refine (HGN.out _).mono ?_
  rintro e w1 ⟨gp, rfl, ⟨F, hF, hFn⟩, hb1⟩
  obtain ⟨hb0, hc0, L0, hG0, hF0⟩ := hF
  have g1 : w1.cell? ⟨gp, 1, none⟩ = some (.int .i64 (H : Int)) := hG0.cell1
  have hgpF : gp ∈ F := by rw [hF0]; simp [foot]
  have HF := Lib.hid (show GridAt w1 F gp ⟨W, H, List.replicate H (blanks W zero)⟩ from ⟨hb0, hc0, L0, hG0, hF0⟩)
  have HFN := Lib.hid hFn
  have HB1 := Lib.hid hb1
  have HLT := Lib.hid HF.out.lt
  have hgl : gp < w1.heap.size := HLT.out gp hgpF
  clear hF0 hG0 hFn hb1
  go_wp2
  refine wp_region_noPanic ?_
  refine wp_region_held_drew (S := fun v => v.cell? ⟨gp, 1, none⟩ = some (.int .i64 (H : Int))) (by kernel_rfl) g1 (fun hHeld => ?_)
  refine wpAnyH_take (i := 0) (v := ?va0) rfl (by kernel_rfl) (by kernel_rfl) (by kernel_rfl) (fun _ _ _ h => h) (Or.inl ⟨by rfl, ?ha0⟩) (by assumption) ?_
  case ha0 => intro w hSw; (try dsimp only at hSw); go_simp; try with_reducible rfl
  simp only [List.getElem_toArray, List.getElem_cons_zero, Act.put, List.setIfInBounds_toArray, List.set_cons_zero, List.set_cons_succ]
  refine wpAnyH_take (i := 1) (v := ?va1) rfl (by kernel_rfl) (by kernel_rfl) (by kernel_rfl) (fun _ _ _ h => h) (Or.inl ⟨by rfl, ?ha1⟩) (by assumption) ?_
  case ha1 => intro w hSw; (try dsimp only at hSw); go_simp; try with_reducible rfl
  simp only [List.getElem_toArray, List.getElem_cons_succ, List.getElem_cons_zero, Act.put, List.setIfInBounds_toArray, List.set_cons_zero, List.set_cons_succ]
  refine wpAnyH_take (i := 3) (v := ?va3) rfl (by kernel_rfl) (by kernel_rfl) (by kernel_rfl) (fun _ _ _ h => h) (Or.inl ⟨by rfl, ?ha3⟩) (by assumption) ?_
  case ha3 => intro w hSw; (try dsimp only at hSw); go_simp; try with_reducible rfl
  simp only [List.getElem_toArray, List.getElem_cons_succ, List.getElem_cons_zero, Act.put, List.setIfInBounds_toArray, List.set_cons_zero, List.set_cons_succ]
  refine wpAnyH_take (i := 4) (v := ?va4) rfl (by kernel_rfl) (by kernel_rfl) (by kernel_rfl) (fun _ _ _ h => h) (Or.inl ⟨by rfl, ?ha4⟩) (by assumption) ?_
  case ha4 => intro w hSw; (try dsimp only at hSw); go_simp; try with_reducible rfl
  simp only [List.getElem_toArray, List.getElem_cons_succ, List.getElem_cons_zero, Act.put, List.setIfInBounds_toArray, List.set_cons_zero, List.set_cons_succ]
  refine wpAnyH_take (i := 5) (v := ?va5) rfl (by kernel_rfl) (by kernel_rfl) (by kernel_rfl) (fun _ _ _ h => h) (Or.inl ⟨by rfl, ?ha5⟩) (by assumption) ?_
  case ha5 => intro w hSw; (try dsimp only at hSw); go_simp; try with_reducible rfl
  simp only [List.getElem_toArray, List.getElem_cons_succ, List.getElem_cons_zero, Act.put, List.setIfInBounds_toArray, List.set_cons_zero, List.set_cons_succ]
  refine wpAnyH_take (i := 6) (v := ?va6) rfl (by kernel_rfl) (by kernel_rfl) (by kernel_rfl) (fun _ _ _ h => h) (Or.inl ⟨by rfl, ?ha6⟩) (by assumption) ?_
  case ha6 => intro w hSw; (try dsimp only at hSw); go_simp; try with_reducible rfl
  simp only [List.getElem_toArray, List.getElem_cons_succ, List.getElem_cons_zero, Act.put, List.setIfInBounds_toArray, List.set_cons_zero, List.set_cons_succ]
  refine wpAnyH_ready (rs := [2]) (by kernel_rfl) (by simp) ?_
  refine AllReadyH.cons rfl (fun K hK => ?_) AllReadyH.nil
  go_simp
  have hdrew : Below w1.heap.size w1 w1.drew := (Below.refl _ w1).drew
  refine (HCP.out w1.drew gp F (HF.out.below hdrew)).mono ?_
  rintro e w2 ⟨op, rfl, ⟨O, hO, hOn⟩, hb2⟩
  have HO := Lib.hid hO
  have HON := Lib.hid hOn
  have HF2 := Lib.hid ((HF.out.below hdrew).below hb2)
  have HB2 := Lib.hid (HB1.out.trans ((hdrew.trans hb2).mono HB1.out.size))
  have g2 : w2.cell? ⟨gp, 1, none⟩ = some (.int .i64 (H : Int)) := (hb2.cell (p := ⟨gp, 1, none⟩) hgl).trans g1
  have hz2 := hb2.size
  clear hO hOn hb2 hdrew
  dsimp only
  refine hK.out _ _ ?_ (fun hHeld => ?_)
  · exact g2
  clear hK K
  refine wpAnyH_take (i := 7) (v := ?vb7) rfl (by kernel_rfl) (by kernel_rfl) (by kernel_rfl) (fun _ _ _ h => h) (Or.inl ⟨by rfl, ?hb7⟩) (by assumption) ?_
  case hb7 => intro w hSw; (try dsimp only at hSw); go_simp; try with_reducible rfl
  simp only [List.getElem_toArray, List.getElem_cons_succ, List.getElem_cons_zero, Act.put, List.setIfInBounds_toArray, List.set_cons_zero, List.set_cons_succ]
  refine wpAnyH_ready (rs := [8]) (by kernel_rfl) (by simp) ?_
  refine AllReadyH.cons rfl (fun K hK => ?_) AllReadyH.nil
  go_simp
  rw [newV_eq]
  obtain ⟨w3, hw3⟩ : ∃ w3, w3 = w2.alloc (.cells (newV gp op H) 43) := ⟨_, rfl⟩
  have hb3 : Below w2.heap.size w2 w3 := by rw [hw3]; exact (Below.refl _ _).alloc (Nat.le_refl _) _
  have HC3 : Hid (CellsF w3 w2.heap.size 43 108 (tmAt (newTk W H 0) gp op (.slice none 0 0) none 0)) := Lib.hid ⟨newV gp op H, by rw [hw3]; exact heap_alloc_new w2 _, newV_size gp op H, newV_at gp op W H⟩
  have HF3 := Lib.hid (HF2.out.below hb3)
  have HO3 := Lib.hid (HO.out.below hb3)
  have HB3 := Lib.hid (HB2.out.trans (hb3.mono HB2.out.size))
  have HFL := Lib.hid (fun k (hk : k ∈ F) => (show k < w2.heap.size from HF2.out.lt k hk))
  have HOL := Lib.hid (fun k (hk : k ∈ O) => (show k < w2.heap.size from HO.out.lt k hk))
  have HAP := Lib.hid (show ∀ k ∈ F, k ∉ O from fun k hk ho => by have h1 := HLT.out k hk; have h2 := HON.out k ho; have h3 : w1.drew.heap.size = w1.heap.size := rfl; omega)
  have g3 : w3.cell? ⟨gp, 1, none⟩ = some (.int .i64 (H : Int)) := (hb3.cell (p := ⟨gp, 1, none⟩) (by show gp < w2.heap.size; exact HFL.out gp hgpF)).trans g2
  have hz3 : w2.heap.size < w3.heap.size := HC3.out.lt
  rw [← hw3]
  clear hw3 hb3 g1 g2
  have HN : Hid (w.heap.size ≤ w2.heap.size) := Lib.hid HB2.out.size
  have HON' := Lib.hid (fun k (hk : k ∈ O) => (show w.heap.size ≤ k from by have h2 := HON.out k hk; have h3 : w1.drew.heap.size = w1.heap.size := rfl; have := HB1.out.size; omega))
  generalize w2.heap.size = p at *
  refine hK.out _ _ ?_ (fun hHeld => ?_)
  · exact g3
  clear hK K
  refine wpAnyH_take (i := 9) (v := ?vc9) rfl (by kernel_rfl) (by kernel_rfl) (by kernel_rfl) (fun _ _ _ h => h) (Or.inl ⟨by rfl, ?hc9⟩) (by assumption) ?_
  case hc9 => intro w hSw; (try dsimp only at hSw); go_simp; try with_reducible rfl
  simp only [List.getElem_toArray, List.getElem_cons_succ, List.getElem_cons_zero, Act.put, List.setIfInBounds_toArray, List.set_cons_zero, List.set_cons_succ]
  refine wpAnyH_done (by kernel_rfl) ?_ _
  refine NoPanic.normal ?_
  clear g3
  go_wp2
  go_loopw [7] (fun x wr => ∃ k : Nat, k ≤ 7 ∧ x = .int .i64 ((8 * (k + 1) : Nat) : Int) ∧ Below w.heap.size w wr ∧ CellsF wr p 43 108 (tmAt (newTk W H k) gp op (.slice none 0 0) none 0) ∧ GridAt wr F gp ⟨W, H, List.replicate H (blanks W zero)⟩ ∧ GridAt wr O op ⟨W, H, List.replicate H (blanks W zero)⟩) (fun x _ => 64 - (RowKit.intOf x).toNat)
  case atStart => exact ⟨0, Nat.zero_le _, rfl, HB3.out, HC3.out, HF3.out, HO3.out⟩
  case round =>
    obtain ⟨k, hk, rfl, hb, hc, hf, ho⟩ := hrel
    have HB := Lib.hid hb
    have HC := Lib.hid hc
    have HF := Lib.hid hf
    have HO := Lib.hid ho
    clear hb hc hf ho
    by_cases hlt : k < 7
    · have c1 := HC.out.cell (i := 28 + 8 * (k + 1)) (by omega)
      have c2 := HC.out.frozen (28 + 8 * (k + 1))
      have HB' := Lib.hid (HB.out.setCell (p := ⟨p, 28 + 8 * (k + 1), none⟩) HN.out (.bool true))
      have HC' := Lib.hid ((HC.out.set (i := 28 + 8 * (k + 1)) (by omega) (.bool true)).congr (newTk_step gp op W H k hlt))
      have HF' := Lib.hid (HF.out.keep (w' := wr.setCell ⟨p, 28 + 8 * (k + 1), none⟩ (.bool true)) fun j hj => Below.heap_setCell _ _ _ _ (by have := HFL.out j hj; show j ≠ p; omega))
      have HO' := Lib.hid (HO.out.keep (w' := wr.setCell ⟨p, 28 + 8 * (k + 1), none⟩ (.bool true)) fun j hj => Below.heap_setCell _ _ _ _ (by have := HOL.out j hj; show j ≠ p; omega))
      obtain ⟨x, hx⟩ : ∃ x, x = 8 * (k + 1) := ⟨_, rfl⟩
      rw [← hx] at c1 c2 HB' HC' HF' HO' ⊢
      have HX := Lib.hid hx
      have hx60 : x < 60 := by omega
      have g1 : decide ((x : Int) < 60) = true := by simp; omega
      have gin : (0 : Int) ≤ (x : Int) ∧ (x : Int) < 60 := by omega
      have hwr : IntKind.i64.wrap ((x : Int) + 8) = ((x + 8 : Nat) : Int) := by rw [IntKind.wrap_i64]; omega
      clear hx
      go_wp2
      go_roundw
      case rel => exact ⟨k + 1, by omega, by have := HX.out; refine congrArg (Value.int IntKind.i64) ?_; push_cast; omega, HB'.out, HC'.out, HF'.out, HO'.out⟩
      case measure => simp [RowKit.intOf]; omega
    · have hk7 : k = 7 := by omega
      subst hk7
      rw [show ((8 * (7 + 1) : Nat) : Int) = 64 from rfl]
      go_wp2
      go_ret
      exact ⟨p, gp, op, F, O, rfl, ⟨HC.out, HF.out, HO.out, fun h => Nat.lt_irrefl _ (HFL.out p h), fun h => Nat.lt_irrefl _ (HOL.out p h), HAP.out⟩, HFN.out, HON'.out, HN.out, HB.out⟩
end Go.Proofs.YtdolapobkhhanaaDoor
/-
  Layer 11 (state): a terminal's sides are taken.
-/
namespace Go.Proofs.YtdolapobkhhanaaDoor
open Go.RowKit Go.Lib KM
set_option maxRecDepth 100000

theorem takeSd_eq (l : List Nat) (bad : Bool) (a : Nat) (l1 : List Nat) (b1 : Bool) (b : Nat) (l2 : List Nat) (b2 : Bool) (c : Nat) (l3 : List Nat) (b3 : Bool) (d : Nat) (l4 : List Nat) (b4 : Bool)
    (e1 : numOf l bad 61 = (a, l1, b1)) (e2 : numOf l1 b1 61 = (b, l2, b2)) (e3 : numOf l2 b2 b = (c, l3, b3)) (e4 : numOf l3 b3 (b + 1) = (d, l4, b4)) :
    takeSd l bad = (if a = 0 ∨ b = 0 ∨ ¬ c < d then none else some (a, b, c, d), l4, b4) := by
  unfold takeSd
  simp only [e1, e2, e3, e4]
/-- What becomes of a terminal's cells where the lines that go are told. -/
theorem tm_te (t : Tm) (gp op : Nat) (bv : Value) (PA : Option Addr) (pc c d : Nat) : ∀ i, i < 108 → upd (upd (tmAt t gp op bv PA pc) 26 (.int .i64 (c : Int))) 27 (.int .i64 (d : Int)) i = tmAt { t with top := c, en := d } gp op bv PA pc i := by
  intro i hi
  unfold upd
  by_cases h27 : i = 27
  · subst h27; rfl
  rw [if_neg h27]
  by_cases h26 : i = 26
  · subst h26; rfl
  rw [if_neg h26]
  unfold tmAt
  simp only [h26, h27, if_false]

/-- The terminal under way in memory: all its blocks are new since w0. -/
structure TmN (w0 w : World) (p gp op : Nat) (F O : List Nat) (bv : Value) (PA : Option Addr) (pc : Nat) (t : Tm) : Prop where
  tm : TmB w p gp op F O bv PA pc t
  newF : ∀ k ∈ F, w0.heap.size ≤ k
  newO : ∀ k ∈ O, w0.heap.size ≤ k
  newp : w0.heap.size ≤ p
/-- What takeSides leaves. -/
def SdPost (w : World) (g : Nat) (R : Option (Nat × Nat × Nat × Nat) × List Nat × Bool) (e : Ending) (w' : World) : Prop :=
  (R.1 = none ∧ (∃ v, e = .returned (.tuple #[v, .bool false])) ∧ w.grownBy w' (some g)) ∨
  ∃ d p gp op F O, R.1 = some d ∧ e = .returned (.tuple #[.pointer (some ⟨p, 0, none⟩), .bool true]) ∧ TmN w w' p gp op F O (.slice none 0 0) none 0 { newT d.1 d.2.1 with top := d.2.2.1, en := d.2.2.2 } ∧ Rd w' g R.2.1 R.2.2 ∧ w.grownBy w' (some g)

set_option maxHeartbeats 4000000 in
theorem takeSides_ok (w : World) (g : Nat) (l : List Nat) (bad : Bool) (h : Rd w g l bad) :
    Calls Tryd.prog 27 #[.pointer (some ⟨g, 0, none⟩)] w (SdPost w g (takeSd l bad)) := by
  obtain ⟨⟨a, l1, b1⟩, e1⟩ : ∃ q, numOf l bad 61 = q := ⟨_, rfl⟩
  obtain ⟨⟨b, l2, b2⟩, e2⟩ : ∃ q, numOf l1 b1 61 = q := ⟨_, rfl⟩
  obtain ⟨⟨c, l3, b3⟩, e3⟩ : ∃ q, numOf l2 b2 b = q := ⟨_, rfl⟩
  obtain ⟨⟨d, l4, b4⟩, e4⟩ : ∃ q, numOf l3 b3 (b + 1) = q := ⟨_, rfl⟩
  rw [takeSd_eq l bad a l1 b1 b l2 b2 c l3 b3 d l4 b4 e1 e2 e3 e4]
  have ha : a < 61 := by have := numOf_lt l bad 61 (by omega); rwa [e1] at this
  have hb : b < 61 := by have := numOf_lt l1 b1 61 (by omega); rwa [e2] at this
  have N1 := Lib.hid (show Calls Tryd.prog 53 #[.pointer (some ⟨g, 0, none⟩), .int .i64 61] w (NumPost w g (a, l1, b1)) by rw [← e1]; exact num_any w g l bad 61 (by omega) h)
  have N2 := Lib.hid (fun (W : World) (hr : Rd W g l1 b1) => (show Calls Tryd.prog 53 #[.pointer (some ⟨g, 0, none⟩), .int .i64 61] W (NumPost W g (b, l2, b2)) by rw [← e2]; exact num_any W g l1 b1 61 (by omega) hr))
  have HGL := Lib.hid h.lt
  by_cases h0 : a = 0
  · have k0 : ((a : Int) == 0) = true := by simp; omega
    rw [if_pos (.inl h0)]
    clear h0 e1 e2 e3 e4 h
    go_enter Tryd.func27, Tryd.ntmps27
    go_wp2_with fail
    refine N1.out.mono ?_
    rintro e w1 ⟨rfl, hr1, hg1⟩
    have HR1 := Lib.hid hr1; have HG1 := Lib.hid hg1; clear hr1 hg1
    go_wp2_with fail
    refine (N2.out w1 HR1.out).mono ?_
    rintro e w2 ⟨rfl, hr2, hg2⟩
    have HG2 := Lib.hid (only_trans HG1.out hg2); clear hr2 hg2
    go_wp2
    go_ret2
    exact .inl ⟨rfl, ⟨_, rfl⟩, HG2.out⟩
  by_cases h1 : b = 0
  · have k0 : ((a : Int) == 0) = false := by simp; omega
    have k1 : ((b : Int) == 0) = true := by simp; omega
    rw [if_pos (.inr (.inl h1))]
    clear h0 h1 e1 e2 e3 e4 h
    go_enter Tryd.func27, Tryd.ntmps27
    go_wp2_with fail
    refine N1.out.mono ?_
    rintro e w1 ⟨rfl, hr1, hg1⟩
    have HR1 := Lib.hid hr1; have HG1 := Lib.hid hg1; clear hr1 hg1
    go_wp2_with fail
    refine (N2.out w1 HR1.out).mono ?_
    rintro e w2 ⟨rfl, hr2, hg2⟩
    have HG2 := Lib.hid (only_trans HG1.out hg2); clear hr2 hg2
    go_wp2
    go_ret2
    exact .inl ⟨rfl, ⟨_, rfl⟩, HG2.out⟩
  have k0 : ((a : Int) == 0) = false := by simp; omega
  have k1 : ((b : Int) == 0) = false := by simp; omega
  have N3 := Lib.hid (fun (W : World) (hr : Rd W g l2 b2) => (show Calls Tryd.prog 53 #[.pointer (some ⟨g, 0, none⟩), .int .i64 (b : Int)] W (NumPost W g (c, l3, b3)) by
    have := num_any W g l2 b2 (b : Int) (by omega) hr
    rwa [show lim (b : Int) = b by unfold lim; rw [if_neg (by omega)]; simp, e3] at this))
  have N4 := Lib.hid (fun (W : World) (hr : Rd W g l3 b3) => (show Calls Tryd.prog 53 #[.pointer (some ⟨g, 0, none⟩), .int .i64 ((b : Int) + 1)] W (NumPost W g (d, l4, b4)) by
    have := num_any W g l3 b3 ((b : Int) + 1) (by omega) hr
    rwa [show lim ((b : Int) + 1) = b + 1 by unfold lim; rw [if_neg (by omega)]; omega, e4] at this))
  have NT := Lib.hid (fun W => tnew_ok W a b (by omega) (by omega))
  have hwrap : IntKind.i64.wrap ((b : Int) + 1) = (b : Int) + 1 := by rw [IntKind.wrap_i64]; omega
  have HCD := Lib.hid (show ¬ a = 0 ∧ ¬ b = 0 from ⟨h0, h1⟩)
  obtain ⟨R, hR⟩ : ∃ R, R = (if a = 0 ∨ b = 0 ∨ ¬ c < d then none else some (a, b, c, d)) := ⟨_, rfl⟩
  rw [← hR]
  have HRR := Lib.hid hR
  clear e1 e2 e3 e4 h
  clear h0 h1 hR
  go_enter Tryd.func27, Tryd.ntmps27
  go_wp2_with fail
  refine N1.out.mono ?_
  rintro e w1 ⟨rfl, hr1, hg1⟩
  have HR1 := Lib.hid hr1; have HG1 := Lib.hid hg1; clear hr1 hg1
  go_wp2_with fail
  refine (N2.out w1 HR1.out).mono ?_
  rintro e w2 ⟨rfl, hr2, hg2⟩
  have HR2 := Lib.hid hr2; have HG2 := Lib.hid (only_trans HG1.out hg2); clear hr2 hg2
  go_wp2_with fail
  refine (NT.out w2).mono ?_
  rintro e w3 ⟨p, gp, op, F, O, rfl, ht, hF, hO, hp, hb3⟩
  have hgw : g < w2.heap.size := HR2.out.lt
  have HR3 := Lib.hid (HR2.out.on hb3 hgw)
  have HG3 := Lib.hid (only_next HG2.out (hb3.mono HG2.out.size))
  have HZ2 := Lib.hid HG2.out.size
  have HT := Lib.hid ht
  have HF := Lib.hid hF; have HO := Lib.hid hO; have HP := Lib.hid hp
  have hgp : g ≠ p := by omega
  clear ht hF hO hp hb3
  go_wp2_with fail
  refine (N3.out w3 HR3.out).mono ?_
  rintro e w4 ⟨rfl, hr4, hg4⟩
  have HT4 := Lib.hid (show CellsF w4 p 43 108 _ from HT.out.cells.keep (hg4.block p HT.out.cells.lt (by intro e; injection e with e; omega)))
  have HGa4 := Lib.hid (HT.out.shown.keep (w' := w4) fun k hk => hg4.block k (HT.out.shown.lt k hk) (by intro e; injection e with e; have := HF.out k hk; omega))
  have HGb4 := Lib.hid (HT.out.other.keep (w' := w4) fun k hk => hg4.block k (HT.out.other.lt k hk) (by intro e; injection e with e; have := HO.out k hk; omega))
  have HR4 := Lib.hid hr4; have HG4 := Lib.hid (only_trans HG3.out hg4); clear hr4 hg4
  go_wp2_with fail
  refine (N4.out w4 HR4.out).mono ?_
  rintro e w5 ⟨rfl, hr5, hg5⟩
  have HT5 := Lib.hid (show CellsF w5 p 43 108 _ from HT4.out.keep (hg5.block p HT4.out.lt (by intro e; injection e with e; omega)))
  have HGa5 := Lib.hid (HGa4.out.keep (w' := w5) fun k hk => hg5.block k (HGa4.out.lt k hk) (by intro e; injection e with e; have := HF.out k hk; omega))
  have HGb5 := Lib.hid (HGb4.out.keep (w' := w5) fun k hk => hg5.block k (HGb4.out.lt k hk) (by intro e; injection e with e; have := HO.out k hk; omega))
  have HR5 := Lib.hid hr5; have HG5 := Lib.hid (only_trans HG4.out hg5); clear hr5 hg5
  have s0 := HT5.out.cell (i := 26) (by omega)
  have s1 := HT5.out.cell (i := 27) (by omega)
  have s2 := HT5.out.frozen 26
  have s3 := HT5.out.frozen 27
  obtain ⟨w6, hw6⟩ : ∃ w6, w6 = (w5.setCell ⟨p, 26, none⟩ (.int .i64 (c : Int))).setCell ⟨p, 27, none⟩ (.int .i64 (d : Int)) := ⟨_, rfl⟩
  have HT6 := Lib.hid (show CellsF w6 p 43 108 (tmAt { newT a b with top := c, en := d } gp op (.slice none 0 0) none 0) by
    rw [hw6]
    exact ((HT5.out.set (i := 26) (by omega) _).set (i := 27) (by omega) _).congr (tm_te _ _ _ _ _ _ c d))
  have hk6 : ∀ k, k ≠ p → w6.heap[k]? = w5.heap[k]? := fun k hk => by
    rw [hw6, Below.heap_setCell _ _ _ _ (by show k ≠ p; exact hk), Below.heap_setCell _ _ _ _ (by show k ≠ p; exact hk)]
  have HGa6 := Lib.hid (HGa5.out.keep (w' := w6) fun k hk => hk6 k (fun e => HT.out.apart.1 (e ▸ hk)))
  have HGb6 := Lib.hid (HGb5.out.keep (w' := w6) fun k hk => hk6 k (fun e => HT.out.apart.2.1 (e ▸ hk)))
  have HR6 := Lib.hid (show Rd w6 g l4 b4 by
    obtain ⟨A, cc, hA, h2, h3, h4, h5⟩ := HR5.out
    exact ⟨A, cc, (hk6 g hgp).trans hA, h2, h3, h4.keep fun q hq => World.cell?_of_block (hk6 q.block (by have := HP.out; omega)), h5⟩)
  have HG6 := Lib.hid (show w.grownBy w6 (some g) by
    have h5 := HG5.out
    have hz6 : w6.heap.size = w5.heap.size := by rw [hw6]; simp [World.setCell]
    refine ⟨by rw [hw6]; exact h5.os, by rw [hw6]; exact h5.tape, by rw [hw6]; exact h5.output, by rw [hz6]; exact h5.size, fun k hk hne => (hk6 k (by have := HP.out; have := HZ2.out; omega)).trans (h5.block k hk hne)⟩)
  have r0 : w6.cell? ⟨p, 26, none⟩ = some (.int .i64 (c : Int)) := HT6.out.cell (i := 26) (by omega)
  have r1 : w6.cell? ⟨p, 27, none⟩ = some (.int .i64 (d : Int)) := HT6.out.cell (i := 27) (by omega)
  have W6 := Lib.hid hw6
  clear hw6 hk6 HT4 HGa4 HGb4 HR4 HG4 HT5 HGa5 HGb5 HR5 HG5
  go_upto_region 6 with fail
  rw [← W6.out]
  clear s0 s1 s2 s3
  go_quiet (fail)
  go_wp2
  go_ret2
  obtain ⟨z0, z1⟩ := HCD.out
  by_cases hlt : c < d
  · have q0 : decide (c < d) = true := by simp; omega
    have hR := HRR.out
    rw [if_neg (by omega)] at hR
    rw [hR]
    refine .inr ⟨(a, b, c, d), p, gp, op, F, O, rfl, by rw [q0]; rfl, ⟨⟨HT6.out.keep rfl, HGa6.out.keep fun _ _ => rfl, HGb6.out.keep fun _ _ => rfl, HT.out.apart⟩, fun k hk => Nat.le_trans HZ2.out (HF.out k hk), fun k hk => Nat.le_trans HZ2.out (HO.out k hk), Nat.le_trans HZ2.out HP.out⟩, HR6.out, ⟨HG6.out.os, HG6.out.tape, HG6.out.output, HG6.out.size, HG6.out.block⟩⟩
  · have q0 : decide (c < d) = false := by simp; omega
    have hR := HRR.out
    rw [if_pos (by omega)] at hR
    rw [hR]
    exact .inl ⟨rfl, ⟨_, by rw [q0]; rfl⟩, ⟨HG6.out.os, HG6.out.tape, HG6.out.output, HG6.out.size, HG6.out.block⟩⟩
end Go.Proofs.YtdolapobkhhanaaDoor
/-
  Layer 11 (state): a terminal's flags and cursors by pointers.
-/
namespace Go.Proofs.YtdolapobkhhanaaDoor
open Go.RowKit Go.Lib
set_option maxRecDepth 100000

/-- Pointers to places of the block p. -/
def ptrL (p : Nat) (o : List Nat) : List Value := o.map fun i => .pointer (some ⟨p, i, none⟩)
def modeO : List Nat := [88, 89, 90, 91, 95, 92, 93, 94]

set_option maxHeartbeats 2000000 in
theorem cursors_ok (w : World) (p : Nat) : Calls Tryd.prog 44 #[.pointer (some ⟨p, 0, none⟩)] w fun e w' => e = .returned (.agg #[.pointer (some ⟨p, 2, none⟩), .pointer (some ⟨p, 10, none⟩), .pointer (some ⟨p, 18, none⟩)]) ∧ Below w.heap.size w w' := by
  go_enter Tryd.func44, Tryd.ntmps44
  go_wp2
  go_region
  go_wp2
  refine bodyPost_ret (v := .agg #[.pointer (some ⟨p, 2, none⟩), .pointer (some ⟨p, 10, none⟩), .pointer (some ⟨p, 18, none⟩)]) (by simp [results, Tryd.results44, go_sem]) rfl ⟨rfl, ?_⟩
  exact ((Below.refl _ _).alloc (Nat.le_refl _) _).drew

set_option maxHeartbeats 4000000 in
theorem modes_ok (w : World) (p : Nat) : Calls Tryd.prog 28 #[.pointer (some ⟨p, 0, none⟩)] w fun e w' => e = .returned (.agg #[.pointer (some ⟨p, 88, none⟩), .pointer (some ⟨p, 89, none⟩), .pointer (some ⟨p, 90, none⟩), .pointer (some ⟨p, 91, none⟩), .pointer (some ⟨p, 95, none⟩), .pointer (some ⟨p, 92, none⟩), .pointer (some ⟨p, 93, none⟩), .pointer (some ⟨p, 94, none⟩)]) ∧ Below w.heap.size w w' := by
  go_enter Tryd.func28, Tryd.ntmps28
  go_wp2
  go_region
  go_wp2
  refine bodyPost_ret (v := .agg #[.pointer (some ⟨p, 88, none⟩), .pointer (some ⟨p, 89, none⟩), .pointer (some ⟨p, 90, none⟩), .pointer (some ⟨p, 91, none⟩), .pointer (some ⟨p, 95, none⟩), .pointer (some ⟨p, 92, none⟩), .pointer (some ⟨p, 93, none⟩), .pointer (some ⟨p, 94, none⟩)]) (by simp [results, Tryd.results28, go_sem]) rfl ⟨rfl, ?_⟩
  exact ((Below.refl _ _).alloc (Nat.le_refl _) _).drew

theorem zero60 (v : World) : (zeroValue 74).run Tryd.prog v = .ok (.agg (Array.replicate 60 (.pointer none))) v := by kernel_rfl
theorem size60 : (Tryd.prog.info? 74).map (·.size) = some 60 := by kernel_rfl
theorem setRow_below {B : Nat} {w0 w : World} (h : Below B w0 w) (g : Nat) (hg : B ≤ g) (cs : Array Value) : Below B w0 (w.setRow g cs) :=
  ⟨h.os, h.tape, h.output, by simpa using h.size, fun k hk => (setRow_other w g k cs (by omega)).trans (h.block k hk)⟩

set_option maxHeartbeats 2000000 in
theorem stops_ok (w : World) (p : Nat) : Calls Tryd.prog 29 #[.pointer (some ⟨p, 0, none⟩)] w fun e w' => ∃ P : Array Value, e = .returned (.agg P) ∧ P.size = 60 ∧ (∀ j, j < 60 → P[j]? = some (.pointer (some ⟨p, 28 + j, none⟩))) ∧ Below w.heap.size w w' := by
  have hz := zero60
  obtain ⟨Z, hZ⟩ : ∃ Z, Z = Array.replicate 60 (Value.pointer none) := ⟨_, rfl⟩
  have hZs : Z.size = 60 := by rw [hZ]; simp
  have hZc : ∀ j, j < 60 → Z[j]? = some (.pointer none) := fun j hj => by rw [hZ]; simp [hj]
  rw [← hZ] at hz
  have HZS := Lib.hid hZs
  have h2 : CellsF ((w.alloc (.cells Z 74)).alloc (.cells Z 74)) (w.heap.size + 1) 74 60 (fun j => if j < 0 then .pointer (some ⟨p, 28 + j, none⟩) else .pointer none) :=
    ⟨Z, by have := heap_alloc_new (w.alloc (.cells Z 74)) (.cells Z 74); simpa using this, hZs, fun j hj => by dsimp only; rw [if_neg (by omega)]; exact hZc j hj⟩
  have h1 : ((w.alloc (.cells Z 74)).alloc (.cells Z 74)).heap[w.heap.size]? = some (.cells Z 74 (0, 0)) := by
    rw [heap_alloc_old _ _ (by simp)]
    exact heap_alloc_new w _
  have hb : Below w.heap.size w ((w.alloc (.cells Z 74)).alloc (.cells Z 74)) := ((Below.refl _ _).alloc (Nat.le_refl _) _).alloc (by simp) _
  have H1 := Lib.hid h1
  have H2 := Lib.hid h2
  have HB0 := Lib.hid hb
  clear hZ hZs hZc h1 h2 hb
  go_enter Tryd.func29, Tryd.ntmps29
  go_wp2
  go_loopw [5] (fun i wr => ∃ k : Nat, k ≤ 60 ∧ i = .int .i64 (k : Int) ∧ Below w.heap.size w wr ∧ wr.heap[w.heap.size]? = some (.cells Z 74 (0, 0)) ∧ CellsF wr (w.heap.size + 1) 74 60 (fun j => if j < k then .pointer (some ⟨p, 28 + j, none⟩) else .pointer none)) (fun i _ => 60 - (RowKit.intOf i).toNat)
  case atStart => exact ⟨0, Nat.zero_le _, rfl, HB0.out, H1.out, H2.out⟩
  case round =>
    obtain ⟨k, hk, rfl, hb, hg, hc⟩ := hrel
    have HB := Lib.hid hb
    have HG := Lib.hid hg
    have HC := Lib.hid hc
    clear hb hg hc
    by_cases hlt : k < 60
    · have c1 := HC.out.cell hlt
      have c2 := HC.out.frozen k
      rw [if_neg (Nat.lt_irrefl k)] at c1
      have g1 : decide ((k : Int) < 60) = true := by simp; omega
      have hin : (k : Int) < 60 := by omega
      have HB2 := Lib.hid (HB.out.setCell (p := ⟨w.heap.size + 1, k, none⟩) (by show w.heap.size ≤ w.heap.size + 1; omega) (.pointer (some ⟨p, 28 + k, none⟩)))
      have HG2 := Lib.hid ((Below.heap_setCell wr ⟨w.heap.size + 1, k, none⟩ (.pointer (some ⟨p, 28 + k, none⟩)) w.heap.size (by show w.heap.size ≠ w.heap.size + 1; omega)).trans HG.out)
      have HC2 := Lib.hid ((HC.out.set hlt (.pointer (some ⟨p, 28 + k, none⟩))).congr (g := fun j => if j < k + 1 then .pointer (some ⟨p, 28 + j, none⟩) else .pointer none) fun j hj => by
        unfold upd
        by_cases e : j = k
        · subst e; simp
        · rw [if_neg e]
          dsimp only
          by_cases e2 : j < k
          · rw [if_pos e2, if_pos (by omega)]
          · rw [if_neg e2, if_neg (by omega)])
      go_wp2
      go_roundw
      case rel => exact ⟨k + 1, by omega, by simp, HB2.out, HG2.out, HC2.out⟩
      case measure => simp [RowKit.intOf]; omega
    · have hk60 : k = 60 := by omega
      subst hk60
      obtain ⟨V, hV, hVs, hVc⟩ := HC.out
      have hl : ∀ (o : Oper) (ops : Array Oper) (rest : List Oper) (a : Act) (Q : Exit → Act → World → Prop), o.guard = none → o.op = .load 74 (.tmp 3) → a.eval (.tmp 3) = .pointer (some ⟨w.heap.size + 1, 0, none⟩) → wpList Tryd.prog ops Q rest (a.put o.dst (.agg V)) wr → wpList Tryd.prog ops Q (o :: rest) a wr :=
        fun o ops rest a Q hg ho he h => wpList_load_mid hg _ _ ho (w.heap.size + 1) 0 he V.toList _ (fun j v hv => by
          rw [Nat.zero_add, cell_of_row _ _ _ _ _ _ hV]
          simpa using hv) Tryd.underlying74 rfl (by rw [size60]; simp [hVs]) (by simpa using h)
      have hone : V.all (·.oneCell') = true := Array.all_eq_true.2 fun i hi => by
        have := hVc i (by omega)
        dsimp only at this
        rw [if_pos (by omega), Array.getElem?_eq_getElem hi, Option.some.injEq] at this
        rw [this]; rfl
      have hs : ∀ (o : Oper) (ops : Array Oper) (rest : List Oper) (a : Act) (Q : Exit → Act → World → Prop), o.guard = none → o.op = .store 74 (.tmp 2) (.tmp 16) → a.eval (.tmp 2) = .pointer (some ⟨w.heap.size, 0, none⟩) → a.eval (.tmp 16) = .agg V → wpList Tryd.prog ops Q rest (a.put o.dst undef) (wr.setRow w.heap.size V) → wpList Tryd.prog ops Q (o :: rest) a wr :=
        fun o ops rest a Q hg ho he he2 h => wpList_store_row hg _ _ _ ho w.heap.size V he he2 74 Z HG.out (by rw [size60, hVs]) (by rw [HZS.out, hVs]) hone h
      have HL := Lib.hid hl
      have HS := Lib.hid hs
      have HVS := Lib.hid hVs
      have HVC := Lib.hid hVc
      clear hl hs hone hVs hVc hV
      go_wp2_with (first | (refine HL.out _ _ _ _ _ rfl rfl rfl ?_) | (refine HS.out _ _ _ _ _ rfl rfl rfl rfl ?_))
      refine bodyPost_ret (v := .agg V) ?_ rfl ⟨V, rfl, HVS.out, fun j hj => ?_, setRow_below HB.out _ (Nat.le_refl _) _⟩
      · rw [results_cell_row (fn := Tryd.f29) rfl _ _ w.heap.size 74 V (0, 0) _ rfl (setRow_heap _ _ _ _ _ _ HG.out) Tryd.underlying74 rfl (by rw [size60, HVS.out])]
      · have := HVC.out j hj
        rw [if_pos hj] at this
        exact this
theorem index3 (w : World) (p k : Nat) (hk : k < 3) : (Instr.index 89 (.agg #[.pointer (some ⟨p, 2, none⟩), .pointer (some ⟨p, 10, none⟩), .pointer (some ⟨p, 18, none⟩)]) (.int .i64 (k : Int))).run Tryd.prog w = .ok (.pointer (some ⟨p, 2 + 8 * k, none⟩)) w := by
  rcases (by omega : k = 0 ∨ k = 1 ∨ k = 2) with rfl | rfl | rfl <;> kernel_rfl
end Go.Proofs.YtdolapobkhhanaaDoor
/-
  Layer 11 (state): numbers and cursors are put.
-/
namespace Go.Proofs.YtdolapobkhhanaaDoor
open Go.RowKit Go.Lib
set_option maxRecDepth 100000

theorem encs_take (ns : List Nat) (k : Nat) (hk : k < ns.length) : VM.encs (ns.take (k + 1)) = VM.encs (ns.take k) ++ VM.enc ns[k] := by
  rw [List.take_succ_eq_append_getElem hk, VM.encs_append, VM.encs_one]
theorem encs_take_len (ns : List Nat) (h : ∀ n ∈ ns, n < 9223372036854775808) (k : Nat) : (VM.encs (ns.take k)).length ≤ 10 * ns.length := by
  have := VM.encs_len (ns.take k) fun n hn => by have := h n (List.mem_of_mem_take hn); omega
  rw [List.length_take] at this
  omega

set_option maxHeartbeats 1000000 in
theorem putNumbers_ok (v : Value) (xs : List Nat) (w : World) (base : Nat) (hx : xs.length ≤ 50000000) (hown : Own w base v xs) (hbase : base ≤ w.heap.size) (A : Option Addr) (ns : List Nat) (c B : Nat) (hr : Row w B .i64 A ns) (hB : B ≤ w.heap.size)
    (hl : ns.length ≤ 1000) (hn : ∀ n ∈ ns, n < 9223372036854775808) (hne : 0 < ns.length → ∀ ad, A = some ad → some ad.block ≠ v.ownBlock) :
    Calls Tryd.prog 42 #[v, .slice A ns.length c] w fun e w' => ∃ v', e = .returned v' ∧ Own w' base v' (xs ++ VM.encs ns) ∧ Grow w w' v v' := by
  have HR := Lib.hid hr
  have HO := Lib.hid hown
  have HNS := Lib.hid hn
  have HNE := Lib.hid hne
  have HTK := Lib.hid (encs_take_len ns hn)
  clear hr hown hn hne
  go_enter Tryd.func42, Tryd.ntmps42
  go_wp2
  go_loopw [0, 9] (fun x i wr => ∃ k : Nat, k ≤ ns.length ∧ i = .int .i64 (k : Int) ∧ Own wr base x (xs ++ VM.encs (ns.take k)) ∧ Grow w wr v x) (fun _ i _ => ns.length - (RowKit.intOf i).toNat)
  case atStart => exact ⟨0, Nat.zero_le _, rfl, by simpa [VM.encs] using HO.out, Grow.refl _ _⟩
  case round =>
    obtain ⟨k, hk, rfl, ho, hg⟩ := hrel
    have H1 := Lib.hid ho
    have H2 := Lib.hid hg
    have hz := hg.grown.size
    clear ho hg
    by_cases hlt : k < ns.length
    · obtain ⟨b, off, rfl, hbb, hcell⟩ := (HR.out.grow H2.out hB HNE.out).at_ hlt
      have hgd : ns.getD k 0 = ns[k] := by simp [hlt]
      rw [hgd] at hcell
      have hnk := HNS.out ns[k] (List.getElem_mem hlt)
      have HE := Lib.hid (encs_take ns k hlt)
      have hlen := HTK.out k
      have g1 : decide ((k : Int) < (ns.length : Int)) = true := by simp; omega
      have gn : decide (k < ns.length) = true := by simp; omega
      clear hgd
      generalize ns[k] = n at *
      generalize VM.encs (ns.take k) = L at *
      have hw : IntKind.u64.wrap (n : Int) = (n : Int) := by rw [IntKind.wrap_u64]; omega
      have HC := Lib.hid (put_one_grow u0 (xs ++ L) n wr base (by omega) (by rw [List.length_append]; omega) H1.out (by omega))
      go_wp2_with fail
      refine HC.out.mono ?_
      rintro e w1 ⟨v', rfl, ho1, hg1⟩
      have H3 := Lib.hid (show Own w1 base v' (xs ++ VM.encs (ns.take (k + 1))) by rw [HE.out, ← List.append_assoc]; exact ho1)
      have H4 := Lib.hid (H2.out.trans hg1)
      clear ho1 hg1
      go_wp2
      go_roundw
      case rel => exact ⟨k + 1, by omega, by simp, H3.out, H4.out⟩
      case measure => simp [RowKit.intOf]; omega
    · have hkn : k = ns.length := by omega
      have H5 := Lib.hid (show Own wr base u0 (xs ++ VM.encs ns) by have := H1.out; rwa [hkn, List.take_of_length_le (Nat.le_refl _)] at this)
      have g1 : decide ((k : Int) < (ns.length : Int)) = false := by simp; omega
      have gn : decide (k < ns.length) = false := by simp; omega
      clear hkn
      go_wp2
      go_ret
      exact ⟨u0, rfl, H5.out, H2.out⟩
end Go.Proofs.YtdolapobkhhanaaDoor
/-
  A call of two arguments in a region that draws its order, as one step (a large function's own: its slots are many).
-/
namespace Go.Proofs.YtdolapobkhhanaaDoor
open Go.RowKit Go.Lib
set_option maxRecDepth 100000

theorem wp_enter {o : Oper} {a : Act} {w w0 : World} {K : Act → World → Prop} {Q : Exit → Act → World → Prop} (f : FuncId) (va : Array Value) (he : (execOp a.eval o).run Tryd.prog w = .ok (.enter f va) w0)
    (R : Value → World → Prop) (hc : Calls Tryd.prog f va w0 fun e w' => ∃ v, e = .returned v ∧ R v w') (h : ∀ v w', R v w' → K (a.put o.dst v) w') : o.wp Tryd.prog a w K Q := by
  unfold Oper.wp
  rw [he, Oper.upon_enter]
  refine hc.mono ?_
  rintro e w' ⟨v, rfl, hr⟩
  exact h v w' hr
end Go.Proofs.YtdolapobkhhanaaDoor
