/-
  FileRuns' model: wrong.
-/
import Derived.Test.YtdaipoelicpnoaaFMod
namespace Go.Proofs.Ytdaipoelicpnoaa
open Go.RowKit Go.Maps FM

/-- The error that a call has, but for the fuse. -/
def wrongV (s : St) (c : CallV) (there : Bool) : Nat :=
  if s.down then 8 else if (c.k < 2 ∧ isName c.name.data.toList = false) ∨ (c.k = 3 ∧ isName c.to.data.toList = false) then 3 else if c.k < 2 ∧ s.quota < used s + c.data.length then 5 else if 2 ≤ c.k ∧ there = false then 4 else 0

set_option maxRecDepth 100000 in
set_option maxHeartbeats 2000000 in
theorem wrong_down (w : World) (pb : Nat) (v : Value) (s : St) (c : CallV) (there : Bool) (h : MoB w pb v s) (_hl : s.fs.length ≤ 1000) (_hu : used s ≤ 1000000) (_hq : s.quota < 9223372036854775808) (_hd : c.data.length ≤ 1000000) (hdn : s.down = true) :
    Calls Try.prog 28 #[.pointer (some ⟨pb, 0, none⟩), c.val, .bool there] w fun e w' => e = .returned (.int .i64 (8 : Int)) ∧ Below w.heap.size w w' := by
  have HK := Lib.hid (kind_ok (w.alloc (.cells #[.int .i64 c.kind, .int .i64 c.n, .string c.name, .string c.to, .slice c.A c.data.length c.cap] 33)) c)
  have HM := Lib.hid h
  have hba : Below w.heap.size w (w.alloc (.cells #[.int .i64 c.kind, .int .i64 c.n, .string c.name, .string c.to, .slice c.A c.data.length c.cap] 33)) := (Below.refl _ _).alloc (Nat.le_refl _) _
  have HBA := Lib.hid hba
  have HCA := Lib.hid (CallAt.alloc w c)
  clear h hba
  unfold CallV.val at *
  go_enter Try.func28, Try.ntmps28
  go_wp2_with fail
  refine HK.out.mono ?_
  rintro e w1 ⟨rfl, hb1⟩
  have HC1 := Lib.hid (HCA.out.below hb1)
  have HB1 := Lib.hid (HBA.out.trans (hb1.mono (by simp)))
  have HM1 := Lib.hid (HM.out.below HB1.out)
  clear hb1
  have k0 := HC1.out.k0; have k2 := HC1.out.k2; have k3 := HC1.out.k3; have k4 := HC1.out.k4
  have m1 := HM1.out.cell1; have m3 := HM1.out.cell3
  rw [hdn] at m3
  go_wp2
  go_ret
  exact ⟨rfl, HB1.out⟩

set_option maxRecDepth 100000 in
set_option maxHeartbeats 2000000 in
theorem wrong_name (w : World) (pb : Nat) (v : Value) (s : St) (c : CallV) (there : Bool) (h : MoB w pb v s) (_hl : s.fs.length ≤ 1000) (_hu : used s ≤ 1000000) (_hq : s.quota < 9223372036854775808) (_hd : c.data.length ≤ 1000000) (hdn : s.down = false) (hk : c.k < 2) (hn : isName c.name.data.toList = false) :
    Calls Try.prog 28 #[.pointer (some ⟨pb, 0, none⟩), c.val, .bool there] w fun e w' => e = .returned (.int .i64 (3 : Int)) ∧ Below w.heap.size w w' := by
  have HK := Lib.hid (kind_ok (w.alloc (.cells #[.int .i64 c.kind, .int .i64 c.n, .string c.name, .string c.to, .slice c.A c.data.length c.cap] 33)) c)
  have HM := Lib.hid h
  have hba : Below w.heap.size w (w.alloc (.cells #[.int .i64 c.kind, .int .i64 c.n, .string c.name, .string c.to, .slice c.A c.data.length c.cap] 33)) := (Below.refl _ _).alloc (Nat.le_refl _) _
  have HBA := Lib.hid hba
  have HCA := Lib.hid (CallAt.alloc w c)
  clear h hba
  unfold CallV.val at *
  go_enter Try.func28, Try.ntmps28
  go_wp2_with fail
  refine HK.out.mono ?_
  rintro e w1 ⟨rfl, hb1⟩
  have HC1 := Lib.hid (HCA.out.below hb1)
  have HB1 := Lib.hid (HBA.out.trans (hb1.mono (by simp)))
  have HM1 := Lib.hid (HM.out.below HB1.out)
  clear hb1
  have k0 := HC1.out.k0; have k2 := HC1.out.k2; have k3 := HC1.out.k3; have k4 := HC1.out.k4
  have m1 := HM1.out.cell1; have m3 := HM1.out.cell3
  rw [hdn] at m3
  have d1 : decide ((c.k : Int) < 2) = true := decide_eq_true (by omega)
  have HRN := Lib.hid (right_ok w1 c.name)
  rw [hn] at HRN
  go_wp2_with fail
  refine HRN.out.mono ?_
  rintro e wy ⟨rfl, hwy⟩
  rw [hwy]
  clear hwy wy
  go_wp2
  go_ret
  exact ⟨rfl, HB1.out⟩

set_option maxRecDepth 100000 in
set_option maxHeartbeats 2000000 in
theorem wrong_room (w : World) (pb : Nat) (v : Value) (s : St) (c : CallV) (there : Bool) (h : MoB w pb v s) (hl : s.fs.length ≤ 1000) (hu : used s ≤ 1000000) (_hq : s.quota < 9223372036854775808) (hd : c.data.length ≤ 1000000) (hdn : s.down = false) (hk : c.k < 2) (hn : isName c.name.data.toList = true) (full : Bool) (hfull : full = decide (s.quota < used s + c.data.length)) :
    Calls Try.prog 28 #[.pointer (some ⟨pb, 0, none⟩), c.val, .bool there] w fun e w' => e = .returned (.int .i64 (((if full then 5 else 0 : Nat)) : Int)) ∧ Below w.heap.size w w' := by
  have HK := Lib.hid (kind_ok (w.alloc (.cells #[.int .i64 c.kind, .int .i64 c.n, .string c.name, .string c.to, .slice c.A c.data.length c.cap] 33)) c)
  have HM := Lib.hid h
  have hba : Below w.heap.size w (w.alloc (.cells #[.int .i64 c.kind, .int .i64 c.n, .string c.name, .string c.to, .slice c.A c.data.length c.cap] 33)) := (Below.refl _ _).alloc (Nat.le_refl _) _
  have HBA := Lib.hid hba
  have HCA := Lib.hid (CallAt.alloc w c)
  clear h hba
  unfold CallV.val at *
  go_enter Try.func28, Try.ntmps28
  go_wp2_with fail
  refine HK.out.mono ?_
  rintro e w1 ⟨rfl, hb1⟩
  have HC1 := Lib.hid (HCA.out.below hb1)
  have HB1 := Lib.hid (HBA.out.trans (hb1.mono (by simp)))
  have HM1 := Lib.hid (HM.out.below HB1.out)
  clear hb1
  have k0 := HC1.out.k0; have k2 := HC1.out.k2; have k3 := HC1.out.k3; have k4 := HC1.out.k4
  have m1 := HM1.out.cell1; have m3 := HM1.out.cell3
  rw [hdn] at m3
  have d1 : decide ((c.k : Int) < 2) = true := decide_eq_true (by omega)
  have d5 : decide ((s.quota : Int) < (used s : Int) + (c.data.length : Int)) = full := by rw [hfull, Bool.eq_iff_iff, decide_eq_true_eq, decide_eq_true_eq]; omega
  have hz : ((c.k : Int) == 3) = false := beq_eq_false_iff_ne.2 (by omega)
  have d2 : decide ((2 : Int) ≤ (c.k : Int)) = false := decide_eq_false (by omega)
  have HRN := Lib.hid (right_ok w1 c.name)
  rw [hn] at HRN
  go_wp2_with fail
  refine HRN.out.mono ?_
  rintro e wy ⟨rfl, hwy⟩
  rw [hwy]
  clear hwy wy
  have HU := Lib.hid (mused_ok w1.drew pb v s (HM1.out.below (below_drew w1)) (by omega) hu)
  have hw : IntKind.i64.wrap ((used s : Int) + (c.data.length : Int)) = (used s : Int) + (c.data.length : Int) := by rw [IntKind.wrap_i64]; omega
  have HW := Lib.hid hw; have HD5 := Lib.hid d5
  clear hw d5 hfull
  go_wp2
  refine wp_region_noPanic ?_
  refine wp_region_held_drew (S := fun w' => w'.cell? ⟨pb, 1, none⟩ = some (.int .i64 (s.quota : Int)) ∧ w'.cell? ⟨w.heap.size, 4, none⟩ = some (.slice c.A c.data.length c.cap)) (by kernel_rfl) ⟨m1, k4⟩ (fun hHeld => ?_)
  refine wpAnyH_take (i := 0) (v := ?va0) rfl (by kernel_rfl) (by kernel_rfl) (by kernel_rfl) (fun _ _ _ h => h) (Or.inl ⟨by rfl, ?ha0⟩) (by assumption) ?_
  case ha0 => intro w hSw; (try dsimp only at hSw); go_simp; try with_reducible rfl
  simp only [List.getElem_toArray, List.getElem_cons_zero, Act.put, List.setIfInBounds_toArray, List.set_cons_zero, List.set_cons_succ]
  refine wpAnyH_take (i := 1) (v := ?va1) rfl (by kernel_rfl) (by kernel_rfl) (by kernel_rfl) (fun _ _ _ h => h) (Or.inl ⟨by rfl, ?ha1⟩) (by assumption) ?_
  case ha1 => intro w hSw; (try dsimp only at hSw); go_simp; try with_reducible rfl
  simp only [List.getElem_toArray, List.getElem_cons_succ, List.getElem_cons_zero, Act.put, List.setIfInBounds_toArray, List.set_cons_zero, List.set_cons_succ]
  refine wpAnyH_take (i := 2) (v := ?va2) rfl (by kernel_rfl) (by kernel_rfl) (by kernel_rfl) (fun _ _ _ h => h) (Or.inl ⟨by rfl, ?ha2⟩) (by assumption) ?_
  case ha2 => intro w hSw; (try dsimp only at hSw); go_simp; try with_reducible rfl
  simp only [List.getElem_toArray, List.getElem_cons_succ, List.getElem_cons_zero, Act.put, List.setIfInBounds_toArray, List.set_cons_zero, List.set_cons_succ]
  refine wpAnyH_take (i := 3) (v := ?va3) rfl (by kernel_rfl) (by kernel_rfl) (by kernel_rfl) (fun _ _ _ h => h) (Or.inl ⟨by rfl, ?ha3⟩) (by assumption) ?_
  case ha3 => intro w hSw; (try dsimp only at hSw); go_simp; try with_reducible rfl
  simp only [List.getElem_toArray, List.getElem_cons_succ, List.getElem_cons_zero, Act.put, List.setIfInBounds_toArray, List.set_cons_zero, List.set_cons_succ]
  refine wpAnyH_take (i := 5) (v := ?va5) rfl (by kernel_rfl) (by kernel_rfl) (by kernel_rfl) (fun _ _ _ h => h) (Or.inl ⟨by rfl, ?ha5⟩) (by assumption) ?_
  case ha5 => intro w hSw; (try dsimp only at hSw); go_simp; try with_reducible rfl
  simp only [List.getElem_toArray, List.getElem_cons_succ, List.getElem_cons_zero, Act.put, List.setIfInBounds_toArray, List.set_cons_zero, List.set_cons_succ]
  refine wpAnyH_take (i := 6) (v := ?va6) rfl (by kernel_rfl) (by kernel_rfl) (by kernel_rfl) (fun _ _ _ h => h) (Or.inl ⟨by rfl, ?ha6⟩) (by assumption) ?_
  case ha6 => intro w hSw; (try dsimp only at hSw); go_simp; try with_reducible rfl
  simp only [List.getElem_toArray, List.getElem_cons_succ, List.getElem_cons_zero, Act.put, List.setIfInBounds_toArray, List.set_cons_zero, List.set_cons_succ]
  refine wpAnyH_take (i := 7) (v := ?va7) rfl (by kernel_rfl) (by kernel_rfl) (by kernel_rfl) (fun _ _ _ h => h) (Or.inl ⟨by rfl, ?ha7⟩) (by assumption) ?_
  case ha7 => intro w hSw; (try dsimp only at hSw); go_simp; try with_reducible rfl
  simp only [List.getElem_toArray, List.getElem_cons_succ, List.getElem_cons_zero, Act.put, List.setIfInBounds_toArray, List.set_cons_zero, List.set_cons_succ]
  refine wpAnyH_take (i := 9) (v := ?va9) rfl (by kernel_rfl) (by kernel_rfl) (by kernel_rfl) (fun _ _ _ h => h) (Or.inl ⟨by rfl, ?ha9⟩) (by assumption) ?_
  case ha9 => intro w hSw; (try dsimp only at hSw); go_simp; try with_reducible rfl
  simp only [List.getElem_toArray, List.getElem_cons_succ, List.getElem_cons_zero, Act.put, List.setIfInBounds_toArray, List.set_cons_zero, List.set_cons_succ]
  refine wpAnyH_take (i := 10) (v := ?va10) rfl (by kernel_rfl) (by kernel_rfl) (by kernel_rfl) (fun _ _ _ h => h) (Or.inl ⟨by rfl, ?ha10⟩) (by assumption) ?_
  case ha10 => intro w hSw; (try dsimp only at hSw); go_simp; try with_reducible rfl
  simp only [List.getElem_toArray, List.getElem_cons_succ, List.getElem_cons_zero, Act.put, List.setIfInBounds_toArray, List.set_cons_zero, List.set_cons_succ]
  refine wpAnyH_take (i := 11) (v := ?va11) rfl (by kernel_rfl) (by kernel_rfl) (by kernel_rfl) (fun _ _ _ h => h) (Or.inl ⟨by rfl, ?ha11⟩) (by assumption) ?_
  case ha11 => intro w hSw; (try dsimp only at hSw); go_simp; try with_reducible rfl
  simp only [List.getElem_toArray, List.getElem_cons_succ, List.getElem_cons_zero, Act.put, List.setIfInBounds_toArray, List.set_cons_zero, List.set_cons_succ]
  refine wpAnyH_take (i := 12) (v := ?va12) rfl (by kernel_rfl) (by kernel_rfl) (by kernel_rfl) (fun _ _ _ h => h) (Or.inl ⟨by rfl, ?ha12⟩) (by assumption) ?_
  case ha12 => intro w hSw; (try dsimp only at hSw); go_simp; try with_reducible rfl
  simp only [List.getElem_toArray, List.getElem_cons_succ, List.getElem_cons_zero, Act.put, List.setIfInBounds_toArray, List.set_cons_zero, List.set_cons_succ]
  refine wpAnyH_ready (rs := [4]) (by kernel_rfl) (by simp) ?_
  refine AllReadyH.cons rfl (fun K hK => ?_) AllReadyH.nil
  go_simp
  refine HU.out.mono ?_
  rintro e w2 ⟨rfl, hb2⟩
  have m1' : w2.cell? ⟨pb, 1, none⟩ = some (.int .i64 (s.quota : Int)) := (hb2.cell (World.block_lt_of_cell? w1 _ m1)).trans m1
  have k4' : w2.cell? ⟨w.heap.size, 4, none⟩ = some (.slice c.A c.data.length c.cap) := (hb2.cell (World.block_lt_of_cell? w1 _ k4)).trans k4
  have HB2 := Lib.hid (Below.of_drew hb2)
  clear hb2
  dsimp only
  refine hK.out _ _ ?_ (fun hHeld => ?_)
  · exact ⟨m1', k4'⟩
  clear hK K
  refine wpAnyH_take (i := 8) (v := ?vb8) rfl (by kernel_rfl) (by kernel_rfl) (by kernel_rfl) (fun _ _ _ h => h) (Or.inl ⟨by rfl, ?hb8⟩) (by assumption) ?_
  case hb8 => intro w hSw; (try dsimp only at hSw); go_simp; try with_reducible rfl
  simp only [List.getElem_toArray, List.getElem_cons_succ, List.getElem_cons_zero, Act.put, List.setIfInBounds_toArray, List.set_cons_zero, List.set_cons_succ]
  refine wpAnyH_take (i := 13) (v := ?vb13) rfl (by kernel_rfl) (by kernel_rfl) (by kernel_rfl) (fun _ _ _ h => h) (Or.inl ⟨by rfl, ?hb13⟩) (by assumption) ?_
  case hb13 => intro w hSw; (try dsimp only at hSw); go_simp; try with_reducible rfl
  simp only [List.getElem_toArray, List.getElem_cons_succ, List.getElem_cons_zero, Act.put, List.setIfInBounds_toArray, List.set_cons_zero, List.set_cons_succ]
  refine wpAnyH_take (i := 14) (v := ?vb14) rfl (by kernel_rfl) (by kernel_rfl) (by kernel_rfl) (fun _ _ _ h => h) (Or.inl ⟨by rfl, ?hb14⟩) (by assumption) ?_
  case hb14 => intro w hSw; (try dsimp only at hSw); go_simp; try with_reducible rfl
  simp only [List.getElem_toArray, List.getElem_cons_succ, List.getElem_cons_zero, Act.put, List.setIfInBounds_toArray, List.set_cons_zero, List.set_cons_succ]
  refine wpAnyH_take (i := 15) (v := ?vb15) rfl (by kernel_rfl) (by kernel_rfl) (by kernel_rfl) (fun _ _ _ h => h) (Or.inl ⟨by rfl, ?hb15⟩) (by assumption) ?_
  case hb15 => intro w hSw; (try dsimp only at hSw); go_simp; try with_reducible rfl
  simp only [List.getElem_toArray, List.getElem_cons_succ, List.getElem_cons_zero, Act.put, List.setIfInBounds_toArray, List.set_cons_zero, List.set_cons_succ]
  refine wpAnyH_done (by kernel_rfl) ?_ _
  refine NoPanic.normal ?_
  clear hHeld m1' k4'
  rw [HW.out, HD5.out]
  clear k0 k2 k3 k4 m1 m3
  cases full
  · go_wp2
    go_ret
    exact ⟨rfl, HB1.out.trans (HB2.out.mono HB1.out.size)⟩
  · go_wp2
    go_ret
    exact ⟨rfl, HB1.out.trans (HB2.out.mono HB1.out.size)⟩

set_option maxRecDepth 100000 in
set_option maxHeartbeats 2000000 in
theorem wrong_to (w : World) (pb : Nat) (v : Value) (s : St) (c : CallV) (there : Bool) (h : MoB w pb v s) (_hl : s.fs.length ≤ 1000) (_hu : used s ≤ 1000000) (_hq : s.quota < 9223372036854775808) (_hd : c.data.length ≤ 1000000) (hdn : s.down = false) (hk : c.k = 3) (hn : isName c.to.data.toList = false) :
    Calls Try.prog 28 #[.pointer (some ⟨pb, 0, none⟩), c.val, .bool there] w fun e w' => e = .returned (.int .i64 (3 : Int)) ∧ Below w.heap.size w w' := by
  have HK := Lib.hid (kind_ok (w.alloc (.cells #[.int .i64 c.kind, .int .i64 c.n, .string c.name, .string c.to, .slice c.A c.data.length c.cap] 33)) c)
  have HM := Lib.hid h
  have hba : Below w.heap.size w (w.alloc (.cells #[.int .i64 c.kind, .int .i64 c.n, .string c.name, .string c.to, .slice c.A c.data.length c.cap] 33)) := (Below.refl _ _).alloc (Nat.le_refl _) _
  have HBA := Lib.hid hba
  have HCA := Lib.hid (CallAt.alloc w c)
  clear h hba
  unfold CallV.val at *
  go_enter Try.func28, Try.ntmps28
  go_wp2_with fail
  refine HK.out.mono ?_
  rintro e w1 ⟨rfl, hb1⟩
  have HC1 := Lib.hid (HCA.out.below hb1)
  have HB1 := Lib.hid (HBA.out.trans (hb1.mono (by simp)))
  have HM1 := Lib.hid (HM.out.below HB1.out)
  clear hb1
  have k0 := HC1.out.k0; have k2 := HC1.out.k2; have k3 := HC1.out.k3; have k4 := HC1.out.k4
  have m1 := HM1.out.cell1; have m3 := HM1.out.cell3
  rw [hdn] at m3
  have d1 : decide ((c.k : Int) < 2) = false := decide_eq_false (by omega)
  have d3 : ((c.k : Int) == 3) = true := by simp; omega
  have HRN := Lib.hid (right_ok w1 c.to)
  rw [hn] at HRN
  go_wp2_with fail
  refine HRN.out.mono ?_
  rintro e wy ⟨rfl, hwy⟩
  rw [hwy]
  clear hwy wy
  go_wp2
  go_ret
  exact ⟨rfl, HB1.out⟩

set_option maxRecDepth 100000 in
set_option maxHeartbeats 2000000 in
theorem wrong_gone3 (w : World) (pb : Nat) (v : Value) (s : St) (c : CallV) (there : Bool) (h : MoB w pb v s) (_hl : s.fs.length ≤ 1000) (_hu : used s ≤ 1000000) (_hq : s.quota < 9223372036854775808) (_hd : c.data.length ≤ 1000000) (hdn : s.down = false) (hk : c.k = 3) (hn : isName c.to.data.toList = true) :
    Calls Try.prog 28 #[.pointer (some ⟨pb, 0, none⟩), c.val, .bool there] w fun e w' => e = .returned (.int .i64 (((if there then 0 else 4 : Nat)) : Int)) ∧ Below w.heap.size w w' := by
  have HK := Lib.hid (kind_ok (w.alloc (.cells #[.int .i64 c.kind, .int .i64 c.n, .string c.name, .string c.to, .slice c.A c.data.length c.cap] 33)) c)
  have HM := Lib.hid h
  have hba : Below w.heap.size w (w.alloc (.cells #[.int .i64 c.kind, .int .i64 c.n, .string c.name, .string c.to, .slice c.A c.data.length c.cap] 33)) := (Below.refl _ _).alloc (Nat.le_refl _) _
  have HBA := Lib.hid hba
  have HCA := Lib.hid (CallAt.alloc w c)
  clear h hba
  unfold CallV.val at *
  go_enter Try.func28, Try.ntmps28
  go_wp2_with fail
  refine HK.out.mono ?_
  rintro e w1 ⟨rfl, hb1⟩
  have HC1 := Lib.hid (HCA.out.below hb1)
  have HB1 := Lib.hid (HBA.out.trans (hb1.mono (by simp)))
  have HM1 := Lib.hid (HM.out.below HB1.out)
  clear hb1
  have k0 := HC1.out.k0; have k2 := HC1.out.k2; have k3 := HC1.out.k3; have k4 := HC1.out.k4
  have m1 := HM1.out.cell1; have m3 := HM1.out.cell3
  rw [hdn] at m3
  have d1 : decide ((c.k : Int) < 2) = false := decide_eq_false (by omega)
  have d2 : decide ((2 : Int) ≤ (c.k : Int)) = true := decide_eq_true (by omega)
  have d3 : ((c.k : Int) == 3) = true := by simp; omega
  have HRN := Lib.hid (right_ok w1 c.to)
  rw [hn] at HRN
  go_wp2_with fail
  refine HRN.out.mono ?_
  rintro e wy ⟨rfl, hwy⟩
  rw [hwy]
  clear hwy wy
  go_wp2
  go_quiet (fail)
  cases there
  · go_wp2
    go_ret
    exact ⟨rfl, below_drewN HB1.out _⟩
  · go_wp2
    go_ret
    exact ⟨rfl, below_drewN HB1.out _⟩

set_option maxRecDepth 100000 in
set_option maxHeartbeats 2000000 in
theorem wrong_gone (w : World) (pb : Nat) (v : Value) (s : St) (c : CallV) (there : Bool) (h : MoB w pb v s) (_hl : s.fs.length ≤ 1000) (_hu : used s ≤ 1000000) (_hq : s.quota < 9223372036854775808) (_hd : c.data.length ≤ 1000000) (hdn : s.down = false) (hk : 2 ≤ c.k) (hk3 : c.k ≠ 3) :
    Calls Try.prog 28 #[.pointer (some ⟨pb, 0, none⟩), c.val, .bool there] w fun e w' => e = .returned (.int .i64 (((if there then 0 else 4 : Nat)) : Int)) ∧ Below w.heap.size w w' := by
  have HK := Lib.hid (kind_ok (w.alloc (.cells #[.int .i64 c.kind, .int .i64 c.n, .string c.name, .string c.to, .slice c.A c.data.length c.cap] 33)) c)
  have HM := Lib.hid h
  have hba : Below w.heap.size w (w.alloc (.cells #[.int .i64 c.kind, .int .i64 c.n, .string c.name, .string c.to, .slice c.A c.data.length c.cap] 33)) := (Below.refl _ _).alloc (Nat.le_refl _) _
  have HBA := Lib.hid hba
  have HCA := Lib.hid (CallAt.alloc w c)
  clear h hba
  unfold CallV.val at *
  go_enter Try.func28, Try.ntmps28
  go_wp2_with fail
  refine HK.out.mono ?_
  rintro e w1 ⟨rfl, hb1⟩
  have HC1 := Lib.hid (HCA.out.below hb1)
  have HB1 := Lib.hid (HBA.out.trans (hb1.mono (by simp)))
  have HM1 := Lib.hid (HM.out.below HB1.out)
  clear hb1
  have k0 := HC1.out.k0; have k2 := HC1.out.k2; have k3 := HC1.out.k3; have k4 := HC1.out.k4
  have m1 := HM1.out.cell1; have m3 := HM1.out.cell3
  rw [hdn] at m3
  have d1 : decide ((c.k : Int) < 2) = false := decide_eq_false (by omega)
  have d2 : decide ((2 : Int) ≤ (c.k : Int)) = true := decide_eq_true (by omega)
  have d3 : ((c.k : Int) == 3) = false := beq_eq_false_iff_ne.2 (by omega)
  go_wp2
  go_quiet (fail)
  cases there
  · go_wp2
    go_ret
    exact ⟨rfl, below_drewN HB1.out _⟩
  · go_wp2
    go_ret
    exact ⟨rfl, below_drewN HB1.out _⟩

theorem wrong_ok (w : World) (pb : Nat) (v : Value) (s : St) (c : CallV) (there : Bool) (h : MoB w pb v s) (hl : s.fs.length ≤ 1000) (hu : used s ≤ 1000000) (hq : s.quota < 9223372036854775808) (hd : c.data.length ≤ 1000000) :
    Calls Try.prog 28 #[.pointer (some ⟨pb, 0, none⟩), c.val, .bool there] w fun e w' => e = .returned (.int .i64 (wrongV s c there : Int)) ∧ Below w.heap.size w w' := by
  unfold wrongV
  rcases hdn : s.down with _ | _
  · simp only [Bool.false_eq_true, if_false]
    by_cases hk : c.k < 2
    · rcases hn : isName c.name.data.toList with _ | _
      · rw [if_pos (.inl ⟨hk, rfl⟩)]
        exact wrong_name w pb v s c there h hl hu hq hd hdn hk hn
      · rw [if_neg (by rintro (⟨_, h1⟩ | ⟨h1, _⟩); cases h1; omega)]
        have := wrong_room w pb v s c there h hl hu hq hd hdn hk hn _ rfl
        by_cases hf : s.quota < used s + c.data.length
        · rw [if_pos ⟨hk, hf⟩]
          simpa [hf] using this
        · rw [if_neg (fun hh => hf hh.2), if_neg (fun hh => by omega)]
          simpa [hf] using this
    · by_cases hk3 : c.k = 3
      · rcases hn : isName c.to.data.toList with _ | _
        · rw [if_pos (.inr ⟨hk3, rfl⟩)]
          exact wrong_to w pb v s c there h hl hu hq hd hdn hk3 hn
        · rw [if_neg (by rintro (⟨h1, _⟩ | ⟨_, h1⟩); omega; cases h1), if_neg (fun hh => hk hh.1)]
          have := wrong_gone3 w pb v s c there h hl hu hq hd hdn hk3 hn
          cases there
          · rw [if_pos ⟨by omega, rfl⟩]; simpa using this
          · rw [if_neg (by rintro ⟨_, h1⟩; cases h1)]; simpa using this
      · rw [if_neg (by rintro (⟨h1, _⟩ | ⟨h1, _⟩); omega; omega), if_neg (fun hh => hk hh.1)]
        have := wrong_gone w pb v s c there h hl hu hq hd hdn (by omega) hk3
        cases there
        · rw [if_pos ⟨by omega, rfl⟩]; simpa using this
        · rw [if_neg (by rintro ⟨_, h1⟩; cases h1)]; simpa using this
  · exact wrong_down w pb v s c there h hl hu hq hd hdn
end Go.Proofs.Ytdaipoelicpnoaa
