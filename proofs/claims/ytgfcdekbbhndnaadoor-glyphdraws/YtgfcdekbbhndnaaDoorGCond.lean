/-
  Layer 7 (glyph): from the condition on the two listed tables to what the walks ask; and a start that meets it.
-/
import Derived.Test.YtgfcdekbbhndnaaDoorGBase
import Derived.LaidMore
import Derived.MakeChecks
import Derived.ProofKit
import Derived.Lib.LaidU8
namespace Go.Proofs.YtgfcdekbbhndnaaDoor
open Go.ChangeShapes Go.WideShapes Go.ChangeAt Go.RowKit Go.Lib
set_option maxRecDepth 100000

theorem signsD : (Rows.laid_flipbook_glyph_signs : DataW Unit) = tabData .i32 GM.signT := by kernel_rfl
theorem wideD : (Rows.laid_flipbook_glyph_wide : DataW Unit) = .agg ((List.range 9).map fun i => .agg ([GM.wideT.getD (2 * i) 0, GM.wideT.getD (2 * i + 1) 0].map fun z => .lit (.int .i32 z))) := by kernel_rfl
theorem tabs_of_reads {W : World} (h0 : VarReads Tryd.prog W "flipbook/glyph.wide" Rows.laid_flipbook_glyph_wide) (h1 : VarReads Tryd.prog W "flipbook/glyph.signs" Rows.laid_flipbook_glyph_signs) : Tabs W := by
  rw [wideD] at h0
  rw [signsD] at h1
  have t21 : Tryd.prog.underlying 21 = some (.int .i32) := by kernel_rfl
  have c21 : Tryd.prog.cellsOf 21 = 1 := by kernel_rfl
  have t31 : Tryd.prog.underlying 33 = some (.array 31 21) := by kernel_rfl
  have c31 : Tryd.prog.cellsOf 33 = 31 := by kernel_rfl
  have t9 : Tryd.prog.underlying 32 = some (.array 9 31) := by kernel_rfl
  have c2 : Tryd.prog.cellsOf 31 = 2 := by kernel_rfl
  obtain ⟨g1, y1, cs1, f1, p1, hg1, hy1, hv1, hd1⟩ := h1
  obtain ⟨g0, y0, cs0, f0, p0, hg0, hy0, hv0, hd0⟩ := h0
  obtain rfl := Option.some.inj ((show Tryd.prog.globalNamed "flipbook/glyph.signs" = some 1 by kernel_rfl).symm.trans hg1)
  obtain rfl := Option.some.inj ((show Tryd.prog.globalNamed "flipbook/glyph.wide" = some 0 by kernel_rfl).symm.trans hg0)
  obtain rfl := Option.some.inj ((show (Tryd.prog.globals[1]?).map (·.type) = some 33 by kernel_rfl).symm.trans hy1)
  obtain rfl := Option.some.inj ((show (Tryd.prog.globals[0]?).map (·.type) = some 32 by kernel_rfl).symm.trans hy0)
  refine ⟨fun j v hv => ?_, fun j v hv => ?_, ?_⟩
  · rw [World.var?_cell hg0 hv0 (0 + j)]
    have hj : j < 18 := by
      rcases Nat.lt_or_ge j 18 with h | h
      · exact h
      · rw [List.getElem?_eq_none (by simpa [runesV, GM.wideT] using h)] at hv; cases hv
    obtain ⟨fuel', d, q, hdi, he⟩ := array_elem t9 hd0 (j / 2) (by omega)
    simp only [List.getElem?_map, List.getElem?_range (show j / 2 < 9 by omega), Option.map_some, Option.some.injEq] at hdi
    subst hdi
    rw [c2] at he
    have hcs := ints_of_struct (show Tryd.prog.underlying 31 = some (.struct #[{ name := "first", type := 21, offset := 0, embedded := false, tag := "", pkgPath := "flipbook/glyph", byteOffset := 0 }, { name := "last", type := 21, offset := 1, embedded := false, tag := "", pkgPath := "flipbook/glyph", byteOffset := 4 }]) by kernel_rfl) (fun j f hj => by
      match j, hj with
      | 0, hj => simp at hj; subst hj; exact ⟨t21, rfl, c21⟩
      | 1, hj => simp at hj; subst hj; exact ⟨t21, rfl, c21⟩
      | j + 2, hj => simp at hj) (by rw [c2]; rfl) he
    have hv' : v = .int .i32 (GM.wideT.getD j 0) := by
      have hl : j < GM.wideT.length := hj
      simp [runesV, hl] at hv
      simpa [hl] using hv.symm
    rw [hv', Nat.zero_add, ← Array.getElem?_toList]
    rcases (by omega : j = 2 * (j / 2) ∨ j = 2 * (j / 2) + 1) with h | h
    · have e := congrArg (·[0]?) hcs
      simp only [List.getElem?_take, List.getElem?_drop] at e
      have e' : cs0.toList[j / 2 * 2]? = some (Value.int .i32 (GM.wideT.getD (2 * (j / 2)) 0)) := by simpa using e
      rw [Nat.mul_comm, ← h] at e'
      exact e'
    · have e := congrArg (·[1]?) hcs
      simp only [List.getElem?_take, List.getElem?_drop] at e
      have e' : cs0.toList[j / 2 * 2 + 1]? = some (Value.int .i32 (GM.wideT.getD (2 * (j / 2) + 1) 0)) := by simpa using e
      rw [Nat.mul_comm, ← h] at e'
      exact e'
  · rw [World.var?_cell hg1 hv1 (0 + j), ← Array.getElem?_toList, cells_of_tab t31 t21 c21 c31 hd1]
    simpa [runesV] using hv
  · have := hv1
    unfold World.var? at this
    rw [hg1] at this
    simp only [Option.bind_some] at this
    rcases Nat.lt_or_ge 1 W.heap.size with h | h
    · exact h
    · simp [Array.getElem?_eq_none h] at this

noncomputable def start7 (os : Os) : World := World.doorLaid Tryd.prog 400 os

theorem tabs_glyphRights {W : World} (h : laidMetH Tryd.prog Rows.glyphRightsRow.laid W) : Tabs W := by
  rw [MakeChecks.laidMetH_plain _ _ _ (by kernel_rfl)] at h
  exact tabs_of_reads (laidMet.reads h (by simp [Rows.glyphRightsRow])) (laidMet.reads h (by simp [Rows.glyphRightsRow]))
theorem met_glyphRights (os : Os) (args : Array Value) : laidMetH Tryd.prog Rows.glyphRightsRow.laid ((start7 os).forCall (fun _ _ => 0) ⟨#[], args, []⟩).memory :=
  laidMetH_of_parts3 (fuel := 8) (laidMet_of_run' 8 (by kernel_rfl) (by kernel_rfl)) (by kernel_rfl) (by kernel_rfl)
theorem tabs_glyphWides {W : World} (h : laidMetH Tryd.prog Rows.glyphWidesRow.laid W) : Tabs W := by
  rw [MakeChecks.laidMetH_plain _ _ _ (by kernel_rfl)] at h
  exact tabs_of_reads (laidMet.reads h (by simp [Rows.glyphWidesRow])) (laidMet.reads h (by simp [Rows.glyphWidesRow]))
theorem met_glyphWides (os : Os) (args : Array Value) : laidMetH Tryd.prog Rows.glyphWidesRow.laid ((start7 os).forCall (fun _ _ => 0) ⟨#[], args, []⟩).memory :=
  laidMetH_of_parts3 (fuel := 8) (laidMet_of_run' 8 (by kernel_rfl) (by kernel_rfl)) (by kernel_rfl) (by kernel_rfl)
theorem tabs_glyphDraws {W : World} (h : laidMetH Tryd.prog Rows.glyphDrawsRow.laid W) : Tabs W := by
  rw [MakeChecks.laidMetH_plain _ _ _ (by kernel_rfl)] at h
  exact tabs_of_reads (laidMet.reads h (by simp [Rows.glyphDrawsRow])) (laidMet.reads h (by simp [Rows.glyphDrawsRow]))
theorem met_glyphDraws (os : Os) (args : Array Value) : laidMetH Tryd.prog Rows.glyphDrawsRow.laid ((start7 os).forCall (fun _ _ => 0) ⟨#[], args, []⟩).memory :=
  laidMetH_of_parts3 (fuel := 8) (laidMet_of_run' 8 (by kernel_rfl) (by kernel_rfl)) (by kernel_rfl) (by kernel_rfl)
theorem tabs_glyphUnlike {W : World} (h : laidMetH Tryd.prog Rows.glyphUnlikeRow.laid W) : Tabs W := by
  rw [MakeChecks.laidMetH_plain _ _ _ (by kernel_rfl)] at h
  exact tabs_of_reads (laidMet.reads h (by simp [Rows.glyphUnlikeRow])) (laidMet.reads h (by simp [Rows.glyphUnlikeRow]))
theorem met_glyphUnlike (os : Os) (args : Array Value) : laidMetH Tryd.prog Rows.glyphUnlikeRow.laid ((start7 os).forCall (fun _ _ => 0) ⟨#[], args, []⟩).memory :=
  laidMetH_of_parts3 (fuel := 8) (laidMet_of_run' 8 (by kernel_rfl) (by kernel_rfl)) (by kernel_rfl) (by kernel_rfl)
theorem tabs_glyphColumns {W : World} (h : laidMetH Tryd.prog Rows.glyphColumnsRow.laid W) : Tabs W := by
  rw [MakeChecks.laidMetH_plain _ _ _ (by kernel_rfl)] at h
  exact tabs_of_reads (laidMet.reads h (by simp [Rows.glyphColumnsRow])) (laidMet.reads h (by simp [Rows.glyphColumnsRow]))
theorem met_glyphColumns (os : Os) (args : Array Value) : laidMetH Tryd.prog Rows.glyphColumnsRow.laid ((start7 os).forCall (fun _ _ => 0) ⟨#[], args, []⟩).memory :=
  laidMetH_of_parts3 (fuel := 8) (laidMet_of_run' 8 (by kernel_rfl) (by kernel_rfl)) (by kernel_rfl) (by kernel_rfl)
end Go.Proofs.YtgfcdekbbhndnaaDoor
