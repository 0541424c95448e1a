/-
  Layer 9's laws: from the condition on the listed tables (of wide runes, and the library's two of first bytes) to what the walks ask; and a start that meets it.
-/
import Derived.Test.YtbpkklcegiiheaaDoorKBase
import Derived.LaidMore
import Derived.MakeChecks
import Derived.ProofKit
import Derived.Lib.LaidU8
namespace Go.Proofs.YtbpkklcegiiheaaDoor
open Go.ChangeShapes Go.WideShapes Go.ChangeAt Go.RowKit Go.Lib
set_option maxRecDepth 100000

theorem wideD : (Rows.laid_flipbook_glyph_wide : DataW Unit) = .agg ((List.range 9).map fun i => .agg ([GM.wideT.getD (2 * i) 0, GM.wideT.getD (2 * i + 1) 0].map fun z => .lit (.int .i32 z))) := by kernel_rfl
theorem tabs_of_reads {W : World} (h0 : VarReads Tryd.prog W "flipbook/glyph.wide" Rows.laid_flipbook_glyph_wide) : Tabs W := by
  rw [wideD] at h0
  have t21 : Tryd.prog.underlying 21 = some (.int .i32) := by kernel_rfl
  have c21 : Tryd.prog.cellsOf 21 = 1 := by kernel_rfl
  have t9 : Tryd.prog.underlying 106 = some (.array 9 105) := by kernel_rfl
  have c2 : Tryd.prog.cellsOf 105 = 2 := by kernel_rfl
  obtain ⟨g0, y0, cs0, f0, p0, hg0, hy0, hv0, hd0⟩ := h0
  obtain rfl := Option.some.inj ((show Tryd.prog.globalNamed "flipbook/glyph.wide" = some 0 by kernel_rfl).symm.trans hg0)
  obtain rfl := Option.some.inj ((show (Tryd.prog.globals[0]?).map (·.type) = some 106 by kernel_rfl).symm.trans hy0)
  refine ⟨fun j v hv => ?_, ?_⟩
  · rw [World.var?_cell hg0 hv0 (0 + j)]
    have hj : j < 18 := by
      rcases Nat.lt_or_ge j 18 with h | h
      · exact h
      · rw [List.getElem?_eq_none (by simpa [runesV, GM.wideT] using h)] at hv; cases hv
    obtain ⟨fuel', d, q, hdi, he⟩ := array_elem t9 hd0 (j / 2) (by omega)
    simp only [List.getElem?_map, List.getElem?_range (show j / 2 < 9 by omega), Option.map_some, Option.some.injEq] at hdi
    subst hdi
    rw [c2] at he
    have hcs := ints_of_struct (show Tryd.prog.underlying 105 = some (.struct #[{ name := "first", type := 21, offset := 0, embedded := false, tag := "", pkgPath := "flipbook/glyph", byteOffset := 0 }, { name := "last", type := 21, offset := 1, embedded := false, tag := "", pkgPath := "flipbook/glyph", byteOffset := 4 }]) by kernel_rfl) (fun j f hj => by
      match j, hj with
      | 0, hj => simp at hj; subst hj; exact ⟨t21, rfl, c21⟩
      | 1, hj => simp at hj; subst hj; exact ⟨t21, rfl, c21⟩
      | j + 2, hj => simp at hj) (by rw [c2]; rfl) he
    have hv' : v = .int .i32 (GM.wideT.getD j 0) := by
      have hl : j < GM.wideT.length := hj
      simp [runesV, hl] at hv
      simpa [hl] using hv.symm
    rw [hv', Nat.zero_add, ← Array.getElem?_toList]
    rcases (by omega : j = 2 * (j / 2) ∨ j = 2 * (j / 2) + 1) with h | h
    · have e := congrArg (·[0]?) hcs
      simp only [List.getElem?_take, List.getElem?_drop] at e
      have e' : cs0.toList[j / 2 * 2]? = some (Value.int .i32 (GM.wideT.getD (2 * (j / 2)) 0)) := by simpa using e
      rw [Nat.mul_comm, ← h] at e'
      exact e'
    · have e := congrArg (·[1]?) hcs
      simp only [List.getElem?_take, List.getElem?_drop] at e
      have e' : cs0.toList[j / 2 * 2 + 1]? = some (Value.int .i32 (GM.wideT.getD (2 * (j / 2) + 1) 0)) := by simpa using e
      rw [Nat.mul_comm, ← h] at e'
      exact e'
  · have := hv0
    unfold World.var? at this
    rw [hg0] at this
    simp only [Option.bind_some] at this
    rcases Nat.lt_or_ge 0 W.heap.size with h | h
    · exact h
    · simp [Array.getElem?_eq_none h] at this

noncomputable def start9 (os : Os) : World :=
  let w0 := World.doorLaid Tryd.prog 400 os
  { w0 with heap := w0.heap.modify 1 fun
      | .cells _ t fz => .cells (firstTab.map (Value.int .u8)).toArray t fz
      | o => o }
theorem tabs_gridRuns {W : World} (h : laidMetH Tryd.prog Rows.gridRunsRow.laid W) : Tabs W := by
  rw [MakeChecks.laidMetH_plain _ _ _ (by kernel_rfl)] at h
  exact tabs_of_reads (laidMet.reads h (by simp [Rows.gridRunsRow]))
theorem met_gridRuns (os : Os) (args : Array Value) : laidMetH Tryd.prog Rows.gridRunsRow.laid ((start9 os).forCall (fun _ _ => 0) ⟨#[], args, []⟩).memory :=
  laidMetH_of_parts3 (fuel := 8) (laidMet_of_run' 8 (by kernel_rfl) (by kernel_rfl)) (by kernel_rfl) (by kernel_rfl)
theorem tabs_gridWholes {W : World} (h : laidMetH Tryd.prog Rows.gridWholesRow.laid W) : Tabs W := by
  rw [MakeChecks.laidMetH_plain _ _ _ (by kernel_rfl)] at h
  exact tabs_of_reads (laidMet.reads h (by simp [Rows.gridWholesRow]))
theorem met_gridWholes (os : Os) (args : Array Value) : laidMetH Tryd.prog Rows.gridWholesRow.laid ((start9 os).forCall (fun _ _ => 0) ⟨#[], args, []⟩).memory :=
  laidMetH_of_parts3 (fuel := 8) (laidMet_of_run' 8 (by kernel_rfl) (by kernel_rfl)) (by kernel_rfl) (by kernel_rfl)
theorem tabs_gridLines {W : World} (h : laidMetH Tryd.prog Rows.gridLinesRow.laid W) : Tabs W := by
  rw [MakeChecks.laidMetH_plain _ _ _ (by kernel_rfl)] at h
  exact tabs_of_reads (laidMet.reads h (by simp [Rows.gridLinesRow]))
theorem met_gridLines (os : Os) (args : Array Value) : laidMetH Tryd.prog Rows.gridLinesRow.laid ((start9 os).forCall (fun _ _ => 0) ⟨#[], args, []⟩).memory :=
  laidMetH_of_parts3 (fuel := 8) (laidMet_of_run' 8 (by kernel_rfl) (by kernel_rfl)) (by kernel_rfl) (by kernel_rfl)
theorem tabs_gridSizes {W : World} (h : laidMetH Tryd.prog Rows.gridSizesRow.laid W) : Tabs W := by
  rw [MakeChecks.laidMetH_plain _ _ _ (by kernel_rfl)] at h
  exact tabs_of_reads (laidMet.reads h (by simp [Rows.gridSizesRow]))
theorem met_gridSizes (os : Os) (args : Array Value) : laidMetH Tryd.prog Rows.gridSizesRow.laid ((start9 os).forCall (fun _ _ => 0) ⟨#[], args, []⟩).memory :=
  laidMetH_of_parts3 (fuel := 8) (laidMet_of_run' 8 (by kernel_rfl) (by kernel_rfl)) (by kernel_rfl) (by kernel_rfl)
theorem tabs_gridCopies {W : World} (h : laidMetH Tryd.prog Rows.gridCopiesRow.laid W) : Tabs W := by
  rw [MakeChecks.laidMetH_plain _ _ _ (by kernel_rfl)] at h
  exact tabs_of_reads (laidMet.reads h (by simp [Rows.gridCopiesRow]))
theorem met_gridCopies (os : Os) (args : Array Value) : laidMetH Tryd.prog Rows.gridCopiesRow.laid ((start9 os).forCall (fun _ _ => 0) ⟨#[], args, []⟩).memory :=
  laidMetH_of_parts3 (fuel := 8) (laidMet_of_run' 8 (by kernel_rfl) (by kernel_rfl)) (by kernel_rfl) (by kernel_rfl)
theorem tabs_gridTexts {W : World} (h : laidMetH Tryd.prog Rows.gridTextsRow.laid W) : Tabs W := by
  rw [MakeChecks.laidMetH_plain _ _ _ (by kernel_rfl)] at h
  exact tabs_of_reads (laidMet.reads h (by simp [Rows.gridTextsRow]))
theorem met_gridTexts (os : Os) (args : Array Value) : laidMetH Tryd.prog Rows.gridTextsRow.laid ((start9 os).forCall (fun _ _ => 0) ⟨#[], args, []⟩).memory :=
  laidMetH_of_parts3 (fuel := 8) (laidMet_of_run' 8 (by kernel_rfl) (by kernel_rfl)) (by kernel_rfl) (by kernel_rfl)
theorem tabs_gridFits {W : World} (h : laidMetH Tryd.prog Rows.gridFitsRow.laid W) : Tabs W := by
  rw [MakeChecks.laidMetH_plain _ _ _ (by kernel_rfl)] at h
  exact tabs_of_reads (laidMet.reads h (by simp [Rows.gridFitsRow]))
theorem met_gridFits (os : Os) (args : Array Value) : laidMetH Tryd.prog Rows.gridFitsRow.laid ((start9 os).forCall (fun _ _ => 0) ⟨#[], args, []⟩).memory :=
  laidMetH_of_parts3 (fuel := 8) (laidMet_of_run' 8 (by kernel_rfl) (by kernel_rfl)) (by kernel_rfl) (by kernel_rfl)
end Go.Proofs.YtbpkklcegiiheaaDoor
