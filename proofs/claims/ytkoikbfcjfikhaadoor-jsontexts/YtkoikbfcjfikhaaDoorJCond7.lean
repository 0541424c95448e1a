/-
  Layer 3 (json): the condition on all seven listed variables; and a start that meets it: the start-up's own heap, with the language's table of first bytes laid.
-/
import Derived.Test.YtkoikbfcjfikhaaDoorJCond
namespace Go.Proofs.YtkoikbfcjfikhaaDoor
open Go.ChangeShapes Go.WideShapes Go.ChangeAt Go.RowKit Go.Lib
set_option maxRecDepth 100000

theorem firstD : Rows.laid_unicode_utf8_first = firstData := by kernel_rfl
theorem acceptD : Rows.laid_unicode_utf8_acceptRanges = acceptData := by kernel_rfl
theorem extra : U8Extra Tryd.prog Tryd.lays260_ren := ⟨by kernel_rfl, by kernel_rfl, by kernel_rfl, by kernel_rfl, by kernel_rfl, by kernel_rfl, by kernel_rfl⟩
theorem utf_of_reads {W : World} (h3 : VarReads Tryd.prog W "unicode/utf8.first" Rows.laid_unicode_utf8_first) (h4 : VarReads Tryd.prog W "unicode/utf8.acceptRanges" Rows.laid_unicode_utf8_acceptRanges) : Utf W := by
  rw [firstD] at h3
  rw [acceptD] at h4
  have hT : Lib.Utf8Tabs 0 1 W := utf8Tabs_of_readsT (U8Types.of260 Tryd.lays260) extra h3 h4
  refine ⟨hT, ?_⟩
  obtain ⟨g, t, cs, fuel, p, hg, ht, hvar, hd⟩ := h4
  have h1 : g = 1 := Option.some.inj (hg.symm.trans (show Tryd.prog.globalNamed "unicode/utf8.acceptRanges" = some 1 by kernel_rfl))
  unfold World.var? at hvar
  rw [hg, h1] at hvar
  simp only [Option.bind_some] at hvar
  rcases Nat.lt_or_ge 1 W.heap.size with h | h
  · exact h
  · simp [Array.getElem?_eq_none h] at hvar

theorem fmt7 {W : World} (h : laidMetH Tryd.prog Rows.jsonTextsRow.laid W) : Fmt W := by
  rw [MakeChecks.laidMetH_plain _ _ _ (by kernel_rfl)] at h
  exact fmt_of_reads (laidMet.reads h (by simp [Rows.jsonTextsRow])) (laidMet.reads h (by simp [Rows.jsonTextsRow]))
theorem num7 {W : World} (h : laidMetH Tryd.prog Rows.jsonTextsRow.laid W) : Num W := by
  rw [MakeChecks.laidMetH_plain _ _ _ (by kernel_rfl)] at h
  exact num_of_head (laidMet.tail (laidMet.tail (laidMet.tail (laidMet.tail h))))
theorem utf7 {W : World} (h : laidMetH Tryd.prog Rows.jsonTextsRow.laid W) : Utf W := by
  rw [MakeChecks.laidMetH_plain _ _ _ (by kernel_rfl)] at h
  exact utf_of_reads (laidMet.reads h (by simp [Rows.jsonTextsRow])) (laidMet.reads h (by simp [Rows.jsonTextsRow]))

noncomputable def start7 (os : Os) : World :=
  let w0 := World.doorLaid Tryd.prog 400 os
  { w0 with heap := w0.heap.modify 0 fun
      | .cells _ t fz => .cells (firstTab.map (Value.int .u8)).toArray t fz
      | o => o }
theorem met7 (os : Os) (args : Array Value) : laidMetH Tryd.prog Rows.jsonTextsRow.laid ((start7 os).forCall (fun _ _ => 0) ⟨#[], args, []⟩).memory :=
  laidMetH_of_parts3 (fuel := 8) (laidMet_of_run' 8 (by kernel_rfl) (by kernel_rfl)) (by kernel_rfl) (by kernel_rfl)
end Go.Proofs.YtkoikbfcjfikhaaDoor
