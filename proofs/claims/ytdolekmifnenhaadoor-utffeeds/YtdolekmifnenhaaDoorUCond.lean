/-
  Layer 5 (utf): from the condition on the two listed tables to what the walks ask; and a start that meets it: the start-up's own heap, with the language's table of first bytes laid.
-/
import Derived.Test.YtdolekmifnenhaaDoorULaid
import Derived.LaidMore
import Derived.MakeChecks
import Derived.ProofKit
import Derived.Lib.LaidU8T
namespace Go.Proofs.YtdolekmifnenhaaDoor
open Go.ChangeShapes Go.WideShapes Go.ChangeAt Go.RowKit Go.Lib
set_option maxRecDepth 100000

theorem firstD : Rows.laid_unicode_utf8_first = firstData := by kernel_rfl
theorem acceptD : Rows.laid_unicode_utf8_acceptRanges = acceptData := by kernel_rfl
def ren8 : Go.Shelf.Ren := ⟨fun n => n, fun | 5 => 5 | 119 => 45 | 138 => 47 | 139 => 48 | n => n, fun | 3 => 0 | 4 => 1 | n => n⟩
theorem types8 : U8Types Tryd.prog ren8 := ⟨by kernel_rfl, by kernel_rfl, by kernel_rfl, by kernel_rfl⟩
theorem extra8 : U8Extra Tryd.prog ren8 := ⟨by kernel_rfl, by kernel_rfl, by kernel_rfl, by kernel_rfl, by kernel_rfl, by kernel_rfl, by kernel_rfl⟩
theorem utf_of_reads {W : World} (h3 : VarReads Tryd.prog W "unicode/utf8.first" Rows.laid_unicode_utf8_first) (h4 : VarReads Tryd.prog W "unicode/utf8.acceptRanges" Rows.laid_unicode_utf8_acceptRanges) : Utf W := by
  rw [firstD] at h3
  rw [acceptD] at h4
  have hT : Lib.Utf8Tabs 0 1 W := utf8Tabs_of_readsT types8 extra8 h3 h4
  refine ⟨hT, ?_⟩
  obtain ⟨g, t, cs, fuel, p, hg, ht, hvar, hd⟩ := h4
  have h1 : g = 1 := Option.some.inj (hg.symm.trans (show Tryd.prog.globalNamed "unicode/utf8.acceptRanges" = some 1 by kernel_rfl))
  unfold World.var? at hvar
  rw [hg, h1] at hvar
  simp only [Option.bind_some] at hvar
  rcases Nat.lt_or_ge 1 W.heap.size with h | h
  · exact h
  · simp [Array.getElem?_eq_none h] at hvar

noncomputable def start8 (os : Os) : World :=
  let w0 := World.doorLaid Tryd.prog 400 os
  { w0 with heap := w0.heap.modify 0 fun
      | .cells _ t fz => .cells (firstTab.map (Value.int .u8)).toArray t fz
      | o => o }

theorem utf_utfAll {W : World} (h : laidMetH Tryd.prog Rows.utfAllRow.laid W) : Utf W := by
  rw [MakeChecks.laidMetH_plain _ _ _ (by kernel_rfl)] at h
  exact utf_of_reads (laidMet.reads h (by simp [Rows.utfAllRow])) (laidMet.reads h (by simp [Rows.utfAllRow]))
theorem met_utfAll (os : Os) (args : Array Value) : laidMetH Tryd.prog Rows.utfAllRow.laid ((start8 os).forCall (fun _ _ => 0) ⟨#[], args, []⟩).memory :=
  laidMetH_of_parts3 (fuel := 8) (laidMet_of_run' 8 (by kernel_rfl) (by kernel_rfl)) (by kernel_rfl) (by kernel_rfl)
theorem utf_utfFeeds {W : World} (h : laidMetH Tryd.prog Rows.utfFeedsRow.laid W) : Utf W := by
  rw [MakeChecks.laidMetH_plain _ _ _ (by kernel_rfl)] at h
  exact utf_of_reads (laidMet.reads h (by simp [Rows.utfFeedsRow])) (laidMet.reads h (by simp [Rows.utfFeedsRow]))
theorem met_utfFeeds (os : Os) (args : Array Value) : laidMetH Tryd.prog Rows.utfFeedsRow.laid ((start8 os).forCall (fun _ _ => 0) ⟨#[], args, []⟩).memory :=
  laidMetH_of_parts3 (fuel := 8) (laidMet_of_run' 8 (by kernel_rfl) (by kernel_rfl)) (by kernel_rfl) (by kernel_rfl)
theorem utf_utfParts {W : World} (h : laidMetH Tryd.prog Rows.utfPartsRow.laid W) : Utf W := by
  rw [MakeChecks.laidMetH_plain _ _ _ (by kernel_rfl)] at h
  exact utf_of_reads (laidMet.reads h (by simp [Rows.utfPartsRow])) (laidMet.reads h (by simp [Rows.utfPartsRow]))
theorem met_utfParts (os : Os) (args : Array Value) : laidMetH Tryd.prog Rows.utfPartsRow.laid ((start8 os).forCall (fun _ _ => 0) ⟨#[], args, []⟩).memory :=
  laidMetH_of_parts3 (fuel := 8) (laidMet_of_run' 8 (by kernel_rfl) (by kernel_rfl)) (by kernel_rfl) (by kernel_rfl)
theorem utf_utfRight {W : World} (h : laidMetH Tryd.prog Rows.utfRightRow.laid W) : Utf W := by
  rw [MakeChecks.laidMetH_plain _ _ _ (by kernel_rfl)] at h
  exact utf_of_reads (laidMet.reads h (by simp [Rows.utfRightRow])) (laidMet.reads h (by simp [Rows.utfRightRow]))
theorem met_utfRight (os : Os) (args : Array Value) : laidMetH Tryd.prog Rows.utfRightRow.laid ((start8 os).forCall (fun _ _ => 0) ⟨#[], args, []⟩).memory :=
  laidMetH_of_parts3 (fuel := 8) (laidMet_of_run' 8 (by kernel_rfl) (by kernel_rfl)) (by kernel_rfl) (by kernel_rfl)
end Go.Proofs.YtdolekmifnenhaaDoor
