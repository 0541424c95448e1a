/-
  Layer 17 (cast): from the listed variables' condition to what the walks ask; and starts that meet the conditions.
-/
import Derived.Test.YtciogdhapogolaaDoorJLaid
import Derived.Test.YtciogdhapogolaaDoorASign
import Derived.LaidMore
import Derived.MakeChecks
import Derived.ProofKit
namespace Go.Proofs.YtciogdhapogolaaDoor
open Go.ChangeShapes Go.WideShapes Go.ChangeAt Go.RowKit Go.Lib
set_option maxRecDepth 100000

theorem tab_of_reads {W : World} {n : String} {k : IntKind} {zs : List Int} {g : Nat} {t e : TypeId} {m : Nat}
    (hg : Tryd.prog.globalNamed n = some g) (hty : (Tryd.prog.globals[g]?).map (·.type) = some t) (ht : Tryd.prog.underlying t = some (.array m e)) (he : Tryd.prog.underlying e = some (.int k)) (hce : Tryd.prog.cellsOf e = 1) (hct : Tryd.prog.cellsOf t = m)
    (h : VarReads Tryd.prog W n (tabData k zs)) : TabIs Tryd.prog W n k zs := by
  obtain ⟨g', t', cs, fuel, p, hg', ht', hvar, hd⟩ := h
  obtain rfl := Option.some.inj (hg.symm.trans hg')
  obtain rfl := Option.some.inj (hty.symm.trans ht')
  unfold TabIs
  rw [hvar, ← cells_of_tab ht he hce hct hd]

theorem powD : Rows.laid_internal_strconv_uint64pow10 = (tabData .u64 pow10Tab : DataW Unit) := by kernel_rfl
theorem lowD : Rows.laid_math_bits_deBruijn64tab = (tabData .u8 bruijn : DataW Unit) := by kernel_rfl
theorem fmt_of_reads {W : World} (h1 : VarReads Tryd.prog W "internal/strconv.uint64pow10" Rows.laid_internal_strconv_uint64pow10) (h2 : VarReads Tryd.prog W "math/bits.deBruijn64tab" Rows.laid_math_bits_deBruijn64tab) : Fmt W := by
  rw [powD] at h1
  rw [lowD] at h2
  exact ⟨tab_of_reads (g := 3) (t := 105) (by kernel_rfl) (by kernel_rfl) Tryd.underlying105 Tryd.underlying91 (by kernel_rfl) (by kernel_rfl) h1,
    tab_of_reads (g := 7) (t := 118) (by kernel_rfl) (by kernel_rfl) Tryd.underlying118 Tryd.underlying5 (by kernel_rfl) (by kernel_rfl) h2⟩

theorem star : "*" ++ "errors.errorString" = "*errors.errorString" := by decide
theorem row_err (u : TypeId) (h : Tryd.prog.typeName? 3 u = some "*errors.errorString") : u = 109 :=
  typeName_ptr_named (nm := "errors.errorString") (by rw [star]; kernel_rfl) (by kernel_rfl) (by decide) u (by rw [star]; exact h)
theorem num_of_head {W : World} {r : List (String × DataW Unit)} (h : laidMet Tryd.prog (("strconv.ErrRange", Rows.laid_strconv_ErrRange) :: ("strconv.ErrSyntax", Rows.laid_strconv_ErrSyntax) :: r) W) : Num W := by
  obtain ⟨a0, s0, hv0, -, -, -⟩ := laid_sentinel h (g := 2) (ti := 52) (by kernel_rfl) (by kernel_rfl) Tryd.underlying52 row_err Tryd.underlying109 Tryd.underlying111 rfl rfl Tryd.underlying9 (by kernel_rfl) (by kernel_rfl)
  obtain ⟨a1, s1, hv1, -, -, -⟩ := laid_sentinel h.tail (g := 1) (ti := 52) (by kernel_rfl) (by kernel_rfl) Tryd.underlying52 row_err Tryd.underlying109 Tryd.underlying111 rfl rfl Tryd.underlying9 (by kernel_rfl) (by kernel_rfl)
  exact ⟨⟨_, _, hv1⟩, ⟨_, _, hv0⟩⟩

theorem firstD : Rows.laid_unicode_utf8_first = firstData := by kernel_rfl
theorem acceptD : Rows.laid_unicode_utf8_acceptRanges = acceptData := by kernel_rfl
theorem extra : U8Extra Tryd.prog Tryd.lays260_ren := ⟨by kernel_rfl, by kernel_rfl, by kernel_rfl, by kernel_rfl, by kernel_rfl, by kernel_rfl, by kernel_rfl⟩
theorem utf_of_reads {W : World} (h3 : VarReads Tryd.prog W "unicode/utf8.first" Rows.laid_unicode_utf8_first) (h4 : VarReads Tryd.prog W "unicode/utf8.acceptRanges" Rows.laid_unicode_utf8_acceptRanges) : Utf W := by
  rw [firstD] at h3
  rw [acceptD] at h4
  have hT : Lib.Utf8Tabs 4 5 W := utf8Tabs_of_readsT (U8Types.of260 Tryd.lays260) extra h3 h4
  refine ⟨hT, ?_, ?_⟩
  · obtain ⟨g, t, cs, fuel, p, hg, ht, hvar, hd⟩ := h3
    have h1 : g = 4 := Option.some.inj (hg.symm.trans (show Tryd.prog.globalNamed "unicode/utf8.first" = some 4 by kernel_rfl))
    unfold World.var? at hvar
    rw [hg, h1] at hvar
    simp only [Option.bind_some] at hvar
    rcases Nat.lt_or_ge 4 W.heap.size with h | h
    · exact h
    · simp [Array.getElem?_eq_none h] at hvar
  · obtain ⟨g, t, cs, fuel, p, hg, ht, hvar, hd⟩ := h4
    have h1 : g = 5 := Option.some.inj (hg.symm.trans (show Tryd.prog.globalNamed "unicode/utf8.acceptRanges" = some 5 by kernel_rfl))
    unfold World.var? at hvar
    rw [hg, h1] at hvar
    simp only [Option.bind_some] at hvar
    rcases Nat.lt_or_ge 5 W.heap.size with h | h
    · exact h
    · simp [Array.getElem?_eq_none h] at hvar

/-! ### the laws' lists -/
noncomputable def start3 (os : Os) : World := World.doorLaid Tryd.prog 400 os
noncomputable def start7 (os : Os) : World :=
  let w0 := World.doorLaid Tryd.prog 400 os
  { w0 with heap := w0.heap.modify 4 fun
      | .cells _ t fz => .cells (firstTab.map (Value.int .u8)).toArray t fz
      | o => o }
theorem fmt_castWrites {W : World} (h : laidMetH Tryd.prog Rows.castWritesRow.laid W) : Fms W := by
  rw [MakeChecks.laidMetH_plain _ _ _ (by kernel_rfl)] at h
  exact ⟨fmt_of_reads (laidMet.reads h (by simp [Rows.castWritesRow])) (laidMet.reads h (by simp [Rows.castWritesRow])), sgn_of_reads (laidMet.reads h (by simp [Rows.castWritesRow]))⟩
theorem met_castWrites (os : Os) (args : Array Value) : laidMetH Tryd.prog Rows.castWritesRow.laid ((start3 os).forCall (fun _ _ => 0) ⟨#[], args, []⟩).memory :=
  laidMetH_of_parts3 (fuel := 8) (laidMet_of_run' 8 (by kernel_rfl) (by kernel_rfl)) (by kernel_rfl) (by kernel_rfl)
theorem fmt_castLines {W : World} (h : laidMetH Tryd.prog Rows.castLinesRow.laid W) : Fms W := by
  rw [MakeChecks.laidMetH_plain _ _ _ (by kernel_rfl)] at h
  exact ⟨fmt_of_reads (laidMet.reads h (by simp [Rows.castLinesRow])) (laidMet.reads h (by simp [Rows.castLinesRow])), sgn_of_reads (laidMet.reads h (by simp [Rows.castLinesRow]))⟩
theorem met_castLines (os : Os) (args : Array Value) : laidMetH Tryd.prog Rows.castLinesRow.laid ((start3 os).forCall (fun _ _ => 0) ⟨#[], args, []⟩).memory :=
  laidMetH_of_parts3 (fuel := 8) (laidMet_of_run' 8 (by kernel_rfl) (by kernel_rfl)) (by kernel_rfl) (by kernel_rfl)
theorem fmt_castBack {W : World} (h : laidMetH Tryd.prog Rows.castBackRow.laid W) : Fms W := by
  rw [MakeChecks.laidMetH_plain _ _ _ (by kernel_rfl)] at h
  exact ⟨fmt_of_reads (laidMet.reads h (by simp [Rows.castBackRow])) (laidMet.reads h (by simp [Rows.castBackRow])), sgn_of_reads (laidMet.reads h (by simp [Rows.castBackRow]))⟩
theorem num_castBack {W : World} (h : laidMetH Tryd.prog Rows.castBackRow.laid W) : Num W := by
  rw [MakeChecks.laidMetH_plain _ _ _ (by kernel_rfl)] at h
  exact num_of_head (laidMet.tail (laidMet.tail (laidMet.tail (laidMet.tail h))))
theorem utf_castBack {W : World} (h : laidMetH Tryd.prog Rows.castBackRow.laid W) : Utf W := by
  rw [MakeChecks.laidMetH_plain _ _ _ (by kernel_rfl)] at h
  exact utf_of_reads (laidMet.reads h (by simp [Rows.castBackRow])) (laidMet.reads h (by simp [Rows.castBackRow]))
theorem met_castBack (os : Os) (args : Array Value) : laidMetH Tryd.prog Rows.castBackRow.laid ((start7 os).forCall (fun _ _ => 0) ⟨#[], args, []⟩).memory :=
  laidMetH_of_parts3 (fuel := 8) (laidMet_of_run' 8 (by kernel_rfl) (by kernel_rfl)) (by kernel_rfl) (by kernel_rfl)
theorem fmt_castAny {W : World} (h : laidMetH Tryd.prog Rows.castAnyRow.laid W) : Fms W := by
  rw [MakeChecks.laidMetH_plain _ _ _ (by kernel_rfl)] at h
  exact ⟨fmt_of_reads (laidMet.reads h (by simp [Rows.castAnyRow])) (laidMet.reads h (by simp [Rows.castAnyRow])), sgn_of_reads (laidMet.reads h (by simp [Rows.castAnyRow]))⟩
theorem num_castAny {W : World} (h : laidMetH Tryd.prog Rows.castAnyRow.laid W) : Num W := by
  rw [MakeChecks.laidMetH_plain _ _ _ (by kernel_rfl)] at h
  exact num_of_head (laidMet.tail (laidMet.tail (laidMet.tail (laidMet.tail h))))
theorem utf_castAny {W : World} (h : laidMetH Tryd.prog Rows.castAnyRow.laid W) : Utf W := by
  rw [MakeChecks.laidMetH_plain _ _ _ (by kernel_rfl)] at h
  exact utf_of_reads (laidMet.reads h (by simp [Rows.castAnyRow])) (laidMet.reads h (by simp [Rows.castAnyRow]))
theorem met_castAny (os : Os) (args : Array Value) : laidMetH Tryd.prog Rows.castAnyRow.laid ((start7 os).forCall (fun _ _ => 0) ⟨#[], args, []⟩).memory :=
  laidMetH_of_parts3 (fuel := 8) (laidMet_of_run' 8 (by kernel_rfl) (by kernel_rfl)) (by kernel_rfl) (by kernel_rfl)
theorem fmt_castSpoils {W : World} (h : laidMetH Tryd.prog Rows.castSpoilsRow.laid W) : Fms W := by
  rw [MakeChecks.laidMetH_plain _ _ _ (by kernel_rfl)] at h
  exact ⟨fmt_of_reads (laidMet.reads h (by simp [Rows.castSpoilsRow])) (laidMet.reads h (by simp [Rows.castSpoilsRow])), sgn_of_reads (laidMet.reads h (by simp [Rows.castSpoilsRow]))⟩
theorem num_castSpoils {W : World} (h : laidMetH Tryd.prog Rows.castSpoilsRow.laid W) : Num W := by
  rw [MakeChecks.laidMetH_plain _ _ _ (by kernel_rfl)] at h
  exact num_of_head (laidMet.tail (laidMet.tail (laidMet.tail (laidMet.tail h))))
theorem utf_castSpoils {W : World} (h : laidMetH Tryd.prog Rows.castSpoilsRow.laid W) : Utf W := by
  rw [MakeChecks.laidMetH_plain _ _ _ (by kernel_rfl)] at h
  exact utf_of_reads (laidMet.reads h (by simp [Rows.castSpoilsRow])) (laidMet.reads h (by simp [Rows.castSpoilsRow]))
theorem met_castSpoils (os : Os) (args : Array Value) : laidMetH Tryd.prog Rows.castSpoilsRow.laid ((start7 os).forCall (fun _ _ => 0) ⟨#[], args, []⟩).memory :=
  laidMetH_of_parts3 (fuel := 8) (laidMet_of_run' 8 (by kernel_rfl) (by kernel_rfl)) (by kernel_rfl) (by kernel_rfl)
end Go.Proofs.YtciogdhapogolaaDoor
