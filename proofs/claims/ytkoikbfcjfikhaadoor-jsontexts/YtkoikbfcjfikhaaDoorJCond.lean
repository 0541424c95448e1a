/-
  Layer 3 (json): from the listed variables' condition to what the walks ask; and a start that meets the condition.
-/
import Derived.Test.YtkoikbfcjfikhaaDoorJLaid
import Derived.LaidMore
import Derived.MakeChecks
import Derived.ProofKit
namespace Go.Proofs.YtkoikbfcjfikhaaDoor
open Go.ChangeShapes Go.WideShapes Go.ChangeAt Go.RowKit Go.Lib

theorem tab_of_reads {W : World} {n : String} {k : IntKind} {zs : List Int} {g : Nat} {t e : TypeId} {m : Nat}
    (hg : Tryd.prog.globalNamed n = some g) (hty : (Tryd.prog.globals[g]?).map (·.type) = some t) (ht : Tryd.prog.underlying t = some (.array m e)) (he : Tryd.prog.underlying e = some (.int k)) (hce : Tryd.prog.cellsOf e = 1) (hct : Tryd.prog.cellsOf t = m)
    (h : VarReads Tryd.prog W n (tabData k zs)) : TabIs Tryd.prog W n k zs := by
  obtain ⟨g', t', cs, fuel, p, hg', ht', hvar, hd⟩ := h
  obtain rfl := Option.some.inj (hg.symm.trans hg')
  obtain rfl := Option.some.inj (hty.symm.trans ht')
  unfold TabIs
  rw [hvar, ← cells_of_tab ht he hce hct hd]

theorem powD : Rows.laid_internal_strconv_uint64pow10 = (tabData .u64 pow10Tab : DataW Unit) := by kernel_rfl
theorem lowD : Rows.laid_math_bits_deBruijn64tab = (tabData .u8 bruijn : DataW Unit) := by kernel_rfl
theorem fmt_of_reads {W : World} (h1 : VarReads Tryd.prog W "internal/strconv.uint64pow10" Rows.laid_internal_strconv_uint64pow10) (h2 : VarReads Tryd.prog W "math/bits.deBruijn64tab" Rows.laid_math_bits_deBruijn64tab) : Fmt W := by
  rw [powD] at h1
  rw [lowD] at h2
  exact ⟨tab_of_reads (g := 4) (t := 82) (by kernel_rfl) (by kernel_rfl) Tryd.underlying82 Tryd.underlying57 (by kernel_rfl) (by kernel_rfl) h1,
    tab_of_reads (g := 6) (t := 92) (by kernel_rfl) (by kernel_rfl) Tryd.underlying92 Tryd.underlying5 (by kernel_rfl) (by kernel_rfl) h2⟩

theorem star : "*" ++ "errors.errorString" = "*errors.errorString" := by decide
theorem row_err (u : TypeId) (h : Tryd.prog.typeName? 3 u = some "*errors.errorString") : u = 87 :=
  typeName_ptr_named (nm := "errors.errorString") (by rw [star]; kernel_rfl) (by kernel_rfl) (by decide) u (by rw [star]; exact h)
theorem num_of_head {W : World} {r : List (String × DataW Unit)} (h : laidMet Tryd.prog (("strconv.ErrRange", Rows.laid_strconv_ErrRange) :: ("strconv.ErrSyntax", Rows.laid_strconv_ErrSyntax) :: r) W) : Num W := by
  obtain ⟨a0, s0, hv0, -, -, -⟩ := laid_sentinel h (g := 3) (ti := 38) (by kernel_rfl) (by kernel_rfl) Tryd.underlying38 row_err Tryd.underlying87 Tryd.underlying89 rfl rfl Tryd.underlying9 (by kernel_rfl) (by kernel_rfl)
  obtain ⟨a1, s1, hv1, -, -, -⟩ := laid_sentinel h.tail (g := 2) (ti := 38) (by kernel_rfl) (by kernel_rfl) Tryd.underlying38 row_err Tryd.underlying87 Tryd.underlying89 rfl rfl Tryd.underlying9 (by kernel_rfl) (by kernel_rfl)
  exact ⟨⟨_, _, hv1⟩, ⟨_, _, hv0⟩⟩

/-! ### the three lists -/
theorem fmt3 {W : World} (h : laidMetH Tryd.prog Rows.jsonSignsRow.laid W) : Fmt W := by
  rw [MakeChecks.laidMetH_plain _ _ _ (by kernel_rfl)] at h
  exact fmt_of_reads (laidMet.reads h (by simp [Rows.jsonSignsRow])) (laidMet.reads h (by simp [Rows.jsonSignsRow]))
theorem fmt5 {W : World} (h : laidMetH Tryd.prog Rows.jsonTimesRow.laid W) : Fmt W := by
  rw [MakeChecks.laidMetH_plain _ _ _ (by kernel_rfl)] at h
  exact fmt_of_reads (laidMet.reads h (by simp [Rows.jsonTimesRow])) (laidMet.reads h (by simp [Rows.jsonTimesRow]))
theorem num5 {W : World} (h : laidMetH Tryd.prog Rows.jsonTimesRow.laid W) : Num W := by
  rw [MakeChecks.laidMetH_plain _ _ _ (by kernel_rfl)] at h
  exact num_of_head (laidMet.tail (laidMet.tail (laidMet.tail h)))

noncomputable def start (os : Os) : World := World.doorLaid Tryd.prog 400 os
theorem met3 (os : Os) (args : Array Value) : laidMetH Tryd.prog Rows.jsonSignsRow.laid ((start os).forCall (fun _ _ => 0) ⟨#[], args, []⟩).memory :=
  laidMetH_of_parts3 (fuel := 8) (laidMet_of_run' 8 (by kernel_rfl) (by kernel_rfl)) (by kernel_rfl) (by kernel_rfl)
theorem met5 (os : Os) (args : Array Value) : laidMetH Tryd.prog Rows.jsonTimesRow.laid ((start os).forCall (fun _ _ => 0) ⟨#[], args, []⟩).memory :=
  laidMetH_of_parts3 (fuel := 8) (laidMet_of_run' 8 (by kernel_rfl) (by kernel_rfl)) (by kernel_rfl) (by kernel_rfl)
end Go.Proofs.YtkoikbfcjfikhaaDoor
