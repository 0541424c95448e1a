/-
  DERIVED. GIVEN WITH THE SEED: THE CARDS: each row of YtalngmegenlfgaaDoorRows.lean that lists a variable, with what it lists TIED to the program's text (the seventh form; the later family's looks); each row that meets fmt, with fmt's text TOLD by the authors' own Lean function (tested against real Go, not proved from fmt's source: count such statements apart). THE CARD IS WHAT COUNTS. Prove the row's statement (the work); the ties are given (YtalngmegenlfgaaDoorTie.lean); close each card by the builder's one call (the guide's Derived/Test/ToyasCard.lean, 'card_holds'). Laid BY PROGRAM, IN A SANDBOX (cutbox-door.mjs). By AI agents, Wed Nov 11 2026. No macro, syntax, notation, axiom, sorry.
-/
import Derived.Test.YtalngmegenlfgaaDoorRows
import GoSem.ClaimSeven
namespace Go.Proofs.YtalngmegenlfgaaDoor
namespace Rows

/-- THE TIED CARD OF 'flipbooklaw08.CellStyles'. -/
def cellStylesCard : Claim7 := { stood := { row := cellStylesRow, standIns := [], harness := (true, "4f396e1d14b963e642369da60c586bea4ab32b1863cbf0082d54e6225053dd77"), looks := false }, kinds := [], alts := [], laidByText := true, laidKinds := [.data], laidTests := true, laidLooks := .later }
def CellStylesCardSaid : Prop := Claim7.holds Tryd.pinned (.plain (OpenSpec.ofChange cellStylesSpec)) cellStylesCard

/-- THE TIED CARD OF 'flipbooklaw08.CellChanges'. -/
def cellChangesCard : Claim7 := { stood := { row := cellChangesRow, standIns := [], harness := (true, "4f396e1d14b963e642369da60c586bea4ab32b1863cbf0082d54e6225053dd77"), looks := false }, kinds := [], alts := [], laidByText := true, laidKinds := [.data], laidTests := true, laidLooks := .later }
def CellChangesCardSaid : Prop := Claim7.holds Tryd.pinned (.plain (OpenSpec.ofChange cellChangesSpec)) cellChangesCard

/-- THE TIED CARD OF 'flipbooklaw08.CellRights'. -/
def cellRightsCard : Claim7 := { stood := { row := cellRightsRow, standIns := [], harness := (true, "4f396e1d14b963e642369da60c586bea4ab32b1863cbf0082d54e6225053dd77"), looks := false }, kinds := [], alts := [], laidByText := true, laidKinds := [.data], laidTests := true, laidLooks := .later }
def CellRightsCardSaid : Prop := Claim7.holds Tryd.pinned (.plain (OpenSpec.ofChange cellRightsSpec)) cellRightsCard

/-- THE TIED CARD OF 'flipbooklaw08.CellMends'. -/
def cellMendsCard : Claim7 := { stood := { row := cellMendsRow, standIns := [], harness := (true, "4f396e1d14b963e642369da60c586bea4ab32b1863cbf0082d54e6225053dd77"), looks := false }, kinds := [], alts := [], laidByText := true, laidKinds := [.data], laidTests := true, laidLooks := .later }
def CellMendsCardSaid : Prop := Claim7.holds Tryd.pinned (.plain (OpenSpec.ofChange cellMendsSpec)) cellMendsCard

/-- THE TIED CARD OF 'flipbooklaw08.CellWholes'. -/
def cellWholesCard : Claim7 := { stood := { row := cellWholesRow, standIns := [], harness := (true, "4f396e1d14b963e642369da60c586bea4ab32b1863cbf0082d54e6225053dd77"), looks := false }, kinds := [], alts := [], laidByText := true, laidKinds := [.data], laidTests := true, laidLooks := .later }
def CellWholesCardSaid : Prop := Claim7.holds Tryd.pinned (.plain (OpenSpec.ofChange cellWholesSpec)) cellWholesCard

/-- THE TIED CARD OF 'flipbooklaw08.CellLines'. -/
def cellLinesCard : Claim7 := { stood := { row := cellLinesRow, standIns := [], harness := (true, "4f396e1d14b963e642369da60c586bea4ab32b1863cbf0082d54e6225053dd77"), looks := false }, kinds := [], alts := [], laidByText := true, laidKinds := [.data], laidTests := true, laidLooks := .later }
def CellLinesCardSaid : Prop := Claim7.holds Tryd.pinned (.plain (OpenSpec.ofChange cellLinesSpec)) cellLinesCard

/-- THE TIED CARD OF 'flipbooklaw08.CellAny'. -/
def cellAnyCard : Claim7 := { stood := { row := cellAnyRow, standIns := [], harness := (true, "4f396e1d14b963e642369da60c586bea4ab32b1863cbf0082d54e6225053dd77"), looks := false }, kinds := [], alts := [], laidByText := true, laidKinds := [.data], laidTests := true, laidLooks := .later }
def CellAnyCardSaid : Prop := Claim7.holds Tryd.pinned (.plain (OpenSpec.ofChange cellAnySpec)) cellAnyCard

/-- THE SECOND FORM's CARD OF 'flipbooklaw08.CellStyles'. -/
def cellStylesUptoCard : Claim7 := { stood := { row := cellStylesUptoRow, standIns := [], harness := (true, "4f396e1d14b963e642369da60c586bea4ab32b1863cbf0082d54e6225053dd77"), looks := false }, kinds := [], alts := [], laidByText := true, laidKinds := [.data], laidTests := true, laidLooks := .later }
def CellStylesUptoCardSaid : Prop := Claim7.holds Tryd.pinned (.plain (OpenSpec.upto cellStylesSpec)) cellStylesUptoCard

/-- THE SECOND FORM's CARD OF 'flipbooklaw08.CellChanges'. -/
def cellChangesUptoCard : Claim7 := { stood := { row := cellChangesUptoRow, standIns := [], harness := (true, "4f396e1d14b963e642369da60c586bea4ab32b1863cbf0082d54e6225053dd77"), looks := false }, kinds := [], alts := [], laidByText := true, laidKinds := [.data], laidTests := true, laidLooks := .later }
def CellChangesUptoCardSaid : Prop := Claim7.holds Tryd.pinned (.plain (OpenSpec.upto cellChangesSpec)) cellChangesUptoCard

/-- THE SECOND FORM's CARD OF 'flipbooklaw08.CellRights'. -/
def cellRightsUptoCard : Claim7 := { stood := { row := cellRightsUptoRow, standIns := [], harness := (true, "4f396e1d14b963e642369da60c586bea4ab32b1863cbf0082d54e6225053dd77"), looks := false }, kinds := [], alts := [], laidByText := true, laidKinds := [.data], laidTests := true, laidLooks := .later }
def CellRightsUptoCardSaid : Prop := Claim7.holds Tryd.pinned (.plain (OpenSpec.upto cellRightsSpec)) cellRightsUptoCard

/-- THE SECOND FORM's CARD OF 'flipbooklaw08.CellMends'. -/
def cellMendsUptoCard : Claim7 := { stood := { row := cellMendsUptoRow, standIns := [], harness := (true, "4f396e1d14b963e642369da60c586bea4ab32b1863cbf0082d54e6225053dd77"), looks := false }, kinds := [], alts := [], laidByText := true, laidKinds := [.data], laidTests := true, laidLooks := .later }
def CellMendsUptoCardSaid : Prop := Claim7.holds Tryd.pinned (.plain (OpenSpec.upto cellMendsSpec)) cellMendsUptoCard

/-- THE SECOND FORM's CARD OF 'flipbooklaw08.CellWholes'. -/
def cellWholesUptoCard : Claim7 := { stood := { row := cellWholesUptoRow, standIns := [], harness := (true, "4f396e1d14b963e642369da60c586bea4ab32b1863cbf0082d54e6225053dd77"), looks := false }, kinds := [], alts := [], laidByText := true, laidKinds := [.data], laidTests := true, laidLooks := .later }
def CellWholesUptoCardSaid : Prop := Claim7.holds Tryd.pinned (.plain (OpenSpec.upto cellWholesSpec)) cellWholesUptoCard

/-- THE SECOND FORM's CARD OF 'flipbooklaw08.CellLines'. -/
def cellLinesUptoCard : Claim7 := { stood := { row := cellLinesUptoRow, standIns := [], harness := (true, "4f396e1d14b963e642369da60c586bea4ab32b1863cbf0082d54e6225053dd77"), looks := false }, kinds := [], alts := [], laidByText := true, laidKinds := [.data], laidTests := true, laidLooks := .later }
def CellLinesUptoCardSaid : Prop := Claim7.holds Tryd.pinned (.plain (OpenSpec.upto cellLinesSpec)) cellLinesUptoCard

/-- THE SECOND FORM's CARD OF 'flipbooklaw08.CellAny'. -/
def cellAnyUptoCard : Claim7 := { stood := { row := cellAnyUptoRow, standIns := [], harness := (true, "4f396e1d14b963e642369da60c586bea4ab32b1863cbf0082d54e6225053dd77"), looks := false }, kinds := [], alts := [], laidByText := true, laidKinds := [.data], laidTests := true, laidLooks := .later }
def CellAnyUptoCardSaid : Prop := Claim7.holds Tryd.pinned (.plain (OpenSpec.upto cellAnySpec)) cellAnyUptoCard
end Rows
end Go.Proofs.YtalngmegenlfgaaDoor
