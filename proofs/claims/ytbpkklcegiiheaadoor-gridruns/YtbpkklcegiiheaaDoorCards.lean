/-
  DERIVED. GIVEN WITH THE SEED: THE CARDS: each row of YtbpkklcegiiheaaDoorRows.lean that lists a variable, with what it lists TIED to the program's text (the seventh form; the later family's looks); each row that meets fmt, with fmt's text TOLD by the authors' own Lean function (tested against real Go, not proved from fmt's source: count such statements apart). THE CARD IS WHAT COUNTS. Prove the row's statement (the work); the ties are given (YtbpkklcegiiheaaDoorTie.lean); close each card by the builder's one call (the guide's Derived/Test/ToyasCard.lean, 'card_holds'). Laid BY PROGRAM, IN A SANDBOX (cutbox-door.mjs). By AI agents, Wed Nov 11 2026. No macro, syntax, notation, axiom, sorry.
-/
import Derived.Test.YtbpkklcegiiheaaDoorRows
import GoSem.ClaimSeven
namespace Go.Proofs.YtbpkklcegiiheaaDoor
namespace Rows

/-- THE TIED CARD OF 'flipbooklaw09.GridRuns'. -/
def gridRunsCard : Claim7 := { stood := { row := gridRunsRow, standIns := [], harness := (true, "f146deda77bc3999c62c82da70115e9c71b62d2033ceffcf0b29ca91f6fa214a"), looks := false }, kinds := [], alts := [], laidByText := true, laidKinds := [.data, .data, .pinned], laidTests := true, laidLooks := .later }
def GridRunsCardSaid : Prop := Claim7.holds Tryd.pinned (.plain (OpenSpec.ofChange gridRunsSpec)) gridRunsCard

/-- THE TIED CARD OF 'flipbooklaw09.GridWholes'. -/
def gridWholesCard : Claim7 := { stood := { row := gridWholesRow, standIns := [], harness := (true, "f146deda77bc3999c62c82da70115e9c71b62d2033ceffcf0b29ca91f6fa214a"), looks := false }, kinds := [], alts := [], laidByText := true, laidKinds := [.data, .data, .pinned], laidTests := true, laidLooks := .later }
def GridWholesCardSaid : Prop := Claim7.holds Tryd.pinned (.plain (OpenSpec.ofChange gridWholesSpec)) gridWholesCard

/-- THE TIED CARD OF 'flipbooklaw09.GridLines'. -/
def gridLinesCard : Claim7 := { stood := { row := gridLinesRow, standIns := [], harness := (true, "f146deda77bc3999c62c82da70115e9c71b62d2033ceffcf0b29ca91f6fa214a"), looks := false }, kinds := [], alts := [], laidByText := true, laidKinds := [.data, .data, .pinned], laidTests := true, laidLooks := .later }
def GridLinesCardSaid : Prop := Claim7.holds Tryd.pinned (.plain (OpenSpec.ofChange gridLinesSpec)) gridLinesCard

/-- THE TIED CARD OF 'flipbooklaw09.GridSizes'. -/
def gridSizesCard : Claim7 := { stood := { row := gridSizesRow, standIns := [], harness := (true, "f146deda77bc3999c62c82da70115e9c71b62d2033ceffcf0b29ca91f6fa214a"), looks := false }, kinds := [], alts := [], laidByText := true, laidKinds := [.data, .data, .pinned], laidTests := true, laidLooks := .later }
def GridSizesCardSaid : Prop := Claim7.holds Tryd.pinned (.plain (OpenSpec.ofChange gridSizesSpec)) gridSizesCard

/-- THE TIED CARD OF 'flipbooklaw09.GridCopies'. -/
def gridCopiesCard : Claim7 := { stood := { row := gridCopiesRow, standIns := [], harness := (true, "f146deda77bc3999c62c82da70115e9c71b62d2033ceffcf0b29ca91f6fa214a"), looks := false }, kinds := [], alts := [], laidByText := true, laidKinds := [.data, .data, .pinned], laidTests := true, laidLooks := .later }
def GridCopiesCardSaid : Prop := Claim7.holds Tryd.pinned (.plain (OpenSpec.ofChange gridCopiesSpec)) gridCopiesCard

/-- THE TIED CARD OF 'flipbooklaw09.GridTexts'. -/
def gridTextsCard : Claim7 := { stood := { row := gridTextsRow, standIns := [], harness := (true, "f146deda77bc3999c62c82da70115e9c71b62d2033ceffcf0b29ca91f6fa214a"), looks := false }, kinds := [], alts := [], laidByText := true, laidKinds := [.data, .data, .pinned], laidTests := true, laidLooks := .later }
def GridTextsCardSaid : Prop := Claim7.holds Tryd.pinned (.plain (OpenSpec.ofChange gridTextsSpec)) gridTextsCard

/-- THE TIED CARD OF 'flipbooklaw09.GridFits'. -/
def gridFitsCard : Claim7 := { stood := { row := gridFitsRow, standIns := [], harness := (true, "f146deda77bc3999c62c82da70115e9c71b62d2033ceffcf0b29ca91f6fa214a"), looks := false }, kinds := [], alts := [], laidByText := true, laidKinds := [.data, .data, .pinned], laidTests := true, laidLooks := .later }
def GridFitsCardSaid : Prop := Claim7.holds Tryd.pinned (.plain (OpenSpec.ofChange gridFitsSpec)) gridFitsCard

/-- THE SECOND FORM's CARD OF 'flipbooklaw09.GridRuns'. -/
def gridRunsUptoCard : Claim7 := { stood := { row := gridRunsUptoRow, standIns := [], harness := (true, "f146deda77bc3999c62c82da70115e9c71b62d2033ceffcf0b29ca91f6fa214a"), looks := false }, kinds := [], alts := [], laidByText := true, laidKinds := [.data, .data, .pinned], laidTests := true, laidLooks := .later }
def GridRunsUptoCardSaid : Prop := Claim7.holds Tryd.pinned (.plain (OpenSpec.upto gridRunsSpec)) gridRunsUptoCard

/-- THE SECOND FORM's CARD OF 'flipbooklaw09.GridWholes'. -/
def gridWholesUptoCard : Claim7 := { stood := { row := gridWholesUptoRow, standIns := [], harness := (true, "f146deda77bc3999c62c82da70115e9c71b62d2033ceffcf0b29ca91f6fa214a"), looks := false }, kinds := [], alts := [], laidByText := true, laidKinds := [.data, .data, .pinned], laidTests := true, laidLooks := .later }
def GridWholesUptoCardSaid : Prop := Claim7.holds Tryd.pinned (.plain (OpenSpec.upto gridWholesSpec)) gridWholesUptoCard

/-- THE SECOND FORM's CARD OF 'flipbooklaw09.GridLines'. -/
def gridLinesUptoCard : Claim7 := { stood := { row := gridLinesUptoRow, standIns := [], harness := (true, "f146deda77bc3999c62c82da70115e9c71b62d2033ceffcf0b29ca91f6fa214a"), looks := false }, kinds := [], alts := [], laidByText := true, laidKinds := [.data, .data, .pinned], laidTests := true, laidLooks := .later }
def GridLinesUptoCardSaid : Prop := Claim7.holds Tryd.pinned (.plain (OpenSpec.upto gridLinesSpec)) gridLinesUptoCard

/-- THE SECOND FORM's CARD OF 'flipbooklaw09.GridSizes'. -/
def gridSizesUptoCard : Claim7 := { stood := { row := gridSizesUptoRow, standIns := [], harness := (true, "f146deda77bc3999c62c82da70115e9c71b62d2033ceffcf0b29ca91f6fa214a"), looks := false }, kinds := [], alts := [], laidByText := true, laidKinds := [.data, .data, .pinned], laidTests := true, laidLooks := .later }
def GridSizesUptoCardSaid : Prop := Claim7.holds Tryd.pinned (.plain (OpenSpec.upto gridSizesSpec)) gridSizesUptoCard

/-- THE SECOND FORM's CARD OF 'flipbooklaw09.GridCopies'. -/
def gridCopiesUptoCard : Claim7 := { stood := { row := gridCopiesUptoRow, standIns := [], harness := (true, "f146deda77bc3999c62c82da70115e9c71b62d2033ceffcf0b29ca91f6fa214a"), looks := false }, kinds := [], alts := [], laidByText := true, laidKinds := [.data, .data, .pinned], laidTests := true, laidLooks := .later }
def GridCopiesUptoCardSaid : Prop := Claim7.holds Tryd.pinned (.plain (OpenSpec.upto gridCopiesSpec)) gridCopiesUptoCard

/-- THE SECOND FORM's CARD OF 'flipbooklaw09.GridTexts'. -/
def gridTextsUptoCard : Claim7 := { stood := { row := gridTextsUptoRow, standIns := [], harness := (true, "f146deda77bc3999c62c82da70115e9c71b62d2033ceffcf0b29ca91f6fa214a"), looks := false }, kinds := [], alts := [], laidByText := true, laidKinds := [.data, .data, .pinned], laidTests := true, laidLooks := .later }
def GridTextsUptoCardSaid : Prop := Claim7.holds Tryd.pinned (.plain (OpenSpec.upto gridTextsSpec)) gridTextsUptoCard

/-- THE SECOND FORM's CARD OF 'flipbooklaw09.GridFits'. -/
def gridFitsUptoCard : Claim7 := { stood := { row := gridFitsUptoRow, standIns := [], harness := (true, "f146deda77bc3999c62c82da70115e9c71b62d2033ceffcf0b29ca91f6fa214a"), looks := false }, kinds := [], alts := [], laidByText := true, laidKinds := [.data, .data, .pinned], laidTests := true, laidLooks := .later }
def GridFitsUptoCardSaid : Prop := Claim7.holds Tryd.pinned (.plain (OpenSpec.upto gridFitsSpec)) gridFitsUptoCard
end Rows
end Go.Proofs.YtbpkklcegiiheaaDoor
