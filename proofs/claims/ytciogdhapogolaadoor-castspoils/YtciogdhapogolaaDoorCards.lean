/-
  DERIVED. GIVEN WITH THE SEED: THE CARDS: each row of YtciogdhapogolaaDoorRows.lean that lists a variable, with what it lists TIED to the program's text (the seventh form; the later family's looks); each row that meets fmt, with fmt's text TOLD by the authors' own Lean function (tested against real Go, not proved from fmt's source: count such statements apart). THE CARD IS WHAT COUNTS. Prove the row's statement (the work); the ties are given (YtciogdhapogolaaDoorTie.lean); close each card by the builder's one call (the guide's Derived/Test/ToyasCard.lean, 'card_holds'). Laid BY PROGRAM, IN A SANDBOX (cutbox-door.mjs). By AI agents, Wed Nov 11 2026. No macro, syntax, notation, axiom, sorry.
-/
import Derived.Test.YtciogdhapogolaaDoorRows
import GoSem.ClaimSeven
namespace Go.Proofs.YtciogdhapogolaaDoor
namespace Rows

/-- THE TIED CARD OF 'flipbooklaw17.CastBack'. -/
def castBackCard : Claim7 := { stood := { row := castBackRow, standIns := [], harness := (true, "c6e7e47a1f1e57c57a0815cad320a6b635bbc7f44d9a19289eecbaf634c8865e"), looks := true }, kinds := [], alts := [], laidByText := true, laidKinds := [.data, .data, .data, .data, .sentinel, .sentinel, .data, .pinned], laidTests := true, laidLooks := .later }
def CastBackCardSaid : Prop := Claim7.holds Tryd.pinned (.plain (OpenSpec.ofChange castBackSpec)) castBackCard

/-- THE TIED CARD OF 'flipbooklaw17.CastWrites'. -/
def castWritesCard : Claim7 := { stood := { row := castWritesRow, standIns := [], harness := (true, "c6e7e47a1f1e57c57a0815cad320a6b635bbc7f44d9a19289eecbaf634c8865e"), looks := true }, kinds := [], alts := [], laidByText := true, laidKinds := [.data, .data, .data, .data], laidTests := true, laidLooks := .later }
def CastWritesCardSaid : Prop := Claim7.holds Tryd.pinned (.plain (OpenSpec.ofChange castWritesSpec)) castWritesCard

/-- THE TIED CARD OF 'flipbooklaw17.CastAny'. -/
def castAnyCard : Claim7 := { stood := { row := castAnyRow, standIns := [], harness := (true, "c6e7e47a1f1e57c57a0815cad320a6b635bbc7f44d9a19289eecbaf634c8865e"), looks := true }, kinds := [], alts := [], laidByText := true, laidKinds := [.data, .data, .data, .data, .sentinel, .sentinel, .data, .pinned], laidTests := true, laidLooks := .later }
def CastAnyCardSaid : Prop := Claim7.holds Tryd.pinned (.plain (OpenSpec.ofChange castAnySpec)) castAnyCard

/-- THE TIED CARD OF 'flipbooklaw17.CastSpoils'. -/
def castSpoilsCard : Claim7 := { stood := { row := castSpoilsRow, standIns := [], harness := (true, "c6e7e47a1f1e57c57a0815cad320a6b635bbc7f44d9a19289eecbaf634c8865e"), looks := true }, kinds := [], alts := [], laidByText := true, laidKinds := [.data, .data, .data, .data, .sentinel, .sentinel, .data, .pinned], laidTests := true, laidLooks := .later }
def CastSpoilsCardSaid : Prop := Claim7.holds Tryd.pinned (.plain (OpenSpec.ofChange castSpoilsSpec)) castSpoilsCard

/-- THE TIED CARD OF 'flipbooklaw17.CastLines'. -/
def castLinesCard : Claim7 := { stood := { row := castLinesRow, standIns := [], harness := (true, "c6e7e47a1f1e57c57a0815cad320a6b635bbc7f44d9a19289eecbaf634c8865e"), looks := true }, kinds := [], alts := [], laidByText := true, laidKinds := [.data, .data, .data, .data], laidTests := true, laidLooks := .later }
def CastLinesCardSaid : Prop := Claim7.holds Tryd.pinned (.plain (OpenSpec.ofChange castLinesSpec)) castLinesCard

/-- THE SECOND FORM's CARD OF 'flipbooklaw17.CastBack'. -/
def castBackUptoCard : Claim7 := { stood := { row := castBackUptoRow, standIns := [], harness := (true, "c6e7e47a1f1e57c57a0815cad320a6b635bbc7f44d9a19289eecbaf634c8865e"), looks := true }, kinds := [], alts := [], laidByText := true, laidKinds := [.data, .data, .data, .data, .sentinel, .sentinel, .data, .pinned], laidTests := true, laidLooks := .later }
def CastBackUptoCardSaid : Prop := Claim7.holds Tryd.pinned (.plain (OpenSpec.upto castBackSpec)) castBackUptoCard

/-- THE SECOND FORM's CARD OF 'flipbooklaw17.CastWrites'. -/
def castWritesUptoCard : Claim7 := { stood := { row := castWritesUptoRow, standIns := [], harness := (true, "c6e7e47a1f1e57c57a0815cad320a6b635bbc7f44d9a19289eecbaf634c8865e"), looks := true }, kinds := [], alts := [], laidByText := true, laidKinds := [.data, .data, .data, .data], laidTests := true, laidLooks := .later }
def CastWritesUptoCardSaid : Prop := Claim7.holds Tryd.pinned (.plain (OpenSpec.upto castWritesSpec)) castWritesUptoCard

/-- THE SECOND FORM's CARD OF 'flipbooklaw17.CastAny'. -/
def castAnyUptoCard : Claim7 := { stood := { row := castAnyUptoRow, standIns := [], harness := (true, "c6e7e47a1f1e57c57a0815cad320a6b635bbc7f44d9a19289eecbaf634c8865e"), looks := true }, kinds := [], alts := [], laidByText := true, laidKinds := [.data, .data, .data, .data, .sentinel, .sentinel, .data, .pinned], laidTests := true, laidLooks := .later }
def CastAnyUptoCardSaid : Prop := Claim7.holds Tryd.pinned (.plain (OpenSpec.upto castAnySpec)) castAnyUptoCard

/-- THE SECOND FORM's CARD OF 'flipbooklaw17.CastSpoils'. -/
def castSpoilsUptoCard : Claim7 := { stood := { row := castSpoilsUptoRow, standIns := [], harness := (true, "c6e7e47a1f1e57c57a0815cad320a6b635bbc7f44d9a19289eecbaf634c8865e"), looks := true }, kinds := [], alts := [], laidByText := true, laidKinds := [.data, .data, .data, .data, .sentinel, .sentinel, .data, .pinned], laidTests := true, laidLooks := .later }
def CastSpoilsUptoCardSaid : Prop := Claim7.holds Tryd.pinned (.plain (OpenSpec.upto castSpoilsSpec)) castSpoilsUptoCard

/-- THE SECOND FORM's CARD OF 'flipbooklaw17.CastLines'. -/
def castLinesUptoCard : Claim7 := { stood := { row := castLinesUptoRow, standIns := [], harness := (true, "c6e7e47a1f1e57c57a0815cad320a6b635bbc7f44d9a19289eecbaf634c8865e"), looks := true }, kinds := [], alts := [], laidByText := true, laidKinds := [.data, .data, .data, .data], laidTests := true, laidLooks := .later }
def CastLinesUptoCardSaid : Prop := Claim7.holds Tryd.pinned (.plain (OpenSpec.upto castLinesSpec)) castLinesUptoCard
end Rows
end Go.Proofs.YtciogdhapogolaaDoor
