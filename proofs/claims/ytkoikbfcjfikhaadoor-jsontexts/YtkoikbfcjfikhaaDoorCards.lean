/-
  DERIVED. GIVEN WITH THE SEED: THE CARDS: each row of YtkoikbfcjfikhaaDoorRows.lean that lists a variable, with what it lists TIED to the program's text (the seventh form; the later family's looks); each row that meets fmt, with fmt's text TOLD by the authors' own Lean function (tested against real Go, not proved from fmt's source: count such statements apart). THE CARD IS WHAT COUNTS. Prove the row's statement (the work); the ties are given (YtkoikbfcjfikhaaDoorTie.lean); close each card by the builder's one call (the guide's Derived/Test/ToyasCard.lean, 'card_holds'). Laid BY PROGRAM, IN A SANDBOX (cutbox-door.mjs). By AI agents, Wed Nov 11 2026. No macro, syntax, notation, axiom, sorry.
-/
import Derived.Test.YtkoikbfcjfikhaaDoorRows
import GoSem.ClaimSeven
namespace Go.Proofs.YtkoikbfcjfikhaaDoor
namespace Rows

/-- THE TIED CARD OF 'flipbooklaw03.JsonTexts'. -/
def jsonTextsCard : Claim7 := { stood := { row := jsonTextsRow, standIns := [], harness := (true, "518afc5a4cbc902fedd85f4960ddb05f9a8aa4cc383e4590f5e473686b2a73c1"), looks := true }, kinds := [], alts := [], laidByText := true, laidKinds := [.data, .data, .data, .data, .sentinel, .sentinel, .pinned], laidTests := true, laidLooks := .later }
def JsonTextsCardSaid : Prop := Claim7.holds Tryd.pinned (.plain (OpenSpec.ofChange jsonTextsSpec)) jsonTextsCard

/-- THE TIED CARD OF 'flipbooklaw03.JsonAny'. -/
def jsonAnyCard : Claim7 := { stood := { row := jsonAnyRow, standIns := [], harness := (true, "518afc5a4cbc902fedd85f4960ddb05f9a8aa4cc383e4590f5e473686b2a73c1"), looks := true }, kinds := [], alts := [], laidByText := true, laidKinds := [.data, .data, .data, .data, .sentinel, .sentinel, .pinned], laidTests := true, laidLooks := .later }
def JsonAnyCardSaid : Prop := Claim7.holds Tryd.pinned (.plain (OpenSpec.ofChange jsonAnySpec)) jsonAnyCard

/-- THE TIED CARD OF 'flipbooklaw03.JsonSigns'. -/
def jsonSignsCard : Claim7 := { stood := { row := jsonSignsRow, standIns := [], harness := (true, "518afc5a4cbc902fedd85f4960ddb05f9a8aa4cc383e4590f5e473686b2a73c1"), looks := true }, kinds := [], alts := [], laidByText := true, laidKinds := [.data, .data, .data], laidTests := true, laidLooks := .later }
def JsonSignsCardSaid : Prop := Claim7.holds Tryd.pinned (.plain (OpenSpec.ofChange jsonSignsSpec)) jsonSignsCard

/-- THE TIED CARD OF 'flipbooklaw03.JsonTimes'. -/
def jsonTimesCard : Claim7 := { stood := { row := jsonTimesRow, standIns := [], harness := (true, "518afc5a4cbc902fedd85f4960ddb05f9a8aa4cc383e4590f5e473686b2a73c1"), looks := true }, kinds := [], alts := [], laidByText := true, laidKinds := [.data, .data, .data, .sentinel, .sentinel], laidTests := true, laidLooks := .later }
def JsonTimesCardSaid : Prop := Claim7.holds Tryd.pinned (.plain (OpenSpec.ofChange jsonTimesSpec)) jsonTimesCard

/-- THE TIED CARD OF 'flipbooklaw03.JsonUntimes'. -/
def jsonUntimesCard : Claim7 := { stood := { row := jsonUntimesRow, standIns := [], harness := (true, "518afc5a4cbc902fedd85f4960ddb05f9a8aa4cc383e4590f5e473686b2a73c1"), looks := true }, kinds := [], alts := [], laidByText := true, laidKinds := [.data, .data, .data, .sentinel, .sentinel], laidTests := true, laidLooks := .later }
def JsonUntimesCardSaid : Prop := Claim7.holds Tryd.pinned (.plain (OpenSpec.ofChange jsonUntimesSpec)) jsonUntimesCard

/-- THE TIED CARD OF 'flipbooklaw03.JsonNumbers'. -/
def jsonNumbersCard : Claim7 := { stood := { row := jsonNumbersRow, standIns := [], harness := (true, "518afc5a4cbc902fedd85f4960ddb05f9a8aa4cc383e4590f5e473686b2a73c1"), looks := true }, kinds := [], alts := [], laidByText := true, laidKinds := [.data, .data, .data, .sentinel, .sentinel], laidTests := true, laidLooks := .later }
def JsonNumbersCardSaid : Prop := Claim7.holds Tryd.pinned (.plain (OpenSpec.ofChange jsonNumbersSpec)) jsonNumbersCard

/-- THE SECOND FORM's CARD OF 'flipbooklaw03.JsonTexts'. -/
def jsonTextsUptoCard : Claim7 := { stood := { row := jsonTextsUptoRow, standIns := [], harness := (true, "518afc5a4cbc902fedd85f4960ddb05f9a8aa4cc383e4590f5e473686b2a73c1"), looks := true }, kinds := [], alts := [], laidByText := true, laidKinds := [.data, .data, .data, .data, .sentinel, .sentinel, .pinned], laidTests := true, laidLooks := .later }
def JsonTextsUptoCardSaid : Prop := Claim7.holds Tryd.pinned (.plain (OpenSpec.upto jsonTextsSpec)) jsonTextsUptoCard

/-- THE SECOND FORM's CARD OF 'flipbooklaw03.JsonAny'. -/
def jsonAnyUptoCard : Claim7 := { stood := { row := jsonAnyUptoRow, standIns := [], harness := (true, "518afc5a4cbc902fedd85f4960ddb05f9a8aa4cc383e4590f5e473686b2a73c1"), looks := true }, kinds := [], alts := [], laidByText := true, laidKinds := [.data, .data, .data, .data, .sentinel, .sentinel, .pinned], laidTests := true, laidLooks := .later }
def JsonAnyUptoCardSaid : Prop := Claim7.holds Tryd.pinned (.plain (OpenSpec.upto jsonAnySpec)) jsonAnyUptoCard

/-- THE SECOND FORM's CARD OF 'flipbooklaw03.JsonSigns'. -/
def jsonSignsUptoCard : Claim7 := { stood := { row := jsonSignsUptoRow, standIns := [], harness := (true, "518afc5a4cbc902fedd85f4960ddb05f9a8aa4cc383e4590f5e473686b2a73c1"), looks := true }, kinds := [], alts := [], laidByText := true, laidKinds := [.data, .data, .data], laidTests := true, laidLooks := .later }
def JsonSignsUptoCardSaid : Prop := Claim7.holds Tryd.pinned (.plain (OpenSpec.upto jsonSignsSpec)) jsonSignsUptoCard

/-- THE SECOND FORM's CARD OF 'flipbooklaw03.JsonTimes'. -/
def jsonTimesUptoCard : Claim7 := { stood := { row := jsonTimesUptoRow, standIns := [], harness := (true, "518afc5a4cbc902fedd85f4960ddb05f9a8aa4cc383e4590f5e473686b2a73c1"), looks := true }, kinds := [], alts := [], laidByText := true, laidKinds := [.data, .data, .data, .sentinel, .sentinel], laidTests := true, laidLooks := .later }
def JsonTimesUptoCardSaid : Prop := Claim7.holds Tryd.pinned (.plain (OpenSpec.upto jsonTimesSpec)) jsonTimesUptoCard

/-- THE SECOND FORM's CARD OF 'flipbooklaw03.JsonUntimes'. -/
def jsonUntimesUptoCard : Claim7 := { stood := { row := jsonUntimesUptoRow, standIns := [], harness := (true, "518afc5a4cbc902fedd85f4960ddb05f9a8aa4cc383e4590f5e473686b2a73c1"), looks := true }, kinds := [], alts := [], laidByText := true, laidKinds := [.data, .data, .data, .sentinel, .sentinel], laidTests := true, laidLooks := .later }
def JsonUntimesUptoCardSaid : Prop := Claim7.holds Tryd.pinned (.plain (OpenSpec.upto jsonUntimesSpec)) jsonUntimesUptoCard

/-- THE SECOND FORM's CARD OF 'flipbooklaw03.JsonNumbers'. -/
def jsonNumbersUptoCard : Claim7 := { stood := { row := jsonNumbersUptoRow, standIns := [], harness := (true, "518afc5a4cbc902fedd85f4960ddb05f9a8aa4cc383e4590f5e473686b2a73c1"), looks := true }, kinds := [], alts := [], laidByText := true, laidKinds := [.data, .data, .data, .sentinel, .sentinel], laidTests := true, laidLooks := .later }
def JsonNumbersUptoCardSaid : Prop := Claim7.holds Tryd.pinned (.plain (OpenSpec.upto jsonNumbersSpec)) jsonNumbersUptoCard
end Rows
end Go.Proofs.YtkoikbfcjfikhaaDoor
