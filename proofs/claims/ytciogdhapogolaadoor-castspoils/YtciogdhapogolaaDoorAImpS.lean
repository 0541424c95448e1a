/-
  Layer 17 (cast): what Import answers, as a statement (AImp proves it of the program).
-/
import Derived.Test.YtciogdhapogolaaDoorAText
import Derived.Test.YtciogdhapogolaaDoorASign
import Derived.Test.YtciogdhapogolaaDoorJNum
set_option linter.unusedVariables false
namespace Go.Proofs.YtciogdhapogolaaDoor
open Go.RowKit Go.Lib EM

/-- What Import answers. -/
def ImpPost (w : World) (o : Option (Nat × Nat × List Ev)) (e : Ending) (w' : World) : Prop :=
  match o with
  | some p => ∃ A c, e = .returned (.tuple #[.int .i64 (p.1 : Int), .int .i64 (p.2.1 : Int), .slice A p.2.2.length c, .int .i64 0]) ∧ (A = none → c = 0) ∧ evE.Row w' w'.heap.size A p.2.2 ∧ Below w.heap.size w w'
  | none => ∃ A c, e = .returned (.tuple #[.int .i64 0, .int .i64 0, .slice A 0 c, .int .i64 1]) ∧ Below w.heap.size w w'
def ImpSpec : Prop := ∀ (s : List UInt8) (w : World), s.length ≤ 1000000 → Fms w → Num w → Utf w → Calls Tryd.prog 11 #[.string (tx s)] w (ImpPost w (AM.imp s))
theorem ImpSpec.some (h : ImpSpec) {s : List UInt8} {w : World} {x y : Nat} {l : List Ev} (hs : s.length ≤ 1000000) (hF : Fms w) (hN : Num w) (hU : Utf w) (he : AM.imp s = .some (x, y, l)) :
    Calls Tryd.prog 11 #[.string (tx s)] w fun e w' => ∃ A c, e = .returned (.tuple #[.int .i64 (x : Int), .int .i64 (y : Int), .slice A l.length c, .int .i64 0]) ∧ (A = none → c = 0) ∧ evE.Row w' w'.heap.size A l ∧ Below w.heap.size w w' := by
  have := h s w hs hF hN hU
  rw [he] at this
  exact this
theorem ImpSpec.none (h : ImpSpec) {s : List UInt8} {w : World} (hs : s.length ≤ 1000000) (hF : Fms w) (hN : Num w) (hU : Utf w) (he : AM.imp s = .none) :
    Calls Tryd.prog 11 #[.string (tx s)] w fun e w' => ∃ A c, e = .returned (.tuple #[.int .i64 0, .int .i64 0, .slice A 0 c, .int .i64 1]) ∧ Below w.heap.size w w' := by
  have := h s w hs hF hN hU
  rw [he] at this
  exact this
end Go.Proofs.YtciogdhapogolaaDoor
