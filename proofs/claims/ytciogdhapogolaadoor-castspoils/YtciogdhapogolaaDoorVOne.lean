/-
  Layer 1 (vary): Put of one number, laid in a new block.
-/
import Derived.Test.YtciogdhapogolaaDoorVPut
namespace Go.Proofs.YtciogdhapogolaaDoor
open Go.RowKit

/-- A new block of numbers, as the row that a slice over it reads. -/
theorem row_new (w : World) (k : IntKind) (x : Nat) (t : TypeId) : Row (w.alloc (.cells #[.int k (x : Int)] t)) (w.heap.size + 1) k (some ⟨w.heap.size, 0, none⟩) [x] := fun _ => by
  refine ⟨w.heap.size, 0, rfl, by omega, fun j hj => ?_⟩
  obtain rfl : j = 0 := by simp at hj; omega
  simp

/-- Some slice that reads as these bytes; below 'base' the world is as w0 was. -/
def BytesPost (base : Nat) (w0 : World) (l : List Nat) (e : Ending) (w' : World) : Prop :=
  ∃ A c, e = .returned (.slice A l.length c) ∧ l.length ≤ c ∧ c ≤ maxLen ∧ (A = none → c = 0) ∧ Row w' w'.heap.size .u8 A l ∧ Below base w0 w'

end Go.Proofs.YtciogdhapogolaaDoor
