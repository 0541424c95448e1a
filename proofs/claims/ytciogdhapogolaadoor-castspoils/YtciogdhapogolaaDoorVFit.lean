/-
  Layer 1 (vary): the anchor 'fit' of the statements answers true.
-/
import Derived.Test.YtciogdhapogolaaDoorVSign
import Derived.Test.YtciogdhapogolaaDoorVTake
import Derived.Test.YtciogdhapogolaaDoorVOne
namespace Go.Proofs.YtciogdhapogolaaDoor
open Go.RowKit

theorem enc_300 : VM.enc 300 = [172, 2] := by rw [VM.enc_ge (by omega), VM.enc_lt (by omega)]
theorem take_300 : VM.take [172, 2] = (300, 2) := by decide

end Go.Proofs.YtciogdhapogolaaDoor
