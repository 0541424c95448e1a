/-
  Layer 1 (vary): what putOne and Put answer, behind bytes that the call's own row holds.
-/
import Derived.Test.YtciogdhapogolaaDoorVMath
import Derived.Test.YtciogdhapogolaaDoorVGrow
namespace Go.Proofs.YtciogdhapogolaaDoor
open Go.RowKit

end Go.Proofs.YtciogdhapogolaaDoor
