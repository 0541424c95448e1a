/-
  Layer 1 (vary): what putOne and Put answer, behind bytes that the call's own row holds.
-/
import Derived.Test.YtdbnpdbnjipjiaaVMath
import Derived.Test.YtdbnpdbnjipjiaaVGrow
namespace Go.Proofs.Ytdbnpdbnjipjiaa
open Go.RowKit

end Go.Proofs.Ytdbnpdbnjipjiaa
