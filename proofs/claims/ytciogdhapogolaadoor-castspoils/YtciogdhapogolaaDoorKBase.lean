/-
  Layer 7 (glyph), for layer 8: what the table of wide runes holds, and that it lasts over whatever is made anew; Right, has, among.
-/
import Derived.Test.YtciogdhapogolaaDoorRows
import Derived.Test.YtciogdhapogolaaDoorGMath
import Derived.Test.YtciogdhapogolaaDoorVMem
import Derived.Lib.Hide
import Derived.Laws.Unary
import Derived.BigQuiet
import Derived.Deep.QuietTactic
import Derived.Deep.MidRow
namespace Go.Proofs.YtciogdhapogolaaDoor
open Go.RowKit Go.Lib

/-- A list of runes as cells. -/
def runesV (l : List Int) : List Value := l.map (Value.int .i32)
theorem below_next {w w1 w2 : World} (h : Below w.heap.size w w1) (k : Below w1.heap.size w1 w2) : Below w.heap.size w w2 := h.trans (k.mono h.size)

end Go.Proofs.YtciogdhapogolaaDoor
