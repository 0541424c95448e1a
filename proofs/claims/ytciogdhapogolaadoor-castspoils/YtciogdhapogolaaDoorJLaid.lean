/-
  Layer 3 (json): what the library's own variables hold (two tables of strconv and math/bits, two errors of strconv, two tables of unicode/utf8), and that it lasts over whatever is made anew.
-/
import Derived.Test.YtciogdhapogolaaDoorShelf
import Derived.Test.YtciogdhapogolaaDoorRows
import Derived.Below
import Derived.Lib.Hide
import Derived.Lib.LaidU8T
import Derived.Stop.LaidErr
namespace Go.Proofs.YtciogdhapogolaaDoor
open Go.RowKit

/-- Behind a call that made things anew, and another one. -/
theorem jbelow_next {w w1 w2 : World} (h : Below w.heap.size w w1) (k : Below w1.heap.size w1 w2) : Below w.heap.size w w2 := h.trans (k.mono h.size)
theorem below_at {B : Nat} {w w1 w2 : World} (h : Below B w w1) (hB : B ≤ w1.heap.size) (k : Below w1.heap.size w1 w2) : Below B w w2 := h.trans (k.mono hB)

theorem var_on {w w' : World} {n : String} {cs : Array Value} (h : w.var? Tryd.prog n = some cs) (b : Below w.heap.size w w') : w'.var? Tryd.prog n = some cs := by
  unfold World.var? at h ⊢
  cases hg : Tryd.prog.globalNamed n with
  | none => simp [hg] at h
  | some g =>
    simp only [hg, Option.bind_some] at h ⊢
    have hlt : g < w.heap.size := by
      rcases Nat.lt_or_ge g w.heap.size with h' | h'
      · exact h'
      · simp [Array.getElem?_eq_none h'] at h
    rw [b.block g hlt]
    exact h

/-- math/bits' table for the lowest bit of a number. -/
def bruijn : List Int := [0, 1, 56, 2, 57, 49, 28, 3, 61, 58, 42, 50, 38, 29, 17, 4, 62, 47, 59, 36, 45, 43, 51, 22, 53, 39, 33, 30, 24, 18, 12, 5, 63, 55, 48, 27, 60, 41, 37, 16, 46, 35, 44, 21, 52, 32, 23, 11, 54, 26, 40, 15, 34, 20, 31, 10, 25, 14, 19, 9, 13, 8, 7, 6]

/-- What writing numbers reads. -/
structure Fmt (w : World) : Prop where
  pow : Lib.TabIs Tryd.prog w "internal/strconv.uint64pow10" .u64 Lib.pow10Tab
  low : Lib.TabIs Tryd.prog w "math/bits.deBruijn64tab" .u8 bruijn
theorem Fmt.on {w w' : World} (h : Fmt w) (b : Below w.heap.size w w') : Fmt w' := ⟨var_on h.pow b, var_on h.low b⟩
/-- What reading numbers reads. -/
structure Num (w : World) : Prop where
  syn : ∃ tp p, w.var? Tryd.prog "strconv.ErrSyntax" = some #[.iface tp p]
  rng : ∃ tp p, w.var? Tryd.prog "strconv.ErrRange" = some #[.iface tp p]
theorem Num.on {w w' : World} (h : Num w) (b : Below w.heap.size w w') : Num w' := by
  obtain ⟨tp, p, h1⟩ := h.syn
  obtain ⟨tq, q, h2⟩ := h.rng
  exact ⟨⟨tp, p, var_on h1 b⟩, ⟨tq, q, var_on h2 b⟩⟩
/-- What reading runes reads. -/
structure Utf (w : World) : Prop where
  tabs : Lib.Utf8Tabs 4 5 w
  room : 4 < w.heap.size ∧ 5 < w.heap.size
theorem Utf.on {w w' : World} (h : Utf w) (b : Below w.heap.size w w') : Utf w' := by
  obtain ⟨⟨h1, h2⟩, h3, h4⟩ := h
  refine ⟨⟨fun c hc => ?_, fun i hi => ?_⟩, Nat.lt_of_lt_of_le h3 b.size, Nat.lt_of_lt_of_le h4 b.size⟩
  · rw [b.cell (p := ⟨4, c, none⟩) (by show 4 < _; omega)]; exact h1 c hc
  · obtain ⟨k1, k2⟩ := h2 i hi
    refine ⟨?_, ?_⟩
    · rw [b.cell (by show 5 < _; omega)]; exact k1
    · rw [b.cell (by show 5 < _; omega)]; exact k2
end Go.Proofs.YtciogdhapogolaaDoor
