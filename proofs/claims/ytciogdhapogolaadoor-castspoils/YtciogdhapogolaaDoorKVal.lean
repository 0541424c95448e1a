/-
  Layer 8 (cell): styles, cells and runs as values of the program; two of them held against one another.
-/
import Derived.Test.YtciogdhapogolaaDoorKBase
import Derived.Test.YtciogdhapogolaaDoorKMath
import Derived.Laws.StructEq
import Derived.Outline
namespace Go.Proofs.YtciogdhapogolaaDoor
open Go.RowKit Go.Lib KM

/-- A style's cells, and a cell's, and a run's. -/
def styL (s : Sty) : List Value := [.bool s.bold, .bool s.under, .bool s.turned, .int .i64 s.fore, .int .i64 s.back]
def celL (c : Cel) : List Value := [.int .i32 c.rune, .bool c.sty.bold, .bool c.sty.under, .bool c.sty.turned, .int .i64 c.sty.fore, .int .i64 c.sty.back]
def runL (x : Nat × Cel) : List Value := [.int .i64 (x.1 : Int), .int .i32 x.2.rune, .bool x.2.sty.bold, .bool x.2.sty.under, .bool x.2.sty.turned, .int .i64 x.2.sty.fore, .int .i64 x.2.sty.back]
/-- .. as values. -/
def styV (s : Sty) : Value := .agg #[.bool s.bold, .bool s.under, .bool s.turned, .int .i64 s.fore, .int .i64 s.back]
def celV (c : Cel) : Value := .agg #[.int .i32 c.rune, .bool c.sty.bold, .bool c.sty.under, .bool c.sty.turned, .int .i64 c.sty.fore, .int .i64 c.sty.back]
def runV (x : Nat × Cel) : Value := .agg #[.int .i64 (x.1 : Int), .int .i32 x.2.rune, .bool x.2.sty.bold, .bool x.2.sty.under, .bool x.2.sty.turned, .int .i64 x.2.sty.fore, .int .i64 x.2.sty.back]

theorem eqF_cons {P : Program} {w : World} {d : Nat} {xs ys : Array Value} {f : Field} {fs : List Field} {ty : TypeId} {off : Nat} {a b : Value} {r : Bool} (hf : (f.name != "_", f.type, f.offset) = (true, ty, off))
    (pa : (part ty xs off).run P w = .ok a w) (pb : (part ty ys off).run P w = .ok b w) (he : (Op.equalIn d ty a b).run P w = .ok r w) :
    (Op.eqFields d xs ys (f :: fs)).run P w = if r = true then (Op.eqFields d xs ys fs).run P w else .ok false w := by
  simp only [Prod.mk.injEq] at hf
  obtain ⟨h1, h2, h3⟩ := hf
  have h1' : f.name ≠ "_" := by simpa using h1
  rw [Op.eqFields, if_pos h1', h2, h3]
  simp only [Sem.run_bind, pa, pb, he, Result.andThen_ok]
  cases r
  · simp
  · simp
theorem list5 {α β : Type} {g : α → β} {L : List α} {a b c d e : β} (h : L.map g = [a, b, c, d, e]) : ∃ x0 x1 x2 x3 x4, L = [x0, x1, x2, x3, x4] ∧ g x0 = a ∧ g x1 = b ∧ g x2 = c ∧ g x3 = d ∧ g x4 = e := by
  rcases L with _ | ⟨x0, _ | ⟨x1, _ | ⟨x2, _ | ⟨x3, _ | ⟨x4, _ | ⟨x5, t⟩⟩⟩⟩⟩⟩ <;> simp at h
  exact ⟨x0, x1, x2, x3, x4, rfl, h.1, h.2.1, h.2.2.1, h.2.2.2.1, h.2.2.2.2⟩
theorem list2 {α β : Type} {g : α → β} {L : List α} {a b : β} (h : L.map g = [a, b]) : ∃ x0 x1, L = [x0, x1] ∧ g x0 = a ∧ g x1 = b := by
  rcases L with _ | ⟨x0, _ | ⟨x1, _ | ⟨x2, t⟩⟩⟩ <;> simp at h
  exact ⟨x0, x1, rfl, h.1, h.2⟩

theorem part_sty (w : World) (b u t : Bool) (f k : Int) : (part 4 #[.bool b, .bool u, .bool t, .int .i64 f, .int .i64 k] 0).run Tryd.prog w = .ok (.bool b) w ∧ (part 4 #[.bool b, .bool u, .bool t, .int .i64 f, .int .i64 k] 1).run Tryd.prog w = .ok (.bool u) w ∧
    (part 4 #[.bool b, .bool u, .bool t, .int .i64 f, .int .i64 k] 2).run Tryd.prog w = .ok (.bool t) w ∧ (part 3 #[.bool b, .bool u, .bool t, .int .i64 f, .int .i64 k] 3).run Tryd.prog w = .ok (.int .i64 f) w ∧ (part 3 #[.bool b, .bool u, .bool t, .int .i64 f, .int .i64 k] 4).run Tryd.prog w = .ok (.int .i64 k) w :=
  ⟨by kernel_rfl, by kernel_rfl, by kernel_rfl, by kernel_rfl, by kernel_rfl⟩
/-! ### values that are built -/
end Go.Proofs.YtciogdhapogolaaDoor
