/-
  Layer 8 (cell): styles, cells and runs as values of the program; two of them held against one another.
-/
import Derived.Test.YtbpkklcegiiheaaDoorKBase
import Derived.Test.YtbpkklcegiiheaaDoorKMath
import Derived.Laws.StructEq
import Derived.Outline
namespace Go.Proofs.YtbpkklcegiiheaaDoor
open Go.RowKit Go.Lib KM

/-- A style's cells, and a cell's, and a run's. -/
def styL (s : Sty) : List Value := [.bool s.bold, .bool s.under, .bool s.turned, .int .i64 s.fore, .int .i64 s.back]
def celL (c : Cel) : List Value := [.int .i32 c.rune, .bool c.sty.bold, .bool c.sty.under, .bool c.sty.turned, .int .i64 c.sty.fore, .int .i64 c.sty.back]
def runL (x : Nat × Cel) : List Value := [.int .i64 (x.1 : Int), .int .i32 x.2.rune, .bool x.2.sty.bold, .bool x.2.sty.under, .bool x.2.sty.turned, .int .i64 x.2.sty.fore, .int .i64 x.2.sty.back]
/-- .. as values. -/
def styV (s : Sty) : Value := .agg #[.bool s.bold, .bool s.under, .bool s.turned, .int .i64 s.fore, .int .i64 s.back]
def celV (c : Cel) : Value := .agg #[.int .i32 c.rune, .bool c.sty.bold, .bool c.sty.under, .bool c.sty.turned, .int .i64 c.sty.fore, .int .i64 c.sty.back]
def runV (x : Nat × Cel) : Value := .agg #[.int .i64 (x.1 : Int), .int .i32 x.2.rune, .bool x.2.sty.bold, .bool x.2.sty.under, .bool x.2.sty.turned, .int .i64 x.2.sty.fore, .int .i64 x.2.sty.back]

theorem eqF_cons {P : Program} {w : World} {d : Nat} {xs ys : Array Value} {f : Field} {fs : List Field} {ty : TypeId} {off : Nat} {a b : Value} {r : Bool} (hf : (f.name != "_", f.type, f.offset) = (true, ty, off))
    (pa : (part ty xs off).run P w = .ok a w) (pb : (part ty ys off).run P w = .ok b w) (he : (Op.equalIn d ty a b).run P w = .ok r w) :
    (Op.eqFields d xs ys (f :: fs)).run P w = if r = true then (Op.eqFields d xs ys fs).run P w else .ok false w := by
  simp only [Prod.mk.injEq] at hf
  obtain ⟨h1, h2, h3⟩ := hf
  have h1' : f.name ≠ "_" := by simpa using h1
  rw [Op.eqFields, if_pos h1', h2, h3]
  simp only [Sem.run_bind, pa, pb, he, Result.andThen_ok]
  cases r
  · simp
  · simp
theorem list5 {α β : Type} {g : α → β} {L : List α} {a b c d e : β} (h : L.map g = [a, b, c, d, e]) : ∃ x0 x1 x2 x3 x4, L = [x0, x1, x2, x3, x4] ∧ g x0 = a ∧ g x1 = b ∧ g x2 = c ∧ g x3 = d ∧ g x4 = e := by
  rcases L with _ | ⟨x0, _ | ⟨x1, _ | ⟨x2, _ | ⟨x3, _ | ⟨x4, _ | ⟨x5, t⟩⟩⟩⟩⟩⟩ <;> simp at h
  exact ⟨x0, x1, x2, x3, x4, rfl, h.1, h.2.1, h.2.2.1, h.2.2.2.1, h.2.2.2.2⟩
theorem list2 {α β : Type} {g : α → β} {L : List α} {a b : β} (h : L.map g = [a, b]) : ∃ x0 x1, L = [x0, x1] ∧ g x0 = a ∧ g x1 = b := by
  rcases L with _ | ⟨x0, _ | ⟨x1, _ | ⟨x2, t⟩⟩⟩ <;> simp at h
  exact ⟨x0, x1, rfl, h.1, h.2⟩

theorem part_sty (w : World) (b u t : Bool) (f k : Int) : (part 4 #[.bool b, .bool u, .bool t, .int .i64 f, .int .i64 k] 0).run Tryd.prog w = .ok (.bool b) w ∧ (part 4 #[.bool b, .bool u, .bool t, .int .i64 f, .int .i64 k] 1).run Tryd.prog w = .ok (.bool u) w ∧
    (part 4 #[.bool b, .bool u, .bool t, .int .i64 f, .int .i64 k] 2).run Tryd.prog w = .ok (.bool t) w ∧ (part 3 #[.bool b, .bool u, .bool t, .int .i64 f, .int .i64 k] 3).run Tryd.prog w = .ok (.int .i64 f) w ∧ (part 3 #[.bool b, .bool u, .bool t, .int .i64 f, .int .i64 k] 4).run Tryd.prog w = .ok (.int .i64 k) w :=
  ⟨by kernel_rfl, by kernel_rfl, by kernel_rfl, by kernel_rfl, by kernel_rfl⟩
/-- Two styles. -/
theorem run_eqS (d : Nat) (w : World) (s s' : Sty) : (Op.equalIn (d + 2) 35 (styV s) (styV s')).run Tryd.prog w = .ok (decide (s = s')) w := by
  obtain ⟨b, u, t, f, k⟩ := s
  obtain ⟨b', u', t', f', k'⟩ := s'
  simp only [styV]
  obtain ⟨p0, p1, p2, p3, p4⟩ := part_sty w b u t f k
  obtain ⟨q0, q1, q2, q3, q4⟩ := part_sty w b' u' t' f' k'
  have hb : ∀ x y : Bool, (Op.equalIn (d + 1) 4 (.bool x) (.bool y)).run Tryd.prog w = .ok (x == y) w := fun x y => run_equalIn_bool' w d 4 x y Tryd.underlying4
  have hi : ∀ x y : Int, (Op.equalIn (d + 1) 3 (.int .i64 x) (.int .i64 y)).run Tryd.prog w = .ok (x == y) w := fun x y => run_equalIn_int w d 3 .i64 .i64 x y Tryd.underlying3
  have hf : (Tryd.prog.fieldsOf 35).toList.map (fun f => (f.name != "_", f.type, f.offset)) = [(true, 4, 0), (true, 4, 1), (true, 4, 2), (true, 3, 3), (true, 3, 4)] := by kernel_rfl
  rw [run_equalIn_struct w (d + 1) 35 _ _ (by kernel_rfl) (by kernel_rfl)]
  obtain ⟨x0, x1, x2, x3, x4, e, e0, e1, e2, e3, e4⟩ := list5 hf
  rw [e, eqF_cons e0 p0 q0 (hb _ _), eqF_cons e1 p1 q1 (hb _ _), eqF_cons e2 p2 q2 (hb _ _), eqF_cons e3 p3 q3 (hi _ _), eqF_cons e4 p4 q4 (hi _ _)]
  simp only [Op.eqFields, Sem.run_pure, beq_iff_eq, Sty.mk.injEq]
  by_cases h0 : b = b' <;> by_cases h1 : u = u' <;> by_cases h2 : t = t' <;> by_cases h3 : f = f' <;> by_cases h4 : k = k' <;> simp [h0, h1, h2, h3, h4]
theorem part_cel (w : World) (r : Int) (b u t : Bool) (f k : Int) : (part 21 #[.int .i32 r, .bool b, .bool u, .bool t, .int .i64 f, .int .i64 k] 0).run Tryd.prog w = .ok (.int .i32 r) w ∧ (part 35 #[.int .i32 r, .bool b, .bool u, .bool t, .int .i64 f, .int .i64 k] 1).run Tryd.prog w = .ok (styV ⟨b, u, t, f, k⟩) w :=
  ⟨by kernel_rfl, by kernel_rfl⟩
/-- Two cells. -/
theorem run_eqC (w : World) (c c' : Cel) : (Op.equalIn 10000 37 (celV c) (celV c')).run Tryd.prog w = .ok (decide (c = c')) w := by
  obtain ⟨r, ⟨b, u, t, f, k⟩⟩ := c
  obtain ⟨r', ⟨b', u', t', f', k'⟩⟩ := c'
  simp only [celV]
  obtain ⟨p0, p1⟩ := part_cel w r b u t f k
  obtain ⟨q0, q1⟩ := part_cel w r' b' u' t' f' k'
  have hf : (Tryd.prog.fieldsOf 37).toList.map (fun f => (f.name != "_", f.type, f.offset)) = [(true, 21, 0), (true, 35, 1)] := by kernel_rfl
  have h0 : (Op.equalIn 9999 21 (.int .i32 r) (.int .i32 r')).run Tryd.prog w = .ok (r == r') w := run_equalIn_int w 9998 21 .i32 .i32 r r' Tryd.underlying21
  have h1 := run_eqS 9997 w ⟨b, u, t, f, k⟩ ⟨b', u', t', f', k'⟩
  rw [show 9997 + 2 = 9999 from rfl] at h1
  rw [show (10000 : Nat) = 9999 + 1 from rfl, run_equalIn_struct w 9999 37 _ _ (by kernel_rfl) (by kernel_rfl)]
  obtain ⟨x0, x1, e, e0, e1⟩ := list2 hf
  rw [e, eqF_cons e0 p0 q0 h0, eqF_cons e1 p1 q1 h1]
  simp only [Op.eqFields, Sem.run_pure, beq_iff_eq, Cel.mk.injEq, decide_eq_true_eq]
  by_cases h0 : r = r' <;> by_cases h1 : (⟨b, u, t, f, k⟩ : Sty) = ⟨b', u', t', f', k'⟩ <;> simp [h0, h1]
theorem run_eqS' (w : World) (s s' : Sty) : (Op.equalIn 10000 35 (styV s) (styV s')).run Tryd.prog w = .ok (decide (s = s')) w := run_eqS 9998 w s s'
/-! ### values that are built -/
theorem build_back (w : World) (k : Int) : (Instr.build 35 #[(4, .int .i64 k)]).run Tryd.prog w = .ok (.agg #[.bool false, .bool false, .bool false, .int .i64 0, .int .i64 k]) w := by kernel_rfl
theorem build_zero (w : World) : (Instr.build 35 #[]).run Tryd.prog w = .ok (.agg #[.bool false, .bool false, .bool false, .int .i64 0, .int .i64 0]) w := by kernel_rfl
theorem build_style (w : World) (b u t : Bool) (f k : Int) : (Instr.build 35 #[(0, .bool b), (1, .bool u), (2, .bool t), (3, .int .i64 f), (4, .int .i64 k)]).run Tryd.prog w = .ok (.agg #[.bool b, .bool u, .bool t, .int .i64 f, .int .i64 k]) w := by kernel_rfl
theorem build_cell (w : World) (r : Int) (b u t : Bool) (f k : Int) : (Instr.build 37 #[(0, .int .i32 r), (1, .agg #[.bool b, .bool u, .bool t, .int .i64 f, .int .i64 k])]).run Tryd.prog w = .ok (.agg #[.int .i32 r, .bool b, .bool u, .bool t, .int .i64 f, .int .i64 k]) w := by kernel_rfl
theorem build_rest (w : World) (b u t : Bool) (f k : Int) : (Instr.build 37 #[(1, .agg #[.bool b, .bool u, .bool t, .int .i64 f, .int .i64 k])]).run Tryd.prog w = .ok (.agg #[.int .i32 0, .bool b, .bool u, .bool t, .int .i64 f, .int .i64 k]) w := by kernel_rfl
theorem build_rune (w : World) (r : Int) : (Instr.build 37 #[(0, .int .i32 r)]).run Tryd.prog w = .ok (.agg #[.int .i32 r, .bool false, .bool false, .bool false, .int .i64 0, .int .i64 0]) w := by kernel_rfl
end Go.Proofs.YtbpkklcegiiheaaDoor
