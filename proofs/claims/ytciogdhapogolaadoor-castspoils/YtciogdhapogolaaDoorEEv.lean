/-
  Layer 12 (event): events as values of the program; rows of them; two of them held against one another.
-/
import Derived.Test.YtciogdhapogolaaDoorEMath
import Derived.Test.YtciogdhapogolaaDoorKRow
import Derived.Laws.Unary
namespace Go.Proofs.YtciogdhapogolaaDoor
open Go.RowKit Go.Lib EM
set_option maxRecDepth 100000

/-- An event's cells, and the event as a value. -/
def evL (e : Ev) : List Value := [.int .i64 e.t, .int .i64 e.k, .string e.d, .int .i64 e.w, .int .i64 e.h]
def evV (e : Ev) : Value := .agg #[.int .i64 e.t, .int .i64 e.k, .string e.d, .int .i64 e.w, .int .i64 e.h]
/-- Events, as the elements of a row. -/
def evE : El Ev where
  ty := 27
  sl := 22
  s := 5
  bytes := 48
  z := .agg #[.int .i64 0, .int .i64 0, .string ByteArray.empty, .int .i64 0, .int .i64 0]
  f := evL
  pos := by decide
  len := fun _ => rfl
  one := fun a u hu => by
    simp only [evL, List.mem_cons, List.not_mem_nil, or_false] at hu
    rcases hu with rfl | rfl | rfl | rfl | rfl <;> rfl
  und := Tryd.underlying22
  info := by kernel_rfl
  zs := rfl
theorem ev_at {w : World} {B : Nat} {A : Option Addr} {l : List Ev} (h : evE.Row w B A l) {i : Nat} (hi : i < l.length) : ∃ b off, A = some ⟨b, off, none⟩ ∧ b < B ∧
    w.cell? ⟨b, off + i * 5, none⟩ = some (.int .i64 l[i].t) ∧ w.cell? ⟨b, off + i * 5 + 1, none⟩ = some (.int .i64 l[i].k) ∧ w.cell? ⟨b, off + i * 5 + 2, none⟩ = some (.string l[i].d) ∧
    w.cell? ⟨b, off + i * 5 + 3, none⟩ = some (.int .i64 l[i].w) ∧ w.cell? ⟨b, off + i * 5 + 4, none⟩ = some (.int .i64 l[i].h) := by
  obtain ⟨b, off, e, hb, hc⟩ := h.at_ hi
  exact ⟨b, off, e, hb, hc 0 (by decide), hc 1 (by decide), hc 2 (by decide), hc 3 (by decide), hc 4 (by decide)⟩
/-- A block of the call's own that holds just this event. -/
def EvAt (w : World) (g : Nat) (e : Ev) : Prop := w.heap[g]? = some (.cells #[.int .i64 e.t, .int .i64 e.k, .string e.d, .int .i64 e.w, .int .i64 e.h] 27 (0, 0))
section
variable {w w' : World} {g B : Nat} {e : Ev}
theorem EvAt.cells (h : EvAt w g e) : w.cell? ⟨g, 0, none⟩ = some (.int .i64 e.t) ∧ w.cell? ⟨g, 1, none⟩ = some (.int .i64 e.k) ∧ w.cell? ⟨g, 2, none⟩ = some (.string e.d) ∧ w.cell? ⟨g, 3, none⟩ = some (.int .i64 e.w) ∧
    w.cell? ⟨g, 4, none⟩ = some (.int .i64 e.h) := by
  unfold EvAt at h
  simp [World.cell?, h]
theorem EvAt.below (h : EvAt w g e) (hb : Below B w w') (hg : g < B) : EvAt w' g e := (hb.block g hg).trans h
theorem EvAt.lt (h : EvAt w g e) : g < w.heap.size := (Array.getElem?_eq_some_iff.1 h).1
theorem EvAt.thaw (h : EvAt w g e) (j : Nat) : w.frozen? ⟨g, j, none⟩ = false := by
  unfold EvAt at h
  simp [World.frozen?, h]
theorem EvAt.new (w : World) (e : Ev) : EvAt (w.alloc (.cells #[.int .i64 e.t, .int .i64 e.k, .string e.d, .int .i64 e.w, .int .i64 e.h] 27)) w.heap.size e := heap_alloc_new w _
theorem EvAt.set0 (h : EvAt w g e) (v : Int) : EvAt (w.setCell ⟨g, 0, none⟩ (.int .i64 v)) g ⟨v, e.k, e.d, e.w, e.h⟩ := by
  unfold EvAt at h ⊢
  simp [World.setCell, Array.getElem?_modify, h]
theorem EvAt.set1 (h : EvAt w g e) (v : Int) : EvAt (w.setCell ⟨g, 1, none⟩ (.int .i64 v)) g ⟨e.t, v, e.d, e.w, e.h⟩ := by
  unfold EvAt at h ⊢
  simp [World.setCell, Array.getElem?_modify, h]
theorem EvAt.set2 (h : EvAt w g e) (v : ByteArray) : EvAt (w.setCell ⟨g, 2, none⟩ (.string v)) g ⟨e.t, e.k, v, e.w, e.h⟩ := by
  unfold EvAt at h ⊢
  simp [World.setCell, Array.getElem?_modify, h]
theorem EvAt.set3 (h : EvAt w g e) (v : Int) : EvAt (w.setCell ⟨g, 3, none⟩ (.int .i64 v)) g ⟨e.t, e.k, e.d, v, e.h⟩ := by
  unfold EvAt at h ⊢
  simp [World.setCell, Array.getElem?_modify, h]
theorem EvAt.set4 (h : EvAt w g e) (v : Int) : EvAt (w.setCell ⟨g, 4, none⟩ (.int .i64 v)) g ⟨e.t, e.k, e.d, e.w, v⟩ := by
  unfold EvAt at h ⊢
  simp [World.setCell, Array.getElem?_modify, h]
theorem EvAt.dead (h : EvAt w g e) {v : World} (hv : Below w.heap.size w v) : EvAt v g e := h.below hv h.lt
end

theorem part_ev (w : World) (t k x y : Int) (d : ByteArray) : (part 3 #[.int .i64 t, .int .i64 k, .string d, .int .i64 x, .int .i64 y] 0).run Tryd.prog w = .ok (.int .i64 t) w ∧ (part 3 #[.int .i64 t, .int .i64 k, .string d, .int .i64 x, .int .i64 y] 1).run Tryd.prog w = .ok (.int .i64 k) w ∧
    (part 9 #[.int .i64 t, .int .i64 k, .string d, .int .i64 x, .int .i64 y] 2).run Tryd.prog w = .ok (.string d) w ∧ (part 3 #[.int .i64 t, .int .i64 k, .string d, .int .i64 x, .int .i64 y] 3).run Tryd.prog w = .ok (.int .i64 x) w ∧ (part 3 #[.int .i64 t, .int .i64 k, .string d, .int .i64 x, .int .i64 y] 4).run Tryd.prog w = .ok (.int .i64 y) w :=
  ⟨by kernel_rfl, by kernel_rfl, by kernel_rfl, by kernel_rfl, by kernel_rfl⟩
theorem text_eq (a b : ByteArray) : (a.toList == b.toList) = decide (a = b) := by
  by_cases h : a = b
  · subst h; simp
  · rw [decide_eq_false h, beq_eq_false_iff_ne]
    intro e
    rw [ByteArray.toList_eq, ByteArray.toList_eq] at e
    exact h (ByteArray.ext (Array.toList_inj.1 e))
/-- Two events. -/
theorem run_eqE (w : World) (e e' : Ev) : (Op.equalIn 10000 27 (evV e) (evV e')).run Tryd.prog w = .ok (decide (e = e')) w := by
  obtain ⟨t, k, d, x, y⟩ := e
  obtain ⟨t', k', d', x', y'⟩ := e'
  simp only [evV]
  obtain ⟨p0, p1, p2, p3, p4⟩ := part_ev w t k x y d
  obtain ⟨q0, q1, q2, q3, q4⟩ := part_ev w t' k' x' y' d'
  have hs : ∀ a b : ByteArray, (Op.equalIn 9999 9 (.string a) (.string b)).run Tryd.prog w = .ok (decide (a = b)) w := fun a b => by
    rw [← text_eq]; exact run_equalIn_string w 9998 9 a b Tryd.underlying9
  have hi : ∀ a b : Int, (Op.equalIn 9999 3 (.int .i64 a) (.int .i64 b)).run Tryd.prog w = .ok (a == b) w := fun a b => run_equalIn_int w 9998 3 .i64 .i64 a b Tryd.underlying3
  have hf : (Tryd.prog.fieldsOf 27).toList.map (fun f => (f.name != "_", f.type, f.offset)) = [(true, 3, 0), (true, 3, 1), (true, 9, 2), (true, 3, 3), (true, 3, 4)] := by kernel_rfl
  rw [show (10000 : Nat) = 9999 + 1 from rfl, run_equalIn_struct w 9999 27 _ _ (by kernel_rfl) (by kernel_rfl)]
  obtain ⟨x0, x1, x2, x3, x4, e, e0, e1, e2, e3, e4⟩ := list5 hf
  rw [e, eqF_cons e0 p0 q0 (hi _ _), eqF_cons e1 p1 q1 (hi _ _), eqF_cons e2 p2 q2 (hs _ _), eqF_cons e3 p3 q3 (hi _ _), eqF_cons e4 p4 q4 (hi _ _)]
  simp only [Op.eqFields, Sem.run_pure, beq_iff_eq, Ev.mk.injEq, decide_eq_true_eq]
  by_cases h0 : t = t' <;> by_cases h1 : k = k' <;> by_cases h2 : d = d' <;> by_cases h3 : x = x' <;> by_cases h4 : y = y' <;> simp [h0, h1, h2, h3, h4]
/-! ### events that are built -/
theorem build_ev0 (w : World) : (Instr.build 27 #[]).run Tryd.prog w = .ok (.agg #[.int .i64 0, .int .i64 0, .string ByteArray.empty, .int .i64 0, .int .i64 0]) w := by kernel_rfl
theorem build_evk (w : World) (k : Int) : (Instr.build 27 #[(1, .int .i64 k)]).run Tryd.prog w = .ok (.agg #[.int .i64 0, .int .i64 k, .string ByteArray.empty, .int .i64 0, .int .i64 0]) w := by kernel_rfl
theorem build_evx (w : World) (t : Int) (d : ByteArray) : (Instr.build 27 #[(0, .int .i64 t), (2, .string d)]).run Tryd.prog w = .ok (.agg #[.int .i64 t, .int .i64 0, .string d, .int .i64 0, .int .i64 0]) w := by kernel_rfl
/-- A new row of events that reads so. -/
def EvsPost (w : World) (l : List Ev) (e : Ending) (w' : World) : Prop := ∃ v, e = .returned v ∧ evE.Own w' w.heap.size v l ∧ Below w.heap.size w w'
end Go.Proofs.YtciogdhapogolaaDoor
