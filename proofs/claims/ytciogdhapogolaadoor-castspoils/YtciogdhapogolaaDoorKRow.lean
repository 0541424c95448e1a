/-
  Rows whose elements take several cells each, wherever they lie, and such rows of the call's own: one text for all element types (El). Cells.
-/
import Derived.Test.YtciogdhapogolaaDoorKVal
import Derived.Test.YtciogdhapogolaaDoorVGrow
import Derived.Laws.AppendOwnNone
import Derived.Maps.AppendAt
namespace Go.Proofs.YtciogdhapogolaaDoor
open Go.RowKit Go.Lib KM

/-- An element type: its number and its slice's, how many cells and bytes it takes, its zero, the cells of an element. -/
structure El (α : Type) where
  ty : TypeId
  sl : TypeId
  s : Nat
  bytes : Nat
  z : Value
  f : α → List Value
  pos : 0 < s
  len : ∀ a, (f a).length = s
  one : ∀ a, ∀ u ∈ f a, u.oneCell' = true
  und : Tryd.prog.underlying sl = some (.slice ty)
  info : (Tryd.prog.info? ty).map (fun i => (i.zero, i.size, i.bytes)) = some (some z, s, bytes)
  zs : z.cells.size = s

section
variable {α : Type} {E : El α}
/-- The cells of a list of them. -/
def El.cells (E : El α) (L : List α) : List Value := L.flatMap E.f
theorem El.cells_nil : E.cells [] = [] := rfl
theorem El.cells_cons (a : α) (L : List α) : E.cells (a :: L) = E.f a ++ E.cells L := by simp [El.cells]
theorem El.cells_one (a : α) : E.cells [a] = E.f a := by simp [El.cells]
theorem El.cells_append (L M : List α) : E.cells (L ++ M) = E.cells L ++ E.cells M := by simp [El.cells]
theorem El.cells_len (L : List α) : (E.cells L).length = L.length * E.s := by
  induction L with
  | nil => simp [El.cells]
  | cons a L ih => rw [E.cells_cons, List.length_append, E.len, ih, List.length_cons, Nat.add_mul, Nat.one_mul, Nat.add_comm]
theorem El.cells_at (L : List α) (i : Nat) (hi : i < L.length) (j : Nat) (hj : j < E.s) : (E.cells L)[i * E.s + j]? = (E.f L[i])[j]? := by
  induction L generalizing i with
  | nil => simp at hi
  | cons a L ih =>
    rw [E.cells_cons]
    cases i with
    | zero =>
      rw [List.getElem?_append_left (by rw [E.len]; omega)]
      simp
    | succ i =>
      have hs : (i + 1) * E.s + j = E.s + (i * E.s + j) := by rw [Nat.add_mul, Nat.one_mul]; omega
      rw [hs, List.getElem?_append_right (by rw [E.len]; omega), E.len, show E.s + (i * E.s + j) - E.s = i * E.s + j by omega, ih i (by simpa using hi)]
      rfl
theorem El.cells_one' (L : List α) : ∀ u ∈ E.cells L, u.oneCell' = true := by
  intro u hu
  obtain ⟨a, _, ha⟩ := List.mem_flatMap.1 hu
  exact E.one a u ha
theorem El.cells_set (L : List α) (i : Nat) (hi : i < L.length) (j : Nat) (hj : j < E.s) (a' : α) (u : Value) (hf : E.f a' = (E.f L[i]).set j u) : E.cells (L.set i a') = (E.cells L).set (i * E.s + j) u := by
  induction L generalizing i with
  | nil => simp at hi
  | cons a L ih =>
    cases i with
    | zero =>
      rw [List.set_cons_zero, E.cells_cons, E.cells_cons, hf, Nat.zero_mul, Nat.zero_add, List.set_append_left _ _ (by rw [E.len]; omega)]
      rfl
    | succ i =>
      have hs : (i + 1) * E.s + j = E.s + (i * E.s + j) := by rw [Nat.add_mul, Nat.one_mul]; omega
      rw [List.set_cons_succ, E.cells_cons, E.cells_cons, ih i (by simpa using hi) (by simpa using hf), hs, List.set_append_right _ _ (by rw [E.len]; omega), E.len, show E.s + (i * E.s + j) - E.s = i * E.s + j by omega]

/-- The slice value v, in a row of the call's own from block 'base' on, holds just these. -/
def El.Own (E : El α) (w : World) (base : Nat) (v : Value) (L : List α) : Prop := w.ownsRow base E.ty E.s v L.length (E.cells L)
/-- The slice value at A, of as many elements as L has, reads as L and lies below block B. -/
def El.Row (E : El α) (w : World) (B : Nat) (A : Option Addr) (L : List α) : Prop :=
  0 < L.length → ∃ b off, A = some ⟨b, off, none⟩ ∧ b < B ∧ ∀ j, j < L.length * E.s → w.cell? ⟨b, off + j, none⟩ = (E.cells L)[j]?

variable {w w' : World} {base B : Nat} {v v' : Value} {A : Option Addr} {L M : List α}
theorem El.Row.nil : E.Row w B A [] := fun h => absurd h (by simp)
theorem El.Row.below (h : E.Row w B A L) (hb : Below B w w') : E.Row w' B A L := fun hp => by
  obtain ⟨b, off, e, hlt, hc⟩ := h hp
  exact ⟨b, off, e, hlt, fun j hj => (hb.cell (p := ⟨b, off + j, none⟩) hlt).trans (hc j hj)⟩
theorem El.Row.mono {B' : Nat} (h : E.Row w B A L) (hB : B ≤ B') : E.Row w B' A L := fun hp => by
  obtain ⟨b, off, e, hlt, hc⟩ := h hp
  exact ⟨b, off, e, by omega, hc⟩
theorem El.Row.at_ (h : E.Row w B A L) {i : Nat} (hi : i < L.length) : ∃ b off, A = some ⟨b, off, none⟩ ∧ b < B ∧ ∀ j, j < E.s → w.cell? ⟨b, off + i * E.s + j, none⟩ = (E.f L[i])[j]? := by
  obtain ⟨b, off, e, hlt, hc⟩ := h (by omega)
  refine ⟨b, off, e, hlt, fun j hj => ?_⟩
  have : i * E.s + j < L.length * E.s := by
    have : (i + 1) * E.s ≤ L.length * E.s := Nat.mul_le_mul_right _ hi
    rw [Nat.add_mul, Nat.one_mul] at this
    omega
  rw [Nat.add_assoc, hc _ this, E.cells_at L i hi j hj]
theorem El.Row.take (h : E.Row w B A L) (k : Nat) : E.Row w B A (L.take k) := fun hl => by
  rw [List.length_take] at hl
  obtain ⟨b, off, e, hlt, hc⟩ := h (by omega)
  refine ⟨b, off, e, hlt, fun j hj => ?_⟩
  have hj' : j < (L.take k).length * E.s := hj
  rw [List.length_take] at hj
  have : min k L.length * E.s ≤ L.length * E.s := Nat.mul_le_mul_right _ (by omega)
  rw [hc j (by omega)]
  conv => lhs; rw [← List.take_append_drop k L]
  rw [E.cells_append, List.getElem?_append_left (by rw [E.cells_len]; exact hj')]
theorem El.Own.nil (w : World) (base : Nat) : E.Own w base (.slice none 0 0) [] := World.ownsRow_nil _ _ _ _
theorem El.Own.lt (h : E.Own w base v L) : ∀ k, v.ownBlock = some k → base ≤ k ∧ k < w.heap.size := fun k hk => World.ownsRow.lt h k hk
theorem El.Own.keep (h : E.Own w base v L) (hb : ∀ k, v.ownBlock = some k → w'.heap[k]? = w.heap[k]?) : E.Own w' base v L := by
  refine ⟨h.1, ?_⟩
  rcases h.2 with h1 | ⟨g, cap, cur, h1, h2, h3, h4⟩
  · exact .inl h1
  · exact .inr ⟨g, cap, cur, h1, h2, (hb g (by rw [h1]; rfl)).trans h3, h4⟩
theorem El.Own.below (h : E.Own w base v L) (hb : Below w.heap.size w w') : E.Own w' base v L := h.keep fun k hk => hb.block k (h.lt k hk).2
theorem El.Own.grown (h : E.Own w base v L) {row : Option Nat} (hg : w.grownBy w' row) (hne : ∀ k, v.ownBlock = some k → row ≠ some k) : E.Own w' base v L :=
  h.keep fun k hk => hg.block k (h.lt k hk).2 fun e => hne k hk e.symm
theorem El.Own.mono {base' : Nat} (h : E.Own w base v L) (hb : base' ≤ base) : E.Own w base' v L := by
  refine ⟨h.1, ?_⟩
  rcases h.2 with h1 | ⟨g, cap, cur, h1, h2, h3⟩
  · exact .inl h1
  · exact .inr ⟨g, cap, cur, h1, by omega, h3⟩
theorem El.Own.grow_below (ho : E.Own w base v L) (h : Grow w w' v v') (hb : base ≤ w.heap.size) : Below base w w' :=
  (Below.refl base w).grown h.grown hb fun k hk => (ho.lt k hk).1
theorem El.Own.row (h : E.Own w base v L) : ∃ A c, v = .slice A L.length c ∧ L.length ≤ c ∧ c ≤ maxLen ∧ (A = none → c = 0) ∧ E.Row w w.heap.size A L := by
  rcases h.2 with ⟨rfl, h0⟩ | ⟨g, cap, cur, rfl, _, hh, h1, h3, h4, h5⟩
  · exact ⟨none, 0, by rw [h0], by omega, by unfold maxLen; omega, fun _ => rfl, fun hp => by omega⟩
  · refine ⟨_, _, rfl, h1, h3, by simp, fun _ => ⟨g, 0, rfl, (Array.getElem?_eq_some_iff.1 hh).1, fun j hj => ?_⟩⟩
    rw [← h5, List.getElem?_take_of_lt hj, Nat.zero_add]
    simp [World.cell?, hh]
/-- Where a row of the call's own that isn't empty lies. -/
theorem El.Own.place (h : E.Own w base v L) (hp : 0 < L.length) : ∃ g c, v = .slice (some ⟨g, 0, none⟩) L.length c ∧ base ≤ g ∧ g < w.heap.size ∧ L.length ≤ c ∧ c ≤ maxLen ∧ (∀ j, w.frozen? ⟨g, j, none⟩ = false) ∧
    ∀ i (hi : i < L.length) j, j < E.s → w.cell? ⟨g, i * E.s + j, none⟩ = (E.f L[i])[j]? := by
  rcases h.2 with ⟨rfl, h0⟩ | ⟨g, cap, cur, rfl, hb, hh, h1, h3, h4, h5⟩
  · omega
  · refine ⟨g, cap, rfl, hb, (Array.getElem?_eq_some_iff.1 hh).1, h1, h3, fun j => by simp [World.frozen?, hh], fun i hi j hj => ?_⟩
    rw [← E.cells_at L i hi j hj, ← h5]
    have : i * E.s + j < L.length * E.s := by
      have : (i + 1) * E.s ≤ L.length * E.s := Nat.mul_le_mul_right _ hi
      rw [Nat.add_mul, Nat.one_mul] at this
      omega
    rw [List.getElem?_take_of_lt this]
    simp [World.cell?, hh]
/-- One cell of one element is set anew. -/
theorem El.Own.set (h : E.Own w base v L) {g c : Nat} (hv : v = .slice (some ⟨g, 0, none⟩) L.length c) {i : Nat} (hi : i < L.length) {j : Nat} (hj : j < E.s) {a' : α} {u : Value} (hf : E.f a' = (E.f L[i]).set j u) :
    E.Own (w.setCell ⟨g, i * E.s + j, none⟩ u) base v (L.set i a') := by
  have hlt : i * E.s + j < L.length * E.s := by
    have : (i + 1) * E.s ≤ L.length * E.s := Nat.mul_le_mul_right _ hi
    rw [Nat.add_mul, Nat.one_mul] at this
    omega
  unfold El.Own
  rw [List.length_set, E.cells_set L i hi j hj a' u hf]
  refine ⟨by rw [List.length_set]; exact h.1, ?_⟩
  rcases h.2 with ⟨e, h0⟩ | ⟨g', cap, cur, e, hb, hh, h1, h3, h4, h5⟩
  · rw [hv] at e; cases e
  · rw [hv] at e
    simp only [Value.slice.injEq, Option.some.injEq, Addr.mk.injEq, and_true, true_and] at e
    obtain ⟨rfl, rfl⟩ := e
    refine .inr ⟨g, c, cur.set! (i * E.s + j) u, hv, hb, ?_, h1, h3, by simpa using h4, ?_⟩
    · simp [World.setCell, Array.getElem?_modify, hh]
    · rw [← h5, Array.set!_eq_setIfInBounds, Array.toList_setIfInBounds, List.take_set]
theorem El.Own.snoc {a : α} (h : w.ownsRow base E.ty E.s v (L.length + 1) (E.cells L ++ E.f a)) : E.Own w base v (L ++ [a]) := by
  unfold El.Own
  rw [E.cells_append, List.length_append, E.cells_one]
  exact h
theorem El.row_new (w : World) (a : α) (arr : Array Value) (t : TypeId) (h : arr.toList = E.f a) : E.Row (w.alloc (.cells arr t)) (w.heap.size + 1) (some ⟨w.heap.size, 0, none⟩) [a] := fun _ => by
  refine ⟨w.heap.size, 0, rfl, by omega, fun j hj => ?_⟩
  rw [E.cells_one, ← h]
  simp
theorem El.run_append (E : El α) (w : World) (base : Nat) (ty : TypeId) (v : Value) (L : List α) (hown : E.Own w base v L) (A : Option Addr) (M : List α) (c B : Nat) (hr : E.Row w B A M) (hA : A = none → c = 0)
    (hlen : (L.length + M.length) * E.bytes ≤ 140737488355328) (hmax : L.length + M.length ≤ maxLen) (hbase : base ≤ w.heap.size) :
    ∃ v' w', (Builtin.append_ #[E.sl, E.sl] ty #[v, .slice A M.length c]).run Tryd.prog w = .ok v' w' ∧ E.Own w' base v' (L ++ M) ∧ Grow w w' v v' := by
  obtain ⟨i0, hi, hz0, hz1, hz2⟩ := info_parts E.info
  rcases A with _ | a
  · have : M = [] := by
      rcases M with _ | ⟨x, l⟩
      · rfl
      · obtain ⟨b, off, h, _⟩ := hr (by simp)
        cases h
    subst this
    obtain rfl := hA rfl
    exact ⟨v, w, run_append_owned_none (P := Tryd.prog) (w := w) base E.sl ty E.ty i0 E.s E.und hi v L.length _ hown, by simpa using hown, Grow.refl _ _⟩
  · obtain ⟨v', w', h1, h2, h3, _, h5⟩ := run_append_own_at (P := Tryd.prog) w base E.sl ty E.ty i0 _ E.s E.bytes E.und hi hz0 hz1 hz2 E.zs E.pos v L.length _ hown a M.length c (E.cells M) (E.cells_len M)
      (fun j u hu => by
        have hj : j < M.length * E.s := by
          rcases Nat.lt_or_ge j (M.length * E.s) with h | h
          · exact h
          · rw [List.getElem?_eq_none (by rw [E.cells_len]; exact h)] at hu; cases hu
        have hp : 0 < M.length := by
          rcases Nat.eq_zero_or_pos M.length with h | h
          · rw [h] at hj; omega
          · exact h
        obtain ⟨b, off, h, _, hc⟩ := hr hp
        obtain rfl := Option.some.inj h
        have hplain : (⟨b, off, none⟩ : Addr).add j = ⟨b, off + j, none⟩ := by unfold Addr.add; split <;> simp_all
        rw [hplain, hc j hj, hu])
      (E.cells_one' M) hmax hlen hbase
    refine ⟨v', w', h1, ?_, ⟨h3, ?_⟩⟩
    · unfold El.Own
      rw [E.cells_append, List.length_append]
      exact h2
    · rcases h5 with h5 | h5
      · exact .inl h5
      · exact .inr fun k hk => by rw [h5] at hk; injection hk with hk; omega
/-- append(v, x...), in an operation whose guard, if it has one, says yes. -/
theorem El.wp_append (E : El α) {w : World} {ops : Array Oper} {rest : List Oper} {o : Oper} {a : Act} {Q : Exit → Act → World → Prop} (hgd : Region.wanted o (yielded ops a.tmps) = true) (s x : Operand)
    (ho : o.op = .call { callee := .builtin .append, args := #[s, x], argTypes := #[E.sl, E.sl] }) (base : Nat) (v : Value) (L : List α) (hs : a.eval s = v) (hown : E.Own w base v L)
    (A : Option Addr) (M : List α) (n c B : Nat) (hn : n = M.length) (hx : a.eval x = .slice A n c) (hr : E.Row w B A M) (hA : A = none → c = 0) (hlen : (L.length + M.length) * E.bytes ≤ 140737488355328) (hmax : L.length + M.length ≤ maxLen) (hbase : base ≤ w.heap.size)
    (h : ∀ v' w', E.Own w' base v' (L ++ M) → Grow w w' v v' → wpList Tryd.prog ops Q rest (a.put o.dst v') w') : wpList Tryd.prog ops Q (o :: rest) a w := by
  subst hn
  obtain ⟨v', w', hrun, h2, h3⟩ := E.run_append w base o.type v L hown A M c B hr hA hlen hmax hbase
  refine wpList_step fun K hK => ?_
  rw [if_pos hgd]
  unfold Oper.wp execOp
  simp only [ho, resolve, invoke, builtin, Sem.run_bind, Sem.run_pure, Result.andThen_ok, List.map_toArray, List.map_cons, List.map_nil, hs, hx, hrun]
  exact hK _ _ (h v' w' h2 h3)
theorem grow_alloc {w w2 : World} {v v' : Value} (o : Obj) (h : Grow (w.alloc o) w2 v v') : Grow w w2 v v' := by
  have hb : Below w.heap.size w (w.alloc o) := (Below.refl _ _).alloc (Nat.le_refl _) _
  have hs := hb.size
  refine ⟨⟨h.grown.os.trans hb.os, h.grown.tape.trans hb.tape, h.grown.output.trans hb.output, Nat.le_trans hs h.grown.size, fun k hk hne => (h.grown.block k (by omega) hne).trans (hb.block k hk)⟩, ?_⟩
  rcases h.place with e | e
  · exact .inl e
  · exact .inr fun k hk => by have := e k hk; omega
/-- append(v, x), x laid in a new block first. -/
theorem El.wp_append1 (E : El α) {w : World} {ops : Array Oper} {rest : List Oper} {o : Oper} {a : Act} {Q : Exit → Act → World → Prop} (hgd : Region.wanted o (yielded ops a.tmps) = true) (s x : Operand)
    (ho : o.op = .call { callee := .builtin .append, args := #[s, x], argTypes := #[E.sl, E.sl] }) (base : Nat) (v : Value) (L : List α) (hs : a.eval s = v) (hown : E.Own w base v L)
    (el : α) (arr : Array Value) (t : TypeId) (harr : arr.toList = E.f el) (hx : a.eval x = .slice (some ⟨w.heap.size, 0, none⟩) 1 1) (hlen : (L.length + 1) * E.bytes ≤ 140737488355328) (hmax : L.length + 1 ≤ maxLen) (hbase : base ≤ w.heap.size)
    (h : ∀ v' w', E.Own w' base v' (L ++ [el]) → Grow w w' v v' → wpList Tryd.prog ops Q rest (a.put o.dst v') w') : wpList Tryd.prog ops Q (o :: rest) a (w.alloc (.cells arr t)) := by
  refine E.wp_append hgd s x ho base v L hs (hown.below ((Below.refl _ _).alloc (Nat.le_refl _) _)) _ [el] 1 1 (w.heap.size + 1) rfl hx (El.row_new w el arr t harr) (by simp) hlen hmax (by simp; omega) ?_
  intro v' w' h1 h2
  exact h v' w' h1 (grow_alloc _ h2)
/-- A new block of one element, as a row of the call's own. -/
theorem El.own_new (E : El α) (w : World) (base : Nat) (el : α) (arr : Array Value) (harr : arr.toList = E.f el) (hbase : base ≤ w.heap.size) : E.Own (w.alloc (.cells arr E.ty)) base (.slice (some ⟨w.heap.size, 0, none⟩) 1 1) [el] := by
  refine ⟨E.cells_len _, .inr ⟨w.heap.size, 1, arr, rfl, hbase, heap_alloc_new w _, Nat.le_refl _, by unfold maxLen; omega, ?_, ?_⟩⟩
  · have := congrArg List.length harr
    rw [E.len] at this
    simpa using this
  · rw [harr, E.cells_one]
    exact List.take_of_length_le (by rw [E.len]; simp)
end

end Go.Proofs.YtciogdhapogolaaDoor
