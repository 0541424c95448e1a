/-
  VGrow, KRow, KRunE, KCh2, VPut, VOne, VTake, VStr, KRead, in one text.
-/
import Derived.Test.YtdolapobkhhanaaDoorRows
import Derived.Test.YtdolapobkhhanaaDoorM01
import Derived.WalkKit
import Derived.WalkSpells
import Derived.Lib.Hide
import Derived.Laws.AppendOwnNone
import Derived.Maps.AppendAt
import Derived.Deep.CutRange
import Derived.Laws.BitsAllLaws
import Derived.Laws.BytesArg
import Derived.Lib.AppendStr
/-
  A row of bytes that is the call's own; what has changed where it grew.
-/
namespace Go.Proofs.YtdolapobkhhanaaDoor
open Go.RowKit

theorem Tryd.info5 : (Tryd.prog.info? 5).map (fun i => (i.zero, i.size, i.bytes)) = some (some (.int .u8 0), 1, 1) := by kernel_rfl

theorem run_cut (A : Option Addr) (n c k : Nat) (w : World) (h : k ≤ n) : (Instr.slice 22 (.slice A n c) (some (.int .i64 (k : Int))) none none).run Tryd.prog w = .ok (.slice (cutA A c k) (n - k) (c - k)) w := by
  have hs : (sizeOf (Tryd.prog.elem 22)).run Tryd.prog w = .ok 1 w := by kernel_rfl
  rw [run_slice_l (P := Tryd.prog) (w := w) (t := 22) (a := A) (len := n) (cap := c) (by kernel_rfl) .i64 (k : Int) (by omega) (by omega), hs]
  simp [Result.andThen, sliced, cutA]

/-- The slice value v, in a row of the call's own from block 'base' on, holds just these bytes. -/
def Own (w : World) (base : Nat) (v : Value) (l : List Nat) : Prop := w.ownsRow base 5 1 v l.length (nums .u8 l)

theorem Own.nil (w : World) (base : Nat) : Own w base (.slice none 0 0) [] := World.ownsRow_nil _ _ _ _
theorem Own.form {w : World} {base : Nat} {v : Value} {l : List Nat} (h : Own w base v l) : ∃ A c, v = .slice A l.length c ∧ l.length ≤ c ∧ c ≤ maxLen ∧ (A = none → c = 0) ∧ Row w w.heap.size .u8 A l := by
  rcases h.2 with ⟨rfl, h0⟩ | ⟨g, cap, cur, rfl, _, hh, h1, h2, _⟩
  · refine ⟨none, 0, by rw [h0], by omega, by unfold maxLen; omega, fun _ => rfl, ?_⟩
    have : l = [] := List.eq_nil_of_length_eq_zero h0
    subst this
    exact Row.nil
  · exact ⟨_, _, rfl, h1, h2, by simp, Row.of_own h⟩
theorem Own.lt {w : World} {base : Nat} {v : Value} {l : List Nat} (h : Own w base v l) : ∀ k, v.ownBlock = some k → base ≤ k := fun k hk => (World.ownsRow.lt h k hk).1

theorem Own.snoc {w : World} {base : Nat} {v : Value} {l : List Nat} {x : Nat} {c : Int} (hc : c = (x : Int)) (h : w.ownsRow base 5 1 v (l.length + 1) (nums .u8 l ++ [.int .u8 c])) : Own w base v (l ++ [x]) := by
  subst hc
  unfold Own
  rw [nums_append, List.length_append]
  exact h
/-- w' is w but for the row of v and for new blocks; v' lies where v lay, or in a new block. -/
structure Grow (w w' : World) (v v' : Value) : Prop where
  grown : w.grownBy w' v.ownBlock
  place : v'.ownBlock = v.ownBlock ∨ ∀ k, v'.ownBlock = some k → w.heap.size ≤ k

theorem Grow.refl (w : World) (v : Value) : Grow w w v v := ⟨⟨rfl, rfl, rfl, Nat.le_refl _, fun _ _ _ => rfl⟩, .inl rfl⟩
theorem Grow.trans {a b c : World} {v v1 v2 : Value} (h : Grow a b v v1) (k : Grow b c v1 v2) : Grow a c v v2 := by
  have hs := h.grown.size
  refine ⟨⟨k.grown.os.trans h.grown.os, k.grown.tape.trans h.grown.tape, k.grown.output.trans h.grown.output, Nat.le_trans hs k.grown.size, fun i hi hne => ?_⟩, ?_⟩
  · refine (k.grown.block i (by omega) ?_).trans (h.grown.block i hi hne)
    rcases h.place with e | e
    · rw [e]; exact hne
    · intro e'; have := e i e'.symm; omega
  · rcases k.place with e | e
    · rw [e]; exact h.place
    · exact .inr fun j hj => by have := e j hj; omega
theorem Grow.below {w w' : World} {v v' : Value} {base : Nat} {l : List Nat} (h : Grow w w' v v') (ho : Own w base v l) (hb : base ≤ w.heap.size) : Below base w w' :=
  (Below.refl base w).grown h.grown hb ho.lt
/-- An append onto the call's own row, what was appended laid in a new block first. -/
theorem Grow.append {w w1 : World} {v v1 : Value} {o : Obj} (hg : (w.alloc o).grownBy w1 v.ownBlock) (hp : v1.ownBlock = v.ownBlock ∨ v1.ownBlock = some (w.heap.size + 1)) : Grow w w1 v v1 := by
  have hs := hg.size
  have hz : (w.alloc o).heap.size = w.heap.size + 1 := by simp
  refine ⟨⟨hg.os, hg.tape, hg.output, by omega, fun k hk hne => (hg.block k (by omega) hne).trans (Below.heap_alloc w o k hk)⟩, ?_⟩
  rcases hp with e | e
  · exact .inl e
  · exact .inr fun k hk => by rw [e] at hk; injection hk with hk; omega
theorem Row.grow {w w' : World} {v v' : Value} {B : Nat} {k : IntKind} {A : Option Addr} {l : List Nat} (h : Row w B k A l) (hg : Grow w w' v v') (hB : B ≤ w.heap.size) (hne : 0 < l.length → ∀ ad, A = some ad → some ad.block ≠ v.ownBlock) : Row w' B k A l := fun hl => by
  obtain ⟨b, off, e, hb, hc⟩ := h hl
  exact ⟨b, off, e, hb, fun j hj => (World.cell?_of_block (w := w) (a := ⟨b, off + j, none⟩) (hg.grown.block b (by omega) (hne hl _ e))).trans (hc j hj)⟩
end Go.Proofs.YtdolapobkhhanaaDoor
/-
  Rows whose elements take several cells each, wherever they lie, and such rows of the call's own: one text for all element types (El). Cells.
-/
namespace Go.Proofs.YtdolapobkhhanaaDoor
open Go.RowKit Go.Lib KM

/-- An element type: its number and its slice's, how many cells and bytes it takes, its zero, the cells of an element. -/
structure El (α : Type) where
  ty : TypeId
  sl : TypeId
  s : Nat
  bytes : Nat
  z : Value
  f : α → List Value
  pos : 0 < s
  len : ∀ a, (f a).length = s
  one : ∀ a, ∀ u ∈ f a, u.oneCell' = true
  und : Tryd.prog.underlying sl = some (.slice ty)
  info : (Tryd.prog.info? ty).map (fun i => (i.zero, i.size, i.bytes)) = some (some z, s, bytes)
  zs : z.cells.size = s

section
variable {α : Type} {E : El α}
/-- The cells of a list of them. -/
def El.cells (E : El α) (L : List α) : List Value := L.flatMap E.f
theorem El.cells_nil : E.cells [] = [] := rfl
theorem El.cells_cons (a : α) (L : List α) : E.cells (a :: L) = E.f a ++ E.cells L := by simp [El.cells]
theorem El.cells_one (a : α) : E.cells [a] = E.f a := by simp [El.cells]
theorem El.cells_append (L M : List α) : E.cells (L ++ M) = E.cells L ++ E.cells M := by simp [El.cells]
theorem El.cells_len (L : List α) : (E.cells L).length = L.length * E.s := by
  induction L with
  | nil => simp [El.cells]
  | cons a L ih => rw [E.cells_cons, List.length_append, E.len, ih, List.length_cons, Nat.add_mul, Nat.one_mul, Nat.add_comm]
theorem El.cells_at (L : List α) (i : Nat) (hi : i < L.length) (j : Nat) (hj : j < E.s) : (E.cells L)[i * E.s + j]? = (E.f L[i])[j]? := by
  induction L generalizing i with
  | nil => simp at hi
  | cons a L ih =>
    rw [E.cells_cons]
    cases i with
    | zero =>
      rw [List.getElem?_append_left (by rw [E.len]; omega)]
      simp
    | succ i =>
      have hs : (i + 1) * E.s + j = E.s + (i * E.s + j) := by rw [Nat.add_mul, Nat.one_mul]; omega
      rw [hs, List.getElem?_append_right (by rw [E.len]; omega), E.len, show E.s + (i * E.s + j) - E.s = i * E.s + j by omega, ih i (by simpa using hi)]
      rfl
theorem El.cells_one' (L : List α) : ∀ u ∈ E.cells L, u.oneCell' = true := by
  intro u hu
  obtain ⟨a, _, ha⟩ := List.mem_flatMap.1 hu
  exact E.one a u ha
theorem El.cells_set (L : List α) (i : Nat) (hi : i < L.length) (j : Nat) (hj : j < E.s) (a' : α) (u : Value) (hf : E.f a' = (E.f L[i]).set j u) : E.cells (L.set i a') = (E.cells L).set (i * E.s + j) u := by
  induction L generalizing i with
  | nil => simp at hi
  | cons a L ih =>
    cases i with
    | zero =>
      rw [List.set_cons_zero, E.cells_cons, E.cells_cons, hf, Nat.zero_mul, Nat.zero_add, List.set_append_left _ _ (by rw [E.len]; omega)]
      rfl
    | succ i =>
      have hs : (i + 1) * E.s + j = E.s + (i * E.s + j) := by rw [Nat.add_mul, Nat.one_mul]; omega
      rw [List.set_cons_succ, E.cells_cons, E.cells_cons, ih i (by simpa using hi) (by simpa using hf), hs, List.set_append_right _ _ (by rw [E.len]; omega), E.len, show E.s + (i * E.s + j) - E.s = i * E.s + j by omega]

/-- The slice value v, in a row of the call's own from block 'base' on, holds just these. -/
def El.Own (E : El α) (w : World) (base : Nat) (v : Value) (L : List α) : Prop := w.ownsRow base E.ty E.s v L.length (E.cells L)
/-- The slice value at A, of as many elements as L has, reads as L and lies below block B. -/
def El.Row (E : El α) (w : World) (B : Nat) (A : Option Addr) (L : List α) : Prop :=
  0 < L.length → ∃ b off, A = some ⟨b, off, none⟩ ∧ b < B ∧ ∀ j, j < L.length * E.s → w.cell? ⟨b, off + j, none⟩ = (E.cells L)[j]?

variable {w w' : World} {base B : Nat} {v v' : Value} {A : Option Addr} {L M : List α}
theorem El.Row.nil : E.Row w B A [] := fun h => absurd h (by simp)
theorem El.Row.below (h : E.Row w B A L) (hb : Below B w w') : E.Row w' B A L := fun hp => by
  obtain ⟨b, off, e, hlt, hc⟩ := h hp
  exact ⟨b, off, e, hlt, fun j hj => (hb.cell (p := ⟨b, off + j, none⟩) hlt).trans (hc j hj)⟩
theorem El.Row.mono {B' : Nat} (h : E.Row w B A L) (hB : B ≤ B') : E.Row w B' A L := fun hp => by
  obtain ⟨b, off, e, hlt, hc⟩ := h hp
  exact ⟨b, off, e, by omega, hc⟩
theorem El.Row.at_ (h : E.Row w B A L) {i : Nat} (hi : i < L.length) : ∃ b off, A = some ⟨b, off, none⟩ ∧ b < B ∧ ∀ j, j < E.s → w.cell? ⟨b, off + i * E.s + j, none⟩ = (E.f L[i])[j]? := by
  obtain ⟨b, off, e, hlt, hc⟩ := h (by omega)
  refine ⟨b, off, e, hlt, fun j hj => ?_⟩
  have : i * E.s + j < L.length * E.s := by
    have : (i + 1) * E.s ≤ L.length * E.s := Nat.mul_le_mul_right _ hi
    rw [Nat.add_mul, Nat.one_mul] at this
    omega
  rw [Nat.add_assoc, hc _ this, E.cells_at L i hi j hj]
theorem El.Row.take (h : E.Row w B A L) (k : Nat) : E.Row w B A (L.take k) := fun hl => by
  rw [List.length_take] at hl
  obtain ⟨b, off, e, hlt, hc⟩ := h (by omega)
  refine ⟨b, off, e, hlt, fun j hj => ?_⟩
  have hj' : j < (L.take k).length * E.s := hj
  rw [List.length_take] at hj
  have : min k L.length * E.s ≤ L.length * E.s := Nat.mul_le_mul_right _ (by omega)
  rw [hc j (by omega)]
  conv => lhs; rw [← List.take_append_drop k L]
  rw [E.cells_append, List.getElem?_append_left (by rw [E.cells_len]; exact hj')]
theorem El.Own.nil (w : World) (base : Nat) : E.Own w base (.slice none 0 0) [] := World.ownsRow_nil _ _ _ _
theorem El.Own.lt (h : E.Own w base v L) : ∀ k, v.ownBlock = some k → base ≤ k ∧ k < w.heap.size := fun k hk => World.ownsRow.lt h k hk
theorem El.Own.keep (h : E.Own w base v L) (hb : ∀ k, v.ownBlock = some k → w'.heap[k]? = w.heap[k]?) : E.Own w' base v L := by
  refine ⟨h.1, ?_⟩
  rcases h.2 with h1 | ⟨g, cap, cur, h1, h2, h3, h4⟩
  · exact .inl h1
  · exact .inr ⟨g, cap, cur, h1, h2, (hb g (by rw [h1]; rfl)).trans h3, h4⟩
theorem El.Own.below (h : E.Own w base v L) (hb : Below w.heap.size w w') : E.Own w' base v L := h.keep fun k hk => hb.block k (h.lt k hk).2
theorem El.Own.grown (h : E.Own w base v L) {row : Option Nat} (hg : w.grownBy w' row) (hne : ∀ k, v.ownBlock = some k → row ≠ some k) : E.Own w' base v L :=
  h.keep fun k hk => hg.block k (h.lt k hk).2 fun e => hne k hk e.symm
theorem El.Own.mono {base' : Nat} (h : E.Own w base v L) (hb : base' ≤ base) : E.Own w base' v L := by
  refine ⟨h.1, ?_⟩
  rcases h.2 with h1 | ⟨g, cap, cur, h1, h2, h3⟩
  · exact .inl h1
  · exact .inr ⟨g, cap, cur, h1, by omega, h3⟩
theorem El.Own.grow_below (ho : E.Own w base v L) (h : Grow w w' v v') (hb : base ≤ w.heap.size) : Below base w w' :=
  (Below.refl base w).grown h.grown hb fun k hk => (ho.lt k hk).1
theorem El.Own.row (h : E.Own w base v L) : ∃ A c, v = .slice A L.length c ∧ L.length ≤ c ∧ c ≤ maxLen ∧ (A = none → c = 0) ∧ E.Row w w.heap.size A L := by
  rcases h.2 with ⟨rfl, h0⟩ | ⟨g, cap, cur, rfl, _, hh, h1, h3, h4, h5⟩
  · exact ⟨none, 0, by rw [h0], by omega, by unfold maxLen; omega, fun _ => rfl, fun hp => by omega⟩
  · refine ⟨_, _, rfl, h1, h3, by simp, fun _ => ⟨g, 0, rfl, (Array.getElem?_eq_some_iff.1 hh).1, fun j hj => ?_⟩⟩
    rw [← h5, List.getElem?_take_of_lt hj, Nat.zero_add]
    simp [World.cell?, hh]
/-- Where a row of the call's own that isn't empty lies. -/
theorem El.Own.place (h : E.Own w base v L) (hp : 0 < L.length) : ∃ g c, v = .slice (some ⟨g, 0, none⟩) L.length c ∧ base ≤ g ∧ g < w.heap.size ∧ L.length ≤ c ∧ c ≤ maxLen ∧ (∀ j, w.frozen? ⟨g, j, none⟩ = false) ∧
    ∀ i (hi : i < L.length) j, j < E.s → w.cell? ⟨g, i * E.s + j, none⟩ = (E.f L[i])[j]? := by
  rcases h.2 with ⟨rfl, h0⟩ | ⟨g, cap, cur, rfl, hb, hh, h1, h3, h4, h5⟩
  · omega
  · refine ⟨g, cap, rfl, hb, (Array.getElem?_eq_some_iff.1 hh).1, h1, h3, fun j => by simp [World.frozen?, hh], fun i hi j hj => ?_⟩
    rw [← E.cells_at L i hi j hj, ← h5]
    have : i * E.s + j < L.length * E.s := by
      have : (i + 1) * E.s ≤ L.length * E.s := Nat.mul_le_mul_right _ hi
      rw [Nat.add_mul, Nat.one_mul] at this
      omega
    rw [List.getElem?_take_of_lt this]
    simp [World.cell?, hh]
/-- One cell of one element is set anew. -/
theorem El.Own.set (h : E.Own w base v L) {g c : Nat} (hv : v = .slice (some ⟨g, 0, none⟩) L.length c) {i : Nat} (hi : i < L.length) {j : Nat} (hj : j < E.s) {a' : α} {u : Value} (hf : E.f a' = (E.f L[i]).set j u) :
    E.Own (w.setCell ⟨g, i * E.s + j, none⟩ u) base v (L.set i a') := by
  have hlt : i * E.s + j < L.length * E.s := by
    have : (i + 1) * E.s ≤ L.length * E.s := Nat.mul_le_mul_right _ hi
    rw [Nat.add_mul, Nat.one_mul] at this
    omega
  unfold El.Own
  rw [List.length_set, E.cells_set L i hi j hj a' u hf]
  refine ⟨by rw [List.length_set]; exact h.1, ?_⟩
  rcases h.2 with ⟨e, h0⟩ | ⟨g', cap, cur, e, hb, hh, h1, h3, h4, h5⟩
  · rw [hv] at e; cases e
  · rw [hv] at e
    simp only [Value.slice.injEq, Option.some.injEq, Addr.mk.injEq, and_true, true_and] at e
    obtain ⟨rfl, rfl⟩ := e
    refine .inr ⟨g, c, cur.set! (i * E.s + j) u, hv, hb, ?_, h1, h3, by simpa using h4, ?_⟩
    · simp [World.setCell, Array.getElem?_modify, hh]
    · rw [← h5, Array.set!_eq_setIfInBounds, Array.toList_setIfInBounds, List.take_set]
theorem El.Own.snoc {a : α} (h : w.ownsRow base E.ty E.s v (L.length + 1) (E.cells L ++ E.f a)) : E.Own w base v (L ++ [a]) := by
  unfold El.Own
  rw [E.cells_append, List.length_append, E.cells_one]
  exact h
theorem El.row_new (w : World) (a : α) (arr : Array Value) (t : TypeId) (h : arr.toList = E.f a) : E.Row (w.alloc (.cells arr t)) (w.heap.size + 1) (some ⟨w.heap.size, 0, none⟩) [a] := fun _ => by
  refine ⟨w.heap.size, 0, rfl, by omega, fun j hj => ?_⟩
  rw [E.cells_one, ← h]
  simp
theorem El.run_append (E : El α) (w : World) (base : Nat) (ty : TypeId) (v : Value) (L : List α) (hown : E.Own w base v L) (A : Option Addr) (M : List α) (c B : Nat) (hr : E.Row w B A M) (hA : A = none → c = 0)
    (hlen : (L.length + M.length) * E.bytes ≤ 140737488355328) (hmax : L.length + M.length ≤ maxLen) (hbase : base ≤ w.heap.size) :
    ∃ v' w', (Builtin.append_ #[E.sl, E.sl] ty #[v, .slice A M.length c]).run Tryd.prog w = .ok v' w' ∧ E.Own w' base v' (L ++ M) ∧ Grow w w' v v' := by
  obtain ⟨i0, hi, hz0, hz1, hz2⟩ := info_parts E.info
  rcases A with _ | a
  · have : M = [] := by
      rcases M with _ | ⟨x, l⟩
      · rfl
      · obtain ⟨b, off, h, _⟩ := hr (by simp)
        cases h
    subst this
    obtain rfl := hA rfl
    exact ⟨v, w, run_append_owned_none (P := Tryd.prog) (w := w) base E.sl ty E.ty i0 E.s E.und hi v L.length _ hown, by simpa using hown, Grow.refl _ _⟩
  · obtain ⟨v', w', h1, h2, h3, _, h5⟩ := run_append_own_at (P := Tryd.prog) w base E.sl ty E.ty i0 _ E.s E.bytes E.und hi hz0 hz1 hz2 E.zs E.pos v L.length _ hown a M.length c (E.cells M) (E.cells_len M)
      (fun j u hu => by
        have hj : j < M.length * E.s := by
          rcases Nat.lt_or_ge j (M.length * E.s) with h | h
          · exact h
          · rw [List.getElem?_eq_none (by rw [E.cells_len]; exact h)] at hu; cases hu
        have hp : 0 < M.length := by
          rcases Nat.eq_zero_or_pos M.length with h | h
          · rw [h] at hj; omega
          · exact h
        obtain ⟨b, off, h, _, hc⟩ := hr hp
        obtain rfl := Option.some.inj h
        have hplain : (⟨b, off, none⟩ : Addr).add j = ⟨b, off + j, none⟩ := by unfold Addr.add; split <;> simp_all
        rw [hplain, hc j hj, hu])
      (E.cells_one' M) hmax hlen hbase
    refine ⟨v', w', h1, ?_, ⟨h3, ?_⟩⟩
    · unfold El.Own
      rw [E.cells_append, List.length_append]
      exact h2
    · rcases h5 with h5 | h5
      · exact .inl h5
      · exact .inr fun k hk => by rw [h5] at hk; injection hk with hk; omega
/-- append(v, x...), in an operation whose guard, if it has one, says yes. -/
theorem El.wp_append (E : El α) {w : World} {ops : Array Oper} {rest : List Oper} {o : Oper} {a : Act} {Q : Exit → Act → World → Prop} (hgd : Region.wanted o (yielded ops a.tmps) = true) (s x : Operand)
    (ho : o.op = .call { callee := .builtin .append, args := #[s, x], argTypes := #[E.sl, E.sl] }) (base : Nat) (v : Value) (L : List α) (hs : a.eval s = v) (hown : E.Own w base v L)
    (A : Option Addr) (M : List α) (n c B : Nat) (hn : n = M.length) (hx : a.eval x = .slice A n c) (hr : E.Row w B A M) (hA : A = none → c = 0) (hlen : (L.length + M.length) * E.bytes ≤ 140737488355328) (hmax : L.length + M.length ≤ maxLen) (hbase : base ≤ w.heap.size)
    (h : ∀ v' w', E.Own w' base v' (L ++ M) → Grow w w' v v' → wpList Tryd.prog ops Q rest (a.put o.dst v') w') : wpList Tryd.prog ops Q (o :: rest) a w := by
  subst hn
  obtain ⟨v', w', hrun, h2, h3⟩ := E.run_append w base o.type v L hown A M c B hr hA hlen hmax hbase
  refine wpList_step fun K hK => ?_
  rw [if_pos hgd]
  unfold Oper.wp execOp
  simp only [ho, resolve, invoke, builtin, Sem.run_bind, Sem.run_pure, Result.andThen_ok, List.map_toArray, List.map_cons, List.map_nil, hs, hx, hrun]
  exact hK _ _ (h v' w' h2 h3)
theorem grow_alloc {w w2 : World} {v v' : Value} (o : Obj) (h : Grow (w.alloc o) w2 v v') : Grow w w2 v v' := by
  have hb : Below w.heap.size w (w.alloc o) := (Below.refl _ _).alloc (Nat.le_refl _) _
  have hs := hb.size
  refine ⟨⟨h.grown.os.trans hb.os, h.grown.tape.trans hb.tape, h.grown.output.trans hb.output, Nat.le_trans hs h.grown.size, fun k hk hne => (h.grown.block k (by omega) hne).trans (hb.block k hk)⟩, ?_⟩
  rcases h.place with e | e
  · exact .inl e
  · exact .inr fun k hk => by have := e k hk; omega
/-- append(v, x), x laid in a new block first. -/
theorem El.wp_append1 (E : El α) {w : World} {ops : Array Oper} {rest : List Oper} {o : Oper} {a : Act} {Q : Exit → Act → World → Prop} (hgd : Region.wanted o (yielded ops a.tmps) = true) (s x : Operand)
    (ho : o.op = .call { callee := .builtin .append, args := #[s, x], argTypes := #[E.sl, E.sl] }) (base : Nat) (v : Value) (L : List α) (hs : a.eval s = v) (hown : E.Own w base v L)
    (el : α) (arr : Array Value) (t : TypeId) (harr : arr.toList = E.f el) (hx : a.eval x = .slice (some ⟨w.heap.size, 0, none⟩) 1 1) (hlen : (L.length + 1) * E.bytes ≤ 140737488355328) (hmax : L.length + 1 ≤ maxLen) (hbase : base ≤ w.heap.size)
    (h : ∀ v' w', E.Own w' base v' (L ++ [el]) → Grow w w' v v' → wpList Tryd.prog ops Q rest (a.put o.dst v') w') : wpList Tryd.prog ops Q (o :: rest) a (w.alloc (.cells arr t)) := by
  refine E.wp_append hgd s x ho base v L hs (hown.below ((Below.refl _ _).alloc (Nat.le_refl _) _)) _ [el] 1 1 (w.heap.size + 1) rfl hx (El.row_new w el arr t harr) (by simp) hlen hmax (by simp; omega) ?_
  intro v' w' h1 h2
  exact h v' w' h1 (grow_alloc _ h2)
/-- A new block of one element, as a row of the call's own. -/
theorem El.own_new (E : El α) (w : World) (base : Nat) (el : α) (arr : Array Value) (harr : arr.toList = E.f el) (hbase : base ≤ w.heap.size) : E.Own (w.alloc (.cells arr E.ty)) base (.slice (some ⟨w.heap.size, 0, none⟩) 1 1) [el] := by
  refine ⟨E.cells_len _, .inr ⟨w.heap.size, 1, arr, rfl, hbase, heap_alloc_new w _, Nat.le_refl _, by unfold maxLen; omega, ?_, ?_⟩⟩
  · have := congrArg List.length harr
    rw [E.len] at this
    simpa using this
  · rw [harr, E.cells_one]
    exact List.take_of_length_le (by rw [E.len]; simp)
end

/-- Cells. -/
def celE : El Cel where
  ty := 63
  sl := 48
  s := 6
  bytes := 32
  z := .agg #[.int .i32 0, .bool false, .bool false, .bool false, .int .i64 0, .int .i64 0]
  f := celL
  pos := by decide
  len := fun _ => rfl
  one := fun a u hu => by
    simp only [celL, List.mem_cons, List.not_mem_nil, or_false] at hu
    rcases hu with rfl | rfl | rfl | rfl | rfl | rfl <;> rfl
  und := Tryd.underlying48
  info := by kernel_rfl
  zs := rfl
end Go.Proofs.YtdolapobkhhanaaDoor
/-
  Layer 8's other rows: runs, integers.
-/
namespace Go.Proofs.YtdolapobkhhanaaDoor
open Go.RowKit Go.Lib KM

def runE : El (Nat × Cel) where
  ty := 130
  sl := 120
  s := 7
  bytes := 40
  z := .agg #[.int .i64 0, .int .i32 0, .bool false, .bool false, .bool false, .int .i64 0, .int .i64 0]
  f := runL
  pos := by decide
  len := fun _ => rfl
  one := fun a u hu => by
    simp only [runL, List.mem_cons, List.not_mem_nil, or_false] at hu
    rcases hu with rfl | rfl | rfl | rfl | rfl | rfl | rfl <;> rfl
  und := Tryd.underlying120
  info := by kernel_rfl
  zs := rfl
def intE : El Int where
  ty := 3
  sl := 39
  s := 1
  bytes := 8
  z := .int .i64 0
  f := fun z => [.int .i64 z]
  pos := by decide
  len := fun _ => rfl
  one := fun a u hu => by
    simp only [List.mem_cons, List.not_mem_nil, or_false] at hu
    subst hu; rfl
  und := Tryd.underlying39
  info := by kernel_rfl
  zs := rfl
theorem build_run (w : World) (n r : Int) (b u t : Bool) (f k : Int) : (Instr.build 130 #[(0, .int .i64 n), (1, .agg #[.int .i32 r, .bool b, .bool u, .bool t, .int .i64 f, .int .i64 k])]).run Tryd.prog w = .ok (.agg #[.int .i64 n, .int .i32 r, .bool b, .bool u, .bool t, .int .i64 f, .int .i64 k]) w := by kernel_rfl
theorem build_run0 (w : World) : (Instr.build 130 #[]).run Tryd.prog w = .ok (.agg #[.int .i64 0, .int .i32 0, .bool false, .bool false, .bool false, .int .i64 0, .int .i64 0]) w := by kernel_rfl
end Go.Proofs.YtdolapobkhhanaaDoor
/-
  Layer 8 (cell): a style behind parameters (Change); a style's parameters (Params).
-/
namespace Go.Proofs.YtdolapobkhhanaaDoor
open Go.RowKit Go.Lib KM

/-- A style that lies in a block of its own. -/
def StyAt (w : World) (g : Nat) (s : Sty) : Prop := w.heap[g]? = some (.cells #[.bool s.bold, .bool s.under, .bool s.turned, .int .i64 s.fore, .int .i64 s.back] 30 (0, 0))
theorem StyAt.cells {w : World} {g : Nat} {s : Sty} (h : StyAt w g s) : w.cell? ⟨g, 0, none⟩ = some (.bool s.bold) ∧ w.cell? ⟨g, 1, none⟩ = some (.bool s.under) ∧ w.cell? ⟨g, 2, none⟩ = some (.bool s.turned) ∧ w.cell? ⟨g, 3, none⟩ = some (.int .i64 s.fore) ∧ w.cell? ⟨g, 4, none⟩ = some (.int .i64 s.back) ∧
    w.frozen? ⟨g, 0, none⟩ = false ∧ w.frozen? ⟨g, 1, none⟩ = false ∧ w.frozen? ⟨g, 2, none⟩ = false ∧ w.frozen? ⟨g, 3, none⟩ = false ∧ w.frozen? ⟨g, 4, none⟩ = false := by
  unfold StyAt at h
  refine ⟨?_, ?_, ?_, ?_, ?_, ?_, ?_, ?_, ?_, ?_⟩ <;> simp [World.cell?, World.frozen?, h]
theorem StyAt.below {w w' : World} {g B : Nat} {s : Sty} (h : StyAt w g s) (hb : Below B w w') (hg : g < B) : StyAt w' g s := (hb.block g hg).trans h
theorem StyAt.lt {w : World} {g : Nat} {s : Sty} (h : StyAt w g s) : g < w.heap.size := (Array.getElem?_eq_some_iff.1 h).1

/-- A style stored over another one. -/
def setS (w : World) (g : Nat) (b u t : Bool) (f k : Int) : World := ((((w.setCell ⟨g, 0, none⟩ (.bool b)).setCell ⟨g, 1, none⟩ (.bool u)).setCell ⟨g, 2, none⟩ (.bool t)).setCell ⟨g, 3, none⟩ (.int .i64 f)).setCell ⟨g, 4, none⟩ (.int .i64 k)
theorem setS_at {w : World} {g : Nat} {s : Sty} (h : StyAt w g s) (b u t : Bool) (f k : Int) : StyAt (setS w g b u t f k) g ⟨b, u, t, f, k⟩ := by
  unfold StyAt at h ⊢
  simp [setS, World.setCell, Array.getElem?_modify, h]
theorem setS_below {w w0 : World} {g B : Nat} (h : Below B w0 w) (hg : B ≤ g) (b u t : Bool) (f k : Int) : Below B w0 (setS w g b u t f k) := by
  unfold setS
  exact ((((h.setCell (p := ⟨g, 0, none⟩) hg _).setCell (p := ⟨g, 1, none⟩) hg _).setCell (p := ⟨g, 2, none⟩) hg _).setCell (p := ⟨g, 3, none⟩) hg _).setCell (p := ⟨g, 4, none⟩) hg _
theorem setS_other {w : World} {g g' : Nat} (hne : g' ≠ g) (b u t : Bool) (f k : Int) : (setS w g b u t f k).heap[g']? = w.heap[g']? := by
  unfold setS
  rw [Below.heap_setCell _ _ _ g' (hne), Below.heap_setCell _ _ _ g' (hne), Below.heap_setCell _ _ _ g' (hne), Below.heap_setCell _ _ _ g' (hne), Below.heap_setCell _ _ _ g' (hne)]

/-- What Params answers. -/
def ParamsPost (w : World) (l : List Int) (e : Ending) (w' : World) : Prop := ∃ A c, e = .returned (.slice A l.length c) ∧ intE.Row w' w'.heap.size A l ∧ Below w.heap.size w w'
/-- Where Params stands: the parameters so far, in a row of its own; the style lies where it lay. -/
def ParRel (w w1 : World) (L : List Int) (v : Value) (wc : World) : Prop := intE.Own wc (w.heap.size + 1) v L ∧ Below (w.heap.size + 1) w1 wc
theorem ParRel.step {w w1 wc wd : World} {L : List Int} {v v' : Value} {x : Int} (h : ParRel w w1 L v wc) (hz : w1.heap.size = w.heap.size + 1) (ho : intE.Own wd (w.heap.size + 1) v' (L ++ [x])) (hg : Grow wc wd v v') : ParRel w w1 (L ++ [x]) v' wd :=
  ⟨ho, h.2.trans (h.1.grow_below hg (by have := h.2.size; omega))⟩

end Go.Proofs.YtdolapobkhhanaaDoor
/-
  Layer 1 (vary): what putOne and Put answer, behind bytes that the call's own row holds.
-/
namespace Go.Proofs.YtdolapobkhhanaaDoor
open Go.RowKit

set_option maxRecDepth 100000 in
set_option maxHeartbeats 400000 in
theorem putOne_grow (v : Value) (xs : List Nat) (n : Nat) (w : World) (base : Nat) (hn : n < 18446744073709551616) (hx : xs.length ≤ 1000000000) (hown : Own w base v xs) (hbase : base ≤ w.heap.size) :
    Calls Tryd.prog 62 #[v, .int .u64 n] w fun e w' => ∃ v', e = .returned v' ∧ Own w' base v' (xs ++ VM.enc n) ∧ Grow w w' v v' := by
  obtain ⟨i0, hi, hz0, hz1, hz2⟩ := info_parts Tryd.info5
  go_enter Tryd.func62, Tryd.ntmps62
  go_wp2
  go_loopw [0, 1] (fun u m wr => ∃ (ys : List Nat) (k : Nat), m = .int .u64 k ∧ k < 18446744073709551616 ∧ Own wr base u ys ∧ ys ++ VM.enc k = xs ++ VM.enc n ∧ Grow w wr v u)
    (fun _ m _ => (intOf m).toNat)
  case atStart => exact ⟨xs, n, rfl, hn, hown, rfl, Grow.refl _ _⟩
  case round =>
    obtain ⟨ys, k, rfl, hk, ho, he, hb⟩ := hrel
    have hlen : ys.length ≤ 1000000010 := by
      have h1 := congrArg List.length he
      have h2 := VM.enc_len64 hn
      simp only [List.length_append] at h1
      omega
    have HE := Lib.hid he; clear he
    have HO := Lib.hid ho; clear ho
    have hzr := hb.grown.size
    have HB := Lib.hid hb; clear hb
    by_cases h128 : 128 ≤ k
    · go_wp2_with (at_builtin; refine wpList_append_own_at _ rfl _ _ 22 rfl base 5 i0 (.int .u8 0) 1 1 Tryd.underlying22 hi hz0 hz1 hz2 rfl (by decide) _ _ _ rfl (HO.out.alloc _) ⟨wr.heap.size, 0, none⟩ 1 1 [.int .u8 ((k : Int) % 128 + 128)] rfl rfl ?c1 ?c2 ?c3 ?c4 ?c5 ?_)
      case c1 => exact cell_one_new _ _ _
      case c2 => intro u hu; simp at hu; subst hu; rfl
      case c3 => unfold maxLen; omega
      case c4 => omega
      case c5 => simp; omega
      · intro v' w1 ho1 hg1 _ hp1
        have HO1 := Lib.hid (ho1 : w1.ownsRow base 5 1 v' (ys.length + 1) (nums .u8 ys ++ [.int .u8 ((k : Int) % 128 + 128)])); clear ho1
        have HG := Lib.hid (Grow.append hg1 hp1); clear hg1 hp1
        go_wp2
        go_roundw
        case rel => exact ⟨ys ++ [k % 128 + 128], k / 128, by go_num, by omega, Own.snoc (by omega) HO1.out, by rw [← HE.out, VM.enc_ge h128]; simp, HB.out.trans HG.out⟩
        case measure => simp [intOf]; omega
    · go_wp2_with (at_builtin; refine wpList_append_own_at _ rfl _ _ 22 rfl base 5 i0 (.int .u8 0) 1 1 Tryd.underlying22 hi hz0 hz1 hz2 rfl (by decide) _ _ _ rfl (HO.out.alloc _) ⟨wr.heap.size, 0, none⟩ 1 1 [.int .u8 (k : Int)] rfl rfl ?d1 ?d2 ?d3 ?d4 ?d5 ?_)
      case d1 => exact cell_one_new _ _ _
      case d2 => intro u hu; simp at hu; subst hu; rfl
      case d3 => unfold maxLen; omega
      case d4 => omega
      case d5 => simp; omega
      · intro v' w1 ho1 hg1 _ hp1
        have HO1 := Lib.hid (ho1 : w1.ownsRow base 5 1 v' (ys.length + 1) (nums .u8 ys ++ [.int .u8 (k : Int)])); clear ho1
        have HG := Lib.hid (Grow.append hg1 hp1); clear hg1 hp1
        go_wp2
        go_ret
        exact ⟨v', rfl, by rw [← HE.out, VM.enc_lt (by omega)]; exact Own.snoc rfl HO1.out, HB.out.trans HG.out⟩

theorem putOne_any (v : Value) (xs : List Nat) (n : Nat) (w : World) (base : Nat) (hn : n < 18446744073709551616) (hx : xs.length ≤ 1000000000) (hown : Own w base v xs) (hbase : base ≤ w.heap.size) :
    Calls Tryd.prog 62 #[v, .int .u64 n] w fun e w' => ∃ v', e = .returned v' ∧ Own w' base v' (xs ++ VM.enc n) ∧ Below base w w' :=
  (putOne_grow v xs n w base hn hx hown hbase).mono fun _ _ ⟨v', h1, h2, h3⟩ => ⟨v', h1, h2, h3.below hown hbase⟩

set_option maxRecDepth 100000 in
set_option maxHeartbeats 400000 in
theorem put_grow (v : Value) (xs : List Nat) (A : Option Addr) (c : Nat) (l : List Nat) (w : World) (base B : Nat) (hl : ∀ n ∈ l, n < 18446744073709551616) (hm : l.length ≤ 10000000) (hx : xs.length ≤ 100000000)
    (hr : Row w B .u64 A l) (hB : B ≤ w.heap.size) (hne : 0 < l.length → ∀ ad, A = some ad → some ad.block ≠ v.ownBlock) (hown : Own w base v xs) (hbase : base ≤ w.heap.size) :
    Calls Tryd.prog 59 #[v, .slice A l.length c] w fun e w' => ∃ v', e = .returned v' ∧ Own w' base v' (xs ++ VM.encs l) ∧ Grow w w' v v' := by
  have HNE := Lib.hid hne; clear hne
  go_enter Tryd.func59, Tryd.ntmps59
  go_wp2
  go_loopw [0, 9] (fun u i wr => ∃ k : Nat, k ≤ l.length ∧ i = .int .i64 k ∧ Own wr base u (xs ++ VM.encs (l.take k)) ∧ Grow w wr v u)
    (fun _ i _ => l.length - (intOf i).toNat)
  case atStart => exact ⟨0, Nat.zero_le _, rfl, by simpa [VM.encs] using hown, Grow.refl _ _⟩
  case round =>
    obtain ⟨k, hk, rfl, ho, hb⟩ := hrel
    have HO := Lib.hid ho; clear ho
    have hzr := hb.grown.size
    have HB := Lib.hid hb; clear hb
    by_cases hlt : k < l.length
    · obtain ⟨b, off, rfl, hbb, hcell⟩ := (hr.grow HB.out hB HNE.out).at_ hlt
      have hgk : l.getD k 0 = l[k] := by simp [hlt]
      have hn : l.getD k 0 < 18446744073709551616 := by rw [hgk]; exact hl _ (List.getElem_mem _)
      have htk : l.take (k + 1) = l.take k ++ [l.getD k 0] := by rw [List.take_succ_eq_append_getElem hlt, hgk]
      have hlen : (xs ++ VM.encs (l.take k)).length ≤ 1000000000 := by
        have := VM.encs_len (l.take k) (fun n h => hl n (List.mem_of_mem_take h))
        rw [List.length_append]
        rw [List.length_take] at this
        omega
      have HT := Lib.hid htk; clear htk hgk
      generalize l.getD k 0 = x at *
      have HN := Lib.hid hn; clear hn
      have HLE := Lib.hid hlen; clear hlen hl hr
      go_wp2_with fail
      refine (putOne_grow _ (xs ++ VM.encs (l.take k)) x _ base HN.out HLE.out HO.out (by omega)).mono ?_
      rintro e w1 ⟨v', rfl, ho1, hb1⟩
      have HO1 := Lib.hid ho1; clear ho1
      have HB1 := Lib.hid hb1; clear hb1
      go_wp2
      go_roundw
      case rel => exact ⟨k + 1, by omega, by go_num, by rw [HT.out, VM.encs_append, ← List.append_assoc]; simpa [VM.encs] using HO1.out, HB.out.trans HB1.out⟩
      case measure => simp [intOf]; omega
    · go_wp2
      go_ret
      have e : l.take k = l := List.take_of_length_le (by omega)
      exact ⟨_, rfl, by have := HO.out; rw [e] at this; exact this, HB.out⟩

theorem put_any (v : Value) (xs : List Nat) (A : Option Addr) (c : Nat) (l : List Nat) (w : World) (base : Nat) (hl : ∀ n ∈ l, n < 18446744073709551616) (hm : l.length ≤ 10000000) (hx : xs.length ≤ 100000000)
    (hr : Row w base .u64 A l) (hown : Own w base v xs) (hbase : base ≤ w.heap.size) :
    Calls Tryd.prog 59 #[v, .slice A l.length c] w fun e w' => ∃ v', e = .returned v' ∧ Own w' base v' (xs ++ VM.encs l) ∧ Below base w w' :=
  (put_grow v xs A c l w base base hl hm hx hr hbase (fun hp ad ha e => by
    obtain ⟨b, off, h1, h2, _⟩ := hr hp
    rw [h1] at ha
    injection ha with ha
    subst ha
    have := hown.lt b e.symm
    omega) hown hbase).mono fun _ _ ⟨v', h1, h2, h3⟩ => ⟨v', h1, h2, h3.below hown hbase⟩
end Go.Proofs.YtdolapobkhhanaaDoor
/-
  Layer 1 (vary): Put of one number, laid in a new block.
-/
namespace Go.Proofs.YtdolapobkhhanaaDoor
open Go.RowKit

/-- A new block of numbers, as the row that a slice over it reads. -/
theorem row_new (w : World) (k : IntKind) (x : Nat) (t : TypeId) : Row (w.alloc (.cells #[.int k (x : Int)] t)) (w.heap.size + 1) k (some ⟨w.heap.size, 0, none⟩) [x] := fun _ => by
  refine ⟨w.heap.size, 0, rfl, by omega, fun j hj => ?_⟩
  obtain rfl : j = 0 := by simp at hj; omega
  simp

/-- Some slice that reads as these bytes; below 'base' the world is as w0 was. -/
def BytesPost (base : Nat) (w0 : World) (l : List Nat) (e : Ending) (w' : World) : Prop :=
  ∃ A c, e = .returned (.slice A l.length c) ∧ l.length ≤ c ∧ c ≤ maxLen ∧ (A = none → c = 0) ∧ Row w' w'.heap.size .u8 A l ∧ Below base w0 w'

/-- Put(nil, n), as it is called: the one number laid in a new block. -/
theorem put_one (w : World) (n : Nat) (hn : n < 18446744073709551616) :
    Calls Tryd.prog 59 #[.slice none 0 0, .slice (some ⟨w.heap.size, 0, none⟩) 1 1] (w.alloc (.cells #[.int .u64 (n : Int)] 104)) (BytesPost w.heap.size w (VM.enc n)) := by
  refine (put_any _ [] _ 1 [n] _ (w.heap.size + 1) (by simpa using hn) (by simp) (by simp) (row_new w .u64 n _) (Own.nil _ _) (by simp)).mono ?_
  rintro e w1 ⟨v, rfl, ho, hb⟩
  obtain ⟨A, c, hv, h1, h2, h3, h4⟩ := ho.form
  rw [VM.encs_one, List.nil_append] at hv h1 h4
  exact ⟨A, c, by rw [hv], h1, h2, h3, h4, ((Below.refl _ _).alloc (Nat.le_refl _) _).trans (hb.mono (by omega))⟩
theorem put_one_drew (w : World) (n : Nat) (hn : n < 18446744073709551616) :
    Calls Tryd.prog 59 #[.slice none 0 0, .slice (some ⟨w.heap.size, 0, none⟩) 1 1] (w.alloc (.cells #[.int .u64 (n : Int)] 104)).drew (BytesPost w.heap.size w (VM.enc n)) :=
  (put_one w.drew n hn).mono fun _ _ ⟨A, c, h0, h1, h2, h3, h4, h5⟩ => ⟨A, c, h0, h1, h2, h3, h4, (Below.refl _ _).drew.trans h5⟩

theorem put_int (w : World) (x : Int) (h0 : 0 ≤ x) (hn : x ≤ 18446744073709551615) :
    Calls Tryd.prog 59 #[.slice none 0 0, .slice (some ⟨w.heap.size, 0, none⟩) 1 1] (w.alloc (.cells #[.int .u64 x] 104)) (BytesPost w.heap.size w (VM.enc x.toNat)) := by
  have h := put_one w x.toNat (by omega)
  rwa [Int.toNat_of_nonneg h0] at h

/-- Put(v, x), x laid in a new block, v a row of the call's own that is older. -/
theorem put_fresh (v : Value) (xs : List Nat) (x : Int) (w : World) (base : Nat) (h0 : 0 ≤ x) (h1 : x ≤ 18446744073709551615) (hx : xs.length ≤ 100000000) (hown : Own w base v xs) (hbase : base ≤ w.heap.size) :
    Calls Tryd.prog 59 #[v, .slice (some ⟨w.heap.size, 0, none⟩) 1 1] (w.alloc (.cells #[.int .u64 x] 104)) fun e w' => ∃ v', e = .returned v' ∧ Own w' base v' (xs ++ VM.enc x.toNat) ∧ Below base w w' := by
  obtain ⟨n, rfl⟩ := Int.eq_ofNat_of_zero_le h0
  have hb : Below base w (w.alloc (.cells #[.int .u64 (n : Int)] 104)) := (Below.refl _ _).alloc hbase _
  refine (put_grow v xs _ 1 [n] _ base (w.heap.size + 1) (by simp; omega) (by simp) hx (row_new w .u64 n _) (by simp) (fun _ ad ha e => ?_) (hown.alloc _) (by simp; omega)).mono ?_
  · injection ha with ha
    subst ha
    have := (World.ownsRow.lt hown _ e.symm).2
    exact Nat.lt_irrefl _ this
  · rintro e w1 ⟨v', rfl, ho, hg⟩
    rw [VM.encs_one] at ho
    exact ⟨v', rfl, by simpa using ho, hb.trans (hg.below (l := xs) (hown.alloc _) (by simp; omega))⟩

end Go.Proofs.YtdolapobkhhanaaDoor
/-
  Layer 1 (vary): what Take answers, of whatever bytes.
-/
namespace Go.Proofs.YtdolapobkhhanaaDoor
open Go.RowKit

theorem or_join (X c k : Nat) (hk : k ≤ 9) (hX : X < 2 ^ (7 * k)) (hc : k = 9 → c ≤ 1) :
    bits .or .u64 (X : Int) (IntKind.u64.wrap ((c : Int) % 128 * 2 ^ (7 * k))) = ((X + c % 128 * 2 ^ (7 * k) : Nat) : Int) := by
  have hp : 2 ^ (7 * k) ≤ 9223372036854775808 := by
    have := Nat.pow_le_pow_right (n := 2) (by omega) (show 7 * k ≤ 63 by omega)
    exact this
  have hlt : c % 128 * 2 ^ (7 * k) + 2 ^ (7 * k) ≤ 18446744073709551616 := by
    by_cases h9 : k = 9
    · have := hc h9
      have : c % 128 * 2 ^ (7 * k) ≤ 1 * 2 ^ (7 * k) := Nat.mul_le_mul_right _ (by omega)
      omega
    · have h1 : 2 ^ (7 * k) ≤ 2 ^ 56 := Nat.pow_le_pow_right (by omega) (by omega)
      have h2 : c % 128 * 2 ^ (7 * k) ≤ 127 * 2 ^ 56 := Nat.mul_le_mul (by omega) h1
      have e1 : (127 : Nat) * 2 ^ 56 = 9151314442816847872 := by decide
      have e2 : (2 : Nat) ^ 56 = 72057594037927936 := by decide
      omega
  have e : IntKind.u64.wrap ((c : Int) % 128 * 2 ^ (7 * k)) = ((c % 128 * 2 ^ (7 * k) : Nat) : Int) := by
    rw [show ((c : Int) % 128 * 2 ^ (7 * k)) = ((c % 128 * 2 ^ (7 * k) : Nat) : Int) from by push_cast; rfl]
    exact IntWalk.u64_in _ ⟨by omega, by omega⟩
  rw [e, u64_or_nat _ _ (by omega) (by omega), Nat.or_comm, nat_join (7 * k) _ _ (Nat.mul_mod_left _ _) hX, Nat.add_comm]

theorem ret_pair {a c b d : Int} (h1 : a = c) (h2 : b = d) : Ending.returned (.tuple #[.int .u64 a, .int .i64 b]) = .returned (.tuple #[.int .u64 c, .int .i64 d]) := by rw [h1, h2]
theorem join_lt {X x k : Nat} (hX : X < 2 ^ (7 * k)) : X + x % 128 * 2 ^ (7 * k) < 2 ^ (7 * (k + 1)) := by
  rw [VM.pow7]
  have : x % 128 * 2 ^ (7 * k) + 2 ^ (7 * k) ≤ 128 * 2 ^ (7 * k) := by
    rw [← Nat.succ_mul]; exact Nat.mul_le_mul_right _ (by omega)
  omega

set_option maxRecDepth 100000 in
set_option maxHeartbeats 400000 in
theorem take_any (A : Option Addr) (c : Nat) (l : List Nat) (w : World) (B : Nat) (hm : l.length ≤ maxLen) (hr : Row w B .u8 A l) (hb : ∀ c ∈ l, c < 256) :
    Calls Tryd.prog 69 #[.slice A l.length c] w fun e w' => e = .returned (.tuple #[.int .u64 (VM.take l).1, .int .i64 (VM.take l).2]) ∧ w = w' := by
  unfold maxLen at hm
  go_enter Tryd.func69, Tryd.ntmps69
  go_wp2
  go_loop [4, 9] (fun x i => ∃ k X : Nat, k ≤ l.length ∧ k ≤ 9 ∧ i = .int .i64 k ∧ x = .int .u64 X ∧ X < 2 ^ (7 * k) ∧ VM.take l = VM.dec k X (l.drop k)) (fun _ i => l.length - (intOf i).toNat)
  case atStart => exact ⟨0, 0, Nat.zero_le _, Nat.zero_le _, rfl, rfl, by simp, rfl⟩
  case round =>
    obtain ⟨k, X, hk, hk9, rfl, rfl, hX, hd⟩ := hrel
    have HD := Lib.hid hd; clear hd
    have HX := Lib.hid hX; clear hX
    by_cases hlt : k < l.length
    · obtain ⟨b, off, rfl, _, hcell⟩ := hr.at_ hlt
      have hgk : l.getD k 0 = l[k] := by simp [hlt]
      have hcb : l.getD k 0 < 256 := by rw [hgk]; exact hb _ (List.getElem_mem _)
      have hsp : l.drop k = l.getD k 0 :: l.drop (k + 1) := by rw [List.drop_eq_getElem_cons hlt, hgk]
      clear hgk
      generalize l.getD k 0 = x at *
      have HS := Lib.hid hsp; clear hsp
      clear hr hb
      have HE := Lib.hid (HD.out.trans (by rw [HS.out, VM.dec]))
      by_cases h9 : k = 9
      · subst h9
        by_cases hx : 1 < x
        · have e := HE.out; rw [if_pos ⟨rfl, hx⟩] at e
          have E := Lib.hid e; clear e
          go_wp2
          go_ret2
          exact ⟨ret_pair (by rw [E.out]; rfl) (by rw [E.out]; rfl), rfl⟩
        · have e := HE.out; rw [if_neg (by omega), if_neg (by omega)] at e
          by_cases hx0 : x = 0
          · rw [if_pos (by omega)] at e
            have E := Lib.hid e; clear e
            subst hx0
            go_wp2
            go_ret2
            exact ⟨ret_pair (by rw [E.out]; rfl) (by rw [E.out]; rfl), rfl⟩
          · rw [if_neg (by omega)] at e
            have E := Lib.hid e; clear e
            obtain rfl : x = 1 := by omega
            have hj := Lib.hid (or_join X 1 9 (by omega) HX.out (by omega))
            go_wp2
            go_ret2
            refine ⟨ret_pair ?_ ?_, rfl⟩
            · rw [E.out]; exact hj.out
            · rw [E.out]; rfl
      · have b9 : ((k : Int) == 9) = false := by simp; omega
        by_cases h128 : 128 ≤ x
        · have e := HE.out; rw [if_neg (by omega), if_pos (by omega)] at e
          have E := Lib.hid e; clear e
          have hj := Lib.hid (or_join X x k (by omega) HX.out (by omega))
          have hl := Lib.hid (join_lt (x := x) HX.out)
          go_wp2
          go_round
          case rel => exact ⟨k + 1, _, by omega, by omega, by go_num, by rw [hj.out], hl.out, E.out⟩
          case measure => simp [intOf]; omega
        · have e := HE.out; rw [if_neg (by omega), if_neg (by omega)] at e
          by_cases hx0 : x = 0 ∧ 0 < k
          · rw [if_pos hx0] at e
            have E := Lib.hid e; clear e
            obtain ⟨rfl, hk0⟩ := hx0
            go_wp2
            go_ret2
            exact ⟨ret_pair (by rw [E.out]; rfl) (by rw [E.out]; rfl), rfl⟩
          · rw [if_neg hx0] at e
            have E := Lib.hid e; clear e
            have hj := Lib.hid (or_join X x k (by omega) HX.out (by omega))
            go_wp2
            all_goals go_ret2
            all_goals refine ⟨ret_pair ?_ ?_, rfl⟩
            all_goals rw [E.out]
            all_goals first | omega | exact hj.out | (simpa [show x = 0 by assumption] using hj.out)
    · have e : l.drop k = [] := List.drop_eq_nil_of_le (by omega)
      have E := Lib.hid (HD.out.trans (by rw [e, VM.dec])); clear e
      go_wp2
      go_ret2
      exact ⟨ret_pair (by rw [E.out]; rfl) (by rw [E.out]; rfl), rfl⟩
end Go.Proofs.YtdolapobkhhanaaDoor
/-
  Layer 1 (vary): bytes as a text, the beginning of a slice, bytes appended to a row of the call's own.
-/
namespace Go.Proofs.YtdolapobkhhanaaDoor
open Go.RowKit
set_option maxRecDepth 100000

/-- The text of these bytes. -/
def str (l : List Nat) : ByteArray := strOfNums (l.map Int.ofNat)
theorem str_list (l : List Nat) : (str l).data.toList = l.map UInt8.ofNat := by
  unfold str; rw [strOfNums_data, List.map_map]; congr 1
theorem str_size (l : List Nat) : (str l).size = l.length := by unfold str; rw [strOfNums_size, List.length_map]
theorem str_inj {l m : List Nat} (hl : ∀ c ∈ l, c < 256) (hm : ∀ c ∈ m, c < 256) (h : str l = str m) : l = m := by
  have h := congrArg (fun s : ByteArray => s.data.toList) h
  simp only [str_list] at h
  have back : ∀ l : List Nat, (∀ c ∈ l, c < 256) → (l.map UInt8.ofNat).map UInt8.toNat = l := fun l hl => by
    rw [List.map_map]
    conv => rhs; rw [← List.map_id l]
    exact List.map_congr_left fun c hc => by have := hl c hc; simp; omega
  rw [← back l hl, ← back m hm, h]

theorem str_toList (l : List Nat) : (str l).toList = l.map UInt8.ofNat := by rw [ByteArray.toList_eq, str_list]
theorem str_ne {l m : List Nat} (hl : ∀ c ∈ l, c < 256) (hm : ∀ c ∈ m, c < 256) (h : l ≠ m) : ((str l).toList == (str m).toList) = false := by
  rw [beq_eq_false_iff_ne]
  intro e
  refine h (str_inj hl hm ?_)
  rw [ByteArray.toList_eq, ByteArray.toList_eq] at e
  exact ByteArray.ext (Array.toList_inj.1 e)

theorem run_string (A : Option Addr) (l : List Nat) (c B : Nat) (w : World) (hr : Row w B .u8 A l) : (convert 22 9 (.slice A l.length c)).run Tryd.prog w = .ok (.string (str l)) w := by
  rcases A with _ | a
  · have : l = [] := by
      rcases l with _ | ⟨x, l⟩
      · rfl
      · obtain ⟨b, off, h, _⟩ := hr (by simp)
        cases h
    subst this
    exact run_convert_bytes_nil w 22 5 Tryd.underlying22 Tryd.underlying5 0 c 9 Tryd.underlying9
  · rcases Nat.eq_zero_or_pos l.length with h0 | h0
    · have : l = [] := List.eq_nil_of_length_eq_zero h0
      subst this
      rw [List.length_nil, run_convert_bytes_string w 22 9 5 (some a) 0 c Tryd.underlying22 Tryd.underlying5 Tryd.underlying9]
      exact run_bytesToString w a 0 c [] (by simp [loadCells, loadCellsFrom])
    · obtain ⟨b, off, h, _, hc⟩ := hr h0
      injection h with h
      subst h
      refine run_convert_bytes_arg w 22 5 Tryd.underlying22 Tryd.underlying5 b off l.length c (l.map Int.ofNat) (by simp) (fun i hi => ?_) 9 Tryd.underlying9
      rw [hc i hi]
      simp [hi]

theorem run_head (A : Option Addr) (n c k : Nat) (w : World) (h : k ≤ c) : (Instr.slice 22 (.slice A n c) none (some (.int .i64 (k : Int))) none).run Tryd.prog w = .ok (.slice A k c) w := by
  have hs : (sizeOf (Tryd.prog.elem 22)).run Tryd.prog w = .ok 1 w := by kernel_rfl
  rw [run_slice_h (P := Tryd.prog) (w := w) (t := 22) (a := A) (len := n) (cap := c) (by kernel_rfl) .i64 (k : Int) (by omega) (by omega), hs]
  have e : A.map (fun a => a.add 0) = A := by cases A <;> simp [Addr.add]
  simp [Result.andThen, sliced, e]

theorem run_append_row (w : World) (base : Nat) (ty : TypeId) (v : Value) (xs : List Nat) (hown : Own w base v xs) (A : Option Addr) (l : List Nat) (c B : Nat) (hr : Row w B .u8 A l) (hA : A = none → c = 0)
    (hlen : xs.length + l.length ≤ 140737488355328) (hbase : base ≤ w.heap.size) :
    ∃ v' w', (Builtin.append_ #[22, 22] ty #[v, .slice A l.length c]).run Tryd.prog w = .ok v' w' ∧ Own w' base v' (xs ++ l) ∧ w.grownBy w' v.ownBlock := by
  obtain ⟨i0, hi, hz0, hz1, hz2⟩ := info_parts Tryd.info5
  rcases A with _ | a
  · have : l = [] := by
      rcases l with _ | ⟨x, l⟩
      · rfl
      · obtain ⟨b, off, h, _⟩ := hr (by simp)
        cases h
    subst this
    obtain rfl := hA rfl
    exact ⟨v, w, run_append_owned_none (P := Tryd.prog) (w := w) base 22 ty 5 i0 1 Tryd.underlying22 hi v xs.length _ hown, by simpa using hown, ⟨rfl, rfl, rfl, Nat.le_refl _, fun _ _ _ => rfl⟩⟩
  · obtain ⟨v', w', h1, h2, h3, _⟩ := run_append_own (P := Tryd.prog) w base 22 ty 5 i0 (.int .u8 0) 1 1 Tryd.underlying22 hi hz0 hz1 hz2 rfl (by decide) v xs.length _ hown a l.length c (nums .u8 l) (by rw [nums_len]; omega)
      (fun j u hu => by
        have hj : j < l.length := by
          rcases Nat.lt_or_ge j l.length with h | h
          · exact h
          · rw [List.getElem?_eq_none (by rw [nums_len]; exact h)] at hu; cases hu
        obtain ⟨b, off, h, _, hc⟩ := hr (by omega)
        injection h with h
        subst h
        have hplain : (⟨b, off, none⟩ : Addr).add j = ⟨b, off + j, none⟩ := by unfold Addr.add; split <;> simp_all
        rw [hplain, hc j hj, ← hu]
        simp [nums, hj])
      (fun u hu => by
        obtain ⟨x, _, rfl⟩ := List.mem_map.1 hu
        rfl)
      (by unfold maxLen; omega) (by omega) hbase
    refine ⟨v', w', h1, ?_, h3⟩
    unfold Own
    rw [nums_append, List.length_append]
    exact h2

/-- append(v, x...), v a row of the call's own, x whatever bytes: the walk goes on with some value that holds both. -/
theorem wpList_append_row {w : World} {ops : Array Oper} {rest : List Oper} {o : Oper} {a : Act} {Q : Exit → Act → World → Prop} (hgd : o.guard = none) (s x : Operand)
    (ho : o.op = .call { callee := .builtin .append, args := #[s, x], argTypes := #[22, 22] }) (base : Nat) (v : Value) (xs : List Nat) (hs : a.eval s = v) (hown : Own w base v xs)
    (A : Option Addr) (l : List Nat) (c B : Nat) (hx : a.eval x = .slice A l.length c) (hr : Row w B .u8 A l) (hA : A = none → c = 0) (hlen : xs.length + l.length ≤ 140737488355328) (hbase : base ≤ w.heap.size)
    (h : ∀ v' w', Own w' base v' (xs ++ l) → w.grownBy w' v.ownBlock → wpList Tryd.prog ops Q rest (a.put o.dst v') w') : wpList Tryd.prog ops Q (o :: rest) a w := by
  obtain ⟨v', w', hrun, h2, h3⟩ := run_append_row w base o.type v xs hown A l c B hr hA hlen hbase
  refine wpList_plain hgd fun K hK => ?_
  unfold Oper.wp execOp
  simp only [ho, resolve, invoke, builtin, Sem.run_bind, Sem.run_pure, Result.andThen_ok, List.map_toArray, List.map_cons, List.map_nil, hs, hx, hrun]
  exact hK _ _ (h v' w' h2 h3)
end Go.Proofs.YtdolapobkhhanaaDoor
/-
  Layer 1 (vary), for layer 8: what a Reader's calls answer, and what becomes of it.
-/
namespace Go.Proofs.YtdolapobkhhanaaDoor
open Go.RowKit

/-- The reader at block g has these bytes left; bad: something wasn't there. -/
def Rd (w : World) (g : Nat) (l : List Nat) (bad : Bool) : Prop :=
  ∃ A c, w.heap[g]? = some (.cells #[.slice A l.length c, .bool bad] 70 (0, 0)) ∧ l.length ≤ c ∧ c ≤ maxLen ∧ Row w g .u8 A l ∧ ∀ x ∈ l, x < 256

theorem two_cell {w : World} {g : Nat} {a b : Value} {t : TypeId} (h : w.heap[g]? = some (.cells #[a, b] t (0, 0))) :
    w.cell? ⟨g, 0, none⟩ = some a ∧ w.cell? ⟨g, 1, none⟩ = some b ∧ w.frozen? ⟨g, 0, none⟩ = false ∧ w.frozen? ⟨g, 1, none⟩ = false :=
  ⟨by rw [cell_of_row w g 0 _ t (0, 0) h]; rfl, by rw [cell_of_row w g 1 _ t (0, 0) h]; rfl, by simp [World.frozen?, h], by simp [World.frozen?, h]⟩
theorem two_set0 {w : World} {g : Nat} {a b : Value} {t : TypeId} (h : w.heap[g]? = some (.cells #[a, b] t (0, 0))) (v : Value) : (w.setCell ⟨g, 0, none⟩ v).heap[g]? = some (.cells #[v, b] t (0, 0)) := by
  simp [World.setCell, Array.getElem?_modify, h]
theorem two_set1 {w : World} {g : Nat} {a b : Value} {t : TypeId} (h : w.heap[g]? = some (.cells #[a, b] t (0, 0))) (v : Value) : (w.setCell ⟨g, 1, none⟩ v).heap[g]? = some (.cells #[a, v] t (0, 0)) := by
  simp [World.setCell, Array.getElem?_modify, h]
theorem only_set {a w : World} {g : Nat} (h : a.grownBy w (some g)) (i : Nat) (v : Value) : a.grownBy (w.setCell ⟨g, i, none⟩ v) (some g) :=
  ⟨h.os, h.tape, h.output, by simpa [World.setCell] using h.size, fun k hk hne => (Below.heap_setCell w ⟨g, i, none⟩ v k (by rintro rfl; exact hne rfl)).trans (h.block k hk hne)⟩
theorem only_refl (w : World) (g : Option Nat) : w.grownBy w g := ⟨rfl, rfl, rfl, Nat.le_refl _, fun _ _ _ => rfl⟩
theorem only_trans {a b c : World} {g : Option Nat} (h : a.grownBy b g) (k : b.grownBy c g) : a.grownBy c g :=
  ⟨k.os.trans h.os, k.tape.trans h.tape, k.output.trans h.output, Nat.le_trans h.size k.size, fun i hi hne => (k.block i (Nat.lt_of_lt_of_le hi h.size) hne).trans (h.block i hi hne)⟩
theorem only_below {a w : World} {g B : Nat} (h : a.grownBy w (some g)) (hB : B ≤ g) (hz : B ≤ a.heap.size) : Below B a w :=
  ⟨h.os, h.tape, h.output, h.size, fun k hk => h.block k (by omega) (by intro e; injection e with e; omega)⟩
theorem Rd.lt {w : World} {g : Nat} {l : List Nat} {bad : Bool} (h : Rd w g l bad) : g < w.heap.size := by
  obtain ⟨A, c, h, _⟩ := h
  exact (Array.getElem?_eq_some_iff.1 h).1

theorem fail_any (w : World) (g : Nat) (l : List Nat) (bad : Bool) (h : Rd w g l bad) :
    Calls Tryd.prog 57 #[.pointer (some ⟨g, 0, none⟩)] w fun e w' => e = .returned (.tuple #[]) ∧ Rd w' g [] true ∧ w.grownBy w' (some g) := by
  obtain ⟨A, c, hg, _⟩ := h
  obtain ⟨h0, h1, f0, f1⟩ := two_cell hg
  have HG := Lib.hid hg; clear hg
  go_enter Tryd.func57, Tryd.ntmps57
  go_wp2
  go_end0
  exact ⟨rfl, ⟨none, 0, two_set1 (two_set0 HG.out _) _, Nat.le_refl _, by unfold maxLen; omega, Row.nil, by simp⟩, only_set (only_set (only_refl _ _) 0 _) 1 _⟩

/-- What a number below L that is asked for leaves: the number, the bytes that are left, was something missing? -/
def numOf (l : List Nat) (bad : Bool) (L : Nat) : Nat × List Nat × Bool :=
  if (VM.take l).2 = 0 ∨ L ≤ (VM.take l).1 then (0, [], true) else ((VM.take l).1, l.drop (VM.take l).2, bad)

def NumPost (w : World) (g : Nat) (r : Nat × List Nat × Bool) (e : Ending) (w' : World) : Prop :=
  e = .returned (.int .i64 r.1) ∧ Rd w' g r.2.1 r.2.2 ∧ w.grownBy w' (some g)

set_option maxRecDepth 100000 in
theorem below_any (w : World) (g : Nat) (l : List Nat) (bad : Bool) (L : Nat) (hL : L ≤ 9223372036854775808) (h : Rd w g l bad) :
    Calls Tryd.prog 56 #[.pointer (some ⟨g, 0, none⟩), .int .u64 L] w (NumPost w g (numOf l bad L)) := by
  have HR := Lib.hid h
  obtain ⟨A, c, hg, hlc, hcm, hr, hby⟩ := h
  obtain ⟨h0, h1, f0, f1⟩ := two_cell hg
  have htl := VM.take_lt l hby
  have HG := Lib.hid hg; have HRow := Lib.hid hr; have HBY := Lib.hid hby; have HCM := Lib.hid hcm
  clear hg hr hby hcm
  by_cases hc : (VM.take l).2 = 0 ∨ L ≤ (VM.take l).1
  · have e : numOf l bad L = (0, [], true) := by unfold numOf; rw [if_pos hc]
    rw [e]
    clear e
    go_enter Tryd.func56, Tryd.ntmps56
    go_wp2_with fail
    refine (take_any A c l _ g (by have := HCM.out; omega) HRow.out HBY.out).mono ?_
    rintro e w1 ⟨rfl, rfl⟩
    generalize (VM.take l).1 = n at *
    generalize (VM.take l).2 = k at *
    by_cases hk : k = 0
    · have hk1 : ((k : Int) == 0) = true := beq_iff_eq.2 (by omega)
      clear hc
      subst hk
      go_wp2_with fail
      refine (fail_any _ g l bad HR.out).mono ?_
      rintro e w2 ⟨rfl, hrd, hon⟩
      have H1 := Lib.hid hrd; have H2 := Lib.hid hon; clear hrd hon
      go_wp2
      go_ret
      exact ⟨rfl, H1.out, H2.out⟩
    · have hk1 : ((k : Int) == 0) = false := beq_eq_false_iff_ne.2 (by omega)
      have hLn : L ≤ n := by omega
      clear hc
      have hd : decide (L ≤ n) = true := by simp [hLn]
      go_wp2_with fail
      refine (fail_any _ g l bad HR.out).mono ?_
      rintro e w2 ⟨rfl, hrd, hon⟩
      have H1 := Lib.hid hrd; have H2 := Lib.hid hon; clear hrd hon
      go_wp2
      go_ret
      exact ⟨rfl, H1.out, H2.out⟩
  · have e : numOf l bad L = ((VM.take l).1, l.drop (VM.take l).2, bad) := by unfold numOf; rw [if_neg hc]
    rw [e]
    clear e
    go_enter Tryd.func56, Tryd.ntmps56
    go_wp2_with fail
    refine (take_any A c l _ g (by have := HCM.out; omega) HRow.out HBY.out).mono ?_
    rintro e w1 ⟨rfl, rfl⟩
    generalize (VM.take l).1 = n at *
    generalize (VM.take l).2 = k at *
    have hk1 : ((k : Int) == 0) = false := beq_eq_false_iff_ne.2 (by omega)
    have hLn : n < L := by omega
    have hd : decide (L ≤ n) = false := by simp; omega
    have hkl := htl.2
    clear hc htl
    have hcut : ∀ W, (Instr.slice 22 (.slice A l.length c) (some (.int .i64 (k : Int))) none none).run Tryd.prog W = .ok (.slice (cutA A c k) (l.length - k) (c - k)) W := fun W => run_cut _ _ _ _ W hkl
    go_wp2
    go_ret
    refine ⟨rfl, ⟨cutA A c k, c - k, by rw [List.length_drop]; exact two_set0 HG.out _, by rw [List.length_drop]; omega, by have := HCM.out; omega, ?_, fun x hx => HBY.out x (List.mem_of_mem_drop hx)⟩, only_set (only_refl _ _) 0 _⟩
    exact (HRow.out.cut hkl hlc).below ((Below.refl g w).setCell (p := ⟨g, 0, none⟩) (Nat.le_refl g) _)

/-- What Num asks: below the limit, or below 2^63. -/
def lim (limit : Int) : Nat := if limit ≤ 0 then 9223372036854775808 else limit.toNat

theorem num_any (w : World) (g : Nat) (l : List Nat) (bad : Bool) (limit : Int) (hL : limit ≤ 9223372036854775807) (h : Rd w g l bad) :
    Calls Tryd.prog 53 #[.pointer (some ⟨g, 0, none⟩), .int .i64 limit] w (NumPost w g (numOf l bad (lim limit))) := by
  have HR := Lib.hid h; clear h
  by_cases hc : limit ≤ 0
  · have e : lim limit = 9223372036854775808 := by unfold lim; rw [if_pos hc]
    rw [e]; clear e
    go_enter Tryd.func53, Tryd.ntmps53
    go_wp2_with fail
    refine (below_any w g l bad 9223372036854775808 (Nat.le_refl _) HR.out).mono ?_
    rintro e w1 ⟨rfl, hrd, hon⟩
    have H1 := Lib.hid hrd; have H2 := Lib.hid hon; clear hrd hon
    go_wp2
    go_ret
    exact ⟨rfl, H1.out, H2.out⟩
  · have e : lim limit = limit.toNat := by unfold lim; rw [if_neg hc]
    rw [e]; clear e
    obtain ⟨n, rfl⟩ := Int.eq_ofNat_of_zero_le (show 0 ≤ limit by omega)
    have hn : 0 < n := by omega
    rw [Int.toNat_natCast]
    go_enter Tryd.func53, Tryd.ntmps53
    go_wp2_with fail
    refine (below_any w g l bad n (by omega) HR.out).mono ?_
    rintro e w1 ⟨rfl, hrd, hon⟩
    have H1 := Lib.hid hrd; have H2 := Lib.hid hon; clear hrd hon
    go_wp2
    go_ret
    exact ⟨rfl, H1.out, H2.out⟩

theorem good_any (w : World) (g : Nat) (l : List Nat) (bad : Bool) (h : Rd w g l bad) :
    Calls Tryd.prog 66 #[.pointer (some ⟨g, 0, none⟩)] w fun e w' => e = .returned (.bool !bad) ∧ w = w' := by
  obtain ⟨A, c, hg, _⟩ := h
  obtain ⟨h0, h1, f0, f1⟩ := two_cell hg
  clear hg
  go_enter Tryd.func66, Tryd.ntmps66
  go_wp2
  go_ret
  exact ⟨rfl, rfl⟩

theorem done_any (w : World) (g : Nat) (l : List Nat) (bad : Bool) (h : Rd w g l bad) :
    Calls Tryd.prog 13 #[.pointer (some ⟨g, 0, none⟩)] w fun e w' => e = .returned (.bool (!bad && l.isEmpty)) ∧ w = w' := by
  obtain ⟨A, c, hg, _⟩ := h
  obtain ⟨h0, h1, f0, f1⟩ := two_cell hg
  clear hg
  cases bad with
  | true =>
    go_enter Tryd.func13, Tryd.ntmps13
    go_wp2
    go_ret
    exact ⟨rfl, rfl⟩
  | false =>
    cases l with
    | nil =>
      go_enter Tryd.func13, Tryd.ntmps13
      go_wp2
      go_ret
      exact ⟨rfl, rfl⟩
    | cons x l =>
      have hd : (((l.length : Int) + 1) == 0) = false := beq_eq_false_iff_ne.2 (by omega)
      go_enter Tryd.func13, Tryd.ntmps13
      go_wp2
      go_ret
      exact ⟨rfl, rfl⟩

def OfPost (w : World) (l : List Nat) (e : Ending) (w' : World) : Prop :=
  ∃ g, e = .returned (.pointer (some ⟨g, 0, none⟩)) ∧ w.heap.size ≤ g ∧ Rd w' g l false ∧ Below w.heap.size w w'

theorem of_any (w : World) (A : Option Addr) (l : List Nat) (c : Nat) (B : Nat) (hr : Row w B .u8 A l) (hA : A = none → c = 0) (hl : l.length ≤ 100000000000) (hby : ∀ x ∈ l, x < 256) :
    Calls Tryd.prog 11 #[.slice A l.length c] w (OfPost w l) := by
  have HR := Lib.hid hr; have HA := Lib.hid hA; have HBY := Lib.hid hby
  clear hr hA hby
  go_enter Tryd.func11, Tryd.ntmps11
  go_wp2_with (at_builtin; refine wpList_append_row rfl (.const (.slice none 0 0)) (.tmp 3) rfl w.heap.size _ [] rfl (Own.nil _ _) A l c B rfl HR.out HA.out (by simp; omega) (Nat.le_refl _) ?_; intro v1 w1 ho1 hg1; have HO1 := Lib.hid ho1; have HG1 := Lib.hid (((Below.refl w.heap.size w).grown hg1 (Nat.le_refl _) (Own.nil w _).lt)); clear ho1 hg1; obtain ⟨A1, c1, hv1, hl1, hc1, _, hr1⟩ := HO1.out.form; rw [hv1]; rw [List.nil_append] at hl1 hr1 ⊢; have HR1 := Lib.hid hr1; have HC1 := Lib.hid hc1; clear hv1 hr1 hc1)
  go_ret
  refine ⟨w1.heap.size, rfl, HG1.out.size, ⟨A1, c1, heap_alloc_new w1 _, hl1, HC1.out, HR1.out.below ((Below.refl _ _).alloc (Nat.le_refl _) _), HBY.out⟩, HG1.out.alloc HG1.out.size _⟩

theorem numOf_enc (n : Nat) (rest : List Nat) (bad : Bool) (L : Nat) (hn : n < 18446744073709551616) : numOf (VM.enc n ++ rest) bad L = if L ≤ n then (0, [], true) else (n, rest, bad) := by
  have := VM.enc_pos n
  unfold numOf
  rw [VM.take_enc n rest hn, List.drop_left]
  by_cases h : L ≤ n
  · rw [if_pos (Or.inr h), if_pos h]
  · rw [if_neg (by simp only; omega), if_neg h]
theorem numOf_nil (bad : Bool) (L : Nat) : numOf [] bad L = (0, [], true) := by unfold numOf; rw [VM.take_nil, if_pos (Or.inl rfl)]
end Go.Proofs.YtdolapobkhhanaaDoor
