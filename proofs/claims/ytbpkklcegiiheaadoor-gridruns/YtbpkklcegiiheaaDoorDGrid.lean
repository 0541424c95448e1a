/-
  A grid in memory: its struct, its lines' headers, its lines, each in a row of its own; lines that are read.
-/
import Derived.Test.YtbpkklcegiiheaaDoorDCat
namespace Go.Proofs.YtbpkklcegiiheaaDoor
open Go.RowKit Go.Lib KM

/-- A grid's line in memory: its block, its capacity, its cells. -/
structure Ln where
  b : Nat
  c : Nat
  l : List Cel
def Ln.s (x : Ln) : Sl := ⟨some ⟨x.b, 0, none⟩, x.l.length, x.c⟩
theorem Ln.own (x : Ln) : x.s.v.ownBlock = some x.b := rfl
/-- All blocks of a grid. -/
def foot (p hb : Nat) (L : List Ln) : List Nat := p :: hb :: L.map Ln.b

structure GridB (w : World) (p hb hc : Nat) (L : List Ln) (g : Gr) : Prop where
  cells : w.heap[p]? = some (.cells #[.int .i64 (g.w : Int), .int .i64 (g.h : Int), .slice (some ⟨hb, 0, none⟩) L.length hc] 32 (0, 0))
  head : linE.Own w 0 (.slice (some ⟨hb, 0, none⟩) L.length hc) (L.map Ln.s)
  rows : ∀ x ∈ L, celE.Own w 0 x.s.v x.l
  lines : g.ls = L.map Ln.l
  nodup : (foot p hb L).Nodup

/-- A grid at p, all of whose blocks are F. -/
def GridAt (w : World) (F : List Nat) (p : Nat) (g : Gr) : Prop := ∃ hb hc L, GridB w p hb hc L g ∧ F = foot p hb L

section
variable {w w' : World} {p hb hc : Nat} {L : List Ln} {g : Gr} {F : List Nat}
theorem GridB.lt (h : GridB w p hb hc L g) : ∀ k ∈ foot p hb L, k < w.heap.size := by
  intro k hk
  rcases List.mem_cons.1 hk with rfl | hk
  · exact (Array.getElem?_eq_some_iff.1 h.cells).1
  rcases List.mem_cons.1 hk with rfl | hk
  · exact (h.head.lt k rfl).2
  · obtain ⟨x, hx, rfl⟩ := List.mem_map.1 hk
    exact ((h.rows x hx).lt x.b rfl).2
theorem GridB.keep (h : GridB w p hb hc L g) (hk : ∀ k ∈ foot p hb L, w'.heap[k]? = w.heap[k]?) : GridB w' p hb hc L g :=
  { h with
    cells := (hk p (by simp [foot])).trans h.cells
    head := h.head.keep fun k e => by cases e; exact hk hb (by simp [foot])
    rows := fun x hx => (h.rows x hx).keep fun k e => by cases e; exact hk x.b (by simp only [foot, List.mem_cons, List.mem_map]; exact .inr (.inr ⟨x, hx, rfl⟩)) }
theorem GridAt.lt (h : GridAt w F p g) : ∀ k ∈ F, k < w.heap.size := by
  obtain ⟨hb, hc, L, h, rfl⟩ := h
  exact h.lt
theorem GridAt.keep (h : GridAt w F p g) (hk : ∀ k ∈ F, w'.heap[k]? = w.heap[k]?) : GridAt w' F p g := by
  obtain ⟨hb, hc, L, h, rfl⟩ := h
  exact ⟨hb, hc, L, h.keep hk, rfl⟩
theorem GridAt.below (h : GridAt w F p g) (hb : Below w.heap.size w w') : GridAt w' F p g := h.keep fun k hk => hb.block k (h.lt k hk)
theorem GridB.below (h : GridB w p hb hc L g) (hbl : Below w.heap.size w w') : GridB w' p hb hc L g := h.keep fun k hk => hbl.block k (h.lt k hk)
theorem GridAt.fr {F' : List Nat} (h : GridAt w F p g) (hf : Fr (· ∈ F') w w') (hd : ∀ k ∈ F, k ∉ F') : GridAt w' F p g := h.keep fun k hk => hf.block k (h.lt k hk) (hd k hk)
theorem GridAt.p_mem (h : GridAt w F p g) : p ∈ F := by
  obtain ⟨hb, hc, L, h, rfl⟩ := h
  simp [foot]
theorem GridB.cell0 (h : GridB w p hb hc L g) : w.cell? ⟨p, 0, none⟩ = some (.int .i64 (g.w : Int)) := by simp [World.cell?, h.cells]
theorem GridB.cell1 (h : GridB w p hb hc L g) : w.cell? ⟨p, 1, none⟩ = some (.int .i64 (g.h : Int)) := by simp [World.cell?, h.cells]
theorem GridB.cell2 (h : GridB w p hb hc L g) : w.cell? ⟨p, 2, none⟩ = some (.slice (some ⟨hb, 0, none⟩) L.length hc) := by simp [World.cell?, h.cells]
theorem GridB.frozen (h : GridB w p hb hc L g) (i : Nat) : w.frozen? ⟨p, i, none⟩ = false := by simp [World.frozen?, h.cells]
theorem GridB.len (h : GridB w p hb hc L g) : L.length = g.ls.length := by rw [h.lines, List.length_map]
theorem GridB.line_at (h : GridB w p hb hc L g) {y : Nat} (hy : y < L.length) : L[y].l = g.line y := by
  unfold Gr.line
  rw [h.lines]
  simp [hy]
theorem GridB.hcell (h : GridB w p hb hc L g) {y : Nat} (hy : y < L.length) : w.cell? ⟨hb, y, none⟩ = some L[y].s.v := by
  have hh : linE.Own w 0 (.slice (some ⟨hb, 0, none⟩) (L.map Ln.s).length hc) (L.map Ln.s) := by rw [List.length_map]; exact h.head
  obtain ⟨b, off, e, _, hcell⟩ := (El.Row.of_own hh).at_ (i := y) (by simpa using hy)
  simp only [Option.some.injEq, Addr.mk.injEq, and_true] at e
  obtain ⟨rfl, rfl⟩ := e
  have := hcell 0 (by decide)
  simpa [linE] using this
theorem GridB.hfrozen (h : GridB w p hb hc L g) (j : Nat) : w.frozen? ⟨hb, j, none⟩ = false := by
  have hh : linE.Own w 0 (.slice (some ⟨hb, 0, none⟩) (L.map Ln.s).length hc) (L.map Ln.s) := by rw [List.length_map]; exact h.head
  obtain ⟨cur, hg, _⟩ := hh.block rfl
  simp [World.frozen?, hg]
theorem GridB.row (h : GridB w p hb hc L g) {y : Nat} (hy : y < L.length) : celE.Own w 0 L[y].s.v L[y].l := h.rows _ (List.getElem_mem _)
theorem GridB.ne_hb (h : GridB w p hb hc L g) : p ≠ hb := fun e => by have := h.nodup; simp [foot, e] at this
theorem GridB.row_ne (h : GridB w p hb hc L g) {x : Ln} (hx : x ∈ L) : x.b ≠ p ∧ x.b ≠ hb := by
  have hn := h.nodup
  simp only [foot, List.nodup_cons, List.mem_cons, List.mem_map, not_or, not_exists, not_and] at hn
  exact ⟨hn.1.2 x hx, hn.2.1 x hx⟩
theorem GridB.row_apart (h : GridB w p hb hc L g) {i j : Nat} (hi : i < L.length) (hj : j < L.length) (hne : i ≠ j) : L[i].b ≠ L[j].b := by
  have hn := h.nodup
  simp only [foot, List.nodup_cons] at hn
  have hp := List.pairwise_iff_getElem.1 hn.2.2
  rcases Nat.lt_or_gt_of_ne hne with hlt | hlt
  · have := hp i j (by simpa using hi) (by simpa using hj) hlt
    simpa using this
  · have := hp j i (by simpa using hj) (by simpa using hi) hlt
    intro e
    simp [e] at this
end

/-! ### lines that are read -/
def LinesAt (w : World) (N : Nat → Prop) (A : Option Addr) (LL : List (List Cel)) : Prop :=
  0 < LL.length → ∃ b off, A = some ⟨b, off, none⟩ ∧ b < w.heap.size ∧ N b ∧ ∀ j (hj : j < LL.length), ∃ A' c', w.cell? ⟨b, off + j, none⟩ = some (.slice A' LL[j].length c') ∧ celE.Row w w.heap.size A' LL[j] ∧ (0 < LL[j].length → ∀ a, A' = some a → N a.block) ∧ (A' = none → c' = 0)
section
variable {w w' : World} {N N' : Nat → Prop} {A : Option Addr} {LL : List (List Cel)}
theorem row_keep {A : Option Addr} {l : List Cel} (h : celE.Row w w.heap.size A l) (hn : 0 < l.length → ∀ a, A = some a → N a.block) (hk : ∀ k, k < w.heap.size → N k → w'.heap[k]? = w.heap[k]?) (hs : w.heap.size ≤ w'.heap.size) : celE.Row w' w'.heap.size A l := fun hp => by
  obtain ⟨b, off, e, hb, hc⟩ := h hp
  refine ⟨b, off, e, by omega, fun j hj => ?_⟩
  exact (World.cell?_of_block (w := w) (a := ⟨b, off + j, none⟩) (hk b hb (hn hp _ e))).trans (hc j hj)
theorem LinesAt.keep (h : LinesAt w N A LL) (hk : ∀ k, k < w.heap.size → N k → w'.heap[k]? = w.heap[k]?) (hs : w.heap.size ≤ w'.heap.size) : LinesAt w' N A LL := fun hp => by
  obtain ⟨b, off, e, hb, hn, hc⟩ := h hp
  refine ⟨b, off, e, by omega, hn, fun j hj => ?_⟩
  obtain ⟨A', c', h1, h2, h3, h4⟩ := hc j hj
  exact ⟨A', c', (World.cell?_of_block (w := w) (a := ⟨b, off + j, none⟩) (hk b hb hn)).trans h1, row_keep h2 h3 hk hs, h3, h4⟩
theorem LinesAt.below (h : LinesAt w N A LL) (hb : Below w.heap.size w w') : LinesAt w' N A LL := h.keep (fun k hk _ => hb.block k hk) hb.size
theorem LinesAt.fr {F : List Nat} (h : LinesAt w N A LL) (hf : Fr (· ∈ F) w w') (hd : ∀ k, k < w.heap.size → N k → k ∉ F) : LinesAt w' N A LL := h.keep (fun k hk hn => hf.block k hk (hd k hk hn)) hf.size
theorem LinesAt.mono (h : LinesAt w N A LL) (hn : ∀ k, k < w.heap.size → N k → N' k) : LinesAt w N' A LL := fun hp => by
  obtain ⟨b, off, e, hb, hnb, hc⟩ := h hp
  refine ⟨b, off, e, hb, hn b hb hnb, fun j hj => ?_⟩
  obtain ⟨A', c', h1, h2, h3, h4⟩ := hc j hj
  refine ⟨A', c', h1, h2, fun hl a ha => ?_, h4⟩
  obtain ⟨b', off', e', hb', _⟩ := h2 hl
  rw [e'] at ha
  injection ha with ha
  subst ha
  exact hn _ hb' (h3 hl _ e')
theorem LinesAt.rows (h : LinesAt w N A LL) : celE.Rows w w.heap.size A LL := fun hp => by
  obtain ⟨b, off, e, hb, _, hc⟩ := h hp
  refine ⟨b, off, e, hb, fun j hj => ?_⟩
  obtain ⟨A', c', h1, h2, _, h4⟩ := hc j hj
  exact ⟨A', c', h1, h2, h4⟩
theorem LinesAt.nil : LinesAt w N A [] := fun h => absurd h (by simp)
end

section
variable {w w' : World} {p hb hc : Nat} {L : List Ln} {g : Gr} {F : List Nat}
theorem row_of_own {base : Nat} {x : Ln} (h : celE.Own w base x.s.v x.l) : celE.Row w w.heap.size (some ⟨x.b, 0, none⟩) x.l := El.Row.of_own (c := x.c) h
theorem GridB.linesAt (h : GridB w p hb hc L g) : LinesAt w (· ∈ foot p hb L) (some ⟨hb, 0, none⟩) g.ls := fun _ => by
  refine ⟨hb, 0, rfl, h.lt hb (by simp [foot]), by simp [foot], fun j hj => ?_⟩
  have hj' : j < L.length := by rw [h.len]; exact hj
  have e : g.ls[j] = L[j].l := by simp [h.lines]
  rw [e]
  refine ⟨some ⟨L[j].b, 0, none⟩, L[j].c, by rw [Nat.zero_add]; exact h.hcell hj', row_of_own (h.row hj'), fun _ a ha => ?_, by simp⟩
  injection ha with ha
  subst ha
  simp only [foot, List.mem_cons, List.mem_map]
  exact .inr (.inr ⟨L[j], List.getElem_mem _, rfl⟩)
end
end Go.Proofs.YtbpkklcegiiheaaDoor
