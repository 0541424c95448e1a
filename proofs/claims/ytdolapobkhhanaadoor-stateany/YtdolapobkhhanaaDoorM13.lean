/-
  SNext, STakeB, in one text.
-/
import Derived.Test.YtdolapobkhhanaaDoorM10
import Derived.Test.YtdolapobkhhanaaDoorM11
import Derived.Test.YtdolapobkhhanaaDoorM05
import Derived.Test.YtdolapobkhhanaaDoorM12
/-
  Layer 11 (state): lists of lines that are put together by append.
-/
namespace Go.Proofs.YtdolapobkhhanaaDoor
open Go.RowKit Go.Lib KM
set_option maxRecDepth 100000

/-- A header that leads to a line. -/
structure SlOk (w : World) (N : Nat → Prop) (s : Sl) (l : List Cel) : Prop where
  n : s.n = l.length
  row : celE.Row w w.heap.size s.a l
  out : 0 < l.length → ∀ a, s.a = some a → N a.block
  cap : s.a = none → s.c = 0
structure HeadsOk (w : World) (N : Nat → Prop) (SL : List Sl) (LL : List (List Cel)) : Prop where
  len : SL.length = LL.length
  at_ : ∀ (j : Nat) (s : Sl) (l : List Cel), SL[j]? = some s → LL[j]? = some l → SlOk w N s l
section
variable {w w' : World} {N N' : Nat → Prop} {s : Sl} {l : List Cel} {SL : List Sl} {LL : List (List Cel)} {A : Option Addr}
theorem SlOk.keep (h : SlOk w N s l) (hk : ∀ k, k < w.heap.size → N k → w'.heap[k]? = w.heap[k]?) (hs : w.heap.size ≤ w'.heap.size) : SlOk w' N s l := ⟨h.n, row_keep h.row h.out hk hs, h.out, h.cap⟩
theorem SlOk.mono (h : SlOk w N s l) (hN : ∀ k, k < w.heap.size → N k → N' k) : SlOk w N' s l := by
  refine ⟨h.n, h.row, fun hp a ha => ?_, h.cap⟩
  obtain ⟨b, off, e, hb, _⟩ := h.row hp
  rw [e] at ha
  injection ha with ha
  subst ha
  exact hN _ hb (h.out hp _ e)
theorem SlOk.below (h : SlOk w N s l) (hb : Below w.heap.size w w') : SlOk w' N s l := h.keep (fun k hk _ => hb.block k hk) hb.size
theorem HeadsOk.nil : HeadsOk w N [] [] := ⟨rfl, fun j s l h => by simp at h⟩
theorem HeadsOk.keep (h : HeadsOk w N SL LL) (hk : ∀ k, k < w.heap.size → N k → w'.heap[k]? = w.heap[k]?) (hs : w.heap.size ≤ w'.heap.size) : HeadsOk w' N SL LL := ⟨h.len, fun j s l h1 h2 => (h.at_ j s l h1 h2).keep hk hs⟩
theorem HeadsOk.mono (h : HeadsOk w N SL LL) (hN : ∀ k, k < w.heap.size → N k → N' k) : HeadsOk w N' SL LL := ⟨h.len, fun j s l h1 h2 => (h.at_ j s l h1 h2).mono hN⟩
theorem HeadsOk.below (h : HeadsOk w N SL LL) (hb : Below w.heap.size w w') : HeadsOk w' N SL LL := h.keep (fun k hk _ => hb.block k hk) hb.size
theorem HeadsOk.grow {v v' : Value} (h : HeadsOk w N SL LL) (hg : Grow w w' v v') (hN : ∀ k, N k → v.ownBlock ≠ some k) : HeadsOk w' N SL LL := h.keep (fun k hk hn => hg.grown.block k hk (fun e => hN k hn e.symm)) hg.grown.size
theorem HeadsOk.snoc (h : HeadsOk w N SL LL) (hs : SlOk w N s l) : HeadsOk w N (SL ++ [s]) (LL ++ [l]) := by
  refine ⟨by rw [List.length_append, List.length_append, h.len]; rfl, fun j s' l' h1 h2 => ?_⟩
  by_cases hj : j < SL.length
  · rw [List.getElem?_append_left hj] at h1
    rw [List.getElem?_append_left (by rw [← h.len]; exact hj)] at h2
    exact h.at_ j s' l' h1 h2
  · rw [List.getElem?_append_right (by omega)] at h1
    rw [List.getElem?_append_right (by rw [← h.len]; omega), ← h.len] at h2
    have e : j - SL.length = 0 := by
      rcases Nat.eq_zero_or_pos (j - SL.length) with e | e
      · exact e
      · rw [List.getElem?_eq_none (by simp only [List.length_singleton]; omega)] at h1; cases h1
    rw [e] at h1 h2
    simp only [List.getElem?_cons_zero, Option.some.injEq] at h1 h2
    subst h1 h2
    exact hs
theorem HeadsOk.set (h : HeadsOk w N SL LL) (hs : SlOk w N s l) (y : Nat) : HeadsOk w N (SL.set y s) (LL.set y l) := by
  refine ⟨by rw [List.length_set, List.length_set, h.len], fun j s' l' h1 h2 => ?_⟩
  rw [List.getElem?_set] at h1 h2
  by_cases hj : y = j
  · subst hj
    rw [if_pos rfl] at h1 h2
    by_cases hl : y < SL.length
    · rw [if_pos hl] at h1
      rw [if_pos (by rw [← h.len]; exact hl)] at h2
      injection h1 with h1
      injection h2 with h2
      subst h1 h2
      exact hs
    · rw [if_neg hl] at h1
      cases h1
  · rw [if_neg hj] at h1 h2
    exact h.at_ j s' l' h1 h2
theorem HeadsOk.drop (h : HeadsOk w N SL LL) (k : Nat) : HeadsOk w N (SL.drop k) (LL.drop k) := by
  refine ⟨by rw [List.length_drop, List.length_drop, h.len], fun j s l h1 h2 => ?_⟩
  rw [List.getElem?_drop] at h1 h2
  exact h.at_ _ s l h1 h2
theorem HeadsOk.take (h : HeadsOk w N SL LL) (k : Nat) : HeadsOk w N (SL.take k) (LL.take k) := by
  refine ⟨by rw [List.length_take, List.length_take, h.len], fun j s l h1 h2 => ?_⟩
  rw [List.getElem?_take] at h1 h2
  split at h1
  · rename_i hj
    rw [if_pos hj] at h2
    exact h.at_ _ s l h1 h2
  · cases h1
theorem linE_cell {SL : List Sl} {j : Nat} (hj : j < SL.length) : (linE.cells SL)[j]? = some SL[j].v := by
  have := linE.cells_at SL j hj 0 (by decide)
  simpa [linE] using this
theorem LinesAt.of_heads (h : HeadsOk w N SL LL) (hr : linE.Row w w.heap.size A SL) (hN : 0 < LL.length → ∀ a, A = some a → N a.block) : LinesAt w N A LL := fun hp => by
  obtain ⟨b, off, e, hb, hc⟩ := hr (by rw [h.len]; exact hp)
  refine ⟨b, off, e, hb, hN hp _ e, fun j hj => ?_⟩
  have hjs : j < SL.length := by rw [h.len]; exact hj
  have hs := h.at_ j SL[j] LL[j] (List.getElem?_eq_getElem hjs) (List.getElem?_eq_getElem hj)
  refine ⟨SL[j].a, SL[j].c, ?_, hs.row, hs.out, hs.cap⟩
  rw [hc j (by simpa [linE] using hjs), linE_cell hjs, ← hs.n]
  rfl
theorem LinesAt.heads (h : LinesAt w N A LL) : ∃ SL, HeadsOk w N SL LL ∧ linE.Row w w.heap.size A SL ∧ (0 < LL.length → ∀ a, A = some a → N a.block) := by
  by_cases hp : 0 < LL.length
  · obtain ⟨b, off, e, hb, hn, hc⟩ := h hp
    have hex : ∀ j : Nat, ∃ s : Sl, ∀ hj : j < LL.length, w.cell? ⟨b, off + j, none⟩ = some s.v ∧ SlOk w N s LL[j] := fun j => by
      by_cases hj : j < LL.length
      · obtain ⟨A', c', h1, h2, h3, h4⟩ := hc j hj
        exact ⟨⟨A', LL[j].length, c'⟩, fun _ => ⟨h1, rfl, h2, h3, h4⟩⟩
      · exact ⟨⟨none, 0, 0⟩, fun h => absurd h hj⟩
    obtain ⟨f, hf⟩ := Classical.skolem.1 hex
    have hl : ((List.range LL.length).map f).length = LL.length := by simp
    refine ⟨(List.range LL.length).map f, ⟨hl, fun j s l h1 h2 => ?_⟩, fun _ => ⟨b, off, e, hb, fun j hj => ?_⟩, fun _ a ha => ?_⟩
    · have hj : j < LL.length := (List.getElem?_eq_some_iff.1 h2).1
      have e1 : LL[j] = l := (List.getElem?_eq_some_iff.1 h2).2
      rw [List.getElem?_map, List.getElem?_range hj] at h1
      simp only [Option.map_some, Option.some.injEq] at h1
      rw [← h1, ← e1]
      exact (hf j hj).2
    · have hj' : j < ((List.range LL.length).map f).length := by simpa [linE] using hj
      have hjl : j < LL.length := by rw [hl] at hj'; exact hj'
      rw [linE_cell hj']
      simp only [List.getElem_map, List.getElem_range]
      exact (hf j hjl).1
    · rw [e] at ha
      injection ha with ha
      subst ha
      exact hn
  · have : LL = [] := List.eq_nil_of_length_eq_zero (by omega)
    subst this
    exact ⟨[], HeadsOk.nil, El.Row.nil, fun h => absurd h (by simp)⟩
theorem LinesAt.take (h : LinesAt w N A LL) (k : Nat) : LinesAt w N A (LL.take k) := by
  obtain ⟨SL, h1, h2, h3⟩ := h.heads
  exact LinesAt.of_heads (h1.take k) (h2.take k) (fun hp => h3 (by rw [List.length_take] at hp; omega))
end

/-! ### lines that are put together -/
/-- New lines, in rows of the call's own: none of them in a block of X, nor in the headers' one. -/
def NextAt (w : World) (base : Nat) (v : Value) (X : Nat → Prop) (LL : List (List Cel)) : Prop :=
  ∃ SL, linE.Own w base v SL ∧ HeadsOk w (fun k => base ≤ k ∧ v.ownBlock ≠ some k ∧ ¬ X k) SL LL ∧ ∀ k, v.ownBlock = some k → ¬ X k
section
variable {w w' : World} {base : Nat} {v v' : Value} {X X' : Nat → Prop} {LL : List (List Cel)} {s : Sl} {l : List Cel}
theorem NextAt.nil (w : World) (base : Nat) (X : Nat → Prop) : NextAt w base (.slice none 0 0) X [] := ⟨[], El.Own.nil _ _, HeadsOk.nil, fun k h => by cases h⟩
theorem NextAt.below (h : NextAt w base v X LL) (hb : Below w.heap.size w w') : NextAt w' base v X LL := by
  obtain ⟨SL, h1, h2, h3⟩ := h
  exact ⟨SL, h1.below hb, h2.below hb, h3⟩
theorem NextAt.lt (h : NextAt w base v X LL) : ∀ k, v.ownBlock = some k → base ≤ k ∧ k < w.heap.size := by
  obtain ⟨SL, h1, _, _⟩ := h
  exact h1.lt
/-- Blocks of X alone changed, and new ones. -/
theorem NextAt.keep (h : NextAt w base v X LL) (hk : ∀ k, k < w.heap.size → ¬ X k → w'.heap[k]? = w.heap[k]?) (hs : w.heap.size ≤ w'.heap.size) : NextAt w' base v X LL := by
  obtain ⟨SL, h1, h2, h3⟩ := h
  exact ⟨SL, h1.keep (fun k e => hk k (h1.lt k e).2 (h3 k e)), h2.keep (fun k hl hn => hk k hl hn.2.2) hs, h3⟩
/-- X for another one that holds no more of what there is. -/
theorem NextAt.mono (h : NextAt w base v X LL) (hX : ∀ k, k < w.heap.size → X' k → X k) : NextAt w base v X' LL := by
  obtain ⟨SL, h1, h2, h3⟩ := h
  exact ⟨SL, h1, h2.mono (fun k hk hn => ⟨hn.1, hn.2.1, fun hx => hn.2.2 (hX k hk hx)⟩), fun k e hx => h3 k e (hX k (h1.lt k e).2 hx)⟩
/-- A line more: its header appended. -/
theorem NextAt.snoc {SL : List Sl} (hSL : linE.Own w base v SL ∧ HeadsOk w (fun k => base ≤ k ∧ v.ownBlock ≠ some k ∧ ¬ X k) SL LL ∧ ∀ k, v.ownBlock = some k → ¬ X k) (hs : SlOk w (fun k => base ≤ k ∧ v.ownBlock ≠ some k ∧ ¬ X k) s l)
    (ho : linE.Own w' base v' (SL ++ [s])) (hg : Grow w w' v v') (hX : ∀ k, w.heap.size ≤ k → ¬ X k) : NextAt w' base v' X (LL ++ [l]) := by
  obtain ⟨h1, h2, h3⟩ := hSL
  have h4 := (h2.snoc hs)
  refine ⟨SL ++ [s], ho, ?_, fun k e => ?_⟩
  · have h5 := h4.mono (N' := fun k => base ≤ k ∧ v.ownBlock ≠ some k ∧ v'.ownBlock ≠ some k ∧ ¬ X k) (fun k hk hn => ⟨hn.1, hn.2.1, fun e => ?_, hn.2.2⟩)
    · exact (h5.grow hg (fun k hn => hn.2.1)).mono (fun k _ hn => ⟨hn.1, hn.2.2.1, hn.2.2.2⟩)
    · rcases hg.place with e2 | e2
      · rw [e2] at e; exact hn.2.1 e
      · have := e2 k e; omega
  · rcases hg.place with e2 | e2
    · rw [e2] at e; exact h3 k e
    · exact hX k (e2 k e)
end
theorem NextAt.lines {w : World} {base : Nat} {v : Value} {X : Nat → Prop} {LL : List (List Cel)} (h : NextAt w base v X LL) : ∃ A c, v = .slice A LL.length c ∧ LL.length ≤ c ∧ LinesAt w (fun k => base ≤ k) A LL := by
  obtain ⟨SL, h1, h2, h3⟩ := h
  obtain ⟨A, c, hv, hlc, _, _, hr⟩ := h1.row
  rw [h2.len] at hv hlc
  refine ⟨A, c, hv, hlc, LinesAt.of_heads (h2.mono (fun k _ hn => hn.1)) hr (fun hp a ha => ?_)⟩
  subst ha
  subst hv
  exact (h1.lt a.block (by rfl)).1

end Go.Proofs.YtdolapobkhhanaaDoor
/-
  Layer 11 (state): the lines that went out are taken.
-/
namespace Go.Proofs.YtdolapobkhhanaaDoor
open Go.RowKit Go.Lib KM
set_option maxRecDepth 100000

theorem takeBk_none (n : Nat) (l : List Nat) (bad : Bool) (a : Nat) (l1 : List Nat) (b1 : Bool) (e : numOf l bad 61 = (a, l1, b1)) (h : takeL a l1 b1 = none) : takeBk (n + 1) l bad = none := by
  simp [takeBk, e, h]
theorem takeBk_zero (n : Nat) (l : List Nat) (bad : Bool) (a : Nat) (l1 : List Nat) (b1 : Bool) (e : numOf l bad 61 = (a, l1, b1)) (h : a = 0) : takeBk (n + 1) l bad = none := by
  simp [takeBk, e, h]
theorem takeBk_some (n : Nat) (l : List Nat) (bad : Bool) (a : Nat) (l1 : List Nat) (b1 : Bool) (e : numOf l bad 61 = (a, l1, b1)) (h : a ≠ 0) (x : List Cel × List Nat × Bool) (hx : takeL a l1 b1 = some x) : takeBk (n + 1) l bad = (takeBk n x.2.1 x.2.2).map fun R => (x.1 :: R.1, R.2) := by
  simp [takeBk, e, h, hx]
/-- What is carried: the reader, the terminal's cells, the lines so far; only the reader's block and the terminal's were changed. -/
structure BK (w0 wr : World) (g p base : Nat) (l : List Nat) (bad : Bool) (f : Nat → Value) (v : Value) (ls : List (List Cel)) : Prop where
  rd : Rd wr g l bad
  cells : CellsF wr p 43 108 (upd f 97 v)
  next : NextAt wr base v (fun k => k = g ∨ k = p) ls
  fr : Fr (fun k => k = g ∨ k = p) w0 wr
  ne : g < p
  tabs : Tabs wr
  base : base ≤ wr.heap.size
section
variable {w0 w w' : World} {g p base : Nat} {l l' : List Nat} {bad bad' : Bool} {f : Nat → Value} {v : Value} {ls : List (List Cel)}
theorem BK.grown (h : BK w0 w g p base l bad f v ls) (hg : w.grownBy w' (some g)) (hr : Rd w' g l' bad') (hT : Tabs w') : BK w0 w' g p base l' bad' f v ls :=
  ⟨hr, h.cells.keep (hg.block p h.cells.lt (by intro e; injection e with e; have := h.ne; omega)),
   h.next.keep (fun k hk hx => hg.block k hk (by intro e; injection e with e; exact hx (.inl e))) hg.size,
   h.fr.trans' ⟨hg.os, hg.tape, hg.output, hg.size, fun k hk hs => hg.block k hk (by intro e; injection e with e; exact hs (.inl e))⟩, h.ne, hT, Nat.le_trans h.base hg.size⟩
theorem BK.any (h : BK w0 w g p base l bad f v ls) (hg : w.grownBy w' (some g)) : Fr (fun k => k = g ∨ k = p) w0 w' :=
  h.fr.trans' ⟨hg.os, hg.tape, hg.output, hg.size, fun k hk hs => hg.block k hk (by intro e; injection e with e; exact hs (.inl e))⟩
theorem upd_upd (f : Nat → Value) (i : Nat) (a b : Value) : upd (upd f i a) i b = upd f i b := by
  funext j
  unfold upd
  by_cases h : j = i <;> simp [h]
/-- A line more. -/
theorem BK.snoc (h : BK w0 w g p base l bad f v ls) {w1 w2 : World} {SL : List Sl} (hSL : linE.Own w1 base v SL ∧ HeadsOk w1 (fun k => base ≤ k ∧ v.ownBlock ≠ some k ∧ ¬ (k = g ∨ k = p)) SL ls ∧ ∀ k, v.ownBlock = some k → ¬ (k = g ∨ k = p))
    (h1 : BK w0 w1 g p base l' bad' f v ls) {s : Sl} {x : List Cel} (hs : SlOk w1 (fun k => base ≤ k ∧ v.ownBlock ≠ some k ∧ ¬ (k = g ∨ k = p)) s x) {v' : Value} (ho : linE.Own w2 base v' (SL ++ [s])) (hg : Grow w1 w2 v v')
    (hb0 : w0.heap.size ≤ base) (hgb : g < base) (hgl : 2 < base) (hp0 : p ≠ 2) : BK w0 (w2.setCell ⟨p, 97, none⟩ v') g p base l' bad' f v' (ls ++ [x]) := by
  have hpz := h1.cells.lt
  have hgz := h1.rd.lt
  have hvg : some g ≠ v.ownBlock := fun e => hSL.2.2 g e.symm (.inl rfl)
  have hvp : some p ≠ v.ownBlock := fun e => hSL.2.2 p e.symm (.inr rfl)
  have hz := hg.grown.size
  have hb12 : Below base w1 w2 := (Below.refl base w1).grown hg.grown h1.base (fun k e => (hSL.1.lt k e).1)
  have hne : ∀ k, k ≠ p → (w2.setCell ⟨p, 97, none⟩ v').heap[k]? = w2.heap[k]? := fun k hk => Below.heap_setCell _ _ _ _ hk
  have hrd2 : Rd w2 g l' bad' := h1.rd.on hb12 hgb
  have hT2 : Tabs w2 := h1.tabs.on hb12 hgl
  have hc2 : CellsF w2 p 43 108 (upd f 97 v) := h1.cells.keep (hg.grown.block p hpz hvp)
  have hn2 := NextAt.snoc hSL hs ho hg (fun k hk hx => by rcases hx with rfl | rfl <;> omega)
  refine ⟨?_, ?_, ?_, ?_, h1.ne, hT2.of_block (hne _ (fun e => hp0 e.symm)) (by simp [World.setCell]), by have := h1.base; simp [World.setCell]; omega⟩
  · obtain ⟨A, c, hA, k2, k3, k4, k5⟩ := hrd2
    exact ⟨A, c, (hne g (Nat.ne_of_lt h1.ne)).trans hA, k2, k3, k4.keep fun q hq => World.cell?_of_block (hne q.block (by have := h1.ne; omega)), k5⟩
  · have := hc2.set (i := 97) (by omega) v'
    rwa [upd_upd] at this
  · exact hn2.keep (fun k hk hx => hne k (fun e => hx (.inr e))) (by simp [World.setCell])
  · refine (h1.fr.trans (T := fun i => v.ownBlock = some i) ⟨hg.grown.os, hg.grown.tape, hg.grown.output, hg.grown.size, fun k hk hs => hg.grown.block k hk (fun e => hs e.symm)⟩ (fun i hi => .inr (Nat.le_trans hb0 (hSL.1.lt i hi).1))).trans' (Fr.setCell (a := ⟨p, 97, none⟩) _ (.inr rfl))
end
/-- What takeBack leaves. -/
def BkPost (w0 : World) (g p base : Nat) (f : Nat → Value) (R : Option (List (List Cel) × List Nat × Bool)) (e : Ending) (w' : World) : Prop :=
  (R = none ∧ e = .returned (.bool false) ∧ Fr (fun k => k = g ∨ k = p) w0 w') ∨
  ∃ T v, R = some T ∧ e = .returned (.bool true) ∧ BK w0 w' g p base T.2.1 T.2.2 f v T.1

set_option maxHeartbeats 8000000 in
theorem takeBack_ok (w0 w : World) (g p base : Nat) (l : List Nat) (bad : Bool) (f : Nat → Value) (h : BK w0 w g p base l bad f (.slice none 0 0) []) (hbyte : ∀ x ∈ l, x < 256) (hb0 : w0.heap.size ≤ base) (hgb : g < base) (hG : 2 < g) (hp0 : p ≠ 2) :
    Calls Tryd.prog 33 #[.pointer (some ⟨g, 0, none⟩), .pointer (some ⟨p, 0, none⟩)] w (BkPost w0 g p base f (takeB l bad)) := by
  obtain ⟨⟨n, l0, b0⟩, e0⟩ : ∃ q, numOf l bad 21 = q := ⟨_, rfl⟩
  have hTB : takeB l bad = takeBk n l0 b0 := by unfold takeB; rw [e0]
  rw [hTB]
  have hn21 : n < 21 := by have := numOf_lt l bad 21 (by omega); rwa [e0] at this
  have hby0 : ∀ x ∈ l0, x < 256 := by have := num_bytes (bad := bad) (L := 21) hbyte; rwa [e0] at this
  obtain ⟨R, hR⟩ : ∃ R, R = takeBk n l0 b0 := ⟨_, rfl⟩
  rw [← hR]
  have HRR := Lib.hid hR
  have N0 := Lib.hid (show Calls Tryd.prog 53 #[.pointer (some ⟨g, 0, none⟩), .int .i64 21] w (NumPost w g (n, l0, b0)) by rw [← e0]; exact num_any w g l bad 21 (by omega) h.rd)
  have HK := Lib.hid h
  have HBY := Lib.hid hby0
  clear h hR hbyte hby0 hTB e0
  go_enter Tryd.func33, Tryd.ntmps33
  go_wp2_with fail
  refine N0.out.mono ?_
  rintro e w1 ⟨rfl, hr1, hg1⟩
  have HK1 := Lib.hid (HK.out.grown hg1 hr1 (tabs_only HK.out.tabs hG w1 hg1))
  clear hr1 hg1
  dsimp only
  go_wp2
  go_loopw [10] (fun i wr => ∃ k : Nat, k ≤ n ∧ i = .int .i64 (k : Int) ∧ ∃ ls l1 b1 v, ls.length = k ∧ BK w0 wr g p base l1 b1 f v ls ∧ (∀ x ∈ l1, x < 256) ∧ (takeBk (n - k) l1 b1).map (fun Q => (ls ++ Q.1, Q.2)) = R) (fun i _ => n - (RowKit.intOf i).toNat)
  case atStart => exact ⟨0, Nat.zero_le _, rfl, [], l0, b0, _, rfl, HK1.out, HBY.out, by rw [HRR.out]; simp⟩
  case round =>
    obtain ⟨k, hk, rfl, ls, l1, b1, v, hlk, hbk, hby, hrel⟩ := hrel
    have H1 := Lib.hid hbk
    have H2 := Lib.hid hrel
    have H3 := Lib.hid hby
    have HLK := Lib.hid hlk
    clear hbk hrel hby hlk
    by_cases hlt : k < n
    · have g1 : decide ((k : Int) < (n : Int)) = true := by simp; omega
      have gn : decide (k < n) = true := by simp; omega
      obtain ⟨⟨a, l2, b2⟩, e1⟩ : ∃ q, numOf l1 b1 61 = q := ⟨_, rfl⟩
      have ha : a < 61 := by have := numOf_lt l1 b1 61 (by omega); rwa [e1] at this
      have hby2 : ∀ x ∈ l2, x < 256 := by have := num_bytes (bad := b1) (L := 61) H3.out; rwa [e1] at this
      have N1 := Lib.hid (show Calls Tryd.prog 53 #[.pointer (some ⟨g, 0, none⟩), .int .i64 61] wr (NumPost wr g (a, l2, b2)) by rw [← e1]; exact num_any wr g l1 b1 61 (by omega) H1.out.rd)
      obtain ⟨X, hX⟩ : ∃ X, takeL a l2 b2 = X := ⟨_, rfl⟩
      have NL := Lib.hid (fun (V : World) (hr : Rd V g l2 b2) (hT : Tabs V) => (show Calls Tryd.prog 55 #[.pointer (some ⟨g, 0, none⟩), .int .i64 (a : Int)] V (LineTPost V g X) by
        rw [← hX]
        exact takeLine_ok V g l2 b2 a (by omega) hr (tabs_only hT hG)))
      have E1 := Lib.hid e1
      have HX := Lib.hid hX
      have HBY2 := Lib.hid hby2
      clear e1 hX hby2
      go_wp2_with fail
      refine N1.out.mono ?_
      rintro e w2 ⟨rfl, hr2, hg2⟩
      have HK2 := Lib.hid (H1.out.grown hg2 hr2 (tabs_only H1.out.tabs hG w2 hg2))
      clear hr2 hg2
      dsimp only
      have HRUN := Lib.hid (NL.out w2 HK2.out.rd HK2.out.tabs)
      go_wp2_with fail
      refine HRUN.out.mono ?_
      intro e w3 hpost
      obtain ⟨A, m, c, ok, rfl, hg3, hcase⟩ := line_post hpost
      have HG3 := Lib.hid hg3
      have HCS := Lib.hid hcase
      have HTB := Lib.hid (tabs_only HK2.out.tabs hG w3 hg3)
      have HFR := Lib.hid (HK2.out.any hg3)
      clear hpost hg3 hcase HRUN
      rcases ok with _ | _
      · have hX : X = none := by
          rcases HCS.out with ⟨_, h⟩ | ⟨h, _⟩
          · exact h
          · cases h
        have HXN := Lib.hid (HX.out.trans hX)
        clear hX
        go_wp2
        go_ret
        refine .inl ⟨?_, rfl, HFR.out⟩
        rw [← H2.out, show n - k = (n - (k + 1)) + 1 by omega, takeBk_none _ l1 b1 a l2 b2 E1.out HXN.out]
        rfl
      · obtain ⟨T, hXT, ho, hm, hr⟩ : ∃ T, X = some T ∧ celE.Own w3 w2.heap.size (.slice A m c) T.1 ∧ m = T.1.length ∧ Rd w3 g T.2.1 T.2.2 := by
          rcases HCS.out with ⟨h, _⟩ | ⟨_, h⟩
          · cases h
          · exact h
        have HXX := Lib.hid (HX.out.trans hXT)
        by_cases ha0 : a = 0
        · have q0 : ((a : Int) == 0) = true := by simp; omega
          have HA0 := Lib.hid ha0
          clear hXT ho hm hr ha0
          go_wp2
          go_ret
          refine .inl ⟨?_, rfl, HFR.out⟩
          rw [← H2.out, show n - k = (n - (k + 1)) + 1 by omega, takeBk_zero _ l1 b1 a l2 b2 E1.out HA0.out]
          rfl
        · have q0 : ((a : Int) == 0) = false := by simp; omega
          have hk3 : BK w0 w3 g p base T.2.1 T.2.2 f v ls := HK2.out.grown HG3.out hr HTB.out
          have hbs2 := HK2.out.base
          have hsz3 := HG3.out.size
          have HSL : Hid (SlOk w3 (fun k => base ≤ k ∧ v.ownBlock ≠ some k ∧ ¬ (k = g ∨ k = p)) ⟨A, m, c⟩ T.1) := Lib.hid (by
            obtain ⟨A2, c2, hv2, _, _, hA2, hrow⟩ := ho.row
            injection hv2 with e1 e2 e3
            subst e1 e3
            refine ⟨hm, hrow, fun hp ad had => ?_, hA2⟩
            subst had
            have hl := (ho.lt ad.block (by rfl)).1
            have h1 := HK2.out.rd.lt
            have h2 := HK2.out.cells.lt
            refine ⟨by omega, fun e => ?_, by omega⟩
            have := (HK2.out.next.lt _ e).2
            omega)
          obtain ⟨SL, hS1, hS2, hS3⟩ := hk3.next
          have z0 := hk3.cells.cell (i := 97) (by omega)
          have z1 := hk3.cells.frozen 97
          have z2 : upd f 97 v 97 = v := by simp [upd]
          rw [z2] at z0
          have HSS := Lib.hid (show linE.Own w3 base v SL ∧ HeadsOk w3 (fun k => base ≤ k ∧ v.ownBlock ≠ some k ∧ ¬ (k = g ∨ k = p)) SL ls ∧ ∀ k, v.ownBlock = some k → ¬ (k = g ∨ k = p) from ⟨hS1, hS2, hS3⟩)
          have HKK := Lib.hid hk3
          have hSl : SL.length ≤ 30 := by rw [hS2.len, HLK.out]; omega
          have HM := Lib.hid hm
          have hpg : ∀ k, v.ownBlock = some k → k ≠ p := fun k e h => hS3 k e (.inr h)
          have HPG := Lib.hid hpg
          have hp3 := hk3.cells.lt
          clear hXT ho hm hr hS1 hS2 hS3 hk3 z2 hpg
          go_wp2_with (at_builtin; refine linE.wp_append1 rfl _ _ rfl base v SL rfl HSS.out.1 ⟨A, m, c⟩ #[.slice A m c] _ rfl rfl (by simp [linE]; omega) (by unfold maxLen; omega) HKK.out.base ?_; intro v4 w4 ho4 hg4; have q5 : w4.cell? ⟨p, 97, none⟩ = some v := (World.cell?_of_block (w := w3) (a := ⟨p, 97, none⟩) (hg4.grown.block p hp3 (fun e => HPG.out p e.symm rfl))).trans z0; have q6 : w4.frozen? ⟨p, 97, none⟩ = false := by { unfold World.frozen? at z1 ⊢; rw [hg4.grown.block p hp3 (fun e => HPG.out p e.symm rfl)]; exact z1 }; have HB5 := Lib.hid (HKK.out.snoc HSS.out HKK.out HSL.out ho4 hg4 hb0 hgb (by omega) hp0); obtain ⟨A4, c4, hv4, _⟩ := ho4.row; subst hv4; clear ho4 hg4 z0 z1; generalize (SL ++ [(⟨A, m, c⟩ : Sl)]).length = m4 at *)
          have HLK2 := Lib.hid (show (ls ++ [T.1]).length = k + 1 by simp [HLK.out])
          have HBY5 := Lib.hid (show ∀ x ∈ T.2.1, x < 256 from takeL_bytes (by omega) HBY2.out HXX.out)
          have HRL := Lib.hid (show (takeBk (n - (k + 1)) T.2.1 T.2.2).map (fun Q => (ls ++ [T.1] ++ Q.1, Q.2)) = R by
            rw [← H2.out, show n - k = (n - (k + 1)) + 1 by omega, takeBk_some _ l1 b1 a l2 b2 E1.out ha0 T HXX.out, Option.map_map]
            congr 1
            funext Q
            simp)
          clear ha0
          go_wp2
          go_roundw
          case rel => exact ⟨k + 1, by omega, by simp, _, _, _, _, HLK2.out, HB5.out, HBY5.out, HRL.out⟩
          case measure => simp [RowKit.intOf]; omega
    · have hkn : k = n := by omega
      have g1 : decide ((k : Int) < (n : Int)) = false := by simp; omega
      have gn : decide (k < n) = false := by simp; omega
      have HKN := Lib.hid hkn
      clear hkn
      go_wp2
      go_ret
      have hr := H2.out
      rw [HKN.out] at hr
      simp only [Nat.sub_self, takeBk, Option.map_some, List.append_nil] at hr
      exact .inr ⟨_, v, hr.symm, rfl, H1.out⟩
end Go.Proofs.YtdolapobkhhanaaDoor
