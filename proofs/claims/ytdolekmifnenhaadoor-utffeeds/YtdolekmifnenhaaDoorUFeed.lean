/-
  Layer 5 (utf): one byte more.
-/
import Derived.Test.YtdolekmifnenhaaDoorUDec
import Derived.Deep.RegionHeld3
namespace Go.Proofs.YtdolekmifnenhaaDoor
open Go.RowKit Go.Lib

theorem Tryd.info21 : (Tryd.prog.info? 21).map (fun i => (i.zero, i.size, i.bytes)) = some (some (.int .i32 0), 1, 4) := by kernel_rfl

/-- The slice value v, in a row of the call's own from block 'base' on, holds just these runes. -/
def OwnR (w : World) (base : Nat) (v : Value) (l : List Nat) : Prop := w.ownsRow base 21 1 v l.length (nums .i32 l)
section
variable {w w' : World} {base : Nat} {v : Value} {l : List Nat}
theorem OwnR.nil (w : World) (base : Nat) : OwnR w base (.slice none 0 0) [] := World.ownsRow_nil _ _ _ _
theorem OwnR.lt (h : OwnR w base v l) : ∀ k, v.ownBlock = some k → base ≤ k ∧ k < w.heap.size := fun k hk => World.ownsRow.lt h k hk
theorem OwnR.keep (h : OwnR w base v l) (hb : ∀ k, v.ownBlock = some k → w'.heap[k]? = w.heap[k]?) : OwnR w' base v l := by
  refine ⟨h.1, ?_⟩
  rcases h.2 with h1 | ⟨g, cap, cur, h1, h2, h3, h4⟩
  · exact .inl h1
  · exact .inr ⟨g, cap, cur, h1, h2, (hb g (by rw [h1]; rfl)).trans h3, h4⟩
theorem OwnR.below (h : OwnR w base v l) (hb : Below w.heap.size w w') : OwnR w' base v l := h.keep fun k hk => hb.block k (h.lt k hk).2
theorem OwnR.form (h : OwnR w base v l) : ∃ A c, v = .slice A l.length c ∧ l.length ≤ c ∧ c ≤ maxLen ∧ (A = none → c = 0) ∧ Row w w.heap.size .i32 A l := by
  rcases h.2 with ⟨rfl, h0⟩ | ⟨g, cap, cur, rfl, _, hh, h1, h2, _⟩
  · refine ⟨none, 0, by rw [h0], by omega, by unfold maxLen; omega, fun _ => rfl, ?_⟩
    have : l = [] := List.eq_nil_of_length_eq_zero h0
    subst this
    exact Row.nil
  · exact ⟨_, _, rfl, h1, h2, by simp, Row.of_own h⟩
theorem OwnR.snoc {x : Nat} (h : w.ownsRow base 21 1 v (l.length + 1) (nums .i32 l ++ [.int .i32 (x : Int)])) : OwnR w base v (l ++ [x]) := by
  unfold OwnR
  rw [nums_append, List.length_append]
  exact h
theorem OwnR.mono {base' : Nat} (h : OwnR w base v l) (hb : base' ≤ base) : OwnR w base' v l := by
  refine ⟨h.1, ?_⟩
  rcases h.2 with h1 | ⟨g, cap, cur, h1, h2, h3⟩
  · exact .inl h1
  · exact .inr ⟨g, cap, cur, h1, by omega, h3⟩
end
/-- Behind what grew, only new blocks were written. -/
theorem Grow.after {w w1 w2 : World} {v v' : Value} (h : Grow w w1 v v') (k : Below w.heap.size w1 w2) : Grow w w2 v v' :=
  ⟨⟨k.os.trans h.grown.os, k.tape.trans h.grown.tape, k.output.trans h.grown.output, Nat.le_trans h.grown.size k.size, fun i hi hne => (k.block i hi).trans (h.grown.block i hi hne)⟩, h.place⟩

/-- What feed answers: the Decoder of the bytes that are left, and the runes that are told behind those that there were. -/
def FeedPost (w : World) (base : Nat) (v : Value) (rs : List Nat) (t : List UInt8) (e : Ending) (w' : World) : Prop :=
  ∃ v', e = .returned (.tuple #[holdV (nat8 (UM.eat t).2), v']) ∧ OwnR w' base v' (rs ++ (UM.eat t).1) ∧ Grow w w' v v'

/-- What holds while a byte is taken: t is left. -/
structure FL (w wr : World) (base : Nat) (v u : Value) (rs ys : List Nat) (A : Option Addr) (cc : Nat) (t t0 : List UInt8) : Prop where
  cap : t.length ≤ cc
  row : Row wr (w.heap.size + 3) .u8 A (nat8 t)
  place : ∀ ad, A = some ad → ad.block = w.heap.size + 2
  own : OwnR wr base u (rs ++ ys)
  told : ys ++ (UM.eat t).1 = (UM.eat t0).1
  left : (UM.eat t).2 = (UM.eat t0).2
  grow : Grow w wr v u
  apart : ∀ k, u.ownBlock = some k → k < w.heap.size ∨ w.heap.size + 3 ≤ k
  res : wr.heap[w.heap.size + 1]? = some (.cells #[.int .u8 0, .int .u8 0, .int .u8 0, .int .i64 0] 29)
  size : w.heap.size + 3 ≤ wr.heap.size
  short : t.length ≤ 4
  few : ys.length ≤ 4
  short0 : t0.length ≤ 4
  base2 : 2 ≤ base
  tabs : Utf wr
section
variable {w wr w1 : World} {base : Nat} {v u : Value} {rs ys : List Nat} {A : Option Addr} {cc : Nat} {t t0 : List UInt8}
theorem FL.below (h : FL w wr base v u rs ys A cc t t0) (hb : Below wr.heap.size wr w1) : FL w w1 base v u rs ys A cc t t0 :=
  { h with
    row := h.row.below (hb.mono h.size)
    own := h.own.below hb
    grow := h.grow.after (hb.mono (by have := h.size; omega))
    res := (hb.block _ (by have := h.size; omega)).trans h.res
    size := Nat.le_trans h.size hb.size
    tabs := h.tabs.on hb h.tabs.room }
theorem FL.step (h : FL w wr base v u rs ys A cc t t0) (hf : UM.full t = true) {u' : Value} (ho : OwnR w1 base u' (rs ++ ys ++ [(decodeL t).1])) (hg : Grow wr w1 u u') :
    FL w w1 base v u' rs (ys ++ [(decodeL t).1]) (cutA A cc (decodeL t).2) (cc - (decodeL t).2) (t.drop (decodeL t).2) t0 := by
  have hw := UM.width_le (UM.full_ne hf)
  have hs := h.size
  have hap : ∀ k, w.heap.size ≤ k → k < w.heap.size + 3 → some k ≠ u.ownBlock := fun k h1 h2 e => by have := h.apart k e.symm; omega
  have e := UM.eat_step hf
  have ht := h.told
  have hl := h.left
  rw [e] at ht hl
  have hcnt := UM.eat_count t0
  have hc4 : (UM.eat t0).1.length = ys.length + (1 + (UM.eat (t.drop (decodeL t).2)).1.length) := by rw [← ht]; simp; omega
  refine { cap := by have := h.cap; rw [List.length_drop]; omega, row := ?_, place := ?_, own := by rw [← List.append_assoc]; exact ho, told := by rw [← ht]; simp, left := hl, grow := h.grow.trans hg, apart := ?_, res := ?_, size := Nat.le_trans hs hg.grown.size, short := by have := h.short; rw [List.length_drop]; omega, few := ?_, short0 := h.short0, base2 := h.base2, tabs := ?_ }
  · rw [← nat8_drop]
    refine Row.cut ?_ (by rw [nat8_len]; exact hw) (by rw [nat8_len]; exact h.cap)
    exact h.row.grow hg hs (fun _ ad ha => hap _ (by rw [h.place ad ha]; omega) (by rw [h.place ad ha]; omega))
  · intro ad ha
    unfold cutA at ha
    split at ha
    · exact h.place ad ha
    · rcases A with _ | a
      · cases ha
      · simp only [Option.map_some, Option.some.injEq] at ha
        rw [← ha]
        have := h.place a rfl
        rw [← this]
        unfold Addr.add
        split <;> rfl
  · intro k hk
    rcases hg.place with e | e
    · exact h.apart k (by rw [← e]; exact hk)
    · have := e k hk; omega
  · exact (hg.grown.block _ (by omega) (hap _ (by omega) (by omega))).trans h.res
  · have := h.short0
    rw [List.length_append, List.length_singleton]
    omega
  · obtain ⟨⟨h1, h2⟩, h3⟩ := h.tabs
    have hne : ∀ k, k < 2 → some k ≠ u.ownBlock := fun k hk e => by have := (h.own.lt k e.symm).1; have := h.base2; omega
    have hb : ∀ k, k < 2 → w1.heap[k]? = wr.heap[k]? := fun k hk => hg.grown.block k (by omega) (hne k hk)
    have hcell : ∀ k o, k < 2 → w1.cell? ⟨k, o, none⟩ = wr.cell? ⟨k, o, none⟩ := fun k o hk => World.cell?_of_block (hb k hk)
    refine ⟨⟨fun c hc => ?_, fun i hi => ?_⟩, Nat.lt_of_lt_of_le h3 hg.grown.size⟩
    · rw [hcell 0 c (by omega)]; exact h1 c hc
    · obtain ⟨k1, k2⟩ := h2 i hi
      exact ⟨by rw [hcell 1 _ (by omega)]; exact k1, by rw [hcell 1 _ (by omega)]; exact k2⟩
end

/-- Where the bytes that are taken were laid: behind feed's first steps. -/
structure FS (w W : World) (d : Array Value) (l : List Value) : Prop where
  below : Below w.heap.size w W
  size : w.heap.size + 3 ≤ W.heap.size
  dec : W.heap[w.heap.size]? = some (.cells d 29)
  res : W.heap[w.heap.size + 1]? = some (.cells #[.int .u8 0, .int .u8 0, .int .u8 0, .int .i64 0] 29)
  all : W.heap[w.heap.size + 2]? = some (.cells l.toArray 42)
theorem FS.start (w : World) (d : Array Value) : FS w (((w.alloc (.cells d 29)).alloc (.cells #[.int .u8 0, .int .u8 0, .int .u8 0, .int .i64 0] 29)).alloc (.cells #[.int .u8 0, .int .u8 0, .int .u8 0, .int .u8 0] 42)) d [.int .u8 0, .int .u8 0, .int .u8 0, .int .u8 0] := by
  refine ⟨(((Below.refl _ _).alloc (Nat.le_refl _) _).alloc (by simp) _).alloc (by simp; omega) _, by simp, ?_, ?_, ?_⟩
  · rw [Below.heap_alloc _ _ _ (by simp; omega), Below.heap_alloc _ _ _ (by simp)]
    exact (MapKept.heap_alloc w _).1
  · rw [Below.heap_alloc _ _ _ (by simp)]
    have := (MapKept.heap_alloc (w.alloc (.cells d 29)) (.cells #[.int .u8 0, .int .u8 0, .int .u8 0, .int .i64 0] 29)).1
    simpa using this
  · have := (MapKept.heap_alloc ((w.alloc (.cells d 29)).alloc (.cells #[.int .u8 0, .int .u8 0, .int .u8 0, .int .i64 0] 29)) (.cells #[.int .u8 0, .int .u8 0, .int .u8 0, .int .u8 0] 42)).1
    simpa using this
theorem FS.on {w W W' : World} {d : Array Value} {l : List Value} (h : FS w W d l) (hb : Below W.heap.size W W') : FS w W' d l :=
  ⟨below_at h.below (by have := h.size; omega) hb, Nat.le_trans h.size hb.size, (hb.block _ (by have := h.size; omega)).trans h.dec, (hb.block _ (by have := h.size; omega)).trans h.res, (hb.block _ (by have := h.size; omega)).trans h.all⟩
theorem FS.set {w W : World} {d : Array Value} {l : List Value} (h : FS w W d l) (j : Nat) (x : Value) : FS w (W.setCell ⟨w.heap.size + 2, j, none⟩ x) d (l.set j x) := by
  refine ⟨h.below.setCell (by simp) _, by have := h.size; simp; omega, ?_, ?_, ?_⟩
  · rw [Below.heap_setCell _ _ _ _ (by simp)]; exact h.dec
  · rw [Below.heap_setCell _ _ _ _ (by simp)]; exact h.res
  · rw [heap_setCell_same _ _ _ _ _ _ h.all]; simp
/-- The four bytes: those that were under way, and noughts. -/
def four (u : List UInt8) : List Value := nums .u8 (nat8 u) ++ List.replicate (4 - u.length) (.int .u8 0)
theorem FS.copied {w W : World} {d : Array Value} (h : FS w W d (four [])) (u : List UInt8) (hu : u.length ≤ 3) (ty : TypeId) (A : Option Addr) (c B : Nat) (hr : Row W B .u8 A (nat8 u)) :
    ∃ W', (Builtin.copy_ #[32, 32] ty #[.slice (some ⟨w.heap.size + 1 + 1, 0, none⟩) 4 4, .slice A u.length c]).run Tryd.prog W = .ok (.int .i64 (u.length : Int)) W' ∧ FS w W' d (four u) := by
  have hc : ∀ j, j < 4 → (W.cell? ⟨w.heap.size + 1 + 1, j, none⟩).isSome = true ∧ W.frozen? ⟨w.heap.size + 1 + 1, j, none⟩ = false := fun j hj => by
    have e : w.heap.size + 1 + 1 = w.heap.size + 2 := rfl
    rw [e]
    simp only [World.cell?, World.frozen?, h.all]
    rcases (by omega : j = 0 ∨ j = 1 ∨ j = 2 ∨ j = 3) with rfl | rfl | rfl | rfl <;> exact ⟨rfl, rfl⟩
  have hrun := run_copy W (w.heap.size + 1 + 1) 4 4 A (nat8 u) c B ty hr (by rw [nat8_len]; omega) (fun j hj => (hc j (by rw [nat8_len] at hj; omega)).1) (fun j hj => (hc j (by rw [nat8_len] at hj; omega)).2)
  rw [nat8_len] at hrun
  refine ⟨_, hrun, ?_⟩
  match u, hu with
  | [], _ => exact h
  | [x], _ => exact h.set 0 (.int .u8 (x.toNat : Int))
  | [x, y], _ => exact (h.set 0 (.int .u8 (x.toNat : Int))).set 1 (.int .u8 (y.toNat : Int))
  | [x, y, z], _ => exact ((h.set 0 (.int .u8 (x.toNat : Int))).set 1 (.int .u8 (y.toNat : Int))).set 2 (.int .u8 (z.toNat : Int))
theorem FS.row {w W : World} {d : Array Value} {u : List UInt8} (h : FS w W d (four u)) (hu : u.length ≤ 4) : Row W (w.heap.size + 3) .u8 (some ⟨w.heap.size + 1 + 1, 0, none⟩) (nat8 u) := fun _ => by
  refine ⟨w.heap.size + 1 + 1, 0, rfl, by omega, fun j hj => ?_⟩
  have e : w.heap.size + 1 + 1 = w.heap.size + 2 := rfl
  rw [e]
  rw [nat8_len] at hj
  simp only [World.cell?, h.all]
  match u, hu, j, hj with
  | [x], _, 0, _ => rfl
  | [x, y], _, 0, _ => rfl
  | [x, y], _, 1, _ => rfl
  | [x, y, z], _, 0, _ => rfl
  | [x, y, z], _, 1, _ => rfl
  | [x, y, z], _, 2, _ => rfl
  | [x, y, z, t], _, 0, _ => rfl
  | [x, y, z, t], _, 1, _ => rfl
  | [x, y, z, t], _, 2, _ => rfl
  | [x, y, z, t], _, 3, _ => rfl
theorem four_set (u : List UInt8) (hu : u.length ≤ 3) (c : UInt8) : (four u).set u.length (.int .u8 (c.toNat : Int)) = four (u ++ [c]) := by
  match u, hu with
  | [], _ => rfl
  | [x], _ => rfl
  | [x, y], _ => rfl
  | [x, y, z], _ => rfl
/-- The bytes of a Decoder that lie in memory. -/
theorem dec_row {W : World} {g : Nat} {u : List UInt8} {n : Int} (hu : u.length ≤ 3) (h : W.heap[g]? = some (.cells #[.int .u8 ((nat8 u).getD 0 0 : Nat), .int .u8 ((nat8 u).getD 1 0 : Nat), .int .u8 ((nat8 u).getD 2 0 : Nat), .int .i64 n] 29)) : Row W W.heap.size .u8 (some ⟨g, 0, none⟩) (nat8 u) := fun _ => by
  refine ⟨g, 0, rfl, (Array.getElem?_eq_some_iff.1 h).1, fun j hj => ?_⟩
  rw [nat8_len] at hj
  simp only [World.cell?, h]
  rcases (by omega : j = 0 ∨ j = 1 ∨ j = 2) with rfl | rfl | rfl <;> rfl
theorem near_of (n : Nat) (h : n ≤ 3) : near (n : Int) = n := by unfold near; omega
end Go.Proofs.YtdolekmifnenhaaDoor
