/-
  Layer 4 (file): a store in memory: its struct, its map, its files' bytes, each in a row of its own; which blocks are its own.
-/
import Derived.Test.YtdaipoelicpnoaaRows
import Derived.Test.YtdaipoelicpnoaaFMath
import Derived.Test.YtdaipoelicpnoaaFBytes
import Derived.Maps.OwnSet
import Derived.Maps.RangeWalk
import Derived.WalkKit
import Derived.WalkSpells
import Derived.Lib.Hide
namespace Go.Proofs.Ytdaipoelicpnoaa
open Go.RowKit Go.Maps FM

/-- A file's value in the map. -/
def fval (v : Value) (s : Nat) : Value := .agg #[v, .int .i64 s]
open Classical in
/-- How an element of the map reads: as itself. -/
noncomputable def fel (x : Value) : Option (DataW Value × List MemPlace) := if ∃ A n c s, x = .agg #[.slice A n c, .int .i64 s] then some (.held x, []) else none
theorem fel_mk (A : Option Addr) (n c : Nat) (s : Int) : fel (.agg #[.slice A n c, .int .i64 s]) = some (.held (.agg #[.slice A n c, .int .i64 s]), []) := if_pos ⟨A, n, c, s, rfl⟩
theorem fel_inv {x : Value} {z : DataW Value × List MemPlace} (h : fel x = some z) : ∃ A n c s, x = .agg #[.slice A n c, .int .i64 s] ∧ z = (.held x, []) := by
  unfold fel at h
  split at h
  · rename_i hx
    obtain ⟨A, n, c, s, rfl⟩ := hx
    exact ⟨A, n, c, s, rfl, (Option.some.inj h).symm⟩
  · cases h

abbrev Ent := Value × File
def entry (p : Name × Ent) : Lit × DataW Value := (.string p.1, .held (fval p.2.1 p.2.2.sure))
def datum (L : List (Name × Ent)) : DataW Value := .map (L.map entry)

theorem datum_ins (n : Name) (x : Ent) : ∀ L : List (Name × Ent), DataW.insert (entry (n, x)) (L.map entry) = (ins n x L).map entry
  | [] => rfl
  | y :: r => by
    unfold ins DataW.insert
    simp only [List.map_cons]
    have e : (entry (n, x)).1.before (entry y).1 = bytesBefore n y.1 := rfl
    rw [e]
    split
    · rfl
    · rw [datum_ins n x r]; rfl
theorem datum_del (n : Name) (L : List (Name × Ent)) : (datum L).del (.string n) = datum (del n L) := by
  unfold datum del DataW.del
  simp only [List.filter_map]
  rfl
theorem datum_put (n : Name) (x : Ent) (L : List (Name × Ent)) : (datum L).put (.string n) (.held (fval x.1 x.2.sure)) = datum (put n x L) := by
  have h := datum_del n L
  unfold datum del DataW.del at h
  simp only [DataW.map.injEq] at h
  unfold datum DataW.put put del
  simp only [DataW.map.injEq]
  rw [h]
  exact datum_ins n x _
theorem datum_get (n : Name) (L : List (Name × Ent)) (z : DataW Value) : (datum L).atKey (.string n) z = match get n L with | some x => .held (fval x.1 x.2.sure) | none => z := by
  unfold datum DataW.atKey FM.get
  simp only [List.find?_map]
  have e : ((fun p : Lit × DataW Value => p.1.sameKey (.string n)) ∘ entry) = fun p : Name × Ent => p.1 == n := by funext p; rfl
  rw [e]
  generalize L.find? (fun p => p.1 == n) = o
  rcases o with _ | p <;> rfl
theorem datum_has (n : Name) (L : List (Name × Ent)) : Maps.has (datum L) (.string n) = (get n L).isSome := by
  unfold datum FM.get
  rw [Maps.has_eq, List.any_map]
  have e : ((fun p : Lit × DataW Value => p.1.sameKey (.string n)) ∘ entry) = fun p : Name × Ent => p.1 == n := by funext p; rfl
  rw [e, Option.isSome_map, Bool.eq_iff_iff, List.find?_isSome, List.any_eq_true]
theorem datum_size (L : List (Name × Ent)) : Maps.size (datum L) = L.length := by unfold datum; rw [Maps.size_eq]; simp

/-- The store whose struct lies in block sb, its map in block mb, its files as L lists them. -/
structure StoB (w : World) (sb mb : Nat) (L : List (Name × Ent)) (s : St) : Prop where
  cells : w.heap[sb]? = some (.cells #[.map (some mb), .int .i64 (s.quota : Int), .int .i64 s.fuse, .bool s.down] 55)
  map : w.ownsMap Try.prog 9 fel mb L.length (datum L)
  own : ∀ p ∈ L, Own w 0 p.2.1 p.2.2.data
  apart : ∀ p ∈ L, ∀ q ∈ L, p.1 ≠ q.1 → p.2.1.ownBlock = none ∨ p.2.1.ownBlock ≠ q.2.1.ownBlock
  fs : s.fs = mapV Prod.snd L
  rise : Rise L
  sure : ∀ p ∈ L, p.2.2.sure ≤ p.2.2.data.length
  small : ∀ p ∈ L, ∀ x ∈ p.2.2.data, x < 256
  short : ∀ p ∈ L, p.1.length ≤ maxLen
  quota : s.quota < 9223372036854775808
  fuse : -9223372036854775808 ≤ s.fuse ∧ s.fuse < 9223372036854775808

/-- .. with all its blocks among those of S. -/
def Sto (w : World) (S : Nat → Prop) (sb : Nat) (s : St) : Prop :=
  ∃ mb L, StoB w sb mb L s ∧ S sb ∧ S mb ∧ (∀ p ∈ L, ∀ k, p.2.1.ownBlock = some k → S k) ∧ ∀ k, S k → k < w.heap.size

/-- w' is w but for the blocks of S and for new ones. -/
structure Fr (S : Nat → Prop) (w w' : World) : Prop where
  os : w'.os = w.os
  tape : w'.tape = w.tape
  output : w'.output = w.output
  size : w.heap.size ≤ w'.heap.size
  block : ∀ k, k < w.heap.size → ¬ S k → w'.heap[k]? = w.heap[k]?

/-- S and the blocks that are new in w'. -/
def wider (S : Nat → Prop) (w w' : World) : Nat → Prop := fun k => S k ∨ (w.heap.size ≤ k ∧ k < w'.heap.size)

theorem Fr.refl (S : Nat → Prop) (w : World) : Fr S w w := ⟨rfl, rfl, rfl, Nat.le_refl _, fun _ _ _ => rfl⟩
theorem Fr.below {S : Nat → Prop} {w w' : World} (h : Fr S w w') {B : Nat} (hB : B ≤ w.heap.size) (hS : ∀ k, S k → B ≤ k) : Below B w w' :=
  ⟨h.os, h.tape, h.output, h.size, fun k hk => h.block k (by omega) (fun hs => by have := hS k hs; omega)⟩
theorem Fr.of_below {S : Nat → Prop} {w w' : World} (h : Below w.heap.size w w') : Fr S w w' := ⟨h.os, h.tape, h.output, h.size, fun k hk _ => h.block k hk⟩
theorem Fr.trans {S : Nat → Prop} {a b c : World} (h : Fr S a b) (k : Fr (wider S a b) b c) : Fr S a c := by
  have hs := h.size
  refine ⟨k.os.trans h.os, k.tape.trans h.tape, k.output.trans h.output, Nat.le_trans hs k.size, fun i hi hn => (k.block i (by omega) ?_).trans (h.block i hi hn)⟩
  rintro (h1 | ⟨h1, _⟩)
  · exact hn h1
  · omega
theorem Fr.trans' {S : Nat → Prop} {a b c : World} (h : Fr S a b) (k : Fr S b c) : Fr S a c := by
  have hs := h.size
  exact ⟨k.os.trans h.os, k.tape.trans h.tape, k.output.trans h.output, Nat.le_trans hs k.size, fun i hi hn => (k.block i (by omega) hn).trans (h.block i hi hn)⟩
theorem Fr.grown {S : Nat → Prop} {w w' : World} {row : Option Nat} (h : w.grownBy w' row) (hr : ∀ k, row = some k → S k) : Fr S w w' :=
  ⟨h.os, h.tape, h.output, h.size, fun k hk hn => h.block k hk (fun e => hn (hr k e.symm))⟩
theorem Fr.setCell {S : Nat → Prop} {w : World} {a : Addr} (u : Value) (h : S a.block) : Fr S w (w.setCell a u) :=
  ⟨rfl, rfl, rfl, by simp, fun k _ hn => Below.heap_setCell _ _ _ _ (fun e => hn (by rw [e]; exact h))⟩
theorem Fr.alloc (S : Nat → Prop) (w : World) (o : Obj) : Fr S w (w.alloc o) := Fr.of_below ((Below.refl _ _).alloc (Nat.le_refl _) o)
theorem Fr.turned {S : Nat → Prop} {w w' : World} {b : Nat} (h : w.mapTurned w' b) (hb : S b) : Fr S w w' := Fr.grown h.grown (fun k e => by injection e with e; subst e; exact hb)

theorem Own.grown {w w' : World} {base : Nat} {v : Value} {l : List Nat} (h : Own w base v l) {row : Option Nat} (hg : w.grownBy w' row) (hne : v.ownBlock = none ∨ v.ownBlock ≠ row) : Own w' base v l :=
  ownsRow_grown h hg (fun k hk e => by rcases hne with h1 | h1 <;> simp_all)

theorem StoB.below {w w' : World} {sb mb : Nat} {L : List (Name × Ent)} {s : St} (h : StoB w sb mb L s) (hb : Below w.heap.size w w') : StoB w' sb mb L s :=
  { h with
    cells := (hb.block sb (Array.getElem?_eq_some_iff.1 h.cells).1).trans h.cells
    map := h.map.kept (row := none) ⟨hb.os, hb.tape, hb.output, hb.size, fun k hk _ => hb.block k hk⟩ (by simp)
    own := fun p hp => (h.own p hp).below hb }
theorem Sto.below {w w' : World} {S : Nat → Prop} {sb : Nat} {s : St} (h : Sto w S sb s) (hb : Below w.heap.size w w') : Sto w' S sb s := by
  obtain ⟨mb, L, h1, h2, h3, h4, h5⟩ := h
  exact ⟨mb, L, h1.below hb, h2, h3, h4, fun k hk => Nat.lt_of_lt_of_le (h5 k hk) hb.size⟩
theorem Sto.widen {w w0 : World} {S : Nat → Prop} {sb : Nat} {s : St} (h : Sto w S sb s) : Sto w (wider S w0 w) sb s := by
  obtain ⟨mb, L, h1, h2, h3, h4, h5⟩ := h
  refine ⟨mb, L, h1, .inl h2, .inl h3, fun p hp k hk => .inl (h4 p hp k hk), fun k hk => ?_⟩
  rcases hk with h6 | h6
  · exact h5 k h6
  · exact h6.2

section
variable {w : World} {sb mb : Nat} {L : List (Name × Ent)} {s : St}
theorem StoB.cell0 (h : StoB w sb mb L s) : w.cell? ⟨sb, 0, none⟩ = some (.map (some mb)) := by simp [World.cell?, h.cells]
theorem StoB.cell1 (h : StoB w sb mb L s) : w.cell? ⟨sb, 1, none⟩ = some (.int .i64 (s.quota : Int)) := by simp [World.cell?, h.cells]
theorem StoB.cell2 (h : StoB w sb mb L s) : w.cell? ⟨sb, 2, none⟩ = some (.int .i64 s.fuse) := by simp [World.cell?, h.cells]
theorem StoB.cell3 (h : StoB w sb mb L s) : w.cell? ⟨sb, 3, none⟩ = some (.bool s.down) := by simp [World.cell?, h.cells]
theorem StoB.frozen (h : StoB w sb mb L s) (i : Nat) : w.frozen? ⟨sb, i, none⟩ = false := by simp [World.frozen?, h.cells]
theorem StoB.ne (h : StoB w sb mb L s) : mb ≠ sb := fun e => by
  obtain ⟨es, cl, hb, _⟩ := h.map
  rw [e, h.cells] at hb; cases hb
theorem Own.notCells {base : Nat} {v : Value} {l : List Nat} {k : Nat} (h : Own w base v l) (hk : v.ownBlock = some k) : ∃ cur, w.heap[k]? = some (.cells cur 5) := by
  rcases h.2 with ⟨rfl, _⟩ | ⟨g, cap, cur, rfl, _, hh, _⟩
  · cases hk
  · cases hk; exact ⟨cur, hh⟩
theorem StoB.own_ne (h : StoB w sb mb L s) {p : Name × Ent} (hp : p ∈ L) : p.2.1.ownBlock ≠ some sb ∧ p.2.1.ownBlock ≠ some mb := by
  refine ⟨fun e => ?_, fun e => ?_⟩
  · obtain ⟨cur, hc⟩ := (h.own p hp).notCells e
    rw [h.cells] at hc; simp at hc
  · obtain ⟨cur, hc⟩ := (h.own p hp).notCells e
    obtain ⟨es, cl, hb, _⟩ := h.map
    rw [hb] at hc; cases hc
theorem StoB.own_lt (h : StoB w sb mb L s) {p : Name × Ent} (hp : p ∈ L) {k : Nat} (hk : p.2.1.ownBlock = some k) : k < w.heap.size := (World.ownsRow.lt (h.own p hp) k hk).2
theorem ownsMap_tight {b n : Nat} {l : List (Lit × DataW Value)} {P : Program} {k : TypeId} {R : Value → Option (DataW Value × List MemPlace)} (h : w.ownsMap P k R b n (.map l)) : w.ownsMap P k R b l.length (.map l) := by
  obtain ⟨es, cl, hb, F, hs, hD⟩ := h
  refine ⟨es, cl, hb, F, ?_, hD⟩
  simp only [DataW.map.injEq] at hD
  rw [hD, length_sorted]
  simp
end
end Go.Proofs.Ytdaipoelicpnoaa
