/-
  Slices of slices of bytes: how they are read, and a row of them that is the call's own.
-/
import Derived.Test.YtfndbgdamplelaaVApp
namespace Go.Proofs.Ytfndbgdamplelaa
open Go.RowKit

theorem Try.info23 : (Try.prog.info? 23).map (fun i => (i.zero, i.size, i.bytes)) = some (some (.slice none 0 0), 1, 24) := by kernel_rfl

/-- The slice value at A, of as many slices of bytes as ls has, reads as ls, and lies below block B. -/
def Row2 (w : World) (B : Nat) (A : Option Addr) (ls : List (List Nat)) : Prop :=
  0 < ls.length → ∃ b off, A = some ⟨b, off, none⟩ ∧ b < B ∧ ∀ j, j < ls.length →
    ∃ A' c, w.cell? ⟨b, off + j, none⟩ = some (.slice A' (ls.getD j []).length c) ∧ Row w B .u8 A' (ls.getD j []) ∧ (A' = none → c = 0) ∧ (ls.getD j []).length ≤ c ∧ c ≤ maxLen

theorem Row2.at_ {w : World} {B : Nat} {A : Option Addr} {ls : List (List Nat)} (h : Row2 w B A ls) {j : Nat} (hj : j < ls.length) :
    ∃ b off A' c, A = some ⟨b, off, none⟩ ∧ b < B ∧ w.cell? ⟨b, off + j, none⟩ = some (.slice A' (ls.getD j []).length c) ∧ Row w B .u8 A' (ls.getD j []) ∧ (A' = none → c = 0) ∧ (ls.getD j []).length ≤ c ∧ c ≤ maxLen := by
  obtain ⟨b, off, h1, h2, h3⟩ := h (by omega)
  obtain ⟨A', c, h4⟩ := h3 j hj
  exact ⟨b, off, A', c, h1, h2, h4⟩
theorem Row2.below {w w' : World} {B : Nat} {A : Option Addr} {ls : List (List Nat)} (h : Row2 w B A ls) (hb : Below B w w') : Row2 w' B A ls := fun hl => by
  obtain ⟨b, off, h1, h2, h3⟩ := h hl
  refine ⟨b, off, h1, h2, fun j hj => ?_⟩
  obtain ⟨A', c, h4, h5, h6⟩ := h3 j hj
  exact ⟨A', c, (hb.cell (p := ⟨b, off + j, none⟩) h2).trans h4, h5.below hb, h6⟩
theorem Row2.mono {w : World} {B B' : Nat} {A : Option Addr} {ls : List (List Nat)} (h : Row2 w B A ls) (hB : B ≤ B') : Row2 w B' A ls := fun hl => by
  obtain ⟨b, off, h1, h2, h3⟩ := h hl
  refine ⟨b, off, h1, by omega, fun j hj => ?_⟩
  obtain ⟨A', c, h4, h5, h6⟩ := h3 j hj
  exact ⟨A', c, h4, h5.mono hB, h6⟩

/-- The slice value v, in a row of the call's own from block 'base' on, holds slices that read as ls; none of them lies in that row itself. -/
def Own2 (w : World) (base : Nat) (v : Value) (ls : List (List Nat)) : Prop :=
  ∃ cells : List Value, w.ownsRow base 23 1 v ls.length cells ∧ ∀ j, j < ls.length →
    ∃ A c, cells[j]? = some (.slice A (ls.getD j []).length c) ∧ Row w w.heap.size .u8 A (ls.getD j []) ∧ (A = none → c = 0) ∧ (ls.getD j []).length ≤ c ∧ c ≤ maxLen ∧ (0 < (ls.getD j []).length → ∀ ad, A = some ad → some ad.block ≠ v.ownBlock)

theorem Own2.nil (w : World) (base : Nat) : Own2 w base (.slice none 0 0) [] := ⟨[], World.ownsRow_nil _ _ _ _, fun j hj => absurd hj (by simp)⟩
theorem Own2.lt {w : World} {base : Nat} {v : Value} {ls : List (List Nat)} (h : Own2 w base v ls) : ∀ k, v.ownBlock = some k → base ≤ k ∧ k < w.heap.size := by
  obtain ⟨cells, h, _⟩ := h
  exact fun k hk => World.ownsRow.lt h k hk
theorem ownsRow_below {w w' : World} {base : Nat} {e : TypeId} {s : Nat} {v : Value} {n : Nat} {xs : List Value} (h : w.ownsRow base e s v n xs) (hb : Below w.heap.size w w') : w'.ownsRow base e s v n xs := by
  refine ⟨h.1, ?_⟩
  rcases h.2 with h1 | ⟨g, cap, cur, h1, h2, h3, h4⟩
  · exact .inl h1
  · exact .inr ⟨g, cap, cur, h1, h2, (hb.block g (Array.getElem?_eq_some_iff.1 h3).1).trans h3, h4⟩
theorem Own2.below {w w' : World} {base : Nat} {v : Value} {ls : List (List Nat)} (h : Own2 w base v ls) (hb : Below w.heap.size w w') : Own2 w' base v ls := by
  obtain ⟨cells, h1, h2⟩ := h
  refine ⟨cells, ownsRow_below h1 hb, fun j hj => ?_⟩
  obtain ⟨A, c, h3, h4, h5⟩ := h2 j hj
  exact ⟨A, c, h3, (h4.below hb).mono hb.size, h5⟩
theorem Own2.form {w : World} {base : Nat} {v : Value} {ls : List (List Nat)} (h : Own2 w base v ls) : ∃ A c, v = .slice A ls.length c ∧ ls.length ≤ c ∧ c ≤ maxLen ∧ (A = none → c = 0) ∧ Row2 w w.heap.size A ls := by
  obtain ⟨cells, h, h2⟩ := h
  rcases h.2 with ⟨rfl, h0⟩ | ⟨g, cap, cur, rfl, _, hh, h1, h3, _⟩
  · exact ⟨none, 0, by rw [h0], by omega, by unfold maxLen; omega, fun _ => rfl, fun hl => absurd hl (by omega)⟩
  · refine ⟨_, _, rfl, h1, h3, by simp, fun hl => ⟨g, 0, rfl, (Array.getElem?_eq_some_iff.1 hh).1, fun j hj => ?_⟩⟩
    obtain ⟨A, c, h4, h5, h6, h7, h8, _⟩ := h2 j hj
    refine ⟨A, c, ?_, h5, h6, h7, h8⟩
    rw [Nat.zero_add, World.ownsRow.cellAt h j (by omega)]
    exact h4

/-- append(v, x): behind it the row holds x's bytes too. -/
theorem Own2.snoc {w w' : World} {base : Nat} {v v' : Value} {ls : List (List Nat)} {x : List Nat} {A : Option Addr} {c : Nat} {o : Obj} {cells : List Value} (hr : Row w w.heap.size .u8 A x) (hA : A = none → c = 0) (hxc : x.length ≤ c) (hcm : c ≤ maxLen)
    (hne : 0 < x.length → ∀ ad, A = some ad → some ad.block ≠ v.ownBlock) (hcells : ∀ j, j < ls.length →
      ∃ A c, cells[j]? = some (.slice A (ls.getD j []).length c) ∧ Row w w.heap.size .u8 A (ls.getD j []) ∧ (A = none → c = 0) ∧ (ls.getD j []).length ≤ c ∧ c ≤ maxLen ∧ (0 < (ls.getD j []).length → ∀ ad, A = some ad → some ad.block ≠ v.ownBlock))
    (hcl : cells.length = ls.length) (ho : w'.ownsRow base 23 1 v' (ls.length + 1) (cells ++ [.slice A x.length c])) (hg : (w.alloc o).grownBy w' v.ownBlock) (hp : v'.ownBlock = v.ownBlock ∨ v'.ownBlock = some (w.heap.size + 1)) : Own2 w' base v' (ls ++ [x]) := by
  have hs := hg.size
  have hz : (w.alloc o).heap.size = w.heap.size + 1 := by simp
  have keep : ∀ (A : Option Addr) (y : List Nat), Row w w.heap.size .u8 A y → (0 < y.length → ∀ ad, A = some ad → some ad.block ≠ v.ownBlock) → Row w' w'.heap.size .u8 A y ∧ (0 < y.length → ∀ ad, A = some ad → some ad.block ≠ v'.ownBlock) := by
    intro A y h1 h2
    refine ⟨fun hl => ?_, fun hl ad ha => ?_⟩
    · obtain ⟨b, off, e, hb, hc⟩ := h1 hl
      refine ⟨b, off, e, by omega, fun j hj => ?_⟩
      refine (World.cell?_of_block (w := w) (a := ⟨b, off + j, none⟩) ?_).trans (hc j hj)
      exact (hg.block b (by omega) (h2 hl _ e)).trans (Below.heap_alloc w o b hb)
    · obtain ⟨b, off, e, hb, _⟩ := h1 hl
      rw [e] at ha
      injection ha with ha
      subst ha
      rcases hp with hp | hp
      · rw [hp]; exact h2 hl _ e
      · rw [hp]; intro h3; injection h3 with h3; simp only at h3; omega
  refine ⟨cells ++ [.slice A x.length c], by rw [List.length_append]; exact ho, fun j hj => ?_⟩
  rw [List.length_append, List.length_singleton] at hj
  by_cases hlt : j < ls.length
  · obtain ⟨A2, c2, h3, h4, h5, h6, h7, h8⟩ := hcells j hlt
    have e : (ls ++ [x]).getD j [] = ls.getD j [] := by simp [List.getElem?_append_left hlt]
    rw [e]
    obtain ⟨k1, k2⟩ := keep A2 _ h4 h8
    exact ⟨A2, c2, by rw [List.getElem?_append_left (by omega)]; exact h3, k1, h5, h6, h7, k2⟩
  · obtain rfl : j = ls.length := by omega
    have e : (ls ++ [x]).getD ls.length [] = x := by simp
    rw [e]
    obtain ⟨k1, k2⟩ := keep A x hr hne
    refine ⟨A, c, ?_, k1, hA, hxc, hcm, k2⟩
    rw [← hcl]; simp

/-- What a walk is told of a slice of slices of integers that came in. -/
def IsRow2 (k : IntKind) (w : World) (a : Option Addr) (len cap : Nat) : Prop :=
  (a = none ∧ len = 0 ∧ cap = 0) ∨
  ∃ (x : Addr) (A : Nat → Option Addr) (L C : Nat → Nat) (Z : Nat → List Int), a = some x ∧ len ≤ cap ∧ cap ≤ maxLen ∧
    ∀ r, r < cap → w.cell? (x.add r) = some (.slice (A r) (L r) (C r)) ∧ L r ≤ C r ∧ C r ≤ maxLen ∧ (Z r).length = C r ∧ (∀ n ∈ Z r, (Lit.int k n).wf = true) ∧ (A r = none → C r = 0) ∧
      ∀ a', A r = some a' → ∀ c, c < C r → w.cell? (a'.add c) = some (.int k ((Z r).getD c 0))

theorem addr_plain {w : World} {x : Addr} {v : Value} (h : w.cell? x = some v) : ∃ b off, x = ⟨b, off, none⟩ ∧ b < w.heap.size := by
  obtain ⟨b, off, part⟩ := x
  have hlt := World.block_lt_of_cell? w _ h
  cases part with
  | none => exact ⟨b, off, rfl, hlt⟩
  | some p => simp only [World.cell?] at h; split at h <;> simp_all

theorem came2 {w : World} {A : Option Addr} {len cap : Nat} (h : IsRow2 .u8 w A len cap) :
    ∃ ls : List (List Nat), len = ls.length ∧ cap ≤ maxLen ∧ len ≤ cap ∧ (A = none → cap = 0) ∧ Row2 w w.heap.size A ls ∧ ∀ x ∈ ls, ∀ n ∈ x, n < 256 := by
  rcases h with ⟨rfl, rfl, rfl⟩ | ⟨x, A', L, C, Z, rfl, h1, h2, h3⟩
  · exact ⟨[], rfl, Nat.zero_le _, Nat.le_refl _, fun _ => rfl, fun h => absurd h (by simp), by simp⟩
  · have hz : ∀ r, r < len → (((Z r).take (L r)).map Int.toNat).length = L r := fun r hr => by
      obtain ⟨g1, g2, g3, g4, g5, g6, g7⟩ := h3 r (by omega)
      exact (by rw [List.length_map, List.length_take]; omega)
    have hgd : ∀ r, r < len → ((List.range len).map fun r => ((Z r).take (L r)).map Int.toNat).getD r [] = ((Z r).take (L r)).map Int.toNat := fun r hr => by
      simp [hr]
    refine ⟨(List.range len).map fun r => ((Z r).take (L r)).map Int.toNat, by simp, h2, h1, by simp, fun hp => ?_, ?_⟩
    · have hp : 0 < len := by simpa using hp
      obtain ⟨g1, _⟩ := h3 0 (by omega)
      have e0 : x.add 0 = x := by unfold Addr.add; split <;> simp_all
      rw [e0] at g1
      obtain ⟨b, off, rfl, hb⟩ := addr_plain g1
      refine ⟨b, off, rfl, hb, fun j hj => ?_⟩
      have hj : j < len := by simpa using hj
      rw [hgd j hj, hz j hj]
      obtain ⟨g1, g2, g3, g4, g5, g6, g7⟩ := h3 j (by omega)
      have ej : (⟨b, off, none⟩ : Addr).add j = ⟨b, off + j, none⟩ := by unfold Addr.add; split <;> simp_all
      rw [ej] at g1
      refine ⟨A' j, C j, g1, ?_, g6, g2, g3⟩
      cases hA : A' j with
      | none => intro hp2; rw [hz j hj] at hp2; have := g6 hA; omega
      | some a' => exact row_in (w := w) (k := .u8) (by omega) (fun i hi => g7 a' hA i (by omega)) (fun n hn => (top_u8 n (g5 n hn)).1)
    · intro y hy n hn
      obtain ⟨r, hr, rfl⟩ := List.mem_map.1 hy
      obtain ⟨z, hz2, rfl⟩ := List.mem_map.1 hn
      obtain ⟨g1, g2, g3, g4, g5, g6, g7⟩ := h3 r (by have := List.mem_range.1 hr; omega)
      have := top_u8 z (g5 z (List.mem_of_mem_take hz2))
      omega
end Go.Proofs.Ytfndbgdamplelaa
