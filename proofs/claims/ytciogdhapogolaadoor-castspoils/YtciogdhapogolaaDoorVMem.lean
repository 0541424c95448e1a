/-
  Words for memory: a slice of integers that reads as a list, wherever it lies; an owned row that reads so. No program.
-/
import Derived.Below
import Derived.Laws.OwnMore
import Derived.OpenShut
namespace Go.Proofs.YtciogdhapogolaaDoor
open Go.RowKit

/-- A list of numbers as cells. -/
def nums (k : IntKind) (l : List Nat) : List Value := l.map fun n : Nat => .int k (n : Int)
theorem nums_len (k : IntKind) (l : List Nat) : (nums k l).length = l.length := by simp [nums]
theorem nums_append (k : IntKind) (l m : List Nat) : nums k (l ++ m) = nums k l ++ nums k m := by simp [nums]

/-- The slice value at A, of as many elements as l has, reads as l and lies below block B. -/
def Row (w : World) (B : Nat) (k : IntKind) (A : Option Addr) (l : List Nat) : Prop :=
  0 < l.length → ∃ b off, A = some ⟨b, off, none⟩ ∧ b < B ∧ ∀ j, j < l.length → w.cell? ⟨b, off + j, none⟩ = some (.int k (l.getD j 0 : Nat))

/-- The address of 's[k:]'. -/
def cutA (A : Option Addr) (cap k : Nat) : Option Addr := if cap = k then A else A.map (·.add k)

section
variable {w w' : World} {B B' : Nat} {k : IntKind} {A : Option Addr} {l : List Nat}

theorem Row.nil : Row w B k A [] := fun h => absurd h (by simp)

theorem Row.at_ (h : Row w B k A l) {j : Nat} (hj : j < l.length) : ∃ b off, A = some ⟨b, off, none⟩ ∧ b < B ∧ w.cell? ⟨b, off + j, none⟩ = some (.int k (l.getD j 0 : Nat)) := by
  obtain ⟨b, off, e, hb, hc⟩ := h (by omega)
  exact ⟨b, off, e, hb, hc j hj⟩

theorem Row.keep (h : Row w B k A l) (hk : ∀ p : Addr, p.block < B → w'.cell? p = w.cell? p) : Row w' B k A l := fun hl => by
  obtain ⟨b, off, e, hb, hc⟩ := h hl
  exact ⟨b, off, e, hb, fun j hj => (hk ⟨b, off + j, none⟩ hb).trans (hc j hj)⟩

theorem Row.mono (h : Row w B k A l) (hB : B ≤ B') : Row w B' k A l := fun hl => by
  obtain ⟨b, off, e, hb, hc⟩ := h hl
  exact ⟨b, off, e, by omega, hc⟩

theorem Row.below (h : Row w B k A l) (hb : Below B w w') : Row w' B k A l := h.keep fun _ hp => hb.cell hp

theorem Row.drew (h : Row w B k A l) : Row w.drew B k A l := h

theorem Row.cut (h : Row w B k A l) {j cap : Nat} (hj : j ≤ l.length) (hc : l.length ≤ cap) : Row w B k (cutA A cap j) (l.drop j) := fun hl => by
  unfold cutA
  rw [List.length_drop] at hl
  obtain ⟨b, off, rfl, hb, hcell⟩ := h (by omega)
  rw [if_neg (by omega)]
  refine ⟨b, off + j, by simp only [Option.map_some, Option.some.injEq]; unfold Addr.add; split <;> simp_all, hb, fun i hi => ?_⟩
  rw [List.length_drop] at hi
  rw [Nat.add_assoc, hcell (j + i) (by omega)]
  simp [List.getElem?_drop]

theorem Row.take (h : Row w B k A l) (j : Nat) : Row w B k A (l.take j) := fun hl => by
  rw [List.length_take] at hl
  obtain ⟨b, off, e, hb, hc⟩ := h (by omega)
  refine ⟨b, off, e, hb, fun i hi => ?_⟩
  rw [List.length_take] at hi
  rw [hc i (by omega)]
  simp [show i < j by omega]

theorem Row.of_own {base : Nat} {e : TypeId} {n c : Nat} (h : w.ownsRow base e 1 (.slice A n c) n (nums k l)) : Row w w.heap.size k A l := fun hl => by
  have hn : 0 < n := by have := h.1; rw [nums_len] at this; omega
  rcases h.2 with ⟨_, h0⟩ | ⟨g, cap, cur, hv, _, hh, _, _, _, ht⟩
  · omega
  · have hA : A = some ⟨g, 0, none⟩ := by injection hv
    subst hA
    refine ⟨g, 0, rfl, (Array.getElem?_eq_some_iff.1 hh).1, fun j hj => ?_⟩
    have hc := h.cells (g := g) rfl j (.int k (l.getD j 0 : Nat)) (by simp [nums, List.getElem?_eq_getElem hj])
    rw [← hc]
    unfold Addr.add
    split <;> simp_all

/-- What a walk is told of a slice of integers that came in: nil, or a row of 'cap' cells that read as zs, the first 'len' of them its elements. -/
def IsRow (k : IntKind) (w : World) (a : Option Addr) (len cap : Nat) (zs : List Int) : Prop :=
  (a = none ∧ len = 0 ∧ cap = 0 ∧ zs = []) ∨
  ∃ x, a = some x ∧ len ≤ cap ∧ cap ≤ maxLen ∧ zs.length = cap ∧ (∀ i, i < zs.length → w.cell? (x.add i) = some (.int k (zs.getD i 0))) ∧ ∀ n ∈ zs, (Lit.int k n).wf = true

/-- What comes in as a slice of integers, its elements as natural numbers. -/
theorem row_in {x : Addr} {len : Nat} {zs : List Int} (hl : len ≤ zs.length) (hc : ∀ i, i < zs.length → w.cell? (x.add i) = some (.int k (zs.getD i 0))) (h0 : ∀ n ∈ zs, 0 ≤ n) :
    Row w w.heap.size k (some x) ((zs.take len).map Int.toNat) := fun hp => by
  simp only [List.length_map, List.length_take] at hp
  obtain ⟨b, off, rfl, h⟩ := ints_at hc (by omega)
  have hlt := World.block_lt_of_cell? w ⟨b, off + 0, none⟩ (h 0 (by omega))
  refine ⟨b, off, rfl, hlt, fun j hj => ?_⟩
  simp only [List.length_map, List.length_take] at hj
  rw [h j (by omega)]
  have hz : zs[j] ∈ zs := List.getElem_mem _
  have := h0 _ hz
  simp [show j < len by omega, show j < zs.length by omega]
  omega

theorem came {len cap : Nat} {zs : List Int} {top : Nat} (h : IsRow k w A len cap zs) (ht : ∀ n : Int, (Lit.int k n).wf = true → 0 ≤ n ∧ n < top) :
    ∃ l : List Nat, len = l.length ∧ cap ≤ maxLen ∧ len ≤ cap ∧ (A = none → cap = 0) ∧ Row w w.heap.size k A l ∧ ∀ n ∈ l, n < top := by
  rcases h with ⟨rfl, rfl, rfl, rfl⟩ | ⟨x, rfl, h1, h2, h3, h4, h5⟩
  · exact ⟨[], rfl, Nat.zero_le _, Nat.le_refl _, fun _ => rfl, Row.nil, by simp⟩
  · refine ⟨(zs.take len).map Int.toNat, by simp; omega, h2, h1, by simp, row_in (by omega) h4 (fun n hn => (ht n (h5 n hn)).1), ?_⟩
    intro n hn
    obtain ⟨z, hz, rfl⟩ := List.mem_map.1 hn
    have := ht z (h5 z (List.mem_of_mem_take hz))
    omega
theorem top_u64 (n : Int) (h : (Lit.int .u64 n).wf = true) : 0 ≤ n ∧ n < (18446744073709551616 : Nat) := by
  have := bounds_u64 h; omega
theorem top_u8 (n : Int) (h : (Lit.int .u8 n).wf = true) : 0 ≤ n ∧ n < (256 : Nat) := by
  have := bounds_u8 h; omega
end
end Go.Proofs.YtciogdhapogolaaDoor
