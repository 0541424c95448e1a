/-
  Layer 1 (vary): what a Reader's calls answer, and what becomes of it.
-/
import Derived.Test.YtciogdhapogolaaDoorVFit
import Derived.Test.YtciogdhapogolaaDoorVStr
import Derived.Lib.AppendStr
namespace Go.Proofs.YtciogdhapogolaaDoor
open Go.RowKit

theorem two_cell {w : World} {g : Nat} {a b : Value} {t : TypeId} (h : w.heap[g]? = some (.cells #[a, b] t (0, 0))) :
    w.cell? ⟨g, 0, none⟩ = some a ∧ w.cell? ⟨g, 1, none⟩ = some b ∧ w.frozen? ⟨g, 0, none⟩ = false ∧ w.frozen? ⟨g, 1, none⟩ = false :=
  ⟨by rw [cell_of_row w g 0 _ t (0, 0) h]; rfl, by rw [cell_of_row w g 1 _ t (0, 0) h]; rfl, by simp [World.frozen?, h], by simp [World.frozen?, h]⟩
theorem two_set0 {w : World} {g : Nat} {a b : Value} {t : TypeId} (h : w.heap[g]? = some (.cells #[a, b] t (0, 0))) (v : Value) : (w.setCell ⟨g, 0, none⟩ v).heap[g]? = some (.cells #[v, b] t (0, 0)) := by
  simp [World.setCell, Array.getElem?_modify, h]
theorem two_set1 {w : World} {g : Nat} {a b : Value} {t : TypeId} (h : w.heap[g]? = some (.cells #[a, b] t (0, 0))) (v : Value) : (w.setCell ⟨g, 1, none⟩ v).heap[g]? = some (.cells #[a, v] t (0, 0)) := by
  simp [World.setCell, Array.getElem?_modify, h]
theorem only_set {a w : World} {g : Nat} (h : a.grownBy w (some g)) (i : Nat) (v : Value) : a.grownBy (w.setCell ⟨g, i, none⟩ v) (some g) :=
  ⟨h.os, h.tape, h.output, by simpa [World.setCell] using h.size, fun k hk hne => (Below.heap_setCell w ⟨g, i, none⟩ v k (by rintro rfl; exact hne rfl)).trans (h.block k hk hne)⟩
theorem only_refl (w : World) (g : Option Nat) : w.grownBy w g := ⟨rfl, rfl, rfl, Nat.le_refl _, fun _ _ _ => rfl⟩
theorem only_trans {a b c : World} {g : Option Nat} (h : a.grownBy b g) (k : b.grownBy c g) : a.grownBy c g :=
  ⟨k.os.trans h.os, k.tape.trans h.tape, k.output.trans h.output, Nat.le_trans h.size k.size, fun i hi hne => (k.block i (Nat.lt_of_lt_of_le hi h.size) hne).trans (h.block i hi hne)⟩
theorem only_below {a w : World} {g B : Nat} (h : a.grownBy w (some g)) (hB : B ≤ g) (hz : B ≤ a.heap.size) : Below B a w :=
  ⟨h.os, h.tape, h.output, h.size, fun k hk => h.block k (by omega) (by intro e; injection e with e; omega)⟩
/-- What a number below L that is asked for leaves: the number, the bytes that are left, was something missing? -/
def numOf (l : List Nat) (bad : Bool) (L : Nat) : Nat × List Nat × Bool :=
  if (VM.take l).2 = 0 ∨ L ≤ (VM.take l).1 then (0, [], true) else ((VM.take l).1, l.drop (VM.take l).2, bad)

/-- What Num asks: below the limit, or below 2^63. -/
def lim (limit : Int) : Nat := if limit ≤ 0 then 9223372036854775808 else limit.toNat

/-- What a text of no more than 'most' bytes that is asked for leaves. -/
def textOf (l : List Nat) (bad : Bool) (most : Nat) : List Nat × List Nat × Bool :=
  if (numOf l bad (most + 1)).2.1.length < (numOf l bad (most + 1)).1 then ([], [], true)
  else ((numOf l bad (most + 1)).2.1.take (numOf l bad (most + 1)).1, (numOf l bad (most + 1)).2.1.drop (numOf l bad (most + 1)).1, (numOf l bad (most + 1)).2.2)

/-- A text's bytes, as numbers. -/
def sb (s : ByteArray) : List Nat := s.data.toList.map UInt8.toNat
theorem sb_len (s : ByteArray) : (sb s).length = s.size := by unfold sb; rw [List.length_map, Array.length_toList]; rfl
theorem sb_byte (s : ByteArray) : ∀ x ∈ sb s, x < 256 := by
  intro x hx
  obtain ⟨b, _, rfl⟩ := List.mem_map.1 hx
  exact b.toNat_lt
theorem str_sb (s : ByteArray) : str (sb s) = s := by
  refine ByteArray.ext (Array.toList_inj.1 ?_)
  rw [str_list, sb, List.map_map]
  conv => rhs; rw [← List.map_id s.data.toList]
  exact List.map_congr_left fun b _ => UInt8.ofNat_toNat
theorem strCells_sb (s : ByteArray) : Lib.strCells s = nums .u8 (sb s) := by unfold Lib.strCells nums sb; rw [List.map_map]; rfl

theorem numOf_enc (n : Nat) (rest : List Nat) (bad : Bool) (L : Nat) (hn : n < 18446744073709551616) : numOf (VM.enc n ++ rest) bad L = if L ≤ n then (0, [], true) else (n, rest, bad) := by
  have := VM.enc_pos n
  unfold numOf
  rw [VM.take_enc n rest hn, List.drop_left]
  by_cases h : L ≤ n
  · rw [if_pos (Or.inr h), if_pos h]
  · rw [if_neg (by simp only; omega), if_neg h]
theorem numOf_nil (bad : Bool) (L : Nat) : numOf [] bad L = (0, [], true) := by unfold numOf; rw [VM.take_nil, if_pos (Or.inl rfl)]
theorem textOf_enc (l rest : List Nat) (bad : Bool) (most : Nat) (hn : l.length < 18446744073709551616) : textOf (VM.enc l.length ++ (l ++ rest)) bad most = if most < l.length then ([], [], true) else (l, rest, bad) := by
  unfold textOf
  rw [numOf_enc _ _ _ _ hn]
  by_cases h : most < l.length
  · rw [if_pos (show most + 1 ≤ l.length from h), if_pos h]; rfl
  · rw [if_neg (show ¬ most + 1 ≤ l.length from h), if_neg h]
    rw [if_neg (by simp)]
    simp
theorem textOf_nil (bad : Bool) (most : Nat) : textOf [] bad most = ([], [], true) := by unfold textOf; rw [numOf_nil]; rfl
end Go.Proofs.YtciogdhapogolaaDoor
