/-
  Layer 1 (vary): Put of one number, laid in a new block.
-/
import Derived.Test.YtfbfelfioikieaaVPut
namespace Go.Proofs.Ytfbfelfioikieaa
open Go.RowKit

/-- A new block of numbers, as the row that a slice over it reads. -/
theorem row_new (w : World) (k : IntKind) (x : Nat) (t : TypeId) : Row (w.alloc (.cells #[.int k (x : Int)] t)) (w.heap.size + 1) k (some ⟨w.heap.size, 0, none⟩) [x] := fun _ => by
  refine ⟨w.heap.size, 0, rfl, by omega, fun j hj => ?_⟩
  obtain rfl : j = 0 := by simp at hj; omega
  simp

/-- Some slice that reads as these bytes; below 'base' the world is as w0 was. -/
def BytesPost (base : Nat) (w0 : World) (l : List Nat) (e : Ending) (w' : World) : Prop :=
  ∃ A c, e = .returned (.slice A l.length c) ∧ l.length ≤ c ∧ c ≤ maxLen ∧ (A = none → c = 0) ∧ Row w' w'.heap.size .u8 A l ∧ Below base w0 w'

/-- Put(nil, n), as it is called: the one number laid in a new block. -/
theorem put_one (w : World) (n : Nat) (hn : n < 18446744073709551616) :
    Calls Try.prog 24 #[.slice none 0 0, .slice (some ⟨w.heap.size, 0, none⟩) 1 1] (w.alloc (.cells #[.int .u64 (n : Int)] 44)) (BytesPost w.heap.size w (VM.enc n)) := by
  refine (put_any _ [] _ 1 [n] _ (w.heap.size + 1) (by simpa using hn) (by simp) (by simp) (row_new w .u64 n _) (Own.nil _ _) (by simp)).mono ?_
  rintro e w1 ⟨v, rfl, ho, hb⟩
  obtain ⟨A, c, hv, h1, h2, h3, h4⟩ := ho.form
  rw [VM.encs_one, List.nil_append] at hv h1 h4
  exact ⟨A, c, by rw [hv], h1, h2, h3, h4, ((Below.refl _ _).alloc (Nat.le_refl _) _).trans (hb.mono (by omega))⟩
theorem put_one_drew (w : World) (n : Nat) (hn : n < 18446744073709551616) :
    Calls Try.prog 24 #[.slice none 0 0, .slice (some ⟨w.heap.size, 0, none⟩) 1 1] (w.alloc (.cells #[.int .u64 (n : Int)] 44)).drew (BytesPost w.heap.size w (VM.enc n)) :=
  (put_one w.drew n hn).mono fun _ _ ⟨A, c, h0, h1, h2, h3, h4, h5⟩ => ⟨A, c, h0, h1, h2, h3, h4, (Below.refl _ _).drew.trans h5⟩

theorem put_int (w : World) (x : Int) (h0 : 0 ≤ x) (hn : x ≤ 18446744073709551615) :
    Calls Try.prog 24 #[.slice none 0 0, .slice (some ⟨w.heap.size, 0, none⟩) 1 1] (w.alloc (.cells #[.int .u64 x] 44)) (BytesPost w.heap.size w (VM.enc x.toNat)) := by
  have h := put_one w x.toNat (by omega)
  rwa [Int.toNat_of_nonneg h0] at h

/-- Put(v, x), x laid in a new block, v a row of the call's own that is older. -/
theorem put_fresh (v : Value) (xs : List Nat) (x : Int) (w : World) (base : Nat) (h0 : 0 ≤ x) (h1 : x ≤ 18446744073709551615) (hx : xs.length ≤ 100000000) (hown : Own w base v xs) (hbase : base ≤ w.heap.size) :
    Calls Try.prog 24 #[v, .slice (some ⟨w.heap.size, 0, none⟩) 1 1] (w.alloc (.cells #[.int .u64 x] 44)) fun e w' => ∃ v', e = .returned v' ∧ Own w' base v' (xs ++ VM.enc x.toNat) ∧ Below base w w' := by
  obtain ⟨n, rfl⟩ := Int.eq_ofNat_of_zero_le h0
  have hb : Below base w (w.alloc (.cells #[.int .u64 (n : Int)] 44)) := (Below.refl _ _).alloc hbase _
  refine (put_grow v xs _ 1 [n] _ base (w.heap.size + 1) (by simp; omega) (by simp) hx (row_new w .u64 n _) (by simp) (fun _ ad ha e => ?_) (hown.alloc _) (by simp; omega)).mono ?_
  · injection ha with ha
    subst ha
    have := (World.ownsRow.lt hown _ e.symm).2
    exact Nat.lt_irrefl _ this
  · rintro e w1 ⟨v', rfl, ho, hg⟩
    rw [VM.encs_one] at ho
    exact ⟨v', rfl, by simpa using ho, hb.trans (hg.below (l := xs) (hown.alloc _) (by simp; omega))⟩

end Go.Proofs.Ytfbfelfioikieaa
