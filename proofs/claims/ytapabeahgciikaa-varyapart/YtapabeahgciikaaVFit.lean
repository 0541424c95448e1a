/-
  Layer 1 (vary): the anchor 'fit' of the statements answers true.
-/
import Derived.Test.YtapabeahgciikaaVSign
import Derived.Test.YtapabeahgciikaaVTake
import Derived.Test.YtapabeahgciikaaVPut
namespace Go.Proofs.Ytapabeahgciikaa
open Go.RowKit

/-- A new block of numbers, as the row that a slice over it reads. -/
theorem row_new (w : World) (k : IntKind) (x : Nat) (t : TypeId) : Row (w.alloc (.cells #[.int k (x : Int)] t)) (w.heap.size + 1) k (some ⟨w.heap.size, 0, none⟩) [x] := fun _ => by
  refine ⟨w.heap.size, 0, rfl, by omega, fun j hj => ?_⟩
  obtain rfl : j = 0 := by simp at hj; omega
  simp

/-- Some slice that reads as these bytes; below 'base' the world is as w0 was. -/
def BytesPost (base : Nat) (w0 : World) (l : List Nat) (e : Ending) (w' : World) : Prop :=
  ∃ A c, e = .returned (.slice A l.length c) ∧ l.length ≤ c ∧ c ≤ maxLen ∧ (A = none → c = 0) ∧ Row w' w'.heap.size .u8 A l ∧ Below base w0 w'

/-- Put(nil, n), as it is called: the one number laid in a new block. -/
theorem put_one (w : World) (n : Nat) (hn : n < 18446744073709551616) :
    Calls Try.prog 10 #[.slice none 0 0, .slice (some ⟨w.heap.size, 0, none⟩) 1 1] (w.alloc (.cells #[.int .u64 (n : Int)] 26)) (BytesPost w.heap.size w (VM.enc n)) := by
  refine (put_any _ [] _ 1 [n] _ (w.heap.size + 1) (by simpa using hn) (by simp) (by simp) (row_new w .u64 n _) (Own.nil _ _) (by simp)).mono ?_
  rintro e w1 ⟨v, rfl, ho, hb⟩
  obtain ⟨A, c, hv, h1, h2, h3, h4⟩ := ho.form
  rw [VM.encs_one, List.nil_append] at hv h1 h4
  exact ⟨A, c, by rw [hv], h1, h2, h3, h4, ((Below.refl _ _).alloc (Nat.le_refl _) _).trans (hb.mono (by omega))⟩
theorem put_one_drew (w : World) (n : Nat) (hn : n < 18446744073709551616) :
    Calls Try.prog 10 #[.slice none 0 0, .slice (some ⟨w.heap.size, 0, none⟩) 1 1] (w.alloc (.cells #[.int .u64 (n : Int)] 26)).drew (BytesPost w.heap.size w (VM.enc n)) :=
  (put_one w.drew n hn).mono fun _ _ ⟨A, c, h0, h1, h2, h3, h4, h5⟩ => ⟨A, c, h0, h1, h2, h3, h4, (Below.refl _ _).drew.trans h5⟩

theorem put_int (w : World) (x : Int) (h0 : 0 ≤ x) (hn : x ≤ 18446744073709551615) :
    Calls Try.prog 10 #[.slice none 0 0, .slice (some ⟨w.heap.size, 0, none⟩) 1 1] (w.alloc (.cells #[.int .u64 x] 26)) (BytesPost w.heap.size w (VM.enc x.toNat)) := by
  have h := put_one w x.toNat (by omega)
  rwa [Int.toNat_of_nonneg h0] at h

/-- Put(v, x), x laid in a new block, v a row of the call's own that is older. -/
theorem put_fresh (v : Value) (xs : List Nat) (x : Int) (w : World) (base : Nat) (h0 : 0 ≤ x) (h1 : x ≤ 18446744073709551615) (hx : xs.length ≤ 100000000) (hown : Own w base v xs) (hbase : base ≤ w.heap.size) :
    Calls Try.prog 10 #[v, .slice (some ⟨w.heap.size, 0, none⟩) 1 1] (w.alloc (.cells #[.int .u64 x] 26)) fun e w' => ∃ v', e = .returned v' ∧ Own w' base v' (xs ++ VM.enc x.toNat) ∧ Below base w w' := by
  obtain ⟨n, rfl⟩ := Int.eq_ofNat_of_zero_le h0
  have hb : Below base w (w.alloc (.cells #[.int .u64 (n : Int)] 26)) := (Below.refl _ _).alloc hbase _
  refine (put_grow v xs _ 1 [n] _ base (w.heap.size + 1) (by simp; omega) (by simp) hx (row_new w .u64 n _) (by simp) (fun _ ad ha e => ?_) (hown.alloc _) (by simp; omega)).mono ?_
  · injection ha with ha
    subst ha
    have := (World.ownsRow.lt hown _ e.symm).2
    exact Nat.lt_irrefl _ this
  · rintro e w1 ⟨v', rfl, ho, hg⟩
    rw [VM.encs_one] at ho
    exact ⟨v', rfl, by simpa using ho, hb.trans (hg.below (l := xs) (hown.alloc _) (by simp; omega))⟩

theorem enc_300 : VM.enc 300 = [172, 2] := by rw [VM.enc_ge (by omega), VM.enc_lt (by omega)]
theorem take_300 : VM.take [172, 2] = (300, 2) := by decide

set_option maxRecDepth 100000 in
set_option maxHeartbeats 400000 in
theorem fit_any (w : World) : Calls Try.prog 9 #[] w fun e w' => e = .returned (.bool true) ∧ Below w.heap.size w w' := by
  go_enter Try.func9, Try.ntmps9
  go_wp2_with fail
  refine (put_any _ [] _ _ [300] _ (w.heap.size + 1) (by simp) (by simp) (by simp) (row_new w .u64 300 _) (Own.nil _ _) (by simp)).mono ?_
  rintro e w1 ⟨v, rfl, ho, hb⟩
  obtain ⟨A, c, hv, hlc, hcm, _, hr⟩ := ho.form
  have e1 : ([] ++ VM.encs [300] : List Nat) = [172, 2] := by simp [VM.encs, enc_300]
  rw [e1] at hv hlc hr
  rw [hv]
  have HR := Lib.hid hr; have HB := Lib.hid hb
  clear ho hr hb hv e1
  go_wp2_with fail
  refine (take_any A c [172, 2] _ _ (by simp [maxLen]) HR.out (by simp)).mono ?_
  rintro e w2 ⟨rfl, rfl⟩
  rw [take_300]
  go_wp2_with fail
  refine (zig_any (-7) _ (by omega) (by omega)).mono ?_
  rintro e w3 ⟨rfl, rfl⟩
  rw [show zig (-7) = 13 from by decide]
  go_wp2_with fail
  refine (zag_any 13 _ (by omega) (by omega)).mono ?_
  rintro e w4 ⟨rfl, rfl⟩
  rw [show zag 13 = -7 from by decide]
  go_wp2
  go_ret
  exact ⟨rfl, ((Below.refl _ _).alloc (Nat.le_refl _) _).trans (HB.out.mono (by omega))⟩
end Go.Proofs.Ytapabeahgciikaa
