/-
  Plain mathematics of layer 3 (json): the decimal digits that a text begins with, their number, a time's. No program, no walk.
-/
import Derived.Lib.AtoiAllCases
import Derived.Lib.ItoaNum
namespace Go.Proofs.YtciogdhapogolaaDoor.JM
open Go.Lib

def isD (b : UInt8) : Bool := decide (48 ≤ b.toNat ∧ b.toNat ≤ 57)
/-- How many decimal digits bytes begin with. -/
def nd (l : List UInt8) : Nat := (l.takeWhile isD).length
theorem isD_iff (b : UInt8) : isD b = true ↔ 48 ≤ b.toNat ∧ b.toNat ≤ 57 := by simp [isD]
theorem nd_cons (b : UInt8) (t : List UInt8) : nd (b :: t) = if isD b then nd t + 1 else 0 := by
  unfold nd
  by_cases h : isD b <;> simp [h]
theorem nd_nil : nd [] = 0 := rfl
theorem nd_le : ∀ l : List UInt8, nd l ≤ l.length
  | [] => by simp [nd_nil]
  | b :: t => by
    rw [nd_cons]
    have := nd_le t
    split <;> simp <;> omega
theorem nd_in : ∀ (l : List UInt8) (j : Nat), j < nd l → isD (l.getD j 0) = true
  | [], j, h => by simp [nd_nil] at h
  | b :: t, j, h => by
    rw [nd_cons] at h
    split at h
    · rename_i hb
      cases j with
      | zero => simpa using hb
      | succ j => simpa using nd_in t j (by omega)
    · omega
theorem nd_out : ∀ l : List UInt8, nd l < l.length → isD (l.getD (nd l) 0) = false
  | [], h => by simp at h
  | b :: t, h => by
    rw [nd_cons] at h ⊢
    by_cases hb : isD b = true
    · rw [if_pos hb] at h ⊢
      simpa using nd_out t (by simp at h; omega)
    · rw [if_neg hb]
      simpa using hb
theorem nd_eq {l : List UInt8} {k : Nat} (hk : k ≤ l.length) (h1 : ∀ j, j < k → isD (l.getD j 0) = true) (h2 : k < l.length → isD (l.getD k 0) = false) : nd l = k := by
  rcases Nat.lt_trichotomy (nd l) k with h | h | h
  · have := nd_out l (by omega)
    rw [h1 _ h] at this
    cases this
  · exact h
  · have := nd_in l k h
    rw [h2 (by have := nd_le l; omega)] at this
    cases this
theorem nd_take_all {l : List UInt8} : ∀ b ∈ l.take (nd l), isD b = true := by
  intro b hb
  obtain ⟨j, hj⟩ := List.getElem?_of_mem hb
  have hjl : j < nd l := by
    have := (List.getElem?_eq_some_iff.1 hj).1
    simp at this
    omega
  have := nd_in l j hjl
  rw [List.getElem?_take, if_pos hjl] at hj
  rwa [List.getD_eq_getElem?_getD, hj] at this

/-- The number of digits, behind one. -/
def dgt (acc : Nat) (b : UInt8) : Nat := acc * 10 + (b.toNat - 48)
def vl (acc : Nat) (l : List UInt8) : Nat := l.foldl dgt acc
theorem vl_cons (b : UInt8) (t : List UInt8) (acc : Nat) : vl acc (b :: t) = vl (acc * 10 + (b.toNat - 48)) t := by unfold vl; rw [List.foldl_cons]; rfl
theorem vl_nil (acc : Nat) : vl acc [] = acc := List.foldl_nil
theorem vl_ge (l : List UInt8) : ∀ acc : Nat, acc ≤ vl acc l := by
  induction l with
  | nil => intro acc; rw [vl_nil]; exact Nat.le_refl _
  | cons b t ih =>
    intro acc
    have := ih (acc * 10 + (b.toNat - 48))
    rw [vl_cons]
    omega
theorem vl_append (a b : List UInt8) : ∀ acc : Nat, vl acc (a ++ b) = vl (vl acc a) b := by
  induction a with
  | nil => intro acc; rw [vl_nil, List.nil_append]
  | cons x a ih => intro acc; rw [List.cons_append, vl_cons, vl_cons, ih]
theorem vl_snoc (a : List UInt8) (x : UInt8) (acc : Nat) : vl acc (a ++ [x]) = vl acc a * 10 + (x.toNat - 48) := by rw [vl_append, vl_cons, vl_nil]
theorem parse_digits (l : List UInt8) : ∀ acc : Nat, acc < 18446744073709551616 → (∀ b ∈ l, isD b = true) → parseUint10 acc l = if vl acc l < 18446744073709551616 then .ok (vl acc l) else .range := by
  induction l with
  | nil =>
    intro acc h _
    rw [vl_nil, if_pos h]
    rfl
  | cons b t ih =>
    intro acc h hd
    have hb := (isD_iff b).1 (hd b (by simp))
    rw [vl_cons]
    unfold parseUint10
    rw [if_pos hb]
    have hg := vl_ge t (acc * 10 + (b.toNat - 48))
    by_cases h1 : 1844674407370955162 ≤ acc
    · rw [if_pos h1, if_neg (by omega)]
    · rw [if_neg h1]
      by_cases h2 : 18446744073709551616 ≤ acc * 10 + (b.toNat - 48)
      · rw [if_pos h2, if_neg (by omega)]
      · rw [if_neg h2]
        exact ih _ (by omega) (fun x hx => hd x (by simp [hx]))
theorem atoi_digits (l : List UInt8) (hne : l ≠ []) (hd : ∀ b ∈ l, isD b = true) : atoiAll l = if vl 0 l < 9223372036854775808 then .ok (vl 0 l : Nat) else .range := by
  cases l with
  | nil => exact absurd rfl hne
  | cons b t =>
    have hb := (isD_iff b).1 (hd b (by simp))
    rw [atoiAll_plain b t (by omega) (by omega)]
    unfold parseMag
    rw [if_neg (by simp), parse_digits _ 0 (by omega) hd]
    by_cases h1 : vl 0 (b :: t) < 18446744073709551616
    · rw [if_pos h1]
      show (if 9223372036854775808 ≤ vl 0 (b :: t) then NumEnd.range else NumEnd.ok ((vl 0 (b :: t) : Nat) : Int)) = _
      by_cases h2 : vl 0 (b :: t) < 9223372036854775808
      · rw [if_neg (by omega), if_pos h2]
      · rw [if_pos (by omega), if_neg h2]
    · rw [if_neg h1, if_neg (by omega)]
      rfl

/-- The number that bytes begin with, and what is behind it. -/
def num (l : List UInt8) : Option (Nat × List UInt8) :=
  if nd l = 0 then none
  else if 1 < nd l ∧ l.getD 0 0 = 48 then none
  else if vl 0 (l.take (nd l)) < 9223372036854775808 then some (vl 0 (l.take (nd l)), l.drop (nd l)) else none

theorem num_lt {l : List UInt8} {n : Nat} {r : List UInt8} (h : num l = some (n, r)) : n < 9223372036854775808 := by
  unfold num at h
  split at h
  · cases h
  · split at h
    · cases h
    · split at h
      · cases h; assumption
      · cases h
end Go.Proofs.YtciogdhapogolaaDoor.JM
