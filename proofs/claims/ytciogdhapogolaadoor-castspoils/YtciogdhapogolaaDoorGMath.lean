/-
  Layer 7 (glyph): runes on a screen, by the chapter's words. No program.
-/
namespace Go.Proofs.YtciogdhapogolaaDoor.GM

/-- Is it from one up to another one? -/
def amo (r a b : Int) : Bool := decide (a ≤ r) && decide (r ≤ b)
/-- May it stand on a screen? -/
def right (r : Int) : Bool := decide (32 ≤ r) && decide (r ≤ 1114111) && !(r == 127) && !amo r 55296 57343
/-- The ranges of the wide ones, first and last by turns. -/
def wideT : List Int := [4352, 4447, 11904, 42191, 44032, 55203, 63744, 64255, 65072, 65135, 65280, 65376, 65504, 65510, 127744, 128591, 131072, 262141]
/-- Does it take two columns? -/
def wide (r : Int) : Bool := !(r == 12351) && (amo r 4352 4447 || amo r 11904 42191 || amo r 44032 55203 || amo r 63744 64255 || amo r 65072 65135 || amo r 65280 65376 || amo r 65504 65510 || amo r 127744 128591 || amo r 131072 262141)
/-- The signs, from 96 on. -/
def signT : List Int := [9670, 9618, 9225, 9228, 9229, 9226, 176, 177, 9252, 9227, 9496, 9488, 9484, 9492, 9532, 9146, 9147, 9472, 9148, 9149, 9500, 9508, 9524, 9516, 9474, 8804, 8805, 960, 8800, 163, 183]
/-- What a rune is in the set of lines and signs. -/
def drawn (r : Int) : Int := if 96 ≤ r ∧ r ≤ 126 then signT.getD (r - 96).toNat 0 else r
/-- A rune's columns. -/
def cols (r : Int) : Nat := if wide r = true then 2 else if right r = true then 1 else 0
/-- .. of many. -/
def colsL : List Int → Nat
  | [] => 0
  | r :: l => cols r + colsL l

theorem colsL_append (a b : List Int) : colsL (a ++ b) = colsL a + colsL b := by
  induction a with
  | nil => simp [colsL]
  | cons x a ih => simp [colsL, ih]; omega
theorem colsL_le (a : List Int) : colsL a ≤ 2 * a.length := by
  induction a with
  | nil => simp [colsL]
  | cons x a ih =>
    have : cols x ≤ 2 := by unfold cols; split <;> (try split) <;> omega
    simp [colsL]; omega
theorem amo_iff (r a b : Int) : amo r a b = true ↔ a ≤ r ∧ r ≤ b := by simp [amo]
theorem amo_not (r a b : Int) : amo r a b = false ↔ (r < a ∨ b < r) := by
  rcases h : amo r a b with _ | _
  · have : ¬ (a ≤ r ∧ r ≤ b) := by rw [← amo_iff, h]; simp
    simp; omega
  · have := (amo_iff r a b).1 h
    simp; omega
theorem right_iff (r : Int) : right r = true ↔ 32 ≤ r ∧ r ≤ 1114111 ∧ r ≠ 127 ∧ (r < 55296 ∨ 57343 < r) := by
  unfold right
  simp only [Bool.and_eq_true, Bool.not_eq_true', amo_not, decide_eq_true_eq, beq_eq_false_iff_ne, ne_eq]
  omega
theorem wide_iff (r : Int) : wide r = true ↔ r ≠ 12351 ∧ ((4352 ≤ r ∧ r ≤ 4447) ∨ (11904 ≤ r ∧ r ≤ 42191) ∨ (44032 ≤ r ∧ r ≤ 55203) ∨ (63744 ≤ r ∧ r ≤ 64255) ∨ (65072 ≤ r ∧ r ≤ 65135) ∨ (65280 ≤ r ∧ r ≤ 65376) ∨ (65504 ≤ r ∧ r ≤ 65510) ∨ (127744 ≤ r ∧ r ≤ 128591) ∨ (131072 ≤ r ∧ r ≤ 262141)) := by
  unfold wide
  simp only [Bool.and_eq_true, Bool.or_eq_true, Bool.not_eq_true', amo_iff, beq_eq_false_iff_ne, ne_eq]
  omega
/-- A wide rune may stand on a screen. -/
theorem wide_right (r : Int) (h : wide r = true) : right r = true := by
  rw [wide_iff] at h
  rw [right_iff]
  omega
/-- A rune's columns are what the two answers make together. -/
theorem cols_two (r : Int) : cols r = (if wide r = true then 1 else 0) + (if right r = true then 1 else 0) := by
  unfold cols
  by_cases h : wide r = true
  · rw [if_pos h, if_pos h, if_pos (wide_right r h)]
  · rw [if_neg h, if_neg h]; omega
/-- Unlike places hold unlike signs; each takes one column. -/
theorem sign_one : (signT.all fun z => cols z == 1) = true := by decide +kernel
theorem sign_apart : (List.range 31).all (fun i => (List.range 31).all fun j => (signT.getD i 0 == signT.getD j 0) == (i == j)) = true := by decide +kernel
theorem drawn_in (k : Nat) (h : k < 31) : drawn (96 + (k : Int)) = signT.getD k 0 := by
  unfold drawn
  rw [if_pos (by omega)]
  congr 1
  omega
theorem drawn_out (r : Int) (h : r < 96 ∨ 126 < r) : drawn r = r := by
  unfold drawn
  rw [if_neg (by omega)]
theorem sign_cols (k : Nat) (h : k < 31) : cols (signT.getD k 0) = 1 := by
  have := List.all_eq_true.1 sign_one (signT.getD k 0) (by have hk : k < signT.length := h; rw [List.getD, List.getElem?_eq_getElem hk]; exact List.getElem_mem _)
  simpa using this
theorem sign_eq (i j : Nat) (hi : i < 31) (hj : j < 31) : (signT.getD i 0 == signT.getD j 0) = (i == j) := by
  have h1 := List.all_eq_true.1 sign_apart i (by simp [hi])
  have h2 := List.all_eq_true.1 h1 j (by simp [hj])
  simpa using h2
end Go.Proofs.YtciogdhapogolaaDoor.GM
