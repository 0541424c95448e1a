/-
  GMath, VMath, KMath, VMem, KBase, KVal, KStyle, KChange, in one text.
-/
import Derived.Below
import Derived.Laws.OwnMore
import Derived.OpenShut
import Derived.Test.YtdolapobkhhanaaDoorRows
import Derived.Lib.Hide
import Derived.Laws.Unary
import Derived.BigQuiet
import Derived.Deep.QuietTactic
import Derived.Deep.MidRow
import Derived.Laws.StructEq
import Derived.Outline
/-
  Layer 7 (glyph): runes on a screen, by the chapter's words. No program.
-/
namespace Go.Proofs.YtdolapobkhhanaaDoor.GM

/-- Is it from one up to another one? -/
def amo (r a b : Int) : Bool := decide (a ≤ r) && decide (r ≤ b)
/-- May it stand on a screen? -/
def right (r : Int) : Bool := decide (32 ≤ r) && decide (r ≤ 1114111) && !(r == 127) && !amo r 55296 57343
/-- The ranges of the wide ones, first and last by turns. -/
def wideT : List Int := [4352, 4447, 11904, 42191, 44032, 55203, 63744, 64255, 65072, 65135, 65280, 65376, 65504, 65510, 127744, 128591, 131072, 262141]
/-- Does it take two columns? -/
def wide (r : Int) : Bool := !(r == 12351) && (amo r 4352 4447 || amo r 11904 42191 || amo r 44032 55203 || amo r 63744 64255 || amo r 65072 65135 || amo r 65280 65376 || amo r 65504 65510 || amo r 127744 128591 || amo r 131072 262141)
/-- The signs, from 96 on. -/
def signT : List Int := [9670, 9618, 9225, 9228, 9229, 9226, 176, 177, 9252, 9227, 9496, 9488, 9484, 9492, 9532, 9146, 9147, 9472, 9148, 9149, 9500, 9508, 9524, 9516, 9474, 8804, 8805, 960, 8800, 163, 183]
/-- What a rune is in the set of lines and signs. -/
def drawn (r : Int) : Int := if 96 ≤ r ∧ r ≤ 126 then signT.getD (r - 96).toNat 0 else r
/-- A rune's columns. -/
def cols (r : Int) : Nat := if wide r = true then 2 else if right r = true then 1 else 0
/-- .. of many. -/
def colsL : List Int → Nat
  | [] => 0
  | r :: l => cols r + colsL l

theorem colsL_append (a b : List Int) : colsL (a ++ b) = colsL a + colsL b := by
  induction a with
  | nil => simp [colsL]
  | cons x a ih => simp [colsL, ih]; omega
theorem colsL_le (a : List Int) : colsL a ≤ 2 * a.length := by
  induction a with
  | nil => simp [colsL]
  | cons x a ih =>
    have : cols x ≤ 2 := by unfold cols; split <;> (try split) <;> omega
    simp [colsL]; omega
theorem amo_iff (r a b : Int) : amo r a b = true ↔ a ≤ r ∧ r ≤ b := by simp [amo]
theorem amo_not (r a b : Int) : amo r a b = false ↔ (r < a ∨ b < r) := by
  rcases h : amo r a b with _ | _
  · have : ¬ (a ≤ r ∧ r ≤ b) := by rw [← amo_iff, h]; simp
    simp; omega
  · have := (amo_iff r a b).1 h
    simp; omega
theorem right_iff (r : Int) : right r = true ↔ 32 ≤ r ∧ r ≤ 1114111 ∧ r ≠ 127 ∧ (r < 55296 ∨ 57343 < r) := by
  unfold right
  simp only [Bool.and_eq_true, Bool.not_eq_true', amo_not, decide_eq_true_eq, beq_eq_false_iff_ne, ne_eq]
  omega
theorem wide_iff (r : Int) : wide r = true ↔ r ≠ 12351 ∧ ((4352 ≤ r ∧ r ≤ 4447) ∨ (11904 ≤ r ∧ r ≤ 42191) ∨ (44032 ≤ r ∧ r ≤ 55203) ∨ (63744 ≤ r ∧ r ≤ 64255) ∨ (65072 ≤ r ∧ r ≤ 65135) ∨ (65280 ≤ r ∧ r ≤ 65376) ∨ (65504 ≤ r ∧ r ≤ 65510) ∨ (127744 ≤ r ∧ r ≤ 128591) ∨ (131072 ≤ r ∧ r ≤ 262141)) := by
  unfold wide
  simp only [Bool.and_eq_true, Bool.or_eq_true, Bool.not_eq_true', amo_iff, beq_eq_false_iff_ne, ne_eq]
  omega
/-- A wide rune may stand on a screen. -/
theorem wide_right (r : Int) (h : wide r = true) : right r = true := by
  rw [wide_iff] at h
  rw [right_iff]
  omega
/-- A rune's columns are what the two answers make together. -/
theorem cols_two (r : Int) : cols r = (if wide r = true then 1 else 0) + (if right r = true then 1 else 0) := by
  unfold cols
  by_cases h : wide r = true
  · rw [if_pos h, if_pos h, if_pos (wide_right r h)]
  · rw [if_neg h, if_neg h]; omega
/-- Unlike places hold unlike signs; each takes one column. -/
theorem sign_one : (signT.all fun z => cols z == 1) = true := by decide +kernel
theorem sign_apart : (List.range 31).all (fun i => (List.range 31).all fun j => (signT.getD i 0 == signT.getD j 0) == (i == j)) = true := by decide +kernel
theorem drawn_in (k : Nat) (h : k < 31) : drawn (96 + (k : Int)) = signT.getD k 0 := by
  unfold drawn
  rw [if_pos (by omega)]
  congr 1
  omega
theorem drawn_out (r : Int) (h : r < 96 ∨ 126 < r) : drawn r = r := by
  unfold drawn
  rw [if_neg (by omega)]
theorem sign_cols (k : Nat) (h : k < 31) : cols (signT.getD k 0) = 1 := by
  have := List.all_eq_true.1 sign_one (signT.getD k 0) (by have hk : k < signT.length := h; rw [List.getD, List.getElem?_eq_getElem hk]; exact List.getElem_mem _)
  simpa using this
theorem sign_eq (i j : Nat) (hi : i < 31) (hj : j < 31) : (signT.getD i 0 == signT.getD j 0) = (i == j) := by
  have h1 := List.all_eq_true.1 sign_apart i (by simp [hi])
  have h2 := List.all_eq_true.1 h1 j (by simp [hj])
  simpa using h2
end Go.Proofs.YtdolapobkhhanaaDoor.GM
/-
  Plain mathematics of layer 1 (vary): the bytes of a number, and the number that bytes begin with. No program, no walk.
-/
namespace Go.Proofs.YtdolapobkhhanaaDoor.VM

/-- A number's bytes: pieces of seven bits, the lowest first, 128 added to each but the last. -/
def enc (n : Nat) : List Nat := if h : n < 128 then [n] else (n % 128 + 128) :: enc (n / 128)
  termination_by n
  decreasing_by omega

theorem enc_lt {n : Nat} (h : n < 128) : enc n = [n] := by rw [enc]; simp [h]
theorem enc_ge {n : Nat} (h : 128 ≤ n) : enc n = (n % 128 + 128) :: enc (n / 128) := by rw [enc]; simp [show ¬ n < 128 by omega]

theorem enc_pos (n : Nat) : 0 < (enc n).length := by
  by_cases h : n < 128
  · simp [enc_lt h]
  · simp [enc_ge (show 128 ≤ n by omega)]

theorem enc_byte (n : Nat) : ∀ c ∈ enc n, c < 256 := by
  induction n using Nat.strongRecOn with
  | ind n ih =>
    by_cases h : n < 128
    · simp [enc_lt h]; omega
    · rw [enc_ge (by omega)]
      intro c hc
      rcases List.mem_cons.1 hc with rfl | hc
      · omega
      · exact ih (n / 128) (by omega) c hc

theorem enc_len (f n : Nat) (h : n < 2 ^ (7 * f)) (hf : 0 < f) : (enc n).length ≤ f := by
  induction f generalizing n with
  | zero => omega
  | succ f ih =>
    by_cases hn : n < 128
    · simp [enc_lt hn]
    · rw [enc_ge (by omega), List.length_cons]
      rcases Nat.eq_zero_or_pos f with rfl | hf'
      · simp at h; omega
      · have := ih (n / 128) (by rw [show 7 * (f + 1) = 7 * f + 7 from by omega, Nat.pow_add] at h; omega) hf'
        omega

theorem enc_len64 {n : Nat} (h : n < 18446744073709551616) : (enc n).length ≤ 10 :=
  enc_len 10 n (Nat.lt_of_lt_of_le h (by decide)) (by decide)

/-- What Take does from place i on, X gathered so far. -/
def dec : Nat → Nat → List Nat → Nat × Nat
  | _, _, [] => (0, 0)
  | i, X, c :: t =>
    if i = 9 ∧ 1 < c then (0, 0)
    else if 128 ≤ c then dec (i + 1) (X + c % 128 * 2 ^ (7 * i)) t
    else if c = 0 ∧ 0 < i then (0, 0)
    else (X + c % 128 * 2 ^ (7 * i), i + 1)

def take (l : List Nat) : Nat × Nat := dec 0 0 l

theorem pow7 (i : Nat) : 2 ^ (7 * (i + 1)) = 128 * 2 ^ (7 * i) := by
  rw [show 7 * (i + 1) = 7 * i + 7 from by omega, Nat.pow_add, Nat.mul_comm]

theorem dec_enc (m : Nat) (i X : Nat) (rest : List Nat) (hi : i ≤ 9) (hm : m * 2 ^ (7 * i) < 18446744073709551616) (h0 : 0 < i → 0 < m) :
    dec i X (enc m ++ rest) = (X + m * 2 ^ (7 * i), i + (enc m).length) := by
  induction m using Nat.strongRecOn generalizing i X with
  | ind m ih =>
    by_cases h : m < 128
    · rw [enc_lt h]
      simp only [List.cons_append, List.nil_append, dec]
      have h9 : ¬ (i = 9 ∧ 1 < m) := by
        rintro ⟨rfl, h1⟩
        have : (2 : Nat) ^ (7 * 9) = 9223372036854775808 := by decide
        rw [this] at hm
        omega
      have hz : ¬ (m = 0 ∧ 0 < i) := by
        rintro ⟨rfl, h1⟩
        have := h0 h1
        omega
      rw [if_neg h9, if_neg (by omega), if_neg hz, Nat.mod_eq_of_lt h]
      simp
    · have h9 : i ≠ 9 := by
        rintro rfl
        have : (2 : Nat) ^ (7 * 9) = 9223372036854775808 := by decide
        rw [this] at hm
        omega
      rw [enc_ge (by omega)]
      simp only [List.cons_append, dec]
      rw [if_neg (by simp [h9]), if_pos (by omega)]
      have hdm : m / 128 * (128 * 2 ^ (7 * i)) + m % 128 * 2 ^ (7 * i) = m * 2 ^ (7 * i) := by
        rw [← Nat.mul_assoc, ← Nat.add_mul, Nat.div_add_mod']
      rw [ih (m / 128) (by omega) (i + 1) _ (by omega) (by rw [pow7]; omega) (by omega), pow7]
      rw [show (m % 128 + 128) % 128 = m % 128 from by omega]
      refine Prod.ext ?_ ?_
      · simp only; omega
      · simp only [List.length_cons]; omega

theorem take_enc (m : Nat) (rest : List Nat) (hm : m < 18446744073709551616) : take (enc m ++ rest) = (m, (enc m).length) := by
  unfold take
  rw [dec_enc m 0 0 rest (by omega) (by simpa using hm) (by omega)]
  simp

theorem dec_any (l : List Nat) (i X : Nat) (hi : i ≤ 9) (hl : ∀ c ∈ l, c < 256) (hk : (dec i X l).2 ≠ 0) :
    ∃ m rest, l = enc m ++ rest ∧ m * 2 ^ (7 * i) < 18446744073709551616 ∧ (0 < i → 0 < m) ∧ dec i X l = (X + m * 2 ^ (7 * i), i + (enc m).length) := by
  induction l generalizing i X with
  | nil => simp [dec] at hk
  | cons c t ih =>
    simp only [dec] at hk ⊢
    by_cases h9 : i = 9 ∧ 1 < c
    · rw [if_pos h9] at hk; simp at hk
    rw [if_neg h9] at hk ⊢
    have hc : c < 256 := hl c (by simp)
    by_cases h128 : 128 ≤ c
    · rw [if_pos h128] at hk ⊢
      have hi9 : i ≠ 9 := fun e => h9 ⟨e, by omega⟩
      obtain ⟨m, rest, h1, h2, h3, h4⟩ := ih (i + 1) (X + c % 128 * 2 ^ (7 * i)) (by omega) (fun c hc => hl c (by simp [hc])) hk
      have hm : 0 < m := h3 (by omega)
      have e : enc (m * 128 + c % 128) = c :: enc m := by
        rw [enc_ge (by omega)]
        rw [show (m * 128 + c % 128) % 128 = c % 128 from by omega, show (m * 128 + c % 128) / 128 = m from by omega]
        rw [show c % 128 + 128 = c from by omega]
      have hr : (m * 128 + c % 128) * 2 ^ (7 * i) = m * (128 * 2 ^ (7 * i)) + c % 128 * 2 ^ (7 * i) := by
        rw [Nat.add_mul, Nat.mul_assoc]
      rw [pow7] at h2 h4
      refine ⟨m * 128 + c % 128, rest, by rw [e, h1]; rfl, ?_, by omega, ?_⟩
      · -- m * 2 ^ (7 (i+1)) < 2^64 and the power divides 2^64 where i < 9
        have hp : ∃ q, 18446744073709551616 = q * (128 * 2 ^ (7 * i)) := by
          refine ⟨2 ^ (64 - 7 * (i + 1)), ?_⟩
          rw [← pow7, ← Nat.pow_add]
          rw [show 64 - 7 * (i + 1) + 7 * (i + 1) = 64 from by omega]
        obtain ⟨q, hq⟩ := hp
        rw [hq] at h2 ⊢
        have hmq : m < q := Nat.lt_of_mul_lt_mul_right h2
        have : (m + 1) * (128 * 2 ^ (7 * i)) ≤ q * (128 * 2 ^ (7 * i)) := Nat.mul_le_mul_right _ hmq
        have h7 : c % 128 * 2 ^ (7 * i) < 128 * 2 ^ (7 * i) := Nat.mul_lt_mul_of_pos_right (by omega) (Nat.pow_pos (by omega))
        rw [hr]
        rw [Nat.add_mul, Nat.one_mul] at this
        omega
      · rw [h4, e, hr]
        refine Prod.ext ?_ ?_
        · simp only; omega
        · simp only [List.length_cons]; omega
    · rw [if_neg h128] at hk ⊢
      by_cases hz : c = 0 ∧ 0 < i
      · rw [if_pos hz] at hk; simp at hk
      rw [if_neg hz]
      refine ⟨c, t, by rw [enc_lt (by omega)]; rfl, ?_, fun h => Nat.pos_of_ne_zero fun e => hz ⟨e, h⟩, by rw [enc_lt (by omega), Nat.mod_eq_of_lt (by omega)]; rfl⟩
      by_cases hi9 : i = 9
      · subst hi9
        have hc1 : c ≤ 1 := Nat.le_of_not_lt fun h => h9 ⟨rfl, h⟩
        have : (2 : Nat) ^ (7 * 9) = 9223372036854775808 := by decide
        rw [this]; omega
      · have h1 : 2 ^ (7 * i) ≤ 2 ^ 56 := Nat.pow_le_pow_right (by omega) (by omega)
        have h2 : c * 2 ^ (7 * i) ≤ 128 * 2 ^ 56 := Nat.mul_le_mul (by omega) h1
        have : (128 : Nat) * 2 ^ 56 = 9223372036854775808 := by decide
        omega

theorem take_any (l : List Nat) (hl : ∀ c ∈ l, c < 256) (hk : (take l).2 ≠ 0) :
    ∃ rest, l = enc (take l).1 ++ rest ∧ (take l).1 < 18446744073709551616 ∧ (take l).2 = (enc (take l).1).length := by
  obtain ⟨m, rest, h1, h2, _, h4⟩ := dec_any l 0 0 (by omega) hl hk
  have e : take l = (m, (enc m).length) := by unfold take; rw [h4]; simp
  rw [e]
  exact ⟨rest, h1, by simpa using h2, rfl⟩

theorem dec_zero (l : List Nat) (i X : Nat) (hk : (dec i X l).2 = 0) : (dec i X l).1 = 0 := by
  induction l generalizing i X with
  | nil => simp [dec]
  | cons c t ih =>
    simp only [dec] at hk ⊢
    split at hk
    · simp [*]
    · rename_i h9
      rw [if_neg h9]
      split at hk
      · rename_i h; rw [if_pos h]; exact ih _ _ hk
      · rename_i h; rw [if_neg h]
        split at hk
        · rename_i h'; rw [if_pos h']
        · simp at hk

theorem take_zero (l : List Nat) (hk : (take l).2 = 0) : (take l).1 = 0 := dec_zero l 0 0 hk
theorem take_nil : take [] = (0, 0) := rfl

theorem take_lt (l : List Nat) (hl : ∀ c ∈ l, c < 256) : (take l).1 < 18446744073709551616 ∧ (take l).2 ≤ l.length := by
  by_cases hk : (take l).2 = 0
  · rw [take_zero l hk, hk]; exact ⟨by decide, Nat.zero_le _⟩
  · obtain ⟨rest, h1, h2, h3⟩ := take_any l hl hk
    refine ⟨h2, ?_⟩
    rw [h3]
    have := congrArg List.length h1
    rw [List.length_append] at this
    omega

/-- The bytes of a list of numbers. -/
def encs (l : List Nat) : List Nat := l.flatMap enc

theorem encs_nil : encs [] = [] := rfl
theorem encs_cons (n : Nat) (l : List Nat) : encs (n :: l) = enc n ++ encs l := by simp [encs]
theorem encs_one (n : Nat) : encs [n] = enc n := by simp [encs]
theorem encs_append (l m : List Nat) : encs (l ++ m) = encs l ++ encs m := by simp [encs]
theorem encs_byte (l : List Nat) : ∀ c ∈ encs l, c < 256 := by
  intro c hc
  simp only [encs, List.mem_flatMap] at hc
  obtain ⟨n, _, hc⟩ := hc
  exact enc_byte n c hc
theorem encs_len (l : List Nat) (h : ∀ n ∈ l, n < 18446744073709551616) : (encs l).length ≤ 10 * l.length := by
  induction l with
  | nil => simp [encs_nil]
  | cons n l ih =>
    rw [encs_cons, List.length_append, List.length_cons]
    have := enc_len64 (h n (by simp))
    have := ih fun m hm => h m (by simp [hm])
    omega

theorem encs_begins (l m : List Nat) (hl : ∀ n ∈ l, n < 18446744073709551616) (hm : ∀ n ∈ m, n < 18446744073709551616) : encs l <+: encs m ↔ l <+: m := by
  induction l generalizing m with
  | nil => simp [encs_nil]
  | cons n l ih =>
    cases m with
    | nil =>
      constructor
      · intro h
        have := h.length_le
        rw [encs_cons, List.length_append, encs_nil] at this
        have h2 := enc_pos n
        rw [List.length_nil] at this
        omega
      · intro h; simp at h
    | cons k m =>
      rw [encs_cons, encs_cons]
      have hn := hl n (by simp)
      have hk := hm k (by simp)
      constructor
      · rintro ⟨t, ht⟩
        have h1 := take_enc n (encs l ++ t) hn
        rw [← List.append_assoc, ht, take_enc k _ hk] at h1
        have e : k = n := by have := congrArg Prod.fst h1; exact this
        subst e
        rw [List.append_assoc] at ht
        have ht := List.append_cancel_left ht
        have := (ih m (fun x hx => hl x (by simp [hx])) (fun x hx => hm x (by simp [hx]))).1 ⟨t, ht⟩
        exact List.cons_prefix_cons.2 ⟨rfl, this⟩
      · intro h
        obtain ⟨rfl, h'⟩ := List.cons_prefix_cons.1 h
        obtain ⟨t, ht⟩ := (ih m (fun x hx => hl x (by simp [hx])) (fun x hx => hm x (by simp [hx]))).2 h'
        exact ⟨t, by rw [List.append_assoc, ht]⟩

/-- What the loop of VaryApart knows at place k. -/
def beg (l m : List Nat) (k : Nat) : Bool := decide (l.length ≤ m.length ∧ l.take k = m.take k)
theorem beg_zero (l m : List Nat) : beg l m 0 = decide (l.length ≤ m.length) := by simp [beg]
theorem beg_step {l m : List Nat} {k : Nat} (hk : k < l.length) (h : beg l m k = true) : k < m.length ∧ beg l m (k + 1) = ((l.getD k 0 : Nat) == m.getD k 0) := by
  have h := of_decide_eq_true h
  have hm : k < m.length := by omega
  refine ⟨hm, ?_⟩
  have e : (l.take k ++ [l[k]] = m.take k ++ [m[k]]) ↔ l[k] = m[k] := by
    rw [h.2]; simp only [List.append_cancel_left_eq, List.cons.injEq, and_true]
  unfold beg
  rw [List.take_succ_eq_append_getElem hk, List.take_succ_eq_append_getElem hm, Bool.eq_iff_iff, decide_eq_true_eq, e]
  simp [h.1, hk, hm]
theorem beg_end {l m : List Nat} (h : beg l m l.length = true) : l <+: m := by
  have h := (of_decide_eq_true h).2
  rw [List.take_length] at h
  rw [h]; exact List.take_prefix _ _
theorem beg_no {l m : List Nat} {k : Nat} (hk : k ≤ l.length) (h : beg l m k = false) : ¬ l <+: m := by
  rintro ⟨t, rfl⟩
  have h := of_decide_eq_false h
  exact h ⟨by simp, by rw [List.take_append_of_le_length hk]⟩
theorem begins_take {l m : List Nat} (h : l <+: m) : l.length ≤ m.length ∧ m.take l.length = l := by
  obtain ⟨t, rfl⟩ := h
  exact ⟨by simp, by simp⟩
theorem take_begins {l m : List Nat} (h : m.take l.length = l) : l <+: m := by
  rw [← h]; exact List.take_prefix _ _
end Go.Proofs.YtdolapobkhhanaaDoor.VM
/-
  Layer 8 (cell): styles, cells and lines, by the chapter's words. No program.
-/
namespace Go.Proofs.YtdolapobkhhanaaDoor.KM

/-- A style. -/
structure Sty where
  bold : Bool
  under : Bool
  turned : Bool
  fore : Int
  back : Int
  deriving DecidableEq
/-- A cell. -/
structure Cel where
  rune : Int
  sty : Sty
  deriving DecidableEq

/-- A colour. -/
def colour (n : Int) : Bool := decide (0 ≤ n) && decide (n ≤ 8)
theorem colour_iff (n : Int) : colour n = true ↔ 0 ≤ n ∧ n ≤ 8 := by simp [colour]
/-- The zero style. -/
def zero : Sty := ⟨false, false, false, 0, 0⟩
/-- Is a style right? -/
def sright (s : Sty) : Bool := colour s.fore && colour s.back
theorem sright_iff (s : Sty) : sright s = true ↔ (0 ≤ s.fore ∧ s.fore ≤ 8) ∧ (0 ≤ s.back ∧ s.back ≤ 8) := by simp [sright, colour]
/-- A style behind one parameter. -/
def chg (s : Sty) (p : Int) : Sty :=
  if p = 0 then zero
  else if p = 1 then { s with bold := true } else if p = 22 then { s with bold := false }
  else if p = 4 then { s with under := true } else if p = 24 then { s with under := false }
  else if p = 7 then { s with turned := true } else if p = 27 then { s with turned := false }
  else if 30 ≤ p ∧ p ≤ 37 then { s with fore := p - 29 } else if p = 39 then { s with fore := 0 }
  else if 40 ≤ p ∧ p ≤ 47 then { s with back := p - 39 } else if p = 49 then { s with back := 0 }
  else s
/-- .. behind many. -/
def chgL (s : Sty) (l : List Int) : Sty := l.foldl chg s
/-- .. behind those that Change is handed. -/
def chgA (s : Sty) (l : List Int) : Sty := if l = [] then zero else chgL s l
/-- A style's parameters. -/
def params (s : Sty) : List Int :=
  [0] ++ (if s.bold then [1] else []) ++ (if s.under then [4] else []) ++ (if s.turned then [7] else []) ++ (if s.fore ≠ 0 then [29 + s.fore] else []) ++ (if s.back ≠ 0 then [39 + s.back] else [])

theorem chgL_append (s : Sty) (a b : List Int) : chgL s (a ++ b) = chgL (chgL s a) b := by simp [chgL]
theorem chgL_nil (s : Sty) : chgL s [] = s := rfl
theorem chgL_one (s : Sty) (p : Int) : chgL s [p] = chg s p := rfl
theorem chg_right (s : Sty) (p : Int) (h : sright s = true) : sright (chg s p) = true := by
  rw [sright_iff] at h ⊢
  unfold chg
  have z : zero.fore = 0 ∧ zero.back = 0 := ⟨rfl, rfl⟩
  repeat' split
  all_goals (try simp only)
  all_goals omega
theorem chg_fore (s : Sty) (n : Int) (h : 1 ≤ n ∧ n ≤ 8) : chg s (29 + n) = { s with fore := n } := by
  unfold chg
  rw [if_neg (by omega), if_neg (by omega), if_neg (by omega), if_neg (by omega), if_neg (by omega), if_neg (by omega), if_neg (by omega), if_pos (by omega)]
  congr 1
  omega
theorem chg_back (s : Sty) (n : Int) (h : 1 ≤ n ∧ n ≤ 8) : chg s (39 + n) = { s with back := n } := by
  unfold chg
  rw [if_neg (by omega), if_neg (by omega), if_neg (by omega), if_neg (by omega), if_neg (by omega), if_neg (by omega), if_neg (by omega), if_neg (by omega), if_neg (by omega), if_pos (by omega)]
  congr 1
  omega
/-- Each style is made of any one by its own parameters. -/
theorem chg_params (a s : Sty) (h : sright s = true) : chgL a (params s) = s := by
  rw [sright_iff] at h
  obtain ⟨b, u, t, f, k⟩ := s
  simp only at h
  unfold params
  simp only [chgL_append]
  rw [show chgL a [0] = zero from rfl]
  have h1 : chgL zero (if b = true then [1] else []) = ⟨b, false, false, 0, 0⟩ := by cases b <;> rfl
  have h2 : chgL ⟨b, false, false, 0, 0⟩ (if u = true then [4] else []) = ⟨b, u, false, 0, 0⟩ := by cases u <;> rfl
  have h3 : chgL ⟨b, u, false, 0, 0⟩ (if t = true then [7] else []) = ⟨b, u, t, 0, 0⟩ := by cases t <;> rfl
  have h4 : chgL ⟨b, u, t, 0, 0⟩ (if f ≠ 0 then [29 + f] else []) = ⟨b, u, t, f, 0⟩ := by
    by_cases e : f = 0
    · rw [if_neg (by simpa using e), e]; rfl
    · rw [if_pos e, chgL_one, chg_fore _ _ (by omega)]
  have h5 : chgL ⟨b, u, t, f, 0⟩ (if k ≠ 0 then [39 + k] else []) = ⟨b, u, t, f, k⟩ := by
    by_cases e : k = 0
    · rw [if_neg (by simpa using e), e]; rfl
    · rw [if_pos e, chgL_one, chg_back _ _ (by omega)]
  rw [h1, h2, h3, h4, h5]
theorem params_ne (s : Sty) : params s ≠ [] := by simp [params]
theorem params_len (s : Sty) : (params s).length ≤ 6 := by
  unfold params
  simp only [List.length_append]
  repeat' split
  all_goals simp

/-- A style's number. -/
def snum (s : Sty) : Nat := s.fore.toNat + 16 * s.back.toNat + (if s.bold then 256 else 0) + (if s.under then 512 else 0) + (if s.turned then 1024 else 0)
/-- The style of a number. -/
def styOf (n : Nat) : Sty := ⟨n / 256 % 2 == 1, n / 512 % 2 == 1, n / 1024 % 2 == 1, ((n % 16 : Nat) : Int), ((n % 256 / 16 : Nat) : Int)⟩
theorem snum_lt (s : Sty) (h : sright s = true) : snum s < 2048 := by
  rw [sright_iff] at h
  unfold snum
  repeat' split
  all_goals omega
theorem styOf_snum (s : Sty) (h : sright s = true) : styOf (snum s) = s := by
  rw [sright_iff] at h
  obtain ⟨b, u, t, f, k⟩ := s
  simp only at h
  obtain ⟨f, rfl⟩ := Int.eq_ofNat_of_zero_le h.1.1
  obtain ⟨k, rfl⟩ := Int.eq_ofNat_of_zero_le h.2.1
  simp only [snum, styOf, Int.toNat_natCast]
  cases b <;> cases u <;> cases t <;> simp only [Bool.false_eq_true, if_true, if_false, Sty.mk.injEq, beq_eq_false_iff_ne, beq_iff_eq] <;> omega
theorem snum_styOf (n : Nat) (h : n < 2048) : snum (styOf n) = n := by
  simp only [snum, styOf, Int.toNat_natCast, beq_iff_eq]
  have h1 : n / 256 % 2 < 2 := Nat.mod_lt _ (by omega)
  have h2 : n / 512 % 2 < 2 := Nat.mod_lt _ (by omega)
  have h3 : n / 1024 % 2 < 2 := Nat.mod_lt _ (by omega)
  split <;> split <;> split <;> omega

/-- Are they the two halves of one wide rune? -/
def halves (a b : Cel) : Bool := GM.wide a.rune && decide (b = ⟨0, a.sty⟩)
/-- Is a cell, between its neighbours, a half of a wide rune without the other half? -/
def aloneN (p : Option Cel) (c : Cel) (n : Option Cel) : Bool :=
  if c.rune = 0 then !(p.any fun a => halves a c) else if GM.wide c.rune = true then !(n.any fun b => halves c b) else false
/-- A cell with a rune that is right. -/
def cright (c : Cel) : Bool := GM.right c.rune && sright c.sty
/-- What is asked of one cell of a whole line. -/
def okN (p : Option Cel) (c : Cel) (n : Option Cel) : Bool := !aloneN p c n && (decide (c.rune = 0) || cright c)
/-- Is a line whole, behind a cell (or none)? -/
def wholeP : Option Cel → List Cel → Bool
  | _, [] => true
  | p, c :: r => okN p c r.head? && wholeP (some c) r
def whole (l : List Cel) : Bool := wholeP none l
/-- A blank in a cell's place. -/
def blank (c : Cel) : Cel := ⟨32, c.sty⟩
def fixN (p : Option Cel) (c : Cel) (n : Option Cel) : Cel := if aloneN p c n = true then blank c else c
/-- A line mended, behind a cell (or none). -/
def mendP : Option Cel → List Cel → List Cel
  | _, [] => []
  | p, c :: r => fixN p c r.head? :: mendP (some c) r
def mend (l : List Cel) : List Cel := mendP none l
/-- The reference's: from the left. -/
def rmend : List Cel → List Cel
  | [] => []
  | [c] => [if GM.wide c.rune = true ∨ c.rune = 0 then blank c else c]
  | c :: d :: r => if GM.wide c.rune = true ∧ d.rune = 0 ∧ d.sty = c.sty then c :: d :: rmend r else (if GM.wide c.rune = true ∨ c.rune = 0 then blank c else c) :: rmend (d :: r)

theorem wide0 : GM.wide 0 = false := by decide
theorem wide32 : GM.wide 32 = false := by decide
theorem right32 : GM.right 32 = true := by decide
theorem halves_iff (a b : Cel) : halves a b = true ↔ GM.wide a.rune = true ∧ b.rune = 0 ∧ b.sty = a.sty := by
  obtain ⟨r, s⟩ := b
  simp [halves]
theorem halves_rest (a b : Cel) (h : a.rune = 0) : halves a b = false := by unfold halves; rw [h, wide0]; rfl
theorem wide_ne (c : Cel) (h : GM.wide c.rune = true) : c.rune ≠ 0 := by intro e; rw [e, wide0] at h; cases h

theorem mendP_len (p : Option Cel) (l : List Cel) : (mendP p l).length = l.length := by
  induction l generalizing p with
  | nil => rfl
  | cons c r ih => simp [mendP, ih]
theorem mend_len (l : List Cel) : (mend l).length = l.length := mendP_len _ _
/-- From the left, or by the neighbours: the same, where the cell ahead is no first half of the first one. -/
theorem rmend_eq (l : List Cel) (p : Option Cel) (h : ∀ a ∈ p, ∀ b ∈ l.head?, halves a b = false) : rmend l = mendP p l := by
  induction l using rmend.induct generalizing p with
  | case1 => rfl
  | case2 c =>
    have hp : p.any (fun a => halves a c) = false := by
      cases p with
      | none => rfl
      | some a => simpa using h a (by simp) c (by simp)
    simp only [rmend, mendP, fixN, aloneN, hp, List.head?_nil, Option.any_none, Bool.not_false]
    by_cases h0 : c.rune = 0
    · simp [h0]
    · by_cases hw : GM.wide c.rune = true
      · simp [h0, hw]
      · simp [h0, hw]
  | case3 c d r hc ih =>
    have hcd : halves c d = true := (halves_iff c d).2 hc
    have h0 := wide_ne c hc.1
    have hd := halves_rest d
    rw [rmend, if_pos hc, ih (some d) (by intro a ha b _; simp at ha; subst ha; exact hd b hc.2.1)]
    have e1 : fixN p c (some d) = c := by simp [fixN, aloneN, h0, hc.1, hcd]
    have e2 : fixN (some c) d r.head? = d := by simp [fixN, aloneN, hc.2.1, hcd]
    simp only [mendP, List.head?_cons, e1, e2]
  | case4 c d r hc ih =>
    have hcd : halves c d = false := by rw [← Bool.not_eq_true, halves_iff]; exact hc
    have hp : p.any (fun a => halves a c) = false := by
      cases p with
      | none => rfl
      | some a => simpa using h a (by simp) c (by simp)
    rw [rmend, if_neg hc, ih (some c) (by intro a ha b hb; simp at ha hb; subst ha hb; exact hcd)]
    have e1 : fixN p c (some d) = if GM.wide c.rune = true ∨ c.rune = 0 then blank c else c := by
      unfold fixN aloneN
      rw [hp]
      simp only [Option.any_some, hcd, Bool.not_false]
      by_cases h0 : c.rune = 0
      · simp [h0]
      · by_cases hw : GM.wide c.rune = true
        · simp [h0, hw]
        · simp [h0, hw]
    show _ = fixN p c (some d) :: mendP (some c) (d :: r)
    rw [e1]
theorem rmend_mend (l : List Cel) : rmend l = mend l := rmend_eq l none (by simp)

/-- A cell that the laws hand in: right, or a rest with a right style. -/
def tame (c : Cel) : Prop := sright c.sty = true ∧ (c.rune = 0 ∨ GM.right c.rune = true)
theorem blank_tame (c : Cel) (h : tame c) : tame (blank c) := ⟨h.1, .inr right32⟩
theorem fix_tame (p : Option Cel) (c : Cel) (n : Option Cel) (h : tame c) : tame (fixN p c n) := by
  unfold fixN; split
  · exact blank_tame c h
  · exact h
theorem mendP_tame (p : Option Cel) (l : List Cel) (h : ∀ c ∈ l, tame c) : ∀ c ∈ mendP p l, tame c := by
  induction l generalizing p with
  | nil => simp [mendP]
  | cons c r ih =>
    intro x hx
    rcases List.mem_cons.1 hx with rfl | hx
    · exact fix_tame _ _ _ (h c (by simp))
    · exact ih (some c) (fun y hy => h y (by simp [hy])) x hx
theorem okN_tame (p : Option Cel) (c : Cel) (n : Option Cel) (h : tame c) : okN p c n = !aloneN p c n := by
  unfold okN cright
  rw [h.1]
  rcases h.2 with e | e
  · simp [e]
  · simp [e]
theorem whole_mends (p : Option Cel) (l : List Cel) (h : ∀ c ∈ l, tame c) : wholeP p l = true ↔ mendP p l = l := by
  induction l generalizing p with
  | nil => simp [wholeP, mendP]
  | cons c r ih =>
    have hi := ih (some c) (fun y hy => h y (by simp [hy]))
    rw [wholeP, mendP, okN_tame _ _ _ (h c (by simp)), List.cons.injEq, Bool.and_eq_true, hi]
    have : (!aloneN p c r.head?) = true ↔ fixN p c r.head? = c := by
      unfold fixN
      rcases ha : aloneN p c r.head? with _ | _
      · simp
      · have hne : c.rune ≠ 32 := by
          intro e
          unfold aloneN at ha
          rw [e, wide32] at ha
          simp at ha
        simp only [Bool.not_true, Bool.false_eq_true, if_true, false_iff]
        intro e
        exact hne (by rw [← e]; rfl)
    rw [this]
/-- The neighbours that a cell has behind mending make it alone no more. -/
theorem mended_whole (p q : Option Cel) (l : List Cel) (h : ∀ c ∈ l, tame c) (hq : ∀ a b, p = some a → l.head? = some b → (halves a b = true → q = some a)) : wholeP q (mendP p l) = true := by
  induction l generalizing p q with
  | nil => rfl
  | cons c r ih =>
    rw [mendP, wholeP, okN_tame _ _ _ (fix_tame _ _ _ (h c (by simp))), Bool.and_eq_true]
    constructor
    · rw [Bool.not_eq_true']
      rcases ha : aloneN p c r.head? with _ | _
      · have e : fixN p c r.head? = c := by unfold fixN; rw [ha]; simp
        rw [e]
        unfold aloneN at ha ⊢
        by_cases h0 : c.rune = 0
        · rw [if_pos h0] at ha ⊢
          cases p with
          | none => simp at ha
          | some a =>
            simp only [Option.any_some, Bool.not_eq_false'] at ha
            rw [hq a c rfl rfl ha]
            simp [ha]
        · rw [if_neg h0] at ha ⊢
          by_cases hw : GM.wide c.rune = true
          · rw [if_pos hw] at ha ⊢
            cases r with
            | nil => simp at ha
            | cons d r =>
              simp only [List.head?_cons, Option.any_some, Bool.not_eq_false'] at ha
              have hd := (halves_iff c d).1 ha
              have : fixN (some c) d r.head? = d := by simp [fixN, aloneN, hd.2.1, ha]
              simp [mendP, this, ha]
          · rw [if_neg hw]
      · have e : fixN p c r.head? = blank c := by unfold fixN; rw [ha]; simp
        rw [e]
        simp [aloneN, blank, wide32]
    · refine ih (some c) _ (fun y hy => h y (by simp [hy])) (fun a b ea eb hh => ?_)
      simp only [Option.some.injEq] at ea
      subst ea
      have h0 := (halves_iff c b).1 hh
      have hn := wide_ne c h0.1
      have : aloneN p c r.head? = false := by unfold aloneN; rw [if_neg hn, if_pos h0.1, eb]; simp [hh]
      unfold fixN; rw [this]; simp
theorem mend_whole (l : List Cel) (h : ∀ c ∈ l, tame c) : whole (mend l) = true := mended_whole none none l h (by simp)
theorem mend_tame (l : List Cel) (h : ∀ c ∈ l, tame c) : ∀ c ∈ mend l, tame c := mendP_tame none l h
theorem whole_iff (l : List Cel) (h : ∀ c ∈ l, tame c) : whole l = true ↔ mend l = l := whole_mends none l h
theorem mend_mend (l : List Cel) (h : ∀ c ∈ l, tame c) : mend (mend l) = mend l := (whole_iff _ (mend_tame l h)).1 (mend_whole l h)

/-- The law's own words for a whole line. -/
def okW (p : Option Cel) (c : Cel) (n : Option Cel) : Bool :=
  if c.rune = 0 then p.any fun a => GM.wide a.rune && decide (a.sty = c.sty)
  else sright c.sty && GM.right c.rune && (if GM.wide c.rune = true then n.any fun b => decide (b.rune = 0) else true)
def wantP : Option Cel → List Cel → Bool
  | _, [] => true
  | p, c :: r => okW p c r.head? && wantP (some c) r
theorem want_eq (p : Option Cel) (l : List Cel) : wantP p l = wholeP p l := by
  induction l generalizing p with
  | nil => rfl
  | cons c r ih =>
    rw [wantP, wholeP, ih (some c)]
    by_cases h0 : c.rune = 0
    · have : okW p c r.head? = okN p c r.head? := by
        unfold okW okN aloneN
        rw [if_pos h0, if_pos h0]
        cases p with
        | none => simp
        | some a =>
          have : halves a c = (GM.wide a.rune && decide (a.sty = c.sty)) := by
            rw [Bool.eq_iff_iff, halves_iff, Bool.and_eq_true, decide_eq_true_eq]
            exact ⟨fun h => ⟨h.1, h.2.2.symm⟩, fun h => ⟨h.1, h0, h.2.symm⟩⟩
          simp [this, h0]
      rw [this]
    · by_cases hw : GM.wide c.rune = true
      · have e1 : okW p c r.head? = (cright c && r.head?.any fun b => decide (b.rune = 0)) := by
          unfold okW cright
          rw [if_neg h0, if_pos hw, Bool.and_comm (sright _)]
        have e2 : okN p c r.head? = (cright c && r.head?.any fun b => halves c b) := by
          unfold okN aloneN
          rw [if_neg h0, if_pos hw]
          simp [h0, Bool.and_comm]
        rw [e1, e2]
        cases r with
        | nil => simp
        | cons d r =>
          simp only [List.head?_cons, Option.any_some]
          by_cases hd : d.rune = 0
          · by_cases hs : d.sty = c.sty
            · have : halves c d = true := (halves_iff c d).2 ⟨hw, hd, hs⟩
              rw [this]; simp [hd]
            · have hf : halves c d = false := by rw [← Bool.not_eq_true, halves_iff]; simp [hs]
              have : wholeP (some c) (d :: r) = false := by
                rw [wholeP]
                unfold okN aloneN
                rw [if_pos hd]
                simp [hf]
              rw [this, hf]; simp
          · have hf : halves c d = false := by rw [← Bool.not_eq_true, halves_iff]; simp [hd]
            simp [hf, hd]
      · have e1 : okW p c r.head? = cright c := by
          unfold okW cright
          rw [if_neg h0, if_neg hw, Bool.and_comm (sright _)]
          simp
        have e2 : okN p c r.head? = cright c := by
          unfold okN aloneN
          rw [if_neg h0, if_neg hw]
          simp [h0]
        rw [e1, e2]
end Go.Proofs.YtdolapobkhhanaaDoor.KM
/-
  Words for memory: a slice of integers that reads as a list, wherever it lies; an owned row that reads so. No program.
-/
namespace Go.Proofs.YtdolapobkhhanaaDoor
open Go.RowKit

/-- A list of numbers as cells. -/
def nums (k : IntKind) (l : List Nat) : List Value := l.map fun n : Nat => .int k (n : Int)
theorem nums_len (k : IntKind) (l : List Nat) : (nums k l).length = l.length := by simp [nums]
theorem nums_append (k : IntKind) (l m : List Nat) : nums k (l ++ m) = nums k l ++ nums k m := by simp [nums]

/-- The slice value at A, of as many elements as l has, reads as l and lies below block B. -/
def Row (w : World) (B : Nat) (k : IntKind) (A : Option Addr) (l : List Nat) : Prop :=
  0 < l.length → ∃ b off, A = some ⟨b, off, none⟩ ∧ b < B ∧ ∀ j, j < l.length → w.cell? ⟨b, off + j, none⟩ = some (.int k (l.getD j 0 : Nat))

/-- The address of 's[k:]'. -/
def cutA (A : Option Addr) (cap k : Nat) : Option Addr := if cap = k then A else A.map (·.add k)

section
variable {w w' : World} {B B' : Nat} {k : IntKind} {A : Option Addr} {l : List Nat}

theorem Row.nil : Row w B k A [] := fun h => absurd h (by simp)

theorem Row.at_ (h : Row w B k A l) {j : Nat} (hj : j < l.length) : ∃ b off, A = some ⟨b, off, none⟩ ∧ b < B ∧ w.cell? ⟨b, off + j, none⟩ = some (.int k (l.getD j 0 : Nat)) := by
  obtain ⟨b, off, e, hb, hc⟩ := h (by omega)
  exact ⟨b, off, e, hb, hc j hj⟩

theorem Row.keep (h : Row w B k A l) (hk : ∀ p : Addr, p.block < B → w'.cell? p = w.cell? p) : Row w' B k A l := fun hl => by
  obtain ⟨b, off, e, hb, hc⟩ := h hl
  exact ⟨b, off, e, hb, fun j hj => (hk ⟨b, off + j, none⟩ hb).trans (hc j hj)⟩

theorem Row.mono (h : Row w B k A l) (hB : B ≤ B') : Row w B' k A l := fun hl => by
  obtain ⟨b, off, e, hb, hc⟩ := h hl
  exact ⟨b, off, e, by omega, hc⟩

theorem Row.below (h : Row w B k A l) (hb : Below B w w') : Row w' B k A l := h.keep fun _ hp => hb.cell hp

theorem Row.drew (h : Row w B k A l) : Row w.drew B k A l := h

theorem Row.cut (h : Row w B k A l) {j cap : Nat} (hj : j ≤ l.length) (hc : l.length ≤ cap) : Row w B k (cutA A cap j) (l.drop j) := fun hl => by
  unfold cutA
  rw [List.length_drop] at hl
  obtain ⟨b, off, rfl, hb, hcell⟩ := h (by omega)
  rw [if_neg (by omega)]
  refine ⟨b, off + j, by simp only [Option.map_some, Option.some.injEq]; unfold Addr.add; split <;> simp_all, hb, fun i hi => ?_⟩
  rw [List.length_drop] at hi
  rw [Nat.add_assoc, hcell (j + i) (by omega)]
  simp [List.getElem?_drop]

theorem Row.take (h : Row w B k A l) (j : Nat) : Row w B k A (l.take j) := fun hl => by
  rw [List.length_take] at hl
  obtain ⟨b, off, e, hb, hc⟩ := h (by omega)
  refine ⟨b, off, e, hb, fun i hi => ?_⟩
  rw [List.length_take] at hi
  rw [hc i (by omega)]
  simp [show i < j by omega]

theorem Row.of_own {base : Nat} {e : TypeId} {n c : Nat} (h : w.ownsRow base e 1 (.slice A n c) n (nums k l)) : Row w w.heap.size k A l := fun hl => by
  have hn : 0 < n := by have := h.1; rw [nums_len] at this; omega
  rcases h.2 with ⟨_, h0⟩ | ⟨g, cap, cur, hv, _, hh, _, _, _, ht⟩
  · omega
  · have hA : A = some ⟨g, 0, none⟩ := by injection hv
    subst hA
    refine ⟨g, 0, rfl, (Array.getElem?_eq_some_iff.1 hh).1, fun j hj => ?_⟩
    have hc := h.cells (g := g) rfl j (.int k (l.getD j 0 : Nat)) (by simp [nums, List.getElem?_eq_getElem hj])
    rw [← hc]
    unfold Addr.add
    split <;> simp_all

/-- What a walk is told of a slice of integers that came in: nil, or a row of 'cap' cells that read as zs, the first 'len' of them its elements. -/
def IsRow (k : IntKind) (w : World) (a : Option Addr) (len cap : Nat) (zs : List Int) : Prop :=
  (a = none ∧ len = 0 ∧ cap = 0 ∧ zs = []) ∨
  ∃ x, a = some x ∧ len ≤ cap ∧ cap ≤ maxLen ∧ zs.length = cap ∧ (∀ i, i < zs.length → w.cell? (x.add i) = some (.int k (zs.getD i 0))) ∧ ∀ n ∈ zs, (Lit.int k n).wf = true

/-- What comes in as a slice of integers, its elements as natural numbers. -/
theorem row_in {x : Addr} {len : Nat} {zs : List Int} (hl : len ≤ zs.length) (hc : ∀ i, i < zs.length → w.cell? (x.add i) = some (.int k (zs.getD i 0))) (h0 : ∀ n ∈ zs, 0 ≤ n) :
    Row w w.heap.size k (some x) ((zs.take len).map Int.toNat) := fun hp => by
  simp only [List.length_map, List.length_take] at hp
  obtain ⟨b, off, rfl, h⟩ := ints_at hc (by omega)
  have hlt := World.block_lt_of_cell? w ⟨b, off + 0, none⟩ (h 0 (by omega))
  refine ⟨b, off, rfl, hlt, fun j hj => ?_⟩
  simp only [List.length_map, List.length_take] at hj
  rw [h j (by omega)]
  have hz : zs[j] ∈ zs := List.getElem_mem _
  have := h0 _ hz
  simp [show j < len by omega, show j < zs.length by omega]
  omega

theorem came {len cap : Nat} {zs : List Int} {top : Nat} (h : IsRow k w A len cap zs) (ht : ∀ n : Int, (Lit.int k n).wf = true → 0 ≤ n ∧ n < top) :
    ∃ l : List Nat, len = l.length ∧ cap ≤ maxLen ∧ len ≤ cap ∧ (A = none → cap = 0) ∧ Row w w.heap.size k A l ∧ ∀ n ∈ l, n < top := by
  rcases h with ⟨rfl, rfl, rfl, rfl⟩ | ⟨x, rfl, h1, h2, h3, h4, h5⟩
  · exact ⟨[], rfl, Nat.zero_le _, Nat.le_refl _, fun _ => rfl, Row.nil, by simp⟩
  · refine ⟨(zs.take len).map Int.toNat, by simp; omega, h2, h1, by simp, row_in (by omega) h4 (fun n hn => (ht n (h5 n hn)).1), ?_⟩
    intro n hn
    obtain ⟨z, hz, rfl⟩ := List.mem_map.1 hn
    have := ht z (h5 z (List.mem_of_mem_take hz))
    omega
theorem top_u64 (n : Int) (h : (Lit.int .u64 n).wf = true) : 0 ≤ n ∧ n < (18446744073709551616 : Nat) := by
  have := bounds_u64 h; omega
theorem top_u8 (n : Int) (h : (Lit.int .u8 n).wf = true) : 0 ≤ n ∧ n < (256 : Nat) := by
  have := bounds_u8 h; omega
end
end Go.Proofs.YtdolapobkhhanaaDoor
/-
  Layer 7 (glyph), for layer 8: what the table of wide runes holds, and that it lasts over whatever is made anew; Right, has, among.
-/
namespace Go.Proofs.YtdolapobkhhanaaDoor
open Go.RowKit Go.Lib

/-- A list of runes as cells. -/
def runesV (l : List Int) : List Value := l.map (Value.int .i32)
/-- What the package's table holds. -/
structure Tabs (w : World) : Prop where
  wide : w.rangeAt 2 0 (runesV GM.wideT)
  room : 2 < w.heap.size
theorem Tabs.on {w w' : World} {B : Nat} (h : Tabs w) (b : Below B w w') (hB : 2 < B) : Tabs w' := by
  obtain ⟨h1, h3⟩ := h
  refine ⟨fun j v hv => ?_, Nat.lt_of_lt_of_le h3 b.size⟩
  rw [b.cell (by show 2 < _; omega)]; exact h1 j v hv
theorem below_next {w w1 w2 : World} (h : Below w.heap.size w w1) (k : Below w1.heap.size w1 w2) : Below w.heap.size w w2 := h.trans (k.mono h.size)

set_option maxRecDepth 100000 in
set_option maxHeartbeats 400000 in
theorem right_ok (w : World) (r : Int) : Calls Tryd.prog 41 #[.int .i32 r] w fun e w' => e = .returned (.bool (GM.right r)) ∧ w' = w := by
  rcases (by omega : r < 32 ∨ (32 ≤ r ∧ r < 127) ∨ r = 127 ∨ (127 < r ∧ r < 55296) ∨ (55296 ≤ r ∧ r ≤ 57343) ∨ (57343 < r ∧ r ≤ 1114111) ∨ 1114111 < r) with h | h | h | h | h | h | h
  · have hr : GM.right r = false := by rw [← Bool.not_eq_true, GM.right_iff]; omega
    have g1 : decide ((55296 : Int) ≤ r) = false := by simp; omega
    have g3 : decide ((32 : Int) ≤ r) = false := by simp; omega
    rw [hr]
    clear hr h
    go_enter Tryd.func41, Tryd.ntmps41
    go_wp2
    go_ret
    exact ⟨rfl, rfl⟩
  · have hr : GM.right r = true := by rw [GM.right_iff]; omega
    have g1 : decide ((55296 : Int) ≤ r) = false := by simp; omega
    have g3 : decide ((32 : Int) ≤ r) = true := by simp; omega
    have g4 : decide (r ≤ (1114111 : Int)) = true := by simp; omega
    have g5 : (r != 127) = true := by simp; omega
    rw [hr]
    clear hr h
    go_enter Tryd.func41, Tryd.ntmps41
    go_wp2
    go_ret
    exact ⟨rfl, rfl⟩
  · subst h
    go_enter Tryd.func41, Tryd.ntmps41
    go_wp2
    go_ret
    exact ⟨rfl, rfl⟩
  · have hr : GM.right r = true := by rw [GM.right_iff]; omega
    have g1 : decide ((55296 : Int) ≤ r) = false := by simp; omega
    have g3 : decide ((32 : Int) ≤ r) = true := by simp; omega
    have g4 : decide (r ≤ (1114111 : Int)) = true := by simp; omega
    have g5 : (r != 127) = true := by simp; omega
    rw [hr]
    clear hr h
    go_enter Tryd.func41, Tryd.ntmps41
    go_wp2
    go_ret
    exact ⟨rfl, rfl⟩
  · have hr : GM.right r = false := by rw [← Bool.not_eq_true, GM.right_iff]; omega
    have g1 : decide ((55296 : Int) ≤ r) = true := by simp; omega
    have g2 : decide (r ≤ (57343 : Int)) = true := by simp; omega
    have g3 : decide ((32 : Int) ≤ r) = true := by simp; omega
    have g4 : decide (r ≤ (1114111 : Int)) = true := by simp; omega
    have g5 : (r != 127) = true := by simp; omega
    rw [hr]
    clear hr h
    go_enter Tryd.func41, Tryd.ntmps41
    go_wp2
    go_ret
    exact ⟨rfl, rfl⟩
  · have hr : GM.right r = true := by rw [GM.right_iff]; omega
    have g1 : decide ((55296 : Int) ≤ r) = true := by simp; omega
    have g2 : decide (r ≤ (57343 : Int)) = false := by simp; omega
    have g3 : decide ((32 : Int) ≤ r) = true := by simp; omega
    have g4 : decide (r ≤ (1114111 : Int)) = true := by simp; omega
    have g5 : (r != 127) = true := by simp; omega
    rw [hr]
    clear hr h
    go_enter Tryd.func41, Tryd.ntmps41
    go_wp2
    go_ret
    exact ⟨rfl, rfl⟩
  · have hr : GM.right r = false := by rw [← Bool.not_eq_true, GM.right_iff]; omega
    have g1 : decide ((55296 : Int) ≤ r) = true := by simp; omega
    have g2 : decide (r ≤ (57343 : Int)) = false := by simp; omega
    have g3 : decide ((32 : Int) ≤ r) = true := by simp; omega
    have g4 : decide (r ≤ (1114111 : Int)) = false := by simp; omega
    rw [hr]
    clear hr h
    go_enter Tryd.func41, Tryd.ntmps41
    go_wp2
    go_ret
    exact ⟨rfl, rfl⟩

set_option maxRecDepth 100000 in
theorem has_ok (w : World) (r a b : Int) : Calls Tryd.prog 58 #[.agg #[.int .i32 a, .int .i32 b], .int .i32 r] w fun e w' => e = .returned (.bool (GM.amo r a b)) ∧ Below w.heap.size w w' := by
  unfold GM.amo
  by_cases h : a ≤ r
  · have g : decide (a ≤ r) = true := by simp; omega
    go_enter Tryd.func58, Tryd.ntmps58
    go_wp2
    go_ret
    exact ⟨by simp only [g, Bool.true_and]; rfl, (Below.refl _ _).alloc (Nat.le_refl _) _⟩
  · have g : decide (a ≤ r) = false := by simp; omega
    go_enter Tryd.func58, Tryd.ntmps58
    go_wp2
    go_ret
    exact ⟨rfl, (Below.refl _ _).alloc (Nat.le_refl _) _⟩
end Go.Proofs.YtdolapobkhhanaaDoor
/-
  Layer 8 (cell): styles, cells and runs as values of the program; two of them held against one another.
-/
namespace Go.Proofs.YtdolapobkhhanaaDoor
open Go.RowKit Go.Lib KM

/-- A style's cells, and a cell's, and a run's. -/
def styL (s : Sty) : List Value := [.bool s.bold, .bool s.under, .bool s.turned, .int .i64 s.fore, .int .i64 s.back]
def celL (c : Cel) : List Value := [.int .i32 c.rune, .bool c.sty.bold, .bool c.sty.under, .bool c.sty.turned, .int .i64 c.sty.fore, .int .i64 c.sty.back]
def runL (x : Nat × Cel) : List Value := [.int .i64 (x.1 : Int), .int .i32 x.2.rune, .bool x.2.sty.bold, .bool x.2.sty.under, .bool x.2.sty.turned, .int .i64 x.2.sty.fore, .int .i64 x.2.sty.back]
/-- .. as values. -/
def styV (s : Sty) : Value := .agg #[.bool s.bold, .bool s.under, .bool s.turned, .int .i64 s.fore, .int .i64 s.back]
def celV (c : Cel) : Value := .agg #[.int .i32 c.rune, .bool c.sty.bold, .bool c.sty.under, .bool c.sty.turned, .int .i64 c.sty.fore, .int .i64 c.sty.back]
def runV (x : Nat × Cel) : Value := .agg #[.int .i64 (x.1 : Int), .int .i32 x.2.rune, .bool x.2.sty.bold, .bool x.2.sty.under, .bool x.2.sty.turned, .int .i64 x.2.sty.fore, .int .i64 x.2.sty.back]

theorem eqF_cons {P : Program} {w : World} {d : Nat} {xs ys : Array Value} {f : Field} {fs : List Field} {ty : TypeId} {off : Nat} {a b : Value} {r : Bool} (hf : (f.name != "_", f.type, f.offset) = (true, ty, off))
    (pa : (part ty xs off).run P w = .ok a w) (pb : (part ty ys off).run P w = .ok b w) (he : (Op.equalIn d ty a b).run P w = .ok r w) :
    (Op.eqFields d xs ys (f :: fs)).run P w = if r = true then (Op.eqFields d xs ys fs).run P w else .ok false w := by
  simp only [Prod.mk.injEq] at hf
  obtain ⟨h1, h2, h3⟩ := hf
  have h1' : f.name ≠ "_" := by simpa using h1
  rw [Op.eqFields, if_pos h1', h2, h3]
  simp only [Sem.run_bind, pa, pb, he, Result.andThen_ok]
  cases r
  · simp
  · simp
theorem list5 {α β : Type} {g : α → β} {L : List α} {a b c d e : β} (h : L.map g = [a, b, c, d, e]) : ∃ x0 x1 x2 x3 x4, L = [x0, x1, x2, x3, x4] ∧ g x0 = a ∧ g x1 = b ∧ g x2 = c ∧ g x3 = d ∧ g x4 = e := by
  rcases L with _ | ⟨x0, _ | ⟨x1, _ | ⟨x2, _ | ⟨x3, _ | ⟨x4, _ | ⟨x5, t⟩⟩⟩⟩⟩⟩ <;> simp at h
  exact ⟨x0, x1, x2, x3, x4, rfl, h.1, h.2.1, h.2.2.1, h.2.2.2.1, h.2.2.2.2⟩
theorem list2 {α β : Type} {g : α → β} {L : List α} {a b : β} (h : L.map g = [a, b]) : ∃ x0 x1, L = [x0, x1] ∧ g x0 = a ∧ g x1 = b := by
  rcases L with _ | ⟨x0, _ | ⟨x1, _ | ⟨x2, t⟩⟩⟩ <;> simp at h
  exact ⟨x0, x1, rfl, h.1, h.2⟩

theorem part_sty (w : World) (b u t : Bool) (f k : Int) : (part 4 #[.bool b, .bool u, .bool t, .int .i64 f, .int .i64 k] 0).run Tryd.prog w = .ok (.bool b) w ∧ (part 4 #[.bool b, .bool u, .bool t, .int .i64 f, .int .i64 k] 1).run Tryd.prog w = .ok (.bool u) w ∧
    (part 4 #[.bool b, .bool u, .bool t, .int .i64 f, .int .i64 k] 2).run Tryd.prog w = .ok (.bool t) w ∧ (part 3 #[.bool b, .bool u, .bool t, .int .i64 f, .int .i64 k] 3).run Tryd.prog w = .ok (.int .i64 f) w ∧ (part 3 #[.bool b, .bool u, .bool t, .int .i64 f, .int .i64 k] 4).run Tryd.prog w = .ok (.int .i64 k) w :=
  ⟨by kernel_rfl, by kernel_rfl, by kernel_rfl, by kernel_rfl, by kernel_rfl⟩
/-- Two styles. -/
theorem run_eqS (d : Nat) (w : World) (s s' : Sty) : (Op.equalIn (d + 2) 30 (styV s) (styV s')).run Tryd.prog w = .ok (decide (s = s')) w := by
  obtain ⟨b, u, t, f, k⟩ := s
  obtain ⟨b', u', t', f', k'⟩ := s'
  simp only [styV]
  obtain ⟨p0, p1, p2, p3, p4⟩ := part_sty w b u t f k
  obtain ⟨q0, q1, q2, q3, q4⟩ := part_sty w b' u' t' f' k'
  have hb : ∀ x y : Bool, (Op.equalIn (d + 1) 4 (.bool x) (.bool y)).run Tryd.prog w = .ok (x == y) w := fun x y => run_equalIn_bool' w d 4 x y Tryd.underlying4
  have hi : ∀ x y : Int, (Op.equalIn (d + 1) 3 (.int .i64 x) (.int .i64 y)).run Tryd.prog w = .ok (x == y) w := fun x y => run_equalIn_int w d 3 .i64 .i64 x y Tryd.underlying3
  have hf : (Tryd.prog.fieldsOf 30).toList.map (fun f => (f.name != "_", f.type, f.offset)) = [(true, 4, 0), (true, 4, 1), (true, 4, 2), (true, 3, 3), (true, 3, 4)] := by kernel_rfl
  rw [run_equalIn_struct w (d + 1) 30 _ _ (by kernel_rfl) (by kernel_rfl)]
  obtain ⟨x0, x1, x2, x3, x4, e, e0, e1, e2, e3, e4⟩ := list5 hf
  rw [e, eqF_cons e0 p0 q0 (hb _ _), eqF_cons e1 p1 q1 (hb _ _), eqF_cons e2 p2 q2 (hb _ _), eqF_cons e3 p3 q3 (hi _ _), eqF_cons e4 p4 q4 (hi _ _)]
  simp only [Op.eqFields, Sem.run_pure, beq_iff_eq, Sty.mk.injEq]
  by_cases h0 : b = b' <;> by_cases h1 : u = u' <;> by_cases h2 : t = t' <;> by_cases h3 : f = f' <;> by_cases h4 : k = k' <;> simp [h0, h1, h2, h3, h4]
theorem part_cel (w : World) (r : Int) (b u t : Bool) (f k : Int) : (part 21 #[.int .i32 r, .bool b, .bool u, .bool t, .int .i64 f, .int .i64 k] 0).run Tryd.prog w = .ok (.int .i32 r) w ∧ (part 30 #[.int .i32 r, .bool b, .bool u, .bool t, .int .i64 f, .int .i64 k] 1).run Tryd.prog w = .ok (styV ⟨b, u, t, f, k⟩) w :=
  ⟨by kernel_rfl, by kernel_rfl⟩
/-- Two cells. -/
theorem run_eqC (w : World) (c c' : Cel) : (Op.equalIn 10000 63 (celV c) (celV c')).run Tryd.prog w = .ok (decide (c = c')) w := by
  obtain ⟨r, ⟨b, u, t, f, k⟩⟩ := c
  obtain ⟨r', ⟨b', u', t', f', k'⟩⟩ := c'
  simp only [celV]
  obtain ⟨p0, p1⟩ := part_cel w r b u t f k
  obtain ⟨q0, q1⟩ := part_cel w r' b' u' t' f' k'
  have hf : (Tryd.prog.fieldsOf 63).toList.map (fun f => (f.name != "_", f.type, f.offset)) = [(true, 21, 0), (true, 30, 1)] := by kernel_rfl
  have h0 : (Op.equalIn 9999 21 (.int .i32 r) (.int .i32 r')).run Tryd.prog w = .ok (r == r') w := run_equalIn_int w 9998 21 .i32 .i32 r r' Tryd.underlying21
  have h1 := run_eqS 9997 w ⟨b, u, t, f, k⟩ ⟨b', u', t', f', k'⟩
  rw [show 9997 + 2 = 9999 from rfl] at h1
  rw [show (10000 : Nat) = 9999 + 1 from rfl, run_equalIn_struct w 9999 63 _ _ (by kernel_rfl) (by kernel_rfl)]
  obtain ⟨x0, x1, e, e0, e1⟩ := list2 hf
  rw [e, eqF_cons e0 p0 q0 h0, eqF_cons e1 p1 q1 h1]
  simp only [Op.eqFields, Sem.run_pure, beq_iff_eq, Cel.mk.injEq, decide_eq_true_eq]
  by_cases h0 : r = r' <;> by_cases h1 : (⟨b, u, t, f, k⟩ : Sty) = ⟨b', u', t', f', k'⟩ <;> simp [h0, h1]
theorem run_eqS' (w : World) (s s' : Sty) : (Op.equalIn 10000 30 (styV s) (styV s')).run Tryd.prog w = .ok (decide (s = s')) w := run_eqS 9998 w s s'
/-! ### values that are built -/
theorem build_back (w : World) (k : Int) : (Instr.build 30 #[(4, .int .i64 k)]).run Tryd.prog w = .ok (.agg #[.bool false, .bool false, .bool false, .int .i64 0, .int .i64 k]) w := by kernel_rfl
theorem build_zero (w : World) : (Instr.build 30 #[]).run Tryd.prog w = .ok (.agg #[.bool false, .bool false, .bool false, .int .i64 0, .int .i64 0]) w := by kernel_rfl
theorem build_style (w : World) (b u t : Bool) (f k : Int) : (Instr.build 30 #[(0, .bool b), (1, .bool u), (2, .bool t), (3, .int .i64 f), (4, .int .i64 k)]).run Tryd.prog w = .ok (.agg #[.bool b, .bool u, .bool t, .int .i64 f, .int .i64 k]) w := by kernel_rfl
theorem build_cell (w : World) (r : Int) (b u t : Bool) (f k : Int) : (Instr.build 63 #[(0, .int .i32 r), (1, .agg #[.bool b, .bool u, .bool t, .int .i64 f, .int .i64 k])]).run Tryd.prog w = .ok (.agg #[.int .i32 r, .bool b, .bool u, .bool t, .int .i64 f, .int .i64 k]) w := by kernel_rfl
theorem build_rest (w : World) (b u t : Bool) (f k : Int) : (Instr.build 63 #[(1, .agg #[.bool b, .bool u, .bool t, .int .i64 f, .int .i64 k])]).run Tryd.prog w = .ok (.agg #[.int .i32 0, .bool b, .bool u, .bool t, .int .i64 f, .int .i64 k]) w := by kernel_rfl
theorem build_rune (w : World) (r : Int) : (Instr.build 63 #[(0, .int .i32 r)]).run Tryd.prog w = .ok (.agg #[.int .i32 r, .bool false, .bool false, .bool false, .int .i64 0, .int .i64 0]) w := by kernel_rfl
end Go.Proofs.YtdolapobkhhanaaDoor
/-
  Layer 8 (cell): colour, Style, Right, Blank; the reference's Style.
-/
namespace Go.Proofs.YtdolapobkhhanaaDoor
open Go.RowKit Go.Lib KM

set_option maxRecDepth 100000 in
theorem colour_ok (w : World) (n : Int) : Calls Tryd.prog 21 #[.int .i64 n] w fun e w' => e = .returned (.bool (colour n)) ∧ w' = w := by
  unfold colour
  by_cases h : 0 ≤ n
  · have g : decide ((0 : Int) ≤ n) = true := by simp; omega
    go_enter Tryd.func21, Tryd.ntmps21
    go_wp2
    go_ret
    exact ⟨by simp only [g, Bool.true_and]; rfl, rfl⟩
  · have g : decide ((0 : Int) ≤ n) = false := by simp; omega
    go_enter Tryd.func21, Tryd.ntmps21
    go_wp2
    go_ret
    exact ⟨rfl, rfl⟩

set_option maxRecDepth 100000 in
theorem style_ok (w : World) (s : Sty) : Calls Tryd.prog 7 #[styV s] w fun e w' => e = .returned (.bool (sright s)) ∧ Below w.heap.size w w' := by
  obtain ⟨b, u, t, f, k⟩ := s
  simp only [styV, sright]
  rcases hf : colour f with _ | _
  · have F := Lib.hid hf
    clear hf
    go_enter Tryd.func7, Tryd.ntmps7
    go_wp2_with fail
    refine (colour_ok _ f).mono ?_
    rw [F.out]
    rintro e w1 ⟨rfl, rfl⟩
    go_wp2_with fail
    go_ret
    exact ⟨rfl, (Below.refl _ _).alloc (Nat.le_refl _) _⟩
  · have F := Lib.hid hf
    clear hf
    go_enter Tryd.func7, Tryd.ntmps7
    go_wp2_with fail
    refine (colour_ok _ f).mono ?_
    rw [F.out]
    rintro e w1 ⟨rfl, rfl⟩
    go_wp2_with fail
    refine (colour_ok _ k).mono ?_
    rintro e w2 ⟨rfl, rfl⟩
    go_wp2_with fail
    go_ret
    exact ⟨rfl, (Below.refl _ _).alloc (Nat.le_refl _) _⟩

set_option maxRecDepth 100000 in
theorem cright_ok (w : World) (c : Cel) : Calls Tryd.prog 23 #[celV c] w fun e w' => e = .returned (.bool (cright c)) ∧ Below w.heap.size w w' := by
  obtain ⟨r, ⟨b, u, t, f, k⟩⟩ := c
  simp only [celV, cright]
  have HS := Lib.hid (fun w => style_ok w ⟨b, u, t, f, k⟩)
  rcases hf : GM.right r with _ | _
  · have F := Lib.hid hf
    clear hf
    go_enter Tryd.func23, Tryd.ntmps23
    go_wp2_with fail
    refine (right_ok _ r).mono ?_
    rw [F.out]
    rintro e w1 ⟨rfl, rfl⟩
    go_wp2_with fail
    go_ret
    exact ⟨rfl, (Below.refl _ _).alloc (Nat.le_refl _) _⟩
  · have F := Lib.hid hf
    clear hf
    go_enter Tryd.func23, Tryd.ntmps23
    go_wp2_with fail
    refine (right_ok _ r).mono ?_
    rw [F.out]
    rintro e w1 ⟨rfl, rfl⟩
    go_wp2_with fail
    refine (HS.out _).mono ?_
    rintro e w2 ⟨rfl, hb2⟩
    have HB := Lib.hid hb2
    clear hb2
    go_wp2_with fail
    go_ret
    exact ⟨rfl, below_next ((Below.refl _ _).alloc (Nat.le_refl _) _) HB.out⟩

set_option maxRecDepth 100000 in
theorem blank_ok (w : World) (s : Sty) : Calls Tryd.prog 73 #[styV s] w fun e w' => e = .returned (celV ⟨32, ⟨false, false, false, 0, s.back⟩⟩) ∧ Below w.heap.size w w' := by
  obtain ⟨b, u, t, f, k⟩ := s
  simp only [styV, celV]
  have hb1 := fun w => build_back w k
  have hb2 := fun w => build_cell w 32 false false false 0 k
  go_enter Tryd.func73, Tryd.ntmps73
  go_wp2
  exact bodyPost_ret (v := .agg #[.int .i32 32, .bool false, .bool false, .bool false, .int .i64 0, .int .i64 k]) (by simp [results, Tryd.results73, go_sem]) rfl ⟨rfl, ((Below.refl _ _).alloc (Nat.le_refl _) _).alloc (by simp) _⟩
end Go.Proofs.YtdolapobkhhanaaDoor
/-
  Layer 8 (cell): a style behind one parameter: changeOne, and the reference's Change. (Written by wip/mk/kchange.py.)
-/
namespace Go.Proofs.YtdolapobkhhanaaDoor
open Go.RowKit Go.Lib KM

end Go.Proofs.YtdolapobkhhanaaDoor
