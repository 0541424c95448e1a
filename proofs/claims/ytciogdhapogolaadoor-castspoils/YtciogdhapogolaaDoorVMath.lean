/-
  Plain mathematics of layer 1 (vary): the bytes of a number, and the number that bytes begin with. No program, no walk.
-/
import Derived.Below
namespace Go.Proofs.YtciogdhapogolaaDoor.VM

/-- A number's bytes: pieces of seven bits, the lowest first, 128 added to each but the last. -/
def enc (n : Nat) : List Nat := if h : n < 128 then [n] else (n % 128 + 128) :: enc (n / 128)
  termination_by n
  decreasing_by omega

theorem enc_lt {n : Nat} (h : n < 128) : enc n = [n] := by rw [enc]; simp [h]
theorem enc_ge {n : Nat} (h : 128 ≤ n) : enc n = (n % 128 + 128) :: enc (n / 128) := by rw [enc]; simp [show ¬ n < 128 by omega]

theorem enc_pos (n : Nat) : 0 < (enc n).length := by
  by_cases h : n < 128
  · simp [enc_lt h]
  · simp [enc_ge (show 128 ≤ n by omega)]

theorem enc_byte (n : Nat) : ∀ c ∈ enc n, c < 256 := by
  induction n using Nat.strongRecOn with
  | ind n ih =>
    by_cases h : n < 128
    · simp [enc_lt h]; omega
    · rw [enc_ge (by omega)]
      intro c hc
      rcases List.mem_cons.1 hc with rfl | hc
      · omega
      · exact ih (n / 128) (by omega) c hc

theorem enc_len (f n : Nat) (h : n < 2 ^ (7 * f)) (hf : 0 < f) : (enc n).length ≤ f := by
  induction f generalizing n with
  | zero => omega
  | succ f ih =>
    by_cases hn : n < 128
    · simp [enc_lt hn]
    · rw [enc_ge (by omega), List.length_cons]
      rcases Nat.eq_zero_or_pos f with rfl | hf'
      · simp at h; omega
      · have := ih (n / 128) (by rw [show 7 * (f + 1) = 7 * f + 7 from by omega, Nat.pow_add] at h; omega) hf'
        omega

theorem enc_len64 {n : Nat} (h : n < 18446744073709551616) : (enc n).length ≤ 10 :=
  enc_len 10 n (Nat.lt_of_lt_of_le h (by decide)) (by decide)

/-- What Take does from place i on, X gathered so far. -/
def dec : Nat → Nat → List Nat → Nat × Nat
  | _, _, [] => (0, 0)
  | i, X, c :: t =>
    if i = 9 ∧ 1 < c then (0, 0)
    else if 128 ≤ c then dec (i + 1) (X + c % 128 * 2 ^ (7 * i)) t
    else if c = 0 ∧ 0 < i then (0, 0)
    else (X + c % 128 * 2 ^ (7 * i), i + 1)

def take (l : List Nat) : Nat × Nat := dec 0 0 l

theorem pow7 (i : Nat) : 2 ^ (7 * (i + 1)) = 128 * 2 ^ (7 * i) := by
  rw [show 7 * (i + 1) = 7 * i + 7 from by omega, Nat.pow_add, Nat.mul_comm]

theorem dec_enc (m : Nat) (i X : Nat) (rest : List Nat) (hi : i ≤ 9) (hm : m * 2 ^ (7 * i) < 18446744073709551616) (h0 : 0 < i → 0 < m) :
    dec i X (enc m ++ rest) = (X + m * 2 ^ (7 * i), i + (enc m).length) := by
  induction m using Nat.strongRecOn generalizing i X with
  | ind m ih =>
    by_cases h : m < 128
    · rw [enc_lt h]
      simp only [List.cons_append, List.nil_append, dec]
      have h9 : ¬ (i = 9 ∧ 1 < m) := by
        rintro ⟨rfl, h1⟩
        have : (2 : Nat) ^ (7 * 9) = 9223372036854775808 := by decide
        rw [this] at hm
        omega
      have hz : ¬ (m = 0 ∧ 0 < i) := by
        rintro ⟨rfl, h1⟩
        have := h0 h1
        omega
      rw [if_neg h9, if_neg (by omega), if_neg hz, Nat.mod_eq_of_lt h]
      simp
    · have h9 : i ≠ 9 := by
        rintro rfl
        have : (2 : Nat) ^ (7 * 9) = 9223372036854775808 := by decide
        rw [this] at hm
        omega
      rw [enc_ge (by omega)]
      simp only [List.cons_append, dec]
      rw [if_neg (by simp [h9]), if_pos (by omega)]
      have hdm : m / 128 * (128 * 2 ^ (7 * i)) + m % 128 * 2 ^ (7 * i) = m * 2 ^ (7 * i) := by
        rw [← Nat.mul_assoc, ← Nat.add_mul, Nat.div_add_mod']
      rw [ih (m / 128) (by omega) (i + 1) _ (by omega) (by rw [pow7]; omega) (by omega), pow7]
      rw [show (m % 128 + 128) % 128 = m % 128 from by omega]
      refine Prod.ext ?_ ?_
      · simp only; omega
      · simp only [List.length_cons]; omega

theorem take_enc (m : Nat) (rest : List Nat) (hm : m < 18446744073709551616) : take (enc m ++ rest) = (m, (enc m).length) := by
  unfold take
  rw [dec_enc m 0 0 rest (by omega) (by simpa using hm) (by omega)]
  simp

theorem dec_any (l : List Nat) (i X : Nat) (hi : i ≤ 9) (hl : ∀ c ∈ l, c < 256) (hk : (dec i X l).2 ≠ 0) :
    ∃ m rest, l = enc m ++ rest ∧ m * 2 ^ (7 * i) < 18446744073709551616 ∧ (0 < i → 0 < m) ∧ dec i X l = (X + m * 2 ^ (7 * i), i + (enc m).length) := by
  induction l generalizing i X with
  | nil => simp [dec] at hk
  | cons c t ih =>
    simp only [dec] at hk ⊢
    by_cases h9 : i = 9 ∧ 1 < c
    · rw [if_pos h9] at hk; simp at hk
    rw [if_neg h9] at hk ⊢
    have hc : c < 256 := hl c (by simp)
    by_cases h128 : 128 ≤ c
    · rw [if_pos h128] at hk ⊢
      have hi9 : i ≠ 9 := fun e => h9 ⟨e, by omega⟩
      obtain ⟨m, rest, h1, h2, h3, h4⟩ := ih (i + 1) (X + c % 128 * 2 ^ (7 * i)) (by omega) (fun c hc => hl c (by simp [hc])) hk
      have hm : 0 < m := h3 (by omega)
      have e : enc (m * 128 + c % 128) = c :: enc m := by
        rw [enc_ge (by omega)]
        rw [show (m * 128 + c % 128) % 128 = c % 128 from by omega, show (m * 128 + c % 128) / 128 = m from by omega]
        rw [show c % 128 + 128 = c from by omega]
      have hr : (m * 128 + c % 128) * 2 ^ (7 * i) = m * (128 * 2 ^ (7 * i)) + c % 128 * 2 ^ (7 * i) := by
        rw [Nat.add_mul, Nat.mul_assoc]
      rw [pow7] at h2 h4
      refine ⟨m * 128 + c % 128, rest, by rw [e, h1]; rfl, ?_, by omega, ?_⟩
      · -- m * 2 ^ (7 (i+1)) < 2^64 and the power divides 2^64 where i < 9
        have hp : ∃ q, 18446744073709551616 = q * (128 * 2 ^ (7 * i)) := by
          refine ⟨2 ^ (64 - 7 * (i + 1)), ?_⟩
          rw [← pow7, ← Nat.pow_add]
          rw [show 64 - 7 * (i + 1) + 7 * (i + 1) = 64 from by omega]
        obtain ⟨q, hq⟩ := hp
        rw [hq] at h2 ⊢
        have hmq : m < q := Nat.lt_of_mul_lt_mul_right h2
        have : (m + 1) * (128 * 2 ^ (7 * i)) ≤ q * (128 * 2 ^ (7 * i)) := Nat.mul_le_mul_right _ hmq
        have h7 : c % 128 * 2 ^ (7 * i) < 128 * 2 ^ (7 * i) := Nat.mul_lt_mul_of_pos_right (by omega) (Nat.pow_pos (by omega))
        rw [hr]
        rw [Nat.add_mul, Nat.one_mul] at this
        omega
      · rw [h4, e, hr]
        refine Prod.ext ?_ ?_
        · simp only; omega
        · simp only [List.length_cons]; omega
    · rw [if_neg h128] at hk ⊢
      by_cases hz : c = 0 ∧ 0 < i
      · rw [if_pos hz] at hk; simp at hk
      rw [if_neg hz]
      refine ⟨c, t, by rw [enc_lt (by omega)]; rfl, ?_, fun h => Nat.pos_of_ne_zero fun e => hz ⟨e, h⟩, by rw [enc_lt (by omega), Nat.mod_eq_of_lt (by omega)]; rfl⟩
      by_cases hi9 : i = 9
      · subst hi9
        have hc1 : c ≤ 1 := Nat.le_of_not_lt fun h => h9 ⟨rfl, h⟩
        have : (2 : Nat) ^ (7 * 9) = 9223372036854775808 := by decide
        rw [this]; omega
      · have h1 : 2 ^ (7 * i) ≤ 2 ^ 56 := Nat.pow_le_pow_right (by omega) (by omega)
        have h2 : c * 2 ^ (7 * i) ≤ 128 * 2 ^ 56 := Nat.mul_le_mul (by omega) h1
        have : (128 : Nat) * 2 ^ 56 = 9223372036854775808 := by decide
        omega

theorem take_any (l : List Nat) (hl : ∀ c ∈ l, c < 256) (hk : (take l).2 ≠ 0) :
    ∃ rest, l = enc (take l).1 ++ rest ∧ (take l).1 < 18446744073709551616 ∧ (take l).2 = (enc (take l).1).length := by
  obtain ⟨m, rest, h1, h2, _, h4⟩ := dec_any l 0 0 (by omega) hl hk
  have e : take l = (m, (enc m).length) := by unfold take; rw [h4]; simp
  rw [e]
  exact ⟨rest, h1, by simpa using h2, rfl⟩

theorem dec_zero (l : List Nat) (i X : Nat) (hk : (dec i X l).2 = 0) : (dec i X l).1 = 0 := by
  induction l generalizing i X with
  | nil => simp [dec]
  | cons c t ih =>
    simp only [dec] at hk ⊢
    split at hk
    · simp [*]
    · rename_i h9
      rw [if_neg h9]
      split at hk
      · rename_i h; rw [if_pos h]; exact ih _ _ hk
      · rename_i h; rw [if_neg h]
        split at hk
        · rename_i h'; rw [if_pos h']
        · simp at hk

theorem take_zero (l : List Nat) (hk : (take l).2 = 0) : (take l).1 = 0 := dec_zero l 0 0 hk
theorem take_nil : take [] = (0, 0) := rfl

theorem take_lt (l : List Nat) (hl : ∀ c ∈ l, c < 256) : (take l).1 < 18446744073709551616 ∧ (take l).2 ≤ l.length := by
  by_cases hk : (take l).2 = 0
  · rw [take_zero l hk, hk]; exact ⟨by decide, Nat.zero_le _⟩
  · obtain ⟨rest, h1, h2, h3⟩ := take_any l hl hk
    refine ⟨h2, ?_⟩
    rw [h3]
    have := congrArg List.length h1
    rw [List.length_append] at this
    omega

/-- The bytes of a list of numbers. -/
def encs (l : List Nat) : List Nat := l.flatMap enc

theorem encs_nil : encs [] = [] := rfl
theorem encs_cons (n : Nat) (l : List Nat) : encs (n :: l) = enc n ++ encs l := by simp [encs]
theorem encs_one (n : Nat) : encs [n] = enc n := by simp [encs]
theorem encs_append (l m : List Nat) : encs (l ++ m) = encs l ++ encs m := by simp [encs]
theorem encs_byte (l : List Nat) : ∀ c ∈ encs l, c < 256 := by
  intro c hc
  simp only [encs, List.mem_flatMap] at hc
  obtain ⟨n, _, hc⟩ := hc
  exact enc_byte n c hc
theorem encs_len (l : List Nat) (h : ∀ n ∈ l, n < 18446744073709551616) : (encs l).length ≤ 10 * l.length := by
  induction l with
  | nil => simp [encs_nil]
  | cons n l ih =>
    rw [encs_cons, List.length_append, List.length_cons]
    have := enc_len64 (h n (by simp))
    have := ih fun m hm => h m (by simp [hm])
    omega

theorem encs_begins (l m : List Nat) (hl : ∀ n ∈ l, n < 18446744073709551616) (hm : ∀ n ∈ m, n < 18446744073709551616) : encs l <+: encs m ↔ l <+: m := by
  induction l generalizing m with
  | nil => simp [encs_nil]
  | cons n l ih =>
    cases m with
    | nil =>
      constructor
      · intro h
        have := h.length_le
        rw [encs_cons, List.length_append, encs_nil] at this
        have h2 := enc_pos n
        rw [List.length_nil] at this
        omega
      · intro h; simp at h
    | cons k m =>
      rw [encs_cons, encs_cons]
      have hn := hl n (by simp)
      have hk := hm k (by simp)
      constructor
      · rintro ⟨t, ht⟩
        have h1 := take_enc n (encs l ++ t) hn
        rw [← List.append_assoc, ht, take_enc k _ hk] at h1
        have e : k = n := by have := congrArg Prod.fst h1; exact this
        subst e
        rw [List.append_assoc] at ht
        have ht := List.append_cancel_left ht
        have := (ih m (fun x hx => hl x (by simp [hx])) (fun x hx => hm x (by simp [hx]))).1 ⟨t, ht⟩
        exact List.cons_prefix_cons.2 ⟨rfl, this⟩
      · intro h
        obtain ⟨rfl, h'⟩ := List.cons_prefix_cons.1 h
        obtain ⟨t, ht⟩ := (ih m (fun x hx => hl x (by simp [hx])) (fun x hx => hm x (by simp [hx]))).2 h'
        exact ⟨t, by rw [List.append_assoc, ht]⟩

/-- What the loop of VaryApart knows at place k. -/
def beg (l m : List Nat) (k : Nat) : Bool := decide (l.length ≤ m.length ∧ l.take k = m.take k)
theorem beg_zero (l m : List Nat) : beg l m 0 = decide (l.length ≤ m.length) := by simp [beg]
theorem beg_step {l m : List Nat} {k : Nat} (hk : k < l.length) (h : beg l m k = true) : k < m.length ∧ beg l m (k + 1) = ((l.getD k 0 : Nat) == m.getD k 0) := by
  have h := of_decide_eq_true h
  have hm : k < m.length := by omega
  refine ⟨hm, ?_⟩
  have e : (l.take k ++ [l[k]] = m.take k ++ [m[k]]) ↔ l[k] = m[k] := by
    rw [h.2]; simp only [List.append_cancel_left_eq, List.cons.injEq, and_true]
  unfold beg
  rw [List.take_succ_eq_append_getElem hk, List.take_succ_eq_append_getElem hm, Bool.eq_iff_iff, decide_eq_true_eq, e]
  simp [h.1, hk, hm]
theorem beg_end {l m : List Nat} (h : beg l m l.length = true) : l <+: m := by
  have h := (of_decide_eq_true h).2
  rw [List.take_length] at h
  rw [h]; exact List.take_prefix _ _
theorem beg_no {l m : List Nat} {k : Nat} (hk : k ≤ l.length) (h : beg l m k = false) : ¬ l <+: m := by
  rintro ⟨t, rfl⟩
  have h := of_decide_eq_false h
  exact h ⟨by simp, by rw [List.take_append_of_le_length hk]⟩
theorem begins_take {l m : List Nat} (h : l <+: m) : l.length ≤ m.length ∧ m.take l.length = l := by
  obtain ⟨t, rfl⟩ := h
  exact ⟨by simp, by simp⟩
theorem take_begins {l m : List Nat} (h : m.take l.length = l) : l <+: m := by
  rw [← h]; exact List.take_prefix _ _
end Go.Proofs.YtciogdhapogolaaDoor.VM
