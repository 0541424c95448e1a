/-
  Plain mathematics of layer 3 (json): the runes of bytes, how a rune stands between quotes, what a quoted text says. No program, no walk.
-/
import Derived.Lib.MapLaws
namespace Go.Proofs.YtciogdhapogolaaDoor.JM
open Go.Lib

/-- A rune as UTF-8. -/
def enc (r : Nat) : List UInt8 := encodeRune (r : Int)
/-- A number that is a rune. -/
def good (r : Nat) : Prop := r < 55296 ∨ (57343 < r ∧ r ≤ 1114111)

theorem decodeL_good (l : List UInt8) : good (decodeL l).1 := by
  rw [decodeL_N]
  unfold good
  have k0 := (l.getD 0 0).toNat_lt
  rcases decodeN_shape l.length (l.getD 0 0).toNat (l.getD 1 0).toNat (l.getD 2 0).toNat (l.getD 3 0).toNat with ⟨c, e⟩ | ⟨c1, c2, c3, cv, e⟩ | ⟨c1, c2, c3, c4, cv, cs, e⟩ | ⟨c1, c2, c3, c4, c5, cv, cw, e⟩ | e
  all_goals (rw [e]; dsimp only; omega)

theorem enc_one {r : Nat} (h : r < 128) : enc r = [UInt8.ofNat r] := by
  unfold enc encodeRune
  rw [encodeRuneZ_one (by omega) (by omega)]
  simp
theorem enc_two {r : Nat} (h0 : 128 ≤ r) (h1 : r < 2048) : enc r = [UInt8.ofNat (192 + r / 64), UInt8.ofNat (128 + r % 64)] := by
  unfold enc encodeRune
  rw [encodeRuneZ_two (by omega) (by omega)]
  simp only [List.map_cons, List.map_nil]
  congr 2
theorem enc_three {r : Nat} (h0 : 2048 ≤ r) (h1 : r < 65536) (h : good r) : enc r = [UInt8.ofNat (224 + r / 4096), UInt8.ofNat (128 + r / 64 % 64), UInt8.ofNat (128 + r % 64)] := by
  unfold enc encodeRune
  unfold good at h
  rw [encodeRuneZ_three (by omega)]
  simp only [List.map_cons, List.map_nil]
  have e1 : ((224 : Int) + (r : Int) / 4096).toNat = 224 + r / 4096 := by omega
  have e2 : ((128 : Int) + (r : Int) / 64 % 64).toNat = 128 + r / 64 % 64 := by omega
  have e3 : ((128 : Int) + (r : Int) % 64).toNat = 128 + r % 64 := by omega
  rw [e1, e2, e3]
theorem enc_four {r : Nat} (h0 : 65536 ≤ r) (h1 : r ≤ 1114111) : enc r = [UInt8.ofNat (240 + r / 262144), UInt8.ofNat (128 + r / 4096 % 64), UInt8.ofNat (128 + r / 64 % 64), UInt8.ofNat (128 + r % 64)] := by
  unfold enc encodeRune
  rw [encodeRuneZ_four (by omega) (by omega)]
  simp only [List.map_cons, List.map_nil]
  have e1 : ((240 : Int) + (r : Int) / 262144).toNat = 240 + r / 262144 := by omega
  have e4 : ((128 : Int) + (r : Int) / 4096 % 64).toNat = 128 + r / 4096 % 64 := by omega
  have e2 : ((128 : Int) + (r : Int) / 64 % 64).toNat = 128 + r / 64 % 64 := by omega
  have e3 : ((128 : Int) + (r : Int) % 64).toNat = 128 + r % 64 := by omega
  rw [e1, e2, e3, e4]

theorem ofNat_toNat {n : Nat} (h : n < 256) : (UInt8.ofNat n).toNat = n := by simp; omega

/-- A rune comes back from its bytes, whatever is behind them. -/
theorem decode_enc {r : Nat} (h : good r) (t : List UInt8) : decodeL (enc r ++ t) = (r, (enc r).length) := by
  rw [decodeL_N]
  by_cases h1 : r < 128
  · rw [enc_one h1]
    simp only [List.singleton_append, List.getD_cons_zero, List.length_singleton, ofNat_toNat (show r < 256 by omega)]
    rcases decodeN_shape (UInt8.ofNat r :: t).length r ((UInt8.ofNat r :: t).getD 1 0).toNat ((UInt8.ofNat r :: t).getD 2 0).toNat ((UInt8.ofNat r :: t).getD 3 0).toNat with ⟨c, e⟩ | ⟨c1, c2, c3, cv, e⟩ | ⟨c1, c2, c3, c4, cv, cs, e⟩ | ⟨c1, c2, c3, c4, c5, cv, cw, e⟩ | e
    · exact e
    all_goals (unfold decodeN; rw [if_pos h1])
  by_cases h2 : r < 2048
  · rw [enc_two (by omega) h2]
    simp only [List.cons_append, List.nil_append, List.getD_cons_zero, List.getD_cons_succ, List.length_cons, List.length_nil, ofNat_toNat (show 192 + r / 64 < 256 by omega), ofNat_toNat (show 128 + r % 64 < 256 by omega)]
    unfold decodeN
    rw [if_neg (by omega), if_pos (by omega), if_pos (by omega)]
    congr 1
    omega
  by_cases h3 : r < 65536
  · rw [enc_three (by omega) h3 h]
    unfold good at h
    simp only [List.cons_append, List.nil_append, List.getD_cons_zero, List.getD_cons_succ, List.length_cons, List.length_nil, ofNat_toNat (show 224 + r / 4096 < 256 by omega), ofNat_toNat (show 128 + r / 64 % 64 < 256 by omega), ofNat_toNat (show 128 + r % 64 < 256 by omega)]
    unfold decodeN
    rw [if_neg (by omega), if_neg (by omega), if_pos (by omega), if_pos (by omega)]
    congr 1
    omega
  · have h4 : r ≤ 1114111 := by unfold good at h; omega
    rw [enc_four (by omega) h4]
    simp only [List.cons_append, List.nil_append, List.getD_cons_zero, List.getD_cons_succ, List.length_cons, List.length_nil, ofNat_toNat (show 240 + r / 262144 < 256 by omega), ofNat_toNat (show 128 + r / 4096 % 64 < 256 by omega), ofNat_toNat (show 128 + r / 64 % 64 < 256 by omega), ofNat_toNat (show 128 + r % 64 < 256 by omega)]
    unfold decodeN
    rw [if_neg (by omega), if_neg (by omega), if_neg (by omega), if_pos (by omega), if_pos (by omega)]
    congr 1
    omega

theorem enc_len (r : Nat) : 1 ≤ (enc r).length ∧ (enc r).length ≤ 4 := by
  have := encodeRuneZ_length (r : Int)
  simpa [enc, encodeRune] using this

/-- The first byte of a rune from 128 on is from 128 on; so are all. -/
theorem enc_high {r : Nat} (h : 128 ≤ r) : ∀ b ∈ enc r, 128 ≤ b.toNat := by
  intro b hb
  unfold enc encodeRune at hb
  obtain ⟨x, hx, rfl⟩ := List.mem_map.1 hb
  obtain ⟨b0, b1⟩ := encodeRuneZ_byte (r : Int) x hx
  have : 128 ≤ x := by
    unfold encodeRuneZ at hx
    split at hx
    · omega
    · split at hx
      · simp at hx; omega
      · split at hx
        · simp at hx; omega
        · split at hx
          · simp at hx; omega
          · simp at hx; omega
  simp
  omega

/-! ### the runes of bytes -/
def runesN : Nat → List UInt8 → List Nat
  | 0, _ => []
  | n + 1, l => if l = [] then [] else (decodeL l).1 :: runesN n (l.drop (decodeL l).2)
def runes (l : List UInt8) : List Nat := runesN l.length l

theorem runesN_nil (n : Nat) : runesN n [] = [] := by cases n <;> simp [runesN]
theorem runesN_more : ∀ (n m : Nat) (l : List UInt8), l.length ≤ n → l.length ≤ m → runesN n l = runesN m l
  | 0, m, l, h, _ => by
    obtain rfl : l = [] := List.length_eq_zero_iff.1 (by omega)
    rw [runesN_nil, runesN_nil]
  | n + 1, 0, l, _, h => by
    obtain rfl : l = [] := List.length_eq_zero_iff.1 (by omega)
    rw [runesN_nil, runesN_nil]
  | n + 1, m + 1, l, hn, hm => by
    unfold runesN
    by_cases h : l = []
    · simp [h]
    · rw [if_neg h, if_neg h]
      have hw := decodeL_width l
      have hl : 0 < l.length := List.length_pos_iff.2 h
      rw [runesN_more n m (l.drop (decodeL l).2) (by simp; omega) (by simp; omega)]
theorem runes_nil : runes [] = [] := rfl
theorem runes_step {l : List UInt8} (h : l ≠ []) : runes l = (decodeL l).1 :: runes (l.drop (decodeL l).2) := by
  have hl : 0 < l.length := List.length_pos_iff.2 h
  have hw := decodeL_width l
  unfold runes
  obtain ⟨n, hn⟩ : ∃ n, l.length = n + 1 := ⟨l.length - 1, by omega⟩
  rw [hn]
  conv => lhs; unfold runesN
  rw [if_neg h]
  congr 1
  exact runesN_more _ _ _ (by simp; omega) (Nat.le_refl _)
theorem runes_good (l : List UInt8) : ∀ r ∈ runes l, good r := by
  generalize hn : l.length = n
  induction n using Nat.strongRecOn generalizing l with
  | ind n ih =>
    by_cases h : l = []
    · subst h; simp [runes_nil]
    · rw [runes_step h]
      intro r hr
      rcases List.mem_cons.1 hr with rfl | hr
      · exact decodeL_good l
      · have hl : 0 < l.length := List.length_pos_iff.2 h
        have hw := decodeL_width l
        exact ih (l.drop (decodeL l).2).length (by simp; omega) _ rfl r hr
theorem runes_len (l : List UInt8) : (runes l).length ≤ l.length := by
  generalize hn : l.length = n
  induction n using Nat.strongRecOn generalizing l with
  | ind n ih =>
    by_cases h : l = []
    · subst h; simp [runes_nil]
    · rw [runes_step h]
      have hl : 0 < l.length := List.length_pos_iff.2 h
      have hw := decodeL_width l
      have := ih (l.drop (decodeL l).2).length (by simp; omega) _ rfl
      simp at this ⊢
      omega
theorem enc_ne (r : Nat) : enc r ≠ [] := fun h => by have := (enc_len r).1; rw [h] at this; simp at this
theorem runes_enc {r : Nat} (h : good r) (t : List UInt8) : runes (enc r ++ t) = r :: runes t := by
  rw [runes_step (by simp [enc_ne]), decode_enc h]
  simp
theorem runes_flat : ∀ (rs : List Nat), (∀ r ∈ rs, good r) → runes (rs.flatMap enc) = rs
  | [], _ => rfl
  | r :: rs, h => by
    rw [List.flatMap_cons, runes_enc (h r (by simp)), runes_flat rs (fun x hx => h x (by simp [hx]))]
/-- The text with U+FFFD for each byte that is no UTF-8. -/
def whole (l : List UInt8) : List UInt8 := (runes l).flatMap enc
theorem runes_whole (l : List UInt8) : runes (whole l) = runes l := runes_flat _ (runes_good l)
theorem flat_len : ∀ (f : Nat → List UInt8) (k : Nat) (rs : List Nat), (∀ r, (f r).length ≤ k) → (rs.flatMap f).length ≤ k * rs.length
  | f, k, [], h => by simp
  | f, k, r :: rs, h => by
    have h1 := flat_len f k rs h
    have h2 := h r
    rw [List.flatMap_cons, List.length_append, List.length_cons, Nat.mul_add, Nat.mul_one]
    omega

/-! ### a rune between the quotes -/
/-- A digit of base 16. -/
def hexd (n : Nat) : UInt8 := if n < 10 then UInt8.ofNat (48 + n) else UInt8.ofNat (87 + n)
def wr (r : Nat) : List UInt8 :=
  if r = 34 ∨ r = 92 then 92 :: enc r
  else if r = 10 then [92, 110]
  else if r = 13 then [92, 114]
  else if r < 32 ∨ r = 127 then [92, 117, 48, 48, hexd (r / 16), hexd (r % 16)]
  else enc r
def quote (l : List UInt8) : List UInt8 := 34 :: ((runes l).flatMap wr ++ [34])

theorem wr_len (r : Nat) : (wr r).length ≤ 6 := by
  have := (enc_len r).2
  unfold wr
  repeat' split
  all_goals (simp; try omega)
theorem wr_ne (r : Nat) : wr r ≠ [] := by
  unfold wr
  repeat' split
  all_goals (first | exact enc_ne r | simp)
theorem quote_len (l : List UInt8) : (quote l).length ≤ 6 * l.length + 2 := by
  have h1 := flat_len wr 6 (runes l) wr_len
  have h2 := runes_len l
  unfold quote
  rw [List.length_cons, List.length_append, List.length_singleton]
  omega

theorem enc_small_byte {r : Nat} : ∀ b ∈ enc r, r < 128 → b.toNat = r := by
  intro b hb h
  rw [enc_one h] at hb
  simp at hb
  subst hb
  exact ofNat_toNat (by omega)
theorem hexd_byte {n : Nat} (h : n < 16) : (hexd n).toNat = if n < 10 then 48 + n else 87 + n := by
  unfold hexd
  split
  · exact ofNat_toNat (by omega)
  · exact ofNat_toNat (by omega)
/-- Between the quotes stands no byte below 32, and no 127. -/
theorem wr_byte (r : Nat) : ∀ b ∈ wr r, 32 ≤ b.toNat ∧ b.toNat ≠ 127 := by
  intro b hb
  unfold wr at hb
  split at hb
  · rename_i h
    rcases List.mem_cons.1 hb with rfl | hb
    · decide
    · have := enc_small_byte b hb (by omega); omega
  · split at hb
    · simp at hb; rcases hb with rfl | rfl <;> decide
    · split at hb
      · simp at hb; rcases hb with rfl | rfl <;> decide
      · split at hb
        · rename_i h
          simp at hb
          rcases hb with rfl | rfl | rfl | rfl | rfl
          · decide
          · decide
          · decide
          · rw [hexd_byte (by omega)]; split <;> omega
          · rw [hexd_byte (by omega)]; split <;> omega
        · rename_i h1 h2 h3 h4
          by_cases h : r < 128
          · have := enc_small_byte b hb h; omega
          · have := enc_high (r := r) (by omega) b hb; omega
/-- What stands between the quotes begins with no quote. -/
theorem wr_head (r : Nat) : ∃ b t, wr r = b :: t ∧ b ≠ 34 := by
  have hn := wr_ne r
  cases e : wr r with
  | nil => exact absurd e hn
  | cons b t =>
    refine ⟨b, t, rfl, ?_⟩
    rintro rfl
    unfold wr at e
    split at e
    · cases e
    · split at e
      · cases e
      · split at e
        · cases e
        · split at e
          · cases e
          · rename_i h1 h2 h3 h4
            have hb : (34 : UInt8) ∈ enc r := by rw [e]; simp
            by_cases h : r < 128
            · have := enc_small_byte _ hb h; simp at this; omega
            · have := enc_high (r := r) (by omega) _ hb; simp at this

/-! ### what a quoted text says -/
def hexv (b : UInt8) : Option Nat :=
  if 48 ≤ b.toNat ∧ b.toNat ≤ 57 then some (b.toNat - 48)
  else if 97 ≤ b.toNat ||| 32 ∧ b.toNat ||| 32 ≤ 122 then (if (b.toNat ||| 32) - 87 < 16 then some ((b.toNat ||| 32) - 87) else none)
  else none
def hexFrom (acc : Nat) : List UInt8 → Option Nat
  | [] => some acc
  | b :: t => match hexv b with
    | some d => hexFrom (acc * 16 + d) t
    | none => none
def hexNum (l : List UInt8) : Option Nat := if l = [] then none else hexFrom 0 l
def sgn (l : List UInt8) : Nat := (hexNum (l.take 4)).getD 65533
def meant (l : List UInt8) : Nat :=
  if (decodeL l).1 ≠ 92 ∨ l.length < 2 then (decodeL l).1
  else if l.getD 1 0 = 110 then 10
  else if l.getD 1 0 = 114 then 13
  else if l.getD 1 0 = 117 then sgn (l.drop 2)
  else (l.getD 1 0).toNat

theorem hexv_hexd {n : Nat} (h : n < 16) : hexv (hexd n) = some n := by
  have : ∀ n : Fin 16, hexv (hexd n.val) = some n.val := by decide
  exact this ⟨n, h⟩
theorem hexv_lt {b : UInt8} {d : Nat} (h : hexv b = some d) : d < 16 := by
  unfold hexv at h
  split at h
  · cases h; omega
  · split at h
    · split at h
      · cases h; assumption
      · cases h
    · cases h
theorem hexFrom_lt : ∀ (l : List UInt8) (acc n : Nat), hexFrom acc l = some n → n < (acc + 1) * 16 ^ l.length
  | [], acc, n, h => by simp [hexFrom] at h; simp; omega
  | b :: t, acc, n, h => by
    unfold hexFrom at h
    split at h
    · rename_i d hd
      have := hexFrom_lt t _ _ h
      have hd' := hexv_lt hd
      calc n < (acc * 16 + d + 1) * 16 ^ t.length := this
        _ ≤ ((acc + 1) * 16) * 16 ^ t.length := Nat.mul_le_mul_right _ (by omega)
        _ = (acc + 1) * 16 ^ (b :: t).length := by rw [List.length_cons, Nat.pow_succ, Nat.mul_assoc, Nat.mul_comm 16]
    · cases h
theorem sgn_le (l : List UInt8) : sgn l ≤ 65535 := by
  unfold sgn hexNum
  split
  · simp
  · cases e : hexFrom 0 (l.take 4) with
    | none => simp
    | some n =>
      have := hexFrom_lt _ _ _ e
      have hl : (l.take 4).length ≤ 4 := by simp; omega
      have : 16 ^ (l.take 4).length ≤ 16 ^ 4 := Nat.pow_le_pow_right (by omega) hl
      simp
      omega
theorem meant_le (l : List UInt8) : meant l ≤ 1114111 := by
  have h1 := decodeL_rune l
  have h2 := sgn_le (l.drop 2)
  have h3 := (l.getD 1 0).toNat_lt
  unfold meant
  repeat' split
  all_goals omega

theorem decode_back (t : List UInt8) : decodeL (92 :: t) = (92, 1) := by
  rw [decodeL_N]
  simp [decodeN]
/-- A rune is meant by what is written for it. -/
theorem meant_wr {r : Nat} (h : good r) (t : List UInt8) : meant (wr r ++ t) = r := by
  have hle : r ≤ 1114111 := by unfold good at h; omega
  unfold wr
  split
  · rename_i h1
    rw [enc_one (by omega)]
    rcases h1 with rfl | rfl <;> (simp only [List.cons_append, List.nil_append]; unfold meant; rw [decode_back]; simp)
  · split
    · rename_i h1; subst h1
      simp only [List.cons_append, List.nil_append]; unfold meant; rw [decode_back]; simp
    · split
      · rename_i h1; subst h1
        simp only [List.cons_append, List.nil_append]; unfold meant; rw [decode_back]; simp
      · split
        · rename_i h1
          simp only [List.cons_append, List.nil_append]; unfold meant; rw [decode_back]
          have a1 : r / 16 < 16 := by omega
          have a2 : r % 16 < 16 := by omega
          have hs : sgn (48 :: 48 :: hexd (r / 16) :: hexd (r % 16) :: t) = r := by
            simp [sgn, hexNum, hexFrom, hexv_hexd a1, hexv_hexd a2, show hexv 48 = some 0 by decide]
            omega
          simp [hs]
          omega
        · rename_i h1 h2 h3 h4
          unfold meant
          rw [decode_enc h]
          rw [if_pos (by left; dsimp only; omega)]
/-- What is meant, if it is written so, is a rune. -/
theorem meant_good {l : List UInt8} (hp : wr (meant l) <+: l) : good (meant l) := by
  by_cases hc : (decodeL l).1 ≠ 92 ∨ l.length < 2
  · have : meant l = (decodeL l).1 := by unfold meant; rw [if_pos hc]
    rw [this]
    exact decodeL_good l
  by_cases h1 : meant l < 55296
  · exact .inl h1
  by_cases h2 : 57343 < meant l
  · exact .inr ⟨h2, meant_le l⟩
  exfalso
  have hb : wr (meant l) = [239, 191, 189] := by
    unfold wr
    rw [if_neg (by omega), if_neg (by omega), if_neg (by omega), if_neg (by omega)]
    unfold enc encodeRune
    rw [encodeRuneZ_bad (by omega)]
    rfl
  rw [hb] at hp
  obtain ⟨t, ht⟩ := hp
  have hd : (decodeL l).1 = 92 := by
    by_cases hx : (decodeL l).1 = 92
    · exact hx
    · exact absurd (.inl hx) hc
  rw [← ht] at hd
  rw [decodeL_N] at hd
  simp only [List.cons_append, List.nil_append, List.getD_cons_zero, List.getD_cons_succ] at hd
  unfold decodeN at hd
  simp at hd

/-- The runes of a quoted text behind its first quote, and what is behind its last. -/
def unqN : Nat → List UInt8 → List Nat → Option (List Nat × List UInt8)
  | 0, _, _ => none
  | n + 1, l, acc => if l = [] then none
    else if l.getD 0 0 = 34 then some (acc, l.drop 1)
    else if wr (meant l) <+: l then unqN n (l.drop (wr (meant l)).length) (acc ++ [meant l])
    else none
def unq (l : List UInt8) : Option (List Nat × List UInt8) := if l.getD 0 0 = 34 then unqN l.length (l.drop 1) [] else none

theorem unqN_sound : ∀ (n : Nat) (l : List UInt8) (acc rs : List Nat) (rest : List UInt8), unqN n l acc = some (rs, rest) →
    ∃ new, rs = acc ++ new ∧ (∀ r ∈ new, good r) ∧ l = new.flatMap wr ++ 34 :: rest
  | 0, _, _, _, _, h => by cases h
  | n + 1, l, acc, rs, rest, h => by
    unfold unqN at h
    by_cases h0 : l = []
    · rw [if_pos h0] at h; cases h
    rw [if_neg h0] at h
    by_cases h1 : l.getD 0 0 = 34
    · rw [if_pos h1] at h
      cases h
      refine ⟨[], by simp, by simp, ?_⟩
      cases l with
      | nil => exact absurd rfl h0
      | cons b t => simp at h1; subst h1; simp
    rw [if_neg h1] at h
    by_cases h2 : wr (meant l) <+: l
    · rw [if_pos h2] at h
      obtain ⟨new, e1, e2, e3⟩ := unqN_sound n _ _ _ _ h
      refine ⟨meant l :: new, by rw [e1]; simp, ?_, ?_⟩
      · intro r hr
        rcases List.mem_cons.1 hr with rfl | hr
        · exact meant_good h2
        · exact e2 r hr
      · rw [List.flatMap_cons, List.append_assoc, ← e3]
        obtain ⟨t, ht⟩ := h2
        conv => lhs; rw [← ht]
        congr 1
        have hd := congrArg (List.drop (wr (meant l)).length) ht
        rw [List.drop_left] at hd
        exact hd
    · rw [if_neg h2] at h; cases h
theorem unqN_full : ∀ (rs : List Nat) (n : Nat) (acc : List Nat) (more : List UInt8), rs.length < n → (∀ r ∈ rs, good r) → unqN n (rs.flatMap wr ++ 34 :: more) acc = some (acc ++ rs, more)
  | [], n + 1, acc, more, _, _ => by unfold unqN; simp
  | [], 0, _, _, h, _ => by simp at h
  | r :: rs, 0, _, _, h, _ => by simp at h
  | r :: rs, n + 1, acc, more, hn, hg => by
    have hr := hg r (by simp)
    have hm : meant (wr r ++ (rs.flatMap wr ++ 34 :: more)) = r := meant_wr hr _
    obtain ⟨b, t, e, hb⟩ := wr_head r
    unfold unqN
    rw [List.flatMap_cons, List.append_assoc, if_neg (by simp [wr_ne]), if_neg (by rw [e]; simpa using hb), hm, if_pos (List.prefix_append _ _), List.drop_left,
      unqN_full rs n _ more (by simp at hn; omega) (fun x hx => hg x (by simp [hx]))]
    simp

theorem unq_quote (l more : List UInt8) : unq (quote l ++ more) = some (runes l, more) := by
  have hl : (runes l).length ≤ ((runes l).flatMap wr).length := by
    generalize runes l = rs
    induction rs with
    | nil => simp
    | cons r rs ih =>
      have := List.length_pos_iff.2 (wr_ne r)
      rw [List.flatMap_cons, List.length_append, List.length_cons]
      omega
  unfold unq quote
  rw [if_pos (by simp)]
  simp only [List.cons_append, List.append_assoc, List.drop_succ_cons, List.drop_zero, List.nil_append]
  rw [unqN_full _ _ _ _ (by rw [List.length_cons, List.length_append]; omega) (runes_good l)]
  simp
theorem unq_sound {l : List UInt8} {rs : List Nat} {rest : List UInt8} (h : unq l = some (rs, rest)) : (∀ r ∈ rs, good r) ∧ quote (rs.flatMap enc) ++ rest = l := by
  unfold unq at h
  split at h
  · rename_i h34
    obtain ⟨new, e1, e2, e3⟩ := unqN_sound _ _ _ _ _ h
    simp at e1
    subst e1
    refine ⟨e2, ?_⟩
    unfold quote
    rw [runes_flat _ e2]
    cases l with
    | nil => simp at h34
    | cons b t =>
      simp at h34 e3
      subst h34
      rw [e3]
      simp
  · cases h
end Go.Proofs.YtciogdhapogolaaDoor.JM
