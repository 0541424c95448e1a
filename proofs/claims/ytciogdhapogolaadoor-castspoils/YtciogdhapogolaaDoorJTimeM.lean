/-
  Plain mathematics of layer 3 (json): times come back from what is written, and what is read is what is written. No program, no walk.
-/
import Derived.Test.YtciogdhapogolaaDoorJNumM
namespace Go.Proofs.YtciogdhapogolaaDoor.JM
open Go.Lib

theorem dec_small {u : Nat} (h : u < 10) : decDigits u = [UInt8.ofNat (48 + u)] := decDigits_one h
theorem dec_big {u : Nat} (h : ¬ u < 10) : decDigits u = decDigits (u / 10) ++ [UInt8.ofNat (48 + u % 10)] := by
  rw [decDigits, dif_neg h]
theorem digit_byte {d : Nat} (h : d < 10) : (UInt8.ofNat (48 + d)).toNat = 48 + d := by simp; omega
theorem dec_all (u : Nat) : ∀ b ∈ decDigits u, isD b = true := by
  induction u using Nat.strongRecOn with
  | ind u ih =>
    by_cases h : u < 10
    · rw [dec_small h]
      intro b hb
      simp only [List.mem_singleton] at hb
      rw [hb, isD_iff, digit_byte h]
      omega
    · rw [dec_big h]
      intro b hb
      rcases List.mem_append.1 hb with hb | hb
      · exact ih (u / 10) (by omega) b hb
      · simp only [List.mem_singleton] at hb
        rw [hb, isD_iff, digit_byte (by omega)]
        omega
theorem dec_vl (u : Nat) : vl 0 (decDigits u) = u := by
  induction u using Nat.strongRecOn with
  | ind u ih =>
    by_cases h : u < 10
    · rw [dec_small h, vl_cons, vl_nil, digit_byte h]; omega
    · rw [dec_big h, vl_snoc, ih (u / 10) (by omega), digit_byte (by omega)]; omega
theorem dec_ne (u : Nat) : decDigits u ≠ [] := by
  by_cases h : u < 10
  · rw [dec_small h]; simp
  · rw [dec_big h]; simp
theorem dec_head (u : Nat) (h : ¬ u < 10) : (decDigits u).getD 0 0 ≠ 48 := by
  induction u using Nat.strongRecOn with
  | ind u ih =>
    rw [dec_big h]
    have hne := dec_ne (u / 10)
    have e : (decDigits (u / 10) ++ [UInt8.ofNat (48 + u % 10)]).getD 0 0 = (decDigits (u / 10)).getD 0 0 := by
      cases hd : decDigits (u / 10) with
      | nil => exact absurd hd hne
      | cons b t => rfl
    rw [e]
    by_cases h2 : u / 10 < 10
    · rw [dec_small h2]
      intro c
      have := congrArg UInt8.toNat c
      have e2 : ([UInt8.ofNat (48 + u / 10)] : List UInt8).getD 0 0 = UInt8.ofNat (48 + u / 10) := rfl
      rw [e2, digit_byte h2] at this
      have e3 : (48 : UInt8).toNat = 48 := rfl
      omega
    · exact ih (u / 10) (by omega) h2
/-- Digits without a needless nought are those of their number. -/
theorem dec_of (n : Nat) : ∀ l : List UInt8, l.length = n → l ≠ [] → (∀ b ∈ l, isD b = true) → (l.length = 1 ∨ l.getD 0 0 ≠ 48) → decDigits (vl 0 l) = l := by
  induction n with
  | zero => intro l hl hne; exact absurd (List.length_eq_zero_iff.1 hl) hne
  | succ n ih =>
    intro l hl hne hd hh
    rcases List.eq_nil_or_concat l with rfl | ⟨a, b, rfl⟩
    · exact absurd rfl hne
    · rw [List.concat_eq_append] at *
      have hb := (isD_iff b).1 (hd b (by simp))
      have hbb : UInt8.ofNat (48 + (b.toNat - 48)) = b := by
        apply UInt8.toNat_inj.1
        rw [digit_byte (by omega)]
        omega
      rw [vl_snoc]
      by_cases ha : a = []
      · subst ha
        rw [vl_nil, dec_small (by omega), show (0 * 10 + (b.toNat - 48)) = b.toNat - 48 by omega, hbb]
        rfl
      · have hl1 : 0 < a.length := List.length_pos_iff.2 ha
        have hh2 : (a ++ [b]).getD 0 0 ≠ 48 := by
          rcases hh with h | h
          · rw [List.length_append, List.length_singleton] at h; omega
          · exact h
        have e : (a ++ [b]).getD 0 0 = a.getD 0 0 := by
          cases a with
          | nil => exact absurd rfl ha
          | cons x t => rfl
        rw [e] at hh2
        have hda : ∀ x ∈ a, isD x = true := fun x hx => hd x (by simp [hx])
        have ih1 := ih a (by rw [List.length_append, List.length_singleton] at hl; omega) ha hda (.inr hh2)
        have hv : 1 ≤ vl 0 a := by
          cases a with
          | nil => exact absurd rfl ha
          | cons x t =>
            have hx := (isD_iff x).1 (hda x (by simp))
            have hx2 : x.toNat ≠ 48 := fun c => hh2 (by apply UInt8.toNat_inj.1; exact c)
            have := vl_ge t (0 * 10 + (x.toNat - 48))
            rw [vl_cons]
            omega
        rw [dec_big (by omega), show (vl 0 a * 10 + (b.toNat - 48)) / 10 = vl 0 a by omega, show (vl 0 a * 10 + (b.toNat - 48)) % 10 = b.toNat - 48 by omega, ih1, hbb]
theorem vl_shift (l : List UInt8) : ∀ acc : Nat, vl acc l = acc * 10 ^ l.length + vl 0 l := by
  induction l with
  | nil => intro acc; rw [vl_nil, vl_nil]; simp
  | cons b t ih =>
    intro acc
    rw [vl_cons, vl_cons, ih, ih (0 * 10 + (b.toNat - 48)), List.length_cons, Nat.pow_succ, Nat.add_mul, Nat.zero_mul, Nat.zero_add, Nat.mul_assoc, Nat.mul_comm 10, Nat.add_assoc]
theorem vl_lt (l : List UInt8) (hd : ∀ b ∈ l, isD b = true) : vl 0 l < 10 ^ l.length := by
  induction l with
  | nil => rw [vl_nil]; simp
  | cons b t ih =>
    have hb := (isD_iff b).1 (hd b (by simp))
    have h1 := ih (fun x hx => hd x (by simp [hx]))
    rw [vl_cons, vl_shift, List.length_cons, Nat.pow_succ]
    have : (0 * 10 + (b.toNat - 48)) * 10 ^ t.length ≤ 9 * 10 ^ t.length := Nat.mul_le_mul_right _ (by omega)
    omega

/-- A number of millionths as seconds. -/
def timeL (n : Nat) : List UInt8 := decDigits (n / 1000000) ++ [46] ++ (decDigits (1000000 + n % 1000000)).drop 1
/-- The time that bytes begin with, and what is behind it. -/
def utm (l : List UInt8) : Option (Nat × List UInt8) :=
  match num l with
  | none => none
  | some (q, r) => if 4611686018427 < q then none else if r.getD 0 0 ≠ 46 then none else if nd (r.drop 1) < 6 then none else some (q * 1000000 + vl 0 ((r.drop 1).take 6), (r.drop 1).drop 6)

theorem nd_append {a : List UInt8} (ha : ∀ b ∈ a, isD b = true) (c : UInt8) (t : List UInt8) (hc : isD c = false) : nd (a ++ c :: t) = a.length := by
  refine nd_eq (by simp) (fun j hj => ?_) (fun _ => ?_)
  · have e : (a ++ c :: t).getD j 0 = a[j] := by rw [List.getD_eq_getElem?_getD, List.getElem?_append_left hj, List.getElem?_eq_getElem hj]; rfl
    rw [e]
    exact ha _ (List.getElem_mem hj)
  · have e : (a ++ c :: t).getD a.length 0 = c := by rw [List.getD_eq_getElem?_getD, List.getElem?_append_right (Nat.le_refl _)]; simp
    rw [e, hc]
theorem nd_ge {a : List UInt8} (ha : ∀ b ∈ a, isD b = true) (t : List UInt8) : a.length ≤ nd (a ++ t) := by
  induction a with
  | nil => simp
  | cons b a ih =>
    rw [List.cons_append, nd_cons, if_pos (ha b (by simp))]
    have := ih (fun x hx => ha x (by simp [hx]))
    simp
    omega
theorem six (r : Nat) (h : r < 1000000) : ((decDigits (1000000 + r)).drop 1).length = 6 ∧ (∀ b ∈ (decDigits (1000000 + r)).drop 1, isD b = true) ∧ vl 0 ((decDigits (1000000 + r)).drop 1) = r := by
  have hl : (decDigits (1000000 + r)).length = 7 := by rw [decDigits_length]; exact nDigits_unique 6 _ (by omega) (by omega)
  have hv := dec_vl (1000000 + r)
  have hall := dec_all (1000000 + r)
  generalize decDigits (1000000 + r) = l at *
  cases l with
  | nil => simp at hl
  | cons b t =>
    have ht : t.length = 6 := by simpa using hl
    have hdt : ∀ x ∈ t, isD x = true := fun x hx => hall x (by simp [hx])
    have hlt := vl_lt t hdt
    rw [vl_cons, vl_shift, ht] at hv
    rw [ht] at hlt
    refine ⟨by simpa using ht, by simpa using hdt, ?_⟩
    show vl 0 t = r
    omega
theorem utm_time (m : Nat) (hm : m < 4611686018427387904) (more : List UInt8) : utm (timeL m ++ more) = some (m, more) := by
  obtain ⟨s1, s2, s3⟩ := six (m % 1000000) (by omega)
  have hq : m / 1000000 ≤ 4611686018427 := by omega
  unfold timeL
  generalize hS : (decDigits (1000000 + m % 1000000)).drop 1 = S at *
  have hQ := dec_all (m / 1000000)
  have hv := dec_vl (m / 1000000)
  have hne := dec_ne (m / 1000000)
  have hhd := dec_head (m / 1000000)
  have hsm : m / 1000000 < 10 → (decDigits (m / 1000000)).length = 1 := fun h => by rw [dec_small h]; rfl
  generalize hD : decDigits (m / 1000000) = D at *
  have hl1 : 0 < D.length := List.length_pos_iff.2 hne
  have e0 : D ++ [46] ++ S ++ more = D ++ 46 :: (S ++ more) := by simp
  rw [e0]
  have hnd := nd_append hQ 46 (S ++ more) (by decide)
  have hnum : num (D ++ 46 :: (S ++ more)) = some (m / 1000000, 46 :: (S ++ more)) := by
    have hno : ¬ (1 < D.length ∧ (D ++ 46 :: (S ++ more)).getD 0 0 = 48) := by
      rintro ⟨h1, h2⟩
      by_cases h3 : m / 1000000 < 10
      · have := hsm h3; omega
      · refine hhd h3 ?_
        rw [← h2]
        cases D with
        | nil => exact absurd rfl hne
        | cons x t => rfl
    unfold num
    rw [hnd, if_neg (by omega), if_neg hno, List.take_left' rfl, List.drop_left' rfl, hv, if_pos (by omega)]
  unfold utm
  rw [hnum]
  simp only
  have hge := nd_ge s2 more
  rw [if_neg (by omega), if_neg (by simp), List.drop_succ_cons, List.drop_zero, if_neg (by omega), List.take_left' s1, List.drop_left' s1, s3]
  congr 2
  omega
theorem num_back {l : List UInt8} {q : Nat} {r : List UInt8} (h : num l = some (q, r)) : decDigits q ++ r = l := by
  unfold num at h
  split at h
  · cases h
  · rename_i h0
    split at h
    · cases h
    · rename_i h1
      split at h
      · injection h with h
        obtain ⟨rfl, rfl⟩ := Prod.mk.inj h
        have hle := nd_le l
        have hlen : (l.take (nd l)).length = nd l := by rw [List.length_take]; omega
        have hne : l.take (nd l) ≠ [] := fun e => by rw [e, List.length_nil] at hlen; omega
        rw [dec_of _ (l.take (nd l)) rfl hne nd_take_all, List.take_append_drop]
        by_cases h3 : nd l = 1
        · left; rw [hlen, h3]
        · right
          have e : (l.take (nd l)).getD 0 0 = l.getD 0 0 := by rw [List.getD_eq_getElem?_getD, List.getElem?_take, if_pos (by omega), ← List.getD_eq_getElem?_getD]
          rw [e]
          exact fun c => h1 ⟨by omega, c⟩
      · cases h
theorem utm_back {l : List UInt8} {n : Nat} {r : List UInt8} (h : utm l = some (n, r)) : timeL n ++ r = l ∧ n < 9223372036854775808 := by
  unfold utm at h
  split at h
  · cases h
  · rename_i q r0 hnum
    split at h
    · cases h
    · rename_i h1
      split at h
      · cases h
      · rename_i h2
        split at h
        · cases h
        · rename_i h3
          injection h with h
          obtain ⟨rfl, rfl⟩ := Prod.mk.inj h
          have h2' : r0.getD 0 0 = 46 := Classical.not_not.1 h2
          cases r0 with
          | nil => simp at h2'
          | cons c t =>
            obtain rfl : c = 46 := by simpa using h2'
            rw [List.drop_succ_cons, List.drop_zero] at *
            have hle := nd_le t
            have h6l : (t.take 6).length = 6 := by rw [List.length_take]; omega
            have h6d : ∀ b ∈ t.take 6, isD b = true := fun b hb => by
              refine nd_take_all (l := t) b ?_
              have : t.take 6 = (t.take (nd t)).take 6 := by rw [List.take_take, Nat.min_eq_left (by omega)]
              rw [this] at hb
              exact List.mem_of_mem_take hb
            have hv6 := vl_lt _ h6d
            rw [h6l] at hv6
            have hx : decDigits (1000000 + vl 0 (t.take 6)) = 49 :: t.take 6 := by
              have hd := dec_of _ (49 :: t.take 6) rfl (by simp) (fun b hb => by
                rcases List.mem_cons.1 hb with rfl | hb
                · decide
                · exact h6d b hb) (.inr (by show (49 : UInt8) ≠ 48; decide))
              rw [vl_cons, vl_shift, h6l] at hd
              have e : ((0 * 10 + ((49 : UInt8).toNat - 48)) * 10 ^ 6 + vl 0 (t.take 6)) = 1000000 + vl 0 (t.take 6) := by
                have : (49 : UInt8).toNat = 49 := rfl
                rw [this]
              rwa [e] at hd
            refine ⟨?_, by omega⟩
            unfold timeL
            rw [show (q * 1000000 + vl 0 (t.take 6)) / 1000000 = q by omega, show (q * 1000000 + vl 0 (t.take 6)) % 1000000 = vl 0 (t.take 6) by omega, hx]
            have hb := num_back hnum
            rw [← hb]
            simp
/-- Where no time is told, and up to twelve digits, a point and six digits would be one. -/
theorem utm_none {l : List UInt8} (h : utm l = none) (h0 : nd l ≠ 0) (h12 : nd l ≤ 12) (h1 : ¬ (1 < nd l ∧ l.getD 0 0 = 48)) (hp : l.getD (nd l) 0 = 46) (h6 : ∀ i, i < 6 → isD (l.getD (nd l + 1 + i) 0) = true) : False := by
  have hlt := vl_lt (l.take (nd l)) nd_take_all
  have hle := nd_le l
  rw [List.length_take, Nat.min_eq_left hle] at hlt
  have hpow : 10 ^ nd l ≤ 10 ^ 12 := Nat.pow_le_pow_right (by omega) h12
  unfold utm num at h
  rw [if_neg h0, if_neg h1, if_pos (by omega)] at h
  simp only at h
  have e1 : (l.drop (nd l)).getD 0 0 = l.getD (nd l) 0 := by rw [List.getD_eq_getElem?_getD, List.getElem?_drop, ← List.getD_eq_getElem?_getD]; rfl
  rw [if_neg (by omega), if_neg (by rw [e1, hp]; simp), List.drop_drop] at h
  have h6' : ∀ i, i < 6 → isD ((l.drop (nd l + 1)).getD i 0) = true := fun i hi => by
    have := h6 i hi
    rw [List.getD_eq_getElem?_getD] at this ⊢
    rwa [List.getElem?_drop]
  have hz : isD 0 = false := by decide
  have hge : 6 ≤ nd (l.drop (nd l + 1)) := by
    by_cases hc : 6 ≤ nd (l.drop (nd l + 1))
    · exact hc
    · exfalso
      have hlt6 : nd (l.drop (nd l + 1)) < 6 := by omega
      have hd := h6' _ hlt6
      by_cases hlen : nd (l.drop (nd l + 1)) < (l.drop (nd l + 1)).length
      · rw [nd_out _ hlen] at hd; cases hd
      · rw [List.getD_eq_getElem?_getD, List.getElem?_eq_none (by omega)] at hd
        rw [Option.getD_none, hz] at hd
        cases hd
  rw [if_neg (by omega)] at h
  cases h
end Go.Proofs.YtciogdhapogolaaDoor.JM
