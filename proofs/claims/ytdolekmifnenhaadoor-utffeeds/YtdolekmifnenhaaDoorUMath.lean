/-
  Plain mathematics of layer 5 (utf): when bytes are whole or wrong, what is told of them byte by byte, and that this is what the language tells of all. No program, no walk.
-/
import Derived.Test.YtdolekmifnenhaaDoorJMath
import Derived.Lib.DecodeNEq
namespace Go.Proofs.YtdolekmifnenhaaDoor.UM
open Go.Lib JM

theorem firstT_nine (b : Nat) : firstT b = 240 ∨ firstT b = 241 ∨ firstT b = 2 ∨ firstT b = 19 ∨ firstT b = 3 ∨ firstT b = 35 ∨ firstT b = 52 ∨ firstT b = 4 ∨ firstT b = 68 := by
  unfold firstT
  repeat' split
  all_goals simp

/-- Are n bytes, of which these are the first three, whole or wrong? -/
def fullN (n b0 b1 b2 : Nat) : Bool :=
  decide (0 < n) && (decide (firstT b0 % 8 ≤ n) || (decide (1 < n) && (decide (b1 < accLo (firstT b0 / 16)) || decide (accHi (firstT b0 / 16) < b1))) || (decide (2 < n) && (decide (b2 < 128) || decide (191 < b2))))
def full (l : List UInt8) : Bool := fullN l.length (l.getD 0 0).toNat (l.getD 1 0).toNat (l.getD 2 0).toNat
theorem full_nil : full [] = false := rfl

theorem slow_A (n m b0 b1 b2 b3 c1 c2 c3 sz lo hi : Nat) (g0 : 2 ≤ sz) (g1 : sz ≤ 4) (g : sz ≤ n) (e1 : 1 < n → c1 = b1) (e2 : 2 < n → c2 = b2) (e3 : 3 < n → c3 = b3) : slowN (n + m) b0 c1 c2 c3 sz lo hi = slowN n b0 b1 b2 b3 sz lo hi := by
  unfold slowN
  rw [if_neg (show ¬ n + m < sz by omega), if_neg (show ¬ n < sz by omega), e1 (by omega)]
  by_cases k1 : b1 < lo ∨ hi < b1
  · rw [if_pos k1, if_pos k1]
  rw [if_neg k1, if_neg k1]
  by_cases k2 : sz ≤ 2
  · rw [if_pos k2, if_pos k2]
  rw [if_neg k2, if_neg k2, e2 (by omega)]
  by_cases k3 : b2 < 128 ∨ 191 < b2
  · rw [if_pos k3, if_pos k3]
  rw [if_neg k3, if_neg k3]
  by_cases k4 : sz ≤ 3
  · rw [if_pos k4, if_pos k4]
  rw [if_neg k4, if_neg k4, e3 (by omega)]
theorem slow_B (n b0 b1 b2 b3 sz lo hi : Nat) (h : b1 < lo ∨ hi < b1) : slowN n b0 b1 b2 b3 sz lo hi = (65533, 1) := by
  unfold slowN
  by_cases k : n < sz
  · rw [if_pos k]
  · rw [if_neg k, if_pos h]
theorem slow_C (n b0 b1 b2 b3 sz lo hi : Nat) (g : 3 ≤ sz) (h : b2 < 128 ∨ 191 < b2) : slowN n b0 b1 b2 b3 sz lo hi = (65533, 1) := by
  unfold slowN
  by_cases k : n < sz
  · rw [if_pos k]
  by_cases k1 : b1 < lo ∨ hi < b1
  · rw [if_neg k, if_pos k1]
  · rw [if_neg k, if_neg k1, if_neg (show ¬ sz ≤ 2 by omega), if_pos h]
theorem firstT_size {b : Nat} (h : firstT b < 240) : 2 ≤ firstT b % 8 ∧ firstT b % 8 ≤ 4 := by
  rcases firstT_nine b with hX | hX | hX | hX | hX | hX | hX | hX | hX
  all_goals (rw [hX] at h ⊢; omega)
/-- What is whole, or wrong, is told as it is, whatever comes behind it. -/
theorem decN_more (n m b0 b1 b2 b3 c1 c2 c3 : Nat) (h : fullN n b0 b1 b2 = true) (h0 : b0 < 256) (h1 : b1 < 256) (h2 : b2 < 256) (h3 : b3 < 256) (k1 : c1 < 256) (k2 : c2 < 256) (k3 : c3 < 256) (e1 : 1 < n → c1 = b1) (e2 : 2 < n → c2 = b2) (e3 : 3 < n → c3 = b3) :
    decodeN (n + m) b0 c1 c2 c3 = decodeN n b0 b1 b2 b3 := by
  unfold fullN at h
  simp only [Bool.and_eq_true, Bool.or_eq_true, decide_eq_true_eq] at h
  obtain ⟨hn, h⟩ := h
  by_cases hX : firstT b0 = 240
  · rw [ascii_eq _ _ _ _ _ hX, ascii_eq _ _ _ _ _ hX]
  by_cases hY : firstT b0 = 241
  · rw [bad_eq _ _ _ _ _ h0 hY, bad_eq _ _ _ _ _ h0 hY]
  have hlow : firstT b0 < 240 := by rcases firstT_nine b0 with e | e | e | e | e | e | e | e | e <;> omega
  have hsz := firstT_size hlow
  rw [← slow_eq n b0 b1 b2 b3 hn h1 h2 h3 hlow, ← slow_eq (n + m) b0 c1 c2 c3 (by omega) k1 k2 k3 hlow]
  rcases h with (h | ⟨g, h⟩) | ⟨g, h⟩
  · exact slow_A _ _ _ _ _ _ _ _ _ _ _ _ hsz.1 hsz.2 h e1 e2 e3
  · rw [e1 g, slow_B _ _ _ _ _ _ _ _ h, slow_B _ _ _ _ _ _ _ _ h]
  · by_cases hs : firstT b0 % 8 ≤ n
    · exact slow_A _ _ _ _ _ _ _ _ _ _ _ _ hsz.1 hsz.2 hs e1 e2 e3
    · rw [e2 g, slow_C _ _ _ _ _ _ _ _ (by omega) h, slow_C _ _ _ _ _ _ _ _ (by omega) h]

theorem getD_app {l t : List UInt8} {i : Nat} (h : i < l.length) : (l ++ t).getD i 0 = l.getD i 0 := by simp [List.getD, List.getElem?_append_left h]
theorem decode_more {l : List UInt8} (h : full l = true) (t : List UInt8) : decodeL (l ++ t) = decodeL l := by
  have hl : 0 < l.length := by
    rcases l with _ | ⟨a, l⟩
    · exact absurd h (by decide)
    · simp
  rw [decodeL_N, decodeL_N, List.length_append, getD_app hl]
  exact decN_more _ _ _ _ _ _ _ _ _ h (UInt8.toNat_lt _) (UInt8.toNat_lt _) (UInt8.toNat_lt _) (UInt8.toNat_lt _) (UInt8.toNat_lt _) (UInt8.toNat_lt _) (UInt8.toNat_lt _) (fun g => by rw [getD_app g]) (fun g => by rw [getD_app g]) (fun g => by rw [getD_app g])

/-- Bytes that begin a rune which isn't whole. -/
theorem notfull {n b0 b1 b2 : Nat} (h : fullN n b0 b1 b2 = false) (hn : 0 < n) (h0 : b0 < 256) : n ≤ 3 ∧ 194 ≤ b0 ∧ (1 < n → 128 ≤ b1 ∧ b1 ≤ 191) ∧ (2 < n → 128 ≤ b2 ∧ b2 ≤ 191) ∧ n < firstT b0 % 8 ∧ firstT b0 < 240 := by
  unfold fullN at h
  simp only [Bool.and_eq_false_iff, Bool.or_eq_false_iff, decide_eq_false_iff_not] at h
  rcases h with h | ⟨⟨ha, hb⟩, hc⟩
  · omega
  have hb0 : 194 ≤ b0 := by
    rcases Nat.lt_or_ge b0 194 with g | g
    · exfalso
      have : firstT b0 % 8 ≤ 1 := by unfold firstT; split <;> simp [*]
      omega
    · exact g
  rcases firstT_nine b0 with hX | hX | hX | hX | hX | hX | hX | hX | hX
  all_goals
    rw [hX] at ha hb ⊢
    simp only [accLo, accHi, Nat.reduceEqDiff, if_true, if_false, Nat.reduceMod, Nat.reduceDiv] at ha hb ⊢
    omega
theorem full_long {l : List UInt8} (h : full l = false) : l.length ≤ 3 := by
  rcases Nat.eq_zero_or_pos l.length with h0 | h0
  · omega
  · exact (notfull h h0 (UInt8.toNat_lt _)).1

theorem bad_of {n b0 b1 b2 b3 : Nat} (h : fullN n b0 b1 b2 = false) (hn : 0 < n) (h0 : b0 < 256) (h1 : b1 < 256) (h2 : b2 < 256) (h3 : b3 < 256) : decodeN n b0 b1 b2 b3 = (65533, 1) := by
  have k := notfull h hn h0
  rw [← slow_eq n b0 b1 b2 b3 hn h1 h2 h3 k.2.2.2.2.2]
  unfold slowN
  rw [if_pos k.2.2.2.2.1]
theorem bad_go {l : List UInt8} (h : full l = false) (hl : l ≠ []) : decodeL l = (65533, 1) := by
  rw [decodeL_N]
  exact bad_of h (List.length_pos_iff.2 hl) (UInt8.toNat_lt _) (UInt8.toNat_lt _) (UInt8.toNat_lt _) (UInt8.toNat_lt _)
/-- Bytes that go on, and nothing under way: each is wrong. -/
theorem goes_bad {b : UInt8} {t : List UInt8} (h : 128 ≤ b.toNat) (h' : b.toNat ≤ 191) : decodeL (b :: t) = (65533, 1) := by
  rw [decodeL_N]
  refine bad_eq _ _ _ _ _ (UInt8.toNat_lt _) ?_
  show firstT b.toNat = 241
  unfold firstT
  rw [if_neg (by omega), if_pos (by omega)]
theorem runes_goes : ∀ (l : List UInt8), (∀ b ∈ l, 128 ≤ b.toNat ∧ b.toNat ≤ 191) → runes l = List.replicate l.length 65533
  | [], _ => rfl
  | b :: t, h => by
    have hb := h b (by simp)
    rw [runes_step (by simp), goes_bad hb.1 hb.2]
    show 65533 :: runes t = _
    rw [runes_goes t fun x hx => h x (by simp [hx])]
    rfl
theorem runes_under {l : List UInt8} (h : full l = false) : runes l = List.replicate l.length 65533 := by
  rcases l with _ | ⟨a, t⟩
  · rfl
  have k := notfull h (by simp) (UInt8.toNat_lt _)
  rw [runes_step (by simp), bad_go h (by simp)]
  show 65533 :: runes t = _
  rw [runes_goes t ?_]
  · rfl
  intro b hb
  obtain ⟨k1, -, k2, k3, -⟩ := k
  rcases t with _ | ⟨x, _ | ⟨y, _ | ⟨z, t⟩⟩⟩
  · simp at hb
  · obtain rfl : b = x := by simpa using hb
    exact k2 (by simp)
  · rcases (by simpa using hb : b = x ∨ b = y) with rfl | rfl
    · exact k2 (by simp)
    · exact k3 (by simp)
  · simp at k1

theorem width_pos {l : List UInt8} : 1 ≤ (decodeL l).2 := by
  rw [decodeL_N]
  rcases decodeN_shape l.length (l.getD 0 0).toNat (l.getD 1 0).toNat (l.getD 2 0).toNat (l.getD 3 0).toNat with ⟨c, e⟩ | ⟨c1, c2, c3, cv, e⟩ | ⟨c1, c2, c3, c4, cv, cs, e⟩ | ⟨c1, c2, c3, c4, c5, cv, cw, e⟩ | e
  all_goals (rw [e]; simp)
theorem width_le {l : List UInt8} (h : l ≠ []) : (decodeL l).2 ≤ l.length := by
  have hl : 0 < l.length := List.length_pos_iff.2 h
  rw [decodeL_N]
  rcases decodeN_shape l.length (l.getD 0 0).toNat (l.getD 1 0).toNat (l.getD 2 0).toNat (l.getD 3 0).toNat with ⟨c, e⟩ | ⟨c1, c2, c3, cv, e⟩ | ⟨c1, c2, c3, c4, cv, cs, e⟩ | ⟨c1, c2, c3, c4, c5, cv, cw, e⟩ | e
  all_goals (rw [e]; simp; omega)

/-! ### what is told, byte by byte -/
def eatN : Nat → List UInt8 → List Nat × List UInt8
  | 0, l => ([], l)
  | n + 1, l => if full l = true then ((decodeL l).1 :: (eatN n (l.drop (decodeL l).2)).1, (eatN n (l.drop (decodeL l).2)).2) else ([], l)
/-- What some bytes tell, and which are left under way. -/
def eat (l : List UInt8) : List Nat × List UInt8 := eatN l.length l

theorem eatN_more : ∀ (n m : Nat) (l : List UInt8), l.length ≤ n → l.length ≤ m → eatN n l = eatN m l
  | 0, m, l, h, _ => by
    obtain rfl : l = [] := List.length_eq_zero_iff.1 (by omega)
    cases m
    · rfl
    · simp [eatN, full_nil]
  | n + 1, 0, l, _, h => by
    obtain rfl : l = [] := List.length_eq_zero_iff.1 (by omega)
    simp [eatN, full_nil]
  | n + 1, m + 1, l, hn, hm => by
    unfold eatN
    by_cases hf : full l = true
    · rw [if_pos hf, if_pos hf]
      have hw := width_pos (l := l)
      have hl : 0 < l.length := by
        rcases l with _ | ⟨a, l⟩
        · exact absurd hf (by decide)
        · simp
      rw [eatN_more n m (l.drop (decodeL l).2) (by simp; omega) (by simp; omega)]
    · rw [if_neg hf, if_neg hf]
theorem eat_step {l : List UInt8} (h : full l = true) : eat l = ((decodeL l).1 :: (eat (l.drop (decodeL l).2)).1, (eat (l.drop (decodeL l).2)).2) := by
  have hl : 0 < l.length := by
    rcases l with _ | ⟨a, l⟩
    · exact absurd h (by decide)
    · simp
  have hw := width_pos (l := l)
  have e : eat (l.drop (decodeL l).2) = eatN (l.length - 1) (l.drop (decodeL l).2) := eatN_more _ _ _ (Nat.le_refl _) (by simp; omega)
  rw [e]
  unfold eat
  obtain ⟨n, hn⟩ : ∃ n, l.length = n + 1 := ⟨l.length - 1, by omega⟩
  rw [hn]
  conv => lhs; unfold eatN
  rw [if_pos h]
  rfl
theorem eat_end {l : List UInt8} (h : full l = false) : eat l = ([], l) := by
  unfold eat
  rcases l.length with _ | n
  · rfl
  · unfold eatN
    rw [if_neg (by rw [h]; simp)]

/-- One induction for all: by what is left. -/
theorem eat_ind {C : List UInt8 → Prop} (step : ∀ l, full l = true → C (l.drop (decodeL l).2) → C l) (last : ∀ l, full l = false → C l) (l : List UInt8) : C l := by
  generalize hn : l.length = n
  induction n using Nat.strongRecOn generalizing l with
  | ind n ih =>
    rcases hf : full l with _ | _
    · exact last l hf
    · refine step l hf (ih (l.drop (decodeL l).2).length ?_ _ rfl)
      have hl : 0 < l.length := by
        rcases l with _ | ⟨a, l⟩
        · exact absurd hf (by decide)
        · simp
      have := width_pos (l := l)
      simp; omega
theorem full_ne {l : List UInt8} (h : full l = true) : l ≠ [] := fun e => by rw [e] at h; exact absurd h (by decide)

theorem eat_left (l : List UInt8) : full (eat l).2 = false :=
  eat_ind (C := fun l => full (eat l).2 = false) (fun l h ih => by rw [eat_step h]; exact ih) (fun l h => by rw [eat_end h]; exact h) l
theorem eat_runes (l : List UInt8) : ∀ t, runes (l ++ t) = (eat l).1 ++ runes ((eat l).2 ++ t) :=
  eat_ind (C := fun l => ∀ t, runes (l ++ t) = (eat l).1 ++ runes ((eat l).2 ++ t)) (fun l h ih t => by
    have hne : l ++ t ≠ [] := fun e => full_ne h (List.append_eq_nil_iff.1 e).1
    rw [eat_step h, runes_step hne, decode_more h, List.drop_append_of_le_length (width_le (full_ne h)), ih t]
    rfl) (fun l h t => by rw [eat_end h]; rfl) l
theorem eat_back (l : List UInt8) : ∃ p, l = p ++ (eat l).2 :=
  eat_ind (C := fun l => ∃ p, l = p ++ (eat l).2) (fun l h ih => by
    obtain ⟨p, hp⟩ := ih
    refine ⟨l.take (decodeL l).2 ++ p, ?_⟩
    rw [eat_step h]
    show l = (l.take (decodeL l).2 ++ p) ++ (eat (l.drop (decodeL l).2)).2
    rw [List.append_assoc, ← hp, List.take_append_drop]) (fun l h => ⟨[], by rw [eat_end h]; rfl⟩) l
theorem eat_good (l : List UInt8) : ∀ r ∈ (eat l).1, good r :=
  eat_ind (C := fun l => ∀ r ∈ (eat l).1, good r) (fun l h ih r hr => by
    rw [eat_step h] at hr
    rcases List.mem_cons.1 hr with rfl | hr
    · exact decodeL_good l
    · exact ih r hr) (fun l h r hr => by rw [eat_end h] at hr; cases hr) l
theorem eat_count (l : List UInt8) : (eat l).1.length + (eat l).2.length ≤ l.length :=
  eat_ind (C := fun l => (eat l).1.length + (eat l).2.length ≤ l.length) (fun l h ih => by
    rw [eat_step h]
    have h1 := width_pos (l := l); have h2 := width_le (full_ne h)
    simp only [List.length_drop] at ih
    simp only [List.length_cons]
    omega) (fun l h => by rw [eat_end h]; simp) l

/-- A byte below 128 ends what is under way: it is told last, and nothing is left. -/
theorem dropN_last {l : List UInt8} {c : UInt8} (hc : c.toNat < 128) (hne : l ≠ []) : (decodeL (l ++ [c])).2 ≤ l.length := by
  have hl : 0 < l.length := List.length_pos_iff.2 hne
  have hg : (l ++ [c]).getD l.length 0 = c := by simp [List.getD]
  have hw := width_le (l := l ++ [c]) (by simp)
  rw [decodeL_N] at hw ⊢
  rw [List.length_append, List.length_singleton] at hw ⊢
  rcases decodeN_shape (l.length + 1) ((l ++ [c]).getD 0 0).toNat ((l ++ [c]).getD 1 0).toNat ((l ++ [c]).getD 2 0).toNat ((l ++ [c]).getD 3 0).toNat with ⟨g, e⟩ | ⟨c1, c2, c3, cv, e⟩ | ⟨c1, c2, c3, c4, cv, cs, e⟩ | ⟨c1, c2, c3, c4, c5, cv, cw, e⟩ | e
  all_goals rw [e] at hw ⊢
  · exact hl
  · show 2 ≤ l.length
    rcases Nat.lt_or_ge l.length 2 with h | h
    · have : l.length = 1 := by omega
      rw [this] at hg; rw [hg] at c3; omega
    · exact h
  · show 3 ≤ l.length
    rcases Nat.lt_or_ge l.length 3 with h | h
    · have : l.length = 2 := by omega
      rw [this] at hg; rw [hg] at c4; omega
    · exact h
  · show 4 ≤ l.length
    rcases Nat.lt_or_ge l.length 4 with h | h
    · have : l.length = 3 := by omega
      rw [this] at hg; rw [hg] at c5; omega
    · exact h
  · exact hl
theorem full_last {l : List UInt8} {c : UInt8} (hc : c.toNat < 128) : full (l ++ [c]) = true := by
  rcases hf : full (l ++ [c]) with _ | _
  · exfalso
    have hg : (l ++ [c]).getD l.length 0 = c := by simp [List.getD]
    obtain ⟨k1, k0, k2, k3, -⟩ := notfull hf (by simp) (UInt8.toNat_lt _)
    rw [List.length_append, List.length_singleton] at k1 k2 k3
    rcases (by omega : l.length = 0 ∨ l.length = 1 ∨ l.length = 2) with h | h | h
    · rw [h] at hg; rw [hg] at k0; omega
    · rw [h] at hg; rw [hg] at k2; have := k2 (by omega); omega
    · rw [h] at hg; rw [hg] at k3; have := k3 (by omega); omega
  · rfl
theorem eat_last {l : List UInt8} {c : UInt8} (hc : c.toNat < 128) : ∃ rs, eat (l ++ [c]) = (rs ++ [c.toNat], []) := by
  generalize hn : l.length = n
  induction n using Nat.strongRecOn generalizing l with
  | ind n ih =>
    rw [eat_step (full_last hc)]
    rcases l with _ | ⟨a, l⟩
    · have hd : decodeL ([] ++ [c]) = (c.toNat, 1) := by
        rw [decodeL_N]
        show decodeN 1 c.toNat 0 0 0 = _
        unfold decodeN
        rw [if_pos hc]
      rw [hd]
      exact ⟨[], rfl⟩
    · have hw := dropN_last (l := a :: l) hc (by simp)
      have h1 := width_pos (l := a :: l ++ [c])
      rw [List.drop_append_of_le_length hw]
      have hpos : 0 < (a :: l).length := by simp
      obtain ⟨rs, e⟩ := ih ((a :: l).drop (decodeL (a :: l ++ [c])).2).length (by rw [List.length_drop, ← hn]; omega) rfl
      rw [e]
      exact ⟨(decodeL (a :: l ++ [c])).1 :: rs, rfl⟩

/-! ### byte by byte -/
/-- What some bytes tell, one by one, while u are under way; and what is under way then. -/
def feeds : List UInt8 → List UInt8 → List Nat × List UInt8
  | u, [] => ([], u)
  | u, c :: s => ((eat (u ++ [c])).1 ++ (feeds (eat (u ++ [c])).2 s).1, (feeds (eat (u ++ [c])).2 s).2)
theorem feeds_app : ∀ (s t u : List UInt8), feeds u (s ++ t) = ((feeds u s).1 ++ (feeds (feeds u s).2 t).1, (feeds (feeds u s).2 t).2)
  | [], t, u => rfl
  | c :: s, t, u => by
    show ((eat (u ++ [c])).1 ++ (feeds (eat (u ++ [c])).2 (s ++ t)).1, (feeds (eat (u ++ [c])).2 (s ++ t)).2) = _
    rw [feeds_app s t]
    show _ = ((eat (u ++ [c])).1 ++ (feeds (eat (u ++ [c])).2 s).1 ++ _, _)
    rw [List.append_assoc]
    rfl
theorem feeds_one (u : List UInt8) (c : UInt8) : feeds u [c] = eat (u ++ [c]) := by
  show ((eat (u ++ [c])).1 ++ [], (eat (u ++ [c])).2) = _
  rw [List.append_nil]
theorem feeds_snoc (u s : List UInt8) (c : UInt8) : feeds u (s ++ [c]) = ((feeds u s).1 ++ (eat ((feeds u s).2 ++ [c])).1, (eat ((feeds u s).2 ++ [c])).2) := by
  rw [feeds_app, feeds_one]
theorem feeds_left : ∀ (s u : List UInt8), full u = false → full (feeds u s).2 = false
  | [], _, h => h
  | _ :: s, _, _ => feeds_left s _ (eat_left _)
theorem feeds_runes : ∀ (s u t : List UInt8), runes (u ++ s ++ t) = (feeds u s).1 ++ runes ((feeds u s).2 ++ t)
  | [], u, t => by rw [List.append_nil]; rfl
  | c :: s, u, t => by
    have e : u ++ c :: s ++ t = (u ++ [c]) ++ (s ++ t) := by simp
    rw [e, eat_runes, ← List.append_assoc, feeds_runes s]
    show _ = ((eat (u ++ [c])).1 ++ (feeds (eat (u ++ [c])).2 s).1) ++ _
    rw [List.append_assoc]
    rfl
theorem feeds_back : ∀ (s u : List UInt8), ∃ p, u ++ s = p ++ (feeds u s).2
  | [], u => ⟨[], by rw [List.append_nil]; rfl⟩
  | c :: s, u => by
    obtain ⟨p, hp⟩ := eat_back (u ++ [c])
    obtain ⟨q, hq⟩ := feeds_back s (eat (u ++ [c])).2
    refine ⟨p ++ q, ?_⟩
    have e : u ++ c :: s = (u ++ [c]) ++ s := by simp
    rw [e]
    conv => lhs; rw [hp]
    rw [List.append_assoc, hq]
    show _ = p ++ q ++ (feeds (eat (u ++ [c])).2 s).2
    rw [List.append_assoc]
theorem feeds_good : ∀ (s u : List UInt8), ∀ r ∈ (feeds u s).1, good r
  | [], _, r, h => by cases h
  | c :: s, u, r, h => by
    rcases List.mem_append.1 h with h | h
    · exact eat_good _ r h
    · exact feeds_good s _ r h
theorem feeds_count : ∀ (s u : List UInt8), (feeds u s).1.length + (feeds u s).2.length ≤ u.length + s.length
  | [], u => by show ([] : List Nat).length + u.length ≤ _; simp
  | c :: s, u => by
    have h1 := eat_count (u ++ [c])
    have h2 := feeds_count s (eat (u ++ [c])).2
    show ((eat (u ++ [c])).1 ++ (feeds (eat (u ++ [c])).2 s).1).length + (feeds (eat (u ++ [c])).2 s).2.length ≤ _
    simp only [List.length_append, List.length_cons, List.length_nil] at h1 h2 ⊢
    omega
/-- The runes of a whole text: what is told, and U+FFFD for each byte that is left. -/
theorem feeds_all (s : List UInt8) : runes s = (feeds [] s).1 ++ List.replicate (feeds [] s).2.length 65533 := by
  have h := feeds_runes s [] []
  rw [List.append_nil, List.append_nil, List.nil_append] at h
  rw [h, runes_under (feeds_left s [] full_nil)]
end Go.Proofs.YtdolekmifnenhaaDoor.UM
