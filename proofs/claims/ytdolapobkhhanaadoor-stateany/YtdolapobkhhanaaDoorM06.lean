/-
  UMath, SMath, in one text.
-/
import Derived.Test.YtdolapobkhhanaaDoorM05
import Derived.Lib.DecodeNEq
/-
  Plain mathematics of layer 5 (utf): when bytes are whole or wrong, what is told of them byte by byte, and that this is what the language tells of all. No program, no walk.
-/
namespace Go.Proofs.YtdolapobkhhanaaDoor.UM
open Go.Lib JM

theorem firstT_nine (b : Nat) : firstT b = 240 ∨ firstT b = 241 ∨ firstT b = 2 ∨ firstT b = 19 ∨ firstT b = 3 ∨ firstT b = 35 ∨ firstT b = 52 ∨ firstT b = 4 ∨ firstT b = 68 := by
  unfold firstT
  repeat' split
  all_goals simp

/-- Are n bytes, of which these are the first three, whole or wrong? -/
def fullN (n b0 b1 b2 : Nat) : Bool :=
  decide (0 < n) && (decide (firstT b0 % 8 ≤ n) || (decide (1 < n) && (decide (b1 < accLo (firstT b0 / 16)) || decide (accHi (firstT b0 / 16) < b1))) || (decide (2 < n) && (decide (b2 < 128) || decide (191 < b2))))
def full (l : List UInt8) : Bool := fullN l.length (l.getD 0 0).toNat (l.getD 1 0).toNat (l.getD 2 0).toNat
theorem full_nil : full [] = false := rfl

theorem slow_A (n m b0 b1 b2 b3 c1 c2 c3 sz lo hi : Nat) (g0 : 2 ≤ sz) (g1 : sz ≤ 4) (g : sz ≤ n) (e1 : 1 < n → c1 = b1) (e2 : 2 < n → c2 = b2) (e3 : 3 < n → c3 = b3) : slowN (n + m) b0 c1 c2 c3 sz lo hi = slowN n b0 b1 b2 b3 sz lo hi := by
  unfold slowN
  rw [if_neg (show ¬ n + m < sz by omega), if_neg (show ¬ n < sz by omega), e1 (by omega)]
  by_cases k1 : b1 < lo ∨ hi < b1
  · rw [if_pos k1, if_pos k1]
  rw [if_neg k1, if_neg k1]
  by_cases k2 : sz ≤ 2
  · rw [if_pos k2, if_pos k2]
  rw [if_neg k2, if_neg k2, e2 (by omega)]
  by_cases k3 : b2 < 128 ∨ 191 < b2
  · rw [if_pos k3, if_pos k3]
  rw [if_neg k3, if_neg k3]
  by_cases k4 : sz ≤ 3
  · rw [if_pos k4, if_pos k4]
  rw [if_neg k4, if_neg k4, e3 (by omega)]
theorem slow_B (n b0 b1 b2 b3 sz lo hi : Nat) (h : b1 < lo ∨ hi < b1) : slowN n b0 b1 b2 b3 sz lo hi = (65533, 1) := by
  unfold slowN
  by_cases k : n < sz
  · rw [if_pos k]
  · rw [if_neg k, if_pos h]
theorem slow_C (n b0 b1 b2 b3 sz lo hi : Nat) (g : 3 ≤ sz) (h : b2 < 128 ∨ 191 < b2) : slowN n b0 b1 b2 b3 sz lo hi = (65533, 1) := by
  unfold slowN
  by_cases k : n < sz
  · rw [if_pos k]
  by_cases k1 : b1 < lo ∨ hi < b1
  · rw [if_neg k, if_pos k1]
  · rw [if_neg k, if_neg k1, if_neg (show ¬ sz ≤ 2 by omega), if_pos h]
theorem firstT_size {b : Nat} (h : firstT b < 240) : 2 ≤ firstT b % 8 ∧ firstT b % 8 ≤ 4 := by
  rcases firstT_nine b with hX | hX | hX | hX | hX | hX | hX | hX | hX
  all_goals (rw [hX] at h ⊢; omega)
/-- What is whole, or wrong, is told as it is, whatever comes behind it. -/
theorem decN_more (n m b0 b1 b2 b3 c1 c2 c3 : Nat) (h : fullN n b0 b1 b2 = true) (h0 : b0 < 256) (h1 : b1 < 256) (h2 : b2 < 256) (h3 : b3 < 256) (k1 : c1 < 256) (k2 : c2 < 256) (k3 : c3 < 256) (e1 : 1 < n → c1 = b1) (e2 : 2 < n → c2 = b2) (e3 : 3 < n → c3 = b3) :
    decodeN (n + m) b0 c1 c2 c3 = decodeN n b0 b1 b2 b3 := by
  unfold fullN at h
  simp only [Bool.and_eq_true, Bool.or_eq_true, decide_eq_true_eq] at h
  obtain ⟨hn, h⟩ := h
  by_cases hX : firstT b0 = 240
  · rw [ascii_eq _ _ _ _ _ hX, ascii_eq _ _ _ _ _ hX]
  by_cases hY : firstT b0 = 241
  · rw [bad_eq _ _ _ _ _ h0 hY, bad_eq _ _ _ _ _ h0 hY]
  have hlow : firstT b0 < 240 := by rcases firstT_nine b0 with e | e | e | e | e | e | e | e | e <;> omega
  have hsz := firstT_size hlow
  rw [← slow_eq n b0 b1 b2 b3 hn h1 h2 h3 hlow, ← slow_eq (n + m) b0 c1 c2 c3 (by omega) k1 k2 k3 hlow]
  rcases h with (h | ⟨g, h⟩) | ⟨g, h⟩
  · exact slow_A _ _ _ _ _ _ _ _ _ _ _ _ hsz.1 hsz.2 h e1 e2 e3
  · rw [e1 g, slow_B _ _ _ _ _ _ _ _ h, slow_B _ _ _ _ _ _ _ _ h]
  · by_cases hs : firstT b0 % 8 ≤ n
    · exact slow_A _ _ _ _ _ _ _ _ _ _ _ _ hsz.1 hsz.2 hs e1 e2 e3
    · rw [e2 g, slow_C _ _ _ _ _ _ _ _ (by omega) h, slow_C _ _ _ _ _ _ _ _ (by omega) h]

theorem getD_app {l t : List UInt8} {i : Nat} (h : i < l.length) : (l ++ t).getD i 0 = l.getD i 0 := by simp [List.getD, List.getElem?_append_left h]
theorem decode_more {l : List UInt8} (h : full l = true) (t : List UInt8) : decodeL (l ++ t) = decodeL l := by
  have hl : 0 < l.length := by
    rcases l with _ | ⟨a, l⟩
    · exact absurd h (by decide)
    · simp
  rw [decodeL_N, decodeL_N, List.length_append, getD_app hl]
  exact decN_more _ _ _ _ _ _ _ _ _ h (UInt8.toNat_lt _) (UInt8.toNat_lt _) (UInt8.toNat_lt _) (UInt8.toNat_lt _) (UInt8.toNat_lt _) (UInt8.toNat_lt _) (UInt8.toNat_lt _) (fun g => by rw [getD_app g]) (fun g => by rw [getD_app g]) (fun g => by rw [getD_app g])

/-- Bytes that begin a rune which isn't whole. -/
theorem notfull {n b0 b1 b2 : Nat} (h : fullN n b0 b1 b2 = false) (hn : 0 < n) (h0 : b0 < 256) : n ≤ 3 ∧ 194 ≤ b0 ∧ (1 < n → 128 ≤ b1 ∧ b1 ≤ 191) ∧ (2 < n → 128 ≤ b2 ∧ b2 ≤ 191) ∧ n < firstT b0 % 8 ∧ firstT b0 < 240 := by
  unfold fullN at h
  simp only [Bool.and_eq_false_iff, Bool.or_eq_false_iff, decide_eq_false_iff_not] at h
  rcases h with h | ⟨⟨ha, hb⟩, hc⟩
  · omega
  have hb0 : 194 ≤ b0 := by
    rcases Nat.lt_or_ge b0 194 with g | g
    · exfalso
      have : firstT b0 % 8 ≤ 1 := by unfold firstT; split <;> simp [*]
      omega
    · exact g
  rcases firstT_nine b0 with hX | hX | hX | hX | hX | hX | hX | hX | hX
  all_goals
    rw [hX] at ha hb ⊢
    simp only [accLo, accHi, Nat.reduceEqDiff, if_true, if_false, Nat.reduceMod, Nat.reduceDiv] at ha hb ⊢
    omega
theorem full_long {l : List UInt8} (h : full l = false) : l.length ≤ 3 := by
  rcases Nat.eq_zero_or_pos l.length with h0 | h0
  · omega
  · exact (notfull h h0 (UInt8.toNat_lt _)).1

theorem bad_of {n b0 b1 b2 b3 : Nat} (h : fullN n b0 b1 b2 = false) (hn : 0 < n) (h0 : b0 < 256) (h1 : b1 < 256) (h2 : b2 < 256) (h3 : b3 < 256) : decodeN n b0 b1 b2 b3 = (65533, 1) := by
  have k := notfull h hn h0
  rw [← slow_eq n b0 b1 b2 b3 hn h1 h2 h3 k.2.2.2.2.2]
  unfold slowN
  rw [if_pos k.2.2.2.2.1]
theorem bad_go {l : List UInt8} (h : full l = false) (hl : l ≠ []) : decodeL l = (65533, 1) := by
  rw [decodeL_N]
  exact bad_of h (List.length_pos_iff.2 hl) (UInt8.toNat_lt _) (UInt8.toNat_lt _) (UInt8.toNat_lt _) (UInt8.toNat_lt _)
/-- Bytes that go on, and nothing under way: each is wrong. -/
theorem goes_bad {b : UInt8} {t : List UInt8} (h : 128 ≤ b.toNat) (h' : b.toNat ≤ 191) : decodeL (b :: t) = (65533, 1) := by
  rw [decodeL_N]
  refine bad_eq _ _ _ _ _ (UInt8.toNat_lt _) ?_
  show firstT b.toNat = 241
  unfold firstT
  rw [if_neg (by omega), if_pos (by omega)]
theorem runes_goes : ∀ (l : List UInt8), (∀ b ∈ l, 128 ≤ b.toNat ∧ b.toNat ≤ 191) → runes l = List.replicate l.length 65533
  | [], _ => rfl
  | b :: t, h => by
    have hb := h b (by simp)
    rw [runes_step (by simp), goes_bad hb.1 hb.2]
    show 65533 :: runes t = _
    rw [runes_goes t fun x hx => h x (by simp [hx])]
    rfl
theorem runes_under {l : List UInt8} (h : full l = false) : runes l = List.replicate l.length 65533 := by
  rcases l with _ | ⟨a, t⟩
  · rfl
  have k := notfull h (by simp) (UInt8.toNat_lt _)
  rw [runes_step (by simp), bad_go h (by simp)]
  show 65533 :: runes t = _
  rw [runes_goes t ?_]
  · rfl
  intro b hb
  obtain ⟨k1, -, k2, k3, -⟩ := k
  rcases t with _ | ⟨x, _ | ⟨y, _ | ⟨z, t⟩⟩⟩
  · simp at hb
  · obtain rfl : b = x := by simpa using hb
    exact k2 (by simp)
  · rcases (by simpa using hb : b = x ∨ b = y) with rfl | rfl
    · exact k2 (by simp)
    · exact k3 (by simp)
  · simp at k1

theorem width_pos {l : List UInt8} : 1 ≤ (decodeL l).2 := by
  rw [decodeL_N]
  rcases decodeN_shape l.length (l.getD 0 0).toNat (l.getD 1 0).toNat (l.getD 2 0).toNat (l.getD 3 0).toNat with ⟨c, e⟩ | ⟨c1, c2, c3, cv, e⟩ | ⟨c1, c2, c3, c4, cv, cs, e⟩ | ⟨c1, c2, c3, c4, c5, cv, cw, e⟩ | e
  all_goals (rw [e]; simp)
theorem width_le {l : List UInt8} (h : l ≠ []) : (decodeL l).2 ≤ l.length := by
  have hl : 0 < l.length := List.length_pos_iff.2 h
  rw [decodeL_N]
  rcases decodeN_shape l.length (l.getD 0 0).toNat (l.getD 1 0).toNat (l.getD 2 0).toNat (l.getD 3 0).toNat with ⟨c, e⟩ | ⟨c1, c2, c3, cv, e⟩ | ⟨c1, c2, c3, c4, cv, cs, e⟩ | ⟨c1, c2, c3, c4, c5, cv, cw, e⟩ | e
  all_goals (rw [e]; simp; omega)

/-! ### what is told, byte by byte -/
def eatN : Nat → List UInt8 → List Nat × List UInt8
  | 0, l => ([], l)
  | n + 1, l => if full l = true then ((decodeL l).1 :: (eatN n (l.drop (decodeL l).2)).1, (eatN n (l.drop (decodeL l).2)).2) else ([], l)
/-- What some bytes tell, and which are left under way. -/
def eat (l : List UInt8) : List Nat × List UInt8 := eatN l.length l

theorem eatN_more : ∀ (n m : Nat) (l : List UInt8), l.length ≤ n → l.length ≤ m → eatN n l = eatN m l
  | 0, m, l, h, _ => by
    obtain rfl : l = [] := List.length_eq_zero_iff.1 (by omega)
    cases m
    · rfl
    · simp [eatN, full_nil]
  | n + 1, 0, l, _, h => by
    obtain rfl : l = [] := List.length_eq_zero_iff.1 (by omega)
    simp [eatN, full_nil]
  | n + 1, m + 1, l, hn, hm => by
    unfold eatN
    by_cases hf : full l = true
    · rw [if_pos hf, if_pos hf]
      have hw := width_pos (l := l)
      have hl : 0 < l.length := by
        rcases l with _ | ⟨a, l⟩
        · exact absurd hf (by decide)
        · simp
      rw [eatN_more n m (l.drop (decodeL l).2) (by simp; omega) (by simp; omega)]
    · rw [if_neg hf, if_neg hf]
theorem eat_step {l : List UInt8} (h : full l = true) : eat l = ((decodeL l).1 :: (eat (l.drop (decodeL l).2)).1, (eat (l.drop (decodeL l).2)).2) := by
  have hl : 0 < l.length := by
    rcases l with _ | ⟨a, l⟩
    · exact absurd h (by decide)
    · simp
  have hw := width_pos (l := l)
  have e : eat (l.drop (decodeL l).2) = eatN (l.length - 1) (l.drop (decodeL l).2) := eatN_more _ _ _ (Nat.le_refl _) (by simp; omega)
  rw [e]
  unfold eat
  obtain ⟨n, hn⟩ : ∃ n, l.length = n + 1 := ⟨l.length - 1, by omega⟩
  rw [hn]
  conv => lhs; unfold eatN
  rw [if_pos h]
  rfl
theorem eat_end {l : List UInt8} (h : full l = false) : eat l = ([], l) := by
  unfold eat
  rcases l.length with _ | n
  · rfl
  · unfold eatN
    rw [if_neg (by rw [h]; simp)]

/-- One induction for all: by what is left. -/
theorem eat_ind {C : List UInt8 → Prop} (step : ∀ l, full l = true → C (l.drop (decodeL l).2) → C l) (last : ∀ l, full l = false → C l) (l : List UInt8) : C l := by
  generalize hn : l.length = n
  induction n using Nat.strongRecOn generalizing l with
  | ind n ih =>
    rcases hf : full l with _ | _
    · exact last l hf
    · refine step l hf (ih (l.drop (decodeL l).2).length ?_ _ rfl)
      have hl : 0 < l.length := by
        rcases l with _ | ⟨a, l⟩
        · exact absurd hf (by decide)
        · simp
      have := width_pos (l := l)
      simp; omega
theorem full_ne {l : List UInt8} (h : full l = true) : l ≠ [] := fun e => by rw [e] at h; exact absurd h (by decide)

theorem eat_left (l : List UInt8) : full (eat l).2 = false :=
  eat_ind (C := fun l => full (eat l).2 = false) (fun l h ih => by rw [eat_step h]; exact ih) (fun l h => by rw [eat_end h]; exact h) l
theorem eat_runes (l : List UInt8) : ∀ t, runes (l ++ t) = (eat l).1 ++ runes ((eat l).2 ++ t) :=
  eat_ind (C := fun l => ∀ t, runes (l ++ t) = (eat l).1 ++ runes ((eat l).2 ++ t)) (fun l h ih t => by
    have hne : l ++ t ≠ [] := fun e => full_ne h (List.append_eq_nil_iff.1 e).1
    rw [eat_step h, runes_step hne, decode_more h, List.drop_append_of_le_length (width_le (full_ne h)), ih t]
    rfl) (fun l h t => by rw [eat_end h]; rfl) l
theorem eat_back (l : List UInt8) : ∃ p, l = p ++ (eat l).2 :=
  eat_ind (C := fun l => ∃ p, l = p ++ (eat l).2) (fun l h ih => by
    obtain ⟨p, hp⟩ := ih
    refine ⟨l.take (decodeL l).2 ++ p, ?_⟩
    rw [eat_step h]
    show l = (l.take (decodeL l).2 ++ p) ++ (eat (l.drop (decodeL l).2)).2
    rw [List.append_assoc, ← hp, List.take_append_drop]) (fun l h => ⟨[], by rw [eat_end h]; rfl⟩) l
theorem eat_good (l : List UInt8) : ∀ r ∈ (eat l).1, good r :=
  eat_ind (C := fun l => ∀ r ∈ (eat l).1, good r) (fun l h ih r hr => by
    rw [eat_step h] at hr
    rcases List.mem_cons.1 hr with rfl | hr
    · exact decodeL_good l
    · exact ih r hr) (fun l h r hr => by rw [eat_end h] at hr; cases hr) l
theorem eat_count (l : List UInt8) : (eat l).1.length + (eat l).2.length ≤ l.length :=
  eat_ind (C := fun l => (eat l).1.length + (eat l).2.length ≤ l.length) (fun l h ih => by
    rw [eat_step h]
    have h1 := width_pos (l := l); have h2 := width_le (full_ne h)
    simp only [List.length_drop] at ih
    simp only [List.length_cons]
    omega) (fun l h => by rw [eat_end h]; simp) l

/-- A byte below 128 ends what is under way: it is told last, and nothing is left. -/
theorem dropN_last {l : List UInt8} {c : UInt8} (hc : c.toNat < 128) (hne : l ≠ []) : (decodeL (l ++ [c])).2 ≤ l.length := by
  have hl : 0 < l.length := List.length_pos_iff.2 hne
  have hg : (l ++ [c]).getD l.length 0 = c := by simp [List.getD]
  have hw := width_le (l := l ++ [c]) (by simp)
  rw [decodeL_N] at hw ⊢
  rw [List.length_append, List.length_singleton] at hw ⊢
  rcases decodeN_shape (l.length + 1) ((l ++ [c]).getD 0 0).toNat ((l ++ [c]).getD 1 0).toNat ((l ++ [c]).getD 2 0).toNat ((l ++ [c]).getD 3 0).toNat with ⟨g, e⟩ | ⟨c1, c2, c3, cv, e⟩ | ⟨c1, c2, c3, c4, cv, cs, e⟩ | ⟨c1, c2, c3, c4, c5, cv, cw, e⟩ | e
  all_goals rw [e] at hw ⊢
  · exact hl
  · show 2 ≤ l.length
    rcases Nat.lt_or_ge l.length 2 with h | h
    · have : l.length = 1 := by omega
      rw [this] at hg; rw [hg] at c3; omega
    · exact h
  · show 3 ≤ l.length
    rcases Nat.lt_or_ge l.length 3 with h | h
    · have : l.length = 2 := by omega
      rw [this] at hg; rw [hg] at c4; omega
    · exact h
  · show 4 ≤ l.length
    rcases Nat.lt_or_ge l.length 4 with h | h
    · have : l.length = 3 := by omega
      rw [this] at hg; rw [hg] at c5; omega
    · exact h
  · exact hl
theorem full_last {l : List UInt8} {c : UInt8} (hc : c.toNat < 128) : full (l ++ [c]) = true := by
  rcases hf : full (l ++ [c]) with _ | _
  · exfalso
    have hg : (l ++ [c]).getD l.length 0 = c := by simp [List.getD]
    obtain ⟨k1, k0, k2, k3, -⟩ := notfull hf (by simp) (UInt8.toNat_lt _)
    rw [List.length_append, List.length_singleton] at k1 k2 k3
    rcases (by omega : l.length = 0 ∨ l.length = 1 ∨ l.length = 2) with h | h | h
    · rw [h] at hg; rw [hg] at k0; omega
    · rw [h] at hg; rw [hg] at k2; have := k2 (by omega); omega
    · rw [h] at hg; rw [hg] at k3; have := k3 (by omega); omega
  · rfl
theorem eat_last {l : List UInt8} {c : UInt8} (hc : c.toNat < 128) : ∃ rs, eat (l ++ [c]) = (rs ++ [c.toNat], []) := by
  generalize hn : l.length = n
  induction n using Nat.strongRecOn generalizing l with
  | ind n ih =>
    rw [eat_step (full_last hc)]
    rcases l with _ | ⟨a, l⟩
    · have hd : decodeL ([] ++ [c]) = (c.toNat, 1) := by
        rw [decodeL_N]
        show decodeN 1 c.toNat 0 0 0 = _
        unfold decodeN
        rw [if_pos hc]
      rw [hd]
      exact ⟨[], rfl⟩
    · have hw := dropN_last (l := a :: l) hc (by simp)
      have h1 := width_pos (l := a :: l ++ [c])
      rw [List.drop_append_of_le_length hw]
      have hpos : 0 < (a :: l).length := by simp
      obtain ⟨rs, e⟩ := ih ((a :: l).drop (decodeL (a :: l ++ [c])).2).length (by rw [List.length_drop, ← hn]; omega) rfl
      rw [e]
      exact ⟨(decodeL (a :: l ++ [c])).1 :: rs, rfl⟩

/-! ### byte by byte -/
/-- What some bytes tell, one by one, while u are under way; and what is under way then. -/
def feeds : List UInt8 → List UInt8 → List Nat × List UInt8
  | u, [] => ([], u)
  | u, c :: s => ((eat (u ++ [c])).1 ++ (feeds (eat (u ++ [c])).2 s).1, (feeds (eat (u ++ [c])).2 s).2)
theorem feeds_app : ∀ (s t u : List UInt8), feeds u (s ++ t) = ((feeds u s).1 ++ (feeds (feeds u s).2 t).1, (feeds (feeds u s).2 t).2)
  | [], t, u => rfl
  | c :: s, t, u => by
    show ((eat (u ++ [c])).1 ++ (feeds (eat (u ++ [c])).2 (s ++ t)).1, (feeds (eat (u ++ [c])).2 (s ++ t)).2) = _
    rw [feeds_app s t]
    show _ = ((eat (u ++ [c])).1 ++ (feeds (eat (u ++ [c])).2 s).1 ++ _, _)
    rw [List.append_assoc]
    rfl
theorem feeds_one (u : List UInt8) (c : UInt8) : feeds u [c] = eat (u ++ [c]) := by
  show ((eat (u ++ [c])).1 ++ [], (eat (u ++ [c])).2) = _
  rw [List.append_nil]
theorem feeds_snoc (u s : List UInt8) (c : UInt8) : feeds u (s ++ [c]) = ((feeds u s).1 ++ (eat ((feeds u s).2 ++ [c])).1, (eat ((feeds u s).2 ++ [c])).2) := by
  rw [feeds_app, feeds_one]
theorem feeds_left : ∀ (s u : List UInt8), full u = false → full (feeds u s).2 = false
  | [], _, h => h
  | _ :: s, _, _ => feeds_left s _ (eat_left _)
theorem feeds_runes : ∀ (s u t : List UInt8), runes (u ++ s ++ t) = (feeds u s).1 ++ runes ((feeds u s).2 ++ t)
  | [], u, t => by rw [List.append_nil]; rfl
  | c :: s, u, t => by
    have e : u ++ c :: s ++ t = (u ++ [c]) ++ (s ++ t) := by simp
    rw [e, eat_runes, ← List.append_assoc, feeds_runes s]
    show _ = ((eat (u ++ [c])).1 ++ (feeds (eat (u ++ [c])).2 s).1) ++ _
    rw [List.append_assoc]
    rfl
theorem feeds_back : ∀ (s u : List UInt8), ∃ p, u ++ s = p ++ (feeds u s).2
  | [], u => ⟨[], by rw [List.append_nil]; rfl⟩
  | c :: s, u => by
    obtain ⟨p, hp⟩ := eat_back (u ++ [c])
    obtain ⟨q, hq⟩ := feeds_back s (eat (u ++ [c])).2
    refine ⟨p ++ q, ?_⟩
    have e : u ++ c :: s = (u ++ [c]) ++ s := by simp
    rw [e]
    conv => lhs; rw [hp]
    rw [List.append_assoc, hq]
    show _ = p ++ q ++ (feeds (eat (u ++ [c])).2 s).2
    rw [List.append_assoc]
theorem feeds_good : ∀ (s u : List UInt8), ∀ r ∈ (feeds u s).1, good r
  | [], _, r, h => by cases h
  | c :: s, u, r, h => by
    rcases List.mem_append.1 h with h | h
    · exact eat_good _ r h
    · exact feeds_good s _ r h
theorem feeds_count : ∀ (s u : List UInt8), (feeds u s).1.length + (feeds u s).2.length ≤ u.length + s.length
  | [], u => by show ([] : List Nat).length + u.length ≤ _; simp
  | c :: s, u => by
    have h1 := eat_count (u ++ [c])
    have h2 := feeds_count s (eat (u ++ [c])).2
    show ((eat (u ++ [c])).1 ++ (feeds (eat (u ++ [c])).2 s).1).length + (feeds (eat (u ++ [c])).2 s).2.length ≤ _
    simp only [List.length_append, List.length_cons, List.length_nil] at h1 h2 ⊢
    omega
/-- The runes of a whole text: what is told, and U+FFFD for each byte that is left. -/
theorem feeds_all (s : List UInt8) : runes s = (feeds [] s).1 ++ List.replicate (feeds [] s).2.length 65533 := by
  have h := feeds_runes s [] []
  rw [List.append_nil, List.append_nil, List.nil_append] at h
  rw [h, runes_under (feeds_left s [] full_nil)]
end Go.Proofs.YtdolapobkhhanaaDoor.UM
/-
  Layer 11 (state), its mathematics: a terminal in plain words, its bytes, and what becomes of any bytes. No program.
-/
namespace Go.Proofs.YtdolapobkhhanaaDoor
open KM
set_option maxRecDepth 100000

/-! ### numbers, texts, lines that are told come first -/
theorem num_back {l : List Nat} {bad : Bool} {L : Nat} (hl : ∀ c ∈ l, c < 256) (h : (numOf l bad L).2.2 = false) :
    bad = false ∧ l = VM.enc (numOf l bad L).1 ++ (numOf l bad L).2.1 ∧ (numOf l bad L).1 < L := by
  unfold numOf at h ⊢
  split
  · rename_i hc
    rw [if_pos hc] at h
    cases h
  · rename_i hc
    rw [if_neg hc] at h
    have h1 : (VM.take l).2 ≠ 0 := fun e => hc (.inl e)
    have h2 : ¬ L ≤ (VM.take l).1 := fun e => hc (.inr e)
    refine ⟨h, ?_, by simpa using h2⟩
    obtain ⟨rest, e1, _, e3⟩ := VM.take_any l hl h1
    have e4 : l.drop (VM.take l).2 = rest := by
      have e5 := congrArg (List.drop (VM.enc (VM.take l).1).length) e1
      rw [List.drop_left] at e5
      rw [e3]
      exact e5
    rw [e4]
    exact e1
theorem num_bytes {l : List Nat} {bad : Bool} {L : Nat} (hl : ∀ c ∈ l, c < 256) : ∀ c ∈ (numOf l bad L).2.1, c < 256 := by
  unfold numOf
  split
  · simp
  · exact fun c hc => hl c (List.mem_of_mem_drop hc)
theorem num_bad (l : List Nat) (L : Nat) : (numOf l true L).2.2 = true := by
  unfold numOf
  split <;> rfl
theorem text_back {l : List Nat} {bad : Bool} {M : Nat} (hl : ∀ c ∈ l, c < 256) (h : (textOf l bad M).2.2 = false) :
    bad = false ∧ l = VM.enc (textOf l bad M).1.length ++ ((textOf l bad M).1 ++ (textOf l bad M).2.1) ∧ (textOf l bad M).1.length ≤ M := by
  unfold textOf at h ⊢
  split
  · rename_i hc
    rw [if_pos hc] at h
    cases h
  · rename_i hc
    rw [if_neg hc] at h
    obtain ⟨h1, h2, h3⟩ := num_back hl h
    have hln : ((numOf l bad (M + 1)).2.1.take (numOf l bad (M + 1)).1).length = (numOf l bad (M + 1)).1 := by rw [List.length_take]; omega
    refine ⟨h1, ?_, ?_⟩
    · simp only [hln, List.take_append_drop]
      exact h2
    · simp only [hln]; omega
theorem text_bytes {l : List Nat} {bad : Bool} {M : Nat} (hl : ∀ c ∈ l, c < 256) : (∀ c ∈ (textOf l bad M).1, c < 256) ∧ ∀ c ∈ (textOf l bad M).2.1, c < 256 := by
  unfold textOf
  have hb := num_bytes (bad := bad) (L := M + 1) hl
  split
  · simp
  · exact ⟨fun c hc => hb c (List.mem_of_mem_take hc), fun c hc => hb c (List.mem_of_mem_drop hc)⟩
theorem text_len {l : List Nat} {bad : Bool} {M : Nat} : (textOf l bad M).1.length ≤ M := by
  unfold textOf
  split
  · simp
  · have := numOf_lt l bad (M + 1) (by omega)
    simp only [List.length_take]
    omega
theorem style_back {l : List Nat} {bad : Bool} {s : Sty} (hl : ∀ c ∈ l, c < 256) (h : (takeS l bad).1 = some s) :
    bad = false ∧ (takeS l bad).2.2 = false ∧ l = VM.enc (snum s) ++ (takeS l bad).2.1 ∧ sright s = true := by
  unfold takeS at h ⊢
  simp only at h ⊢
  split at h
  · rename_i hc
    simp only [Option.some.injEq] at h
    obtain ⟨h1, h2, h3⟩ := num_back hl hc.1
    rw [← h, snum_styOf _ h3]
    exact ⟨h1, hc.1, h2, hc.2⟩
  · cases h
theorem style_bytes {l : List Nat} {bad : Bool} (hl : ∀ c ∈ l, c < 256) : ∀ c ∈ (takeS l bad).2.1, c < 256 := num_bytes hl
theorem style_enc (s : Sty) (h : sright s = true) (rest : List Nat) : takeS (VM.enc (snum s) ++ rest) false = (some s, rest, false) := by
  have hn := snum_lt s h
  have e : numOf (VM.enc (snum s) ++ rest) false 2048 = (snum s, rest, false) := by rw [numOf_enc _ _ _ _ (by omega), if_neg (by omega)]
  unfold takeS
  rw [e]
  simp [styOf_snum s h, h]

/-- A line that is asked for. -/
def takeL (W : Nat) (l : List Nat) (bad : Bool) : Option (List Cel × List Nat × Bool) := lineOf (tr [] W l bad)
/-- A line that can be put, and comes back. -/
def LnOk (W : Nat) (x : List Cel) : Prop := x.length = W ∧ whole x = true ∧ ∀ r ∈ runs x, Fine r
theorem takeL_back {l : List Nat} {bad : Bool} {W : Nat} {T : List Cel × List Nat × Bool} (hW : 0 < W) (hl : ∀ x ∈ l, x < 256) (h : takeL W l bad = some T) :
    bad = false ∧ T.2.2 = false ∧ LnOk W T.1 ∧ l = runsB (runs T.1) ++ T.2.1 := by
  unfold takeL at h
  have hbad : bad = false := by
    rcases h0 : (takeR l bad).1 with _ | x
    · rw [tr_none [] W l bad hW h0] at h; cases h
    · exact (takeR_back hl h0).2.2.2.1
  rcases hR : tr [] W l bad with _ | R
  · rw [hR] at h; cases h
  · obtain ⟨more, m1, m2, m3, m4, m5, m6⟩ := tr_back W [] l bad hl trivial R hR
    obtain ⟨rs, l2, b2⟩ := R
    simp only [List.nil_append] at m1 m2 m3 m6
    subst m1
    rw [hR] at h
    unfold lineOf at h
    simp only [Option.bind_some] at h
    split at h
    · rename_i hw
      simp only [Option.some.injEq] at h
      subst h
      unfold LnOk
      simp only
      rw [runs_of_cells rs m6]
      exact ⟨hbad, m3.trans hbad, ⟨by rw [cells_len, m4], hw, m5⟩, m2⟩
    · cases h
theorem takeL_bad {l : List Nat} {W : Nat} (hW : 0 < W) (hl : ∀ x ∈ l, x < 256) : takeL W l true = none := by
  rcases h : takeL W l true with _ | T
  · rfl
  · have := (takeL_back hW hl h).1
    cases this
theorem takeL_bytes {l : List Nat} {bad : Bool} {W : Nat} {T : List Cel × List Nat × Bool} (hW : 0 < W) (hl : ∀ x ∈ l, x < 256) (h : takeL W l bad = some T) : ∀ x ∈ T.2.1, x < 256 := fun x hx => by
  have e := (takeL_back hW hl h).2.2.2
  exact hl x (by rw [e]; exact List.mem_append_right _ hx)
theorem takeL_enc (W : Nat) (x : List Cel) (h : LnOk W x) (rest : List Nat) : takeL W (runsB (runs x) ++ rest) false = some (x, rest, false) := by
  obtain ⟨h1, h2, h3⟩ := h
  have e := tr_enc (runs x) h3 [] (runs_apart x) rest
  rw [runs_sum, h1, List.nil_append] at e
  unfold takeL lineOf
  rw [e]
  simp only [Option.bind_some, runs_cells]
  rw [if_pos h2]
theorem text_enc (l rest : List Nat) (M : Nat) (h : l.length ≤ M) (hM : M < 1000000) : textOf (VM.enc l.length ++ (l ++ rest)) false M = (l, rest, false) := by
  rw [textOf_enc _ _ _ _ (by omega), if_neg (by omega)]
theorem num_enc (n : Nat) (rest : List Nat) (L : Nat) (hn : n < L) (h : n < 18446744073709551616) : numOf (VM.enc n ++ rest) false L = (n, rest, false) := by
  rw [numOf_enc _ _ _ _ h, if_neg (by omega)]

/-! ### cursors -/
structure Cur where
  x : Nat
  y : Nat
  late : Bool
  sty : Sty
def encC (c : Cur) : List Nat := VM.enc c.x ++ (VM.enc c.y ++ (VM.enc c.late.toNat ++ VM.enc (snum c.sty)))
def encCs (l : List Cur) : List Nat := l.flatMap encC
def CurOk (W H : Nat) (c : Cur) : Prop := c.x < W ∧ c.y < H ∧ (c.late = true → c.x + 1 = W) ∧ sright c.sty = true
/-- The next cursor (on a screen of these sides). -/
def takeC (W H : Nat) (l : List Nat) (bad : Bool) : Option Cur × List Nat × Bool :=
  ((takeS (numOf (numOf (numOf l bad W).2.1 (numOf l bad W).2.2 H).2.1 (numOf (numOf l bad W).2.1 (numOf l bad W).2.2 H).2.2 2).2.1 (numOf (numOf (numOf l bad W).2.1 (numOf l bad W).2.2 H).2.1 (numOf (numOf l bad W).2.1 (numOf l bad W).2.2 H).2.2 2).2.2).1.bind fun s =>
    if (numOf (numOf (numOf l bad W).2.1 (numOf l bad W).2.2 H).2.1 (numOf (numOf l bad W).2.1 (numOf l bad W).2.2 H).2.2 2).1.testBit 0 = true ∧ (numOf l bad W).1 + 1 ≠ W then none
    else some ⟨(numOf l bad W).1, (numOf (numOf l bad W).2.1 (numOf l bad W).2.2 H).1, (numOf (numOf (numOf l bad W).2.1 (numOf l bad W).2.2 H).2.1 (numOf (numOf l bad W).2.1 (numOf l bad W).2.2 H).2.2 2).1.testBit 0, s⟩,
   (takeS (numOf (numOf (numOf l bad W).2.1 (numOf l bad W).2.2 H).2.1 (numOf (numOf l bad W).2.1 (numOf l bad W).2.2 H).2.2 2).2.1 (numOf (numOf (numOf l bad W).2.1 (numOf l bad W).2.2 H).2.1 (numOf (numOf l bad W).2.1 (numOf l bad W).2.2 H).2.2 2).2.2).2)
theorem takeC_eq (W H : Nat) (l : List Nat) (bad : Bool) (x : Nat) (l1 : List Nat) (b1 : Bool) (y : Nat) (l2 : List Nat) (b2 : Bool) (f : Nat) (l3 : List Nat) (b3 : Bool) (S : Option Sty × List Nat × Bool)
    (e1 : numOf l bad W = (x, l1, b1)) (e2 : numOf l1 b1 H = (y, l2, b2)) (e3 : numOf l2 b2 2 = (f, l3, b3)) (e4 : takeS l3 b3 = S) :
    takeC W H l bad = (S.1.bind fun s => if f.testBit 0 = true ∧ x + 1 ≠ W then none else some ⟨x, y, f.testBit 0, s⟩, S.2) := by
  unfold takeC
  simp only [e1, e2, e3, e4]
theorem bit_toNat (f : Nat) (h : f < 2) : (f.testBit 0).toNat = f := by
  rcases (by omega : f = 0 ∨ f = 1) with rfl | rfl <;> rfl
theorem takeC_back {W H : Nat} {l : List Nat} {bad : Bool} {c : Cur} (hl : ∀ x ∈ l, x < 256) (h : (takeC W H l bad).1 = some c) :
    bad = false ∧ (takeC W H l bad).2.2 = false ∧ CurOk W H c ∧ l = encC c ++ (takeC W H l bad).2.1 := by
  obtain ⟨⟨x, l1, b1⟩, e1⟩ : ∃ q, numOf l bad W = q := ⟨_, rfl⟩
  obtain ⟨⟨y, l2, b2⟩, e2⟩ : ∃ q, numOf l1 b1 H = q := ⟨_, rfl⟩
  obtain ⟨⟨f, l3, b3⟩, e3⟩ : ∃ q, numOf l2 b2 2 = q := ⟨_, rfl⟩
  obtain ⟨⟨S, l4, b4⟩, e4⟩ : ∃ q, takeS l3 b3 = q := ⟨_, rfl⟩
  rw [takeC_eq W H l bad x l1 b1 y l2 b2 f l3 b3 (S, l4, b4) e1 e2 e3 e4] at h ⊢
  have hl1 := num_bytes (bad := bad) (L := W) hl
  rw [e1] at hl1
  have hl2 := num_bytes (bad := b1) (L := H) hl1
  rw [e2] at hl2
  have hl3 := num_bytes (bad := b2) (L := 2) hl2
  rw [e3] at hl3
  simp only at h ⊢ hl1 hl2 hl3
  rcases S with _ | s
  · cases h
  simp only [Option.bind_some] at h
  split at h
  · cases h
  rename_i hn
  simp only [Option.some.injEq] at h
  subst h
  obtain ⟨q1, q2, q3, q4⟩ := style_back (s := s) hl3 (by rw [e4])
  rw [e4] at q2 q3
  simp only at q2 q3
  subst q1 q2
  obtain ⟨p1, p2, p3⟩ := num_back (bad := b2) (L := 2) hl2 (by rw [e3])
  rw [e3] at p2 p3
  subst p1
  obtain ⟨r1, r2, r3⟩ := num_back (bad := b1) (L := H) hl1 (by rw [e2])
  rw [e2] at r2 r3
  subst r1
  obtain ⟨t1, t2, t3⟩ := num_back (bad := bad) (L := W) hl (by rw [e1])
  rw [e1] at t2 t3
  simp only at p2 p3 r2 r3 t2 t3
  refine ⟨t1, rfl, ⟨t3, r3, fun hf => ?_, q4⟩, ?_⟩
  · simp only at hf ⊢
    rcases Nat.decEq (x + 1) W with h | h
    · exact absurd ⟨hf, h⟩ hn
    · exact h
  · unfold encC
    simp only [bit_toNat f p3, List.append_assoc]
    rw [← q3, ← p2, ← r2]
    exact t2
theorem takeC_enc (W H : Nat) (c : Cur) (h : CurOk W H c) (hW : W ≤ 60) (hH : H ≤ 60) (rest : List Nat) : takeC W H (encC c ++ rest) false = (some c, rest, false) := by
  obtain ⟨x, y, late, s⟩ := c
  obtain ⟨h1, h2, h3, h4⟩ := h
  simp only at h1 h2 h3 h4
  unfold encC
  simp only [List.append_assoc]
  rw [takeC_eq W H _ false x _ false y _ false late.toNat _ false (some s, rest, false) (num_enc x _ W h1 (by omega)) (num_enc y _ H h2 (by omega)) (num_enc _ _ 2 (by cases late <;> decide) (by cases late <;> decide)) (style_enc s h4 rest)]
  have hb : late.toNat.testBit 0 = late := by cases late <;> rfl
  simp only [Option.bind_some, hb]
  rw [if_neg (by rintro ⟨ha, hb⟩; exact hb (h3 ha))]
/-- So many cursors. -/
def takeCs (W H : Nat) : Nat → List Nat → Bool → Option (List Cur × List Nat × Bool)
  | 0, l, bad => some ([], l, bad)
  | n + 1, l, bad => (takeC W H l bad).1.bind fun c => (takeCs W H n (takeC W H l bad).2.1 (takeC W H l bad).2.2).map fun R => (c :: R.1, R.2)
theorem takeCs_back {W H : Nat} (n : Nat) {l : List Nat} {bad : Bool} {R : List Cur × List Nat × Bool} (hn : 0 < n) (hl : ∀ x ∈ l, x < 256) (h : takeCs W H n l bad = some R) :
    bad = false ∧ R.2.2 = false ∧ R.1.length = n ∧ (∀ c ∈ R.1, CurOk W H c) ∧ l = encCs R.1 ++ R.2.1 := by
  induction n generalizing l bad R with
  | zero => omega
  | succ n ih =>
    simp only [takeCs] at h
    rcases hc : (takeC W H l bad).1 with _ | c
    · rw [hc] at h; cases h
    rw [hc] at h
    simp only [Option.bind_some] at h
    obtain ⟨k1, k2, k3, k4⟩ := takeC_back hl hc
    have hl2 : ∀ x ∈ (takeC W H l bad).2.1, x < 256 := fun x hx => hl x (by rw [k4]; exact List.mem_append_right _ hx)
    rcases hR : takeCs W H n (takeC W H l bad).2.1 (takeC W H l bad).2.2 with _ | Q
    · rw [hR] at h; cases h
    rw [hR] at h
    simp only [Option.map_some, Option.some.injEq] at h
    subst h
    rcases Nat.eq_zero_or_pos n with rfl | hn
    · simp only [takeCs, Option.some.injEq] at hR
      subst hR
      refine ⟨k1, k2, rfl, ?_, ?_⟩
      · intro d hd
        simp only [List.mem_singleton] at hd
        rw [hd]; exact k3
      · simpa [encCs] using k4
    · obtain ⟨m1, m2, m3, m4, m5⟩ := ih hn hl2 hR
      refine ⟨k1, m2, by simp [m3], ?_, ?_⟩
      · intro d hd
        rcases List.mem_cons.1 hd with rfl | hd
        · exact k3
        · exact m4 d hd
      · have : encCs (c :: Q.1) = encC c ++ encCs Q.1 := by simp [encCs]
        rw [this, List.append_assoc, ← m5]
        exact k4
theorem takeCs_enc (W H : Nat) (hW : W ≤ 60) (hH : H ≤ 60) (cs : List Cur) (h : ∀ c ∈ cs, CurOk W H c) (rest : List Nat) : takeCs W H cs.length (encCs cs ++ rest) false = some (cs, rest, false) := by
  induction cs with
  | nil => rfl
  | cons c r ih =>
    have e : encCs (c :: r) ++ rest = encC c ++ (encCs r ++ rest) := by simp [encCs]
    rw [e, List.length_cons]
    simp only [takeCs]
    rw [takeC_enc W H c (h c (by simp)) hW hH, ih fun d hd => h d (by simp [hd])]
    rfl

/-! ### lines -/
def encLs (ls : List (List Cel)) : List Nat := ls.flatMap fun x => runsB (runs x)
def takeLs (W : Nat) : Nat → List Nat → Bool → Option (List (List Cel) × List Nat × Bool)
  | 0, l, bad => some ([], l, bad)
  | n + 1, l, bad => (takeL W l bad).bind fun x => (takeLs W n x.2.1 x.2.2).map fun R => (x.1 :: R.1, R.2)
theorem takeLs_back {W : Nat} (hW : 0 < W) (n : Nat) {l : List Nat} {bad : Bool} {R : List (List Cel) × List Nat × Bool} (hl : ∀ x ∈ l, x < 256) (h : takeLs W n l bad = some R) :
    R.2.2 = bad ∧ R.1.length = n ∧ (∀ x ∈ R.1, LnOk W x) ∧ l = encLs R.1 ++ R.2.1 := by
  induction n generalizing l bad R with
  | zero =>
    simp only [takeLs, Option.some.injEq] at h
    subst h
    exact ⟨rfl, rfl, by simp, by simp [encLs]⟩
  | succ n ih =>
    simp only [takeLs] at h
    rcases hc : takeL W l bad with _ | x
    · rw [hc] at h; cases h
    rw [hc] at h
    simp only [Option.bind_some] at h
    obtain ⟨k1, k2, k3, k4⟩ := takeL_back hW hl hc
    have hl2 : ∀ c ∈ x.2.1, c < 256 := takeL_bytes hW hl hc
    rcases hR : takeLs W n x.2.1 x.2.2 with _ | Q
    · rw [hR] at h; cases h
    rw [hR] at h
    simp only [Option.map_some, Option.some.injEq] at h
    subst h
    obtain ⟨m2, m3, m4, m5⟩ := ih hl2 hR
    refine ⟨m2.trans (k2.trans k1.symm), by simp [m3], ?_, ?_⟩
    · intro d hd
      rcases List.mem_cons.1 hd with rfl | hd
      · exact k3
      · exact m4 d hd
    · have : encLs (x.1 :: Q.1) = runsB (runs x.1) ++ encLs Q.1 := by simp [encLs]
      rw [this, List.append_assoc, ← m5]
      exact k4
theorem takeLs_enc (W : Nat) (ls : List (List Cel)) (h : ∀ x ∈ ls, LnOk W x) (rest : List Nat) : takeLs W ls.length (encLs ls ++ rest) false = some (ls, rest, false) := by
  induction ls with
  | nil => rfl
  | cons x r ih =>
    have e : encLs (x :: r) ++ rest = runsB (runs x) ++ (encLs r ++ rest) := by simp [encLs]
    rw [e, List.length_cons]
    simp only [takeLs]
    rw [takeL_enc W x (h x (by simp))]
    simp only [Option.bind_some]
    rw [ih fun d hd => h d (by simp [hd])]
    rfl

/-! ### the lines that went out -/
def encBk (ls : List (List Cel)) : List Nat := ls.flatMap fun x => VM.enc x.length ++ runsB (runs x)
def takeBk : Nat → List Nat → Bool → Option (List (List Cel) × List Nat × Bool)
  | 0, l, bad => some ([], l, bad)
  | n + 1, l, bad => (takeL (numOf l bad 61).1 (numOf l bad 61).2.1 (numOf l bad 61).2.2).bind fun x => if (numOf l bad 61).1 = 0 then none else (takeBk n x.2.1 x.2.2).map fun R => (x.1 :: R.1, R.2)
def BkOk (x : List Cel) : Prop := 0 < x.length ∧ x.length ≤ 60 ∧ LnOk x.length x
theorem takeBk_back (n : Nat) {l : List Nat} {bad : Bool} {R : List (List Cel) × List Nat × Bool} (hl : ∀ x ∈ l, x < 256) (h : takeBk n l bad = some R) :
    R.2.2 = bad ∧ R.1.length = n ∧ (∀ x ∈ R.1, BkOk x) ∧ l = encBk R.1 ++ R.2.1 := by
  induction n generalizing l bad R with
  | zero =>
    simp only [takeBk, Option.some.injEq] at h
    subst h
    exact ⟨rfl, rfl, by simp, by simp [encBk]⟩
  | succ n ih =>
    simp only [takeBk] at h
    have hw := numOf_lt l bad 61 (by omega)
    have hb := num_bytes (bad := bad) (L := 61) hl
    have hk := num_back (bad := bad) (L := 61) hl
    generalize numOf l bad 61 = q at *
    obtain ⟨w, l1, b1⟩ := q
    dsimp only at h hw hb hk
    rcases hc : takeL w l1 b1 with _ | x
    · rw [hc] at h; cases h
    rw [hc] at h
    simp only [Option.bind_some] at h
    split at h
    · cases h
    rename_i hw0
    obtain ⟨k1, k2, k3, k4⟩ := takeL_back (by omega) hb hc
    have hl2 : ∀ c ∈ x.2.1, c < 256 := takeL_bytes (by omega) hb hc
    obtain ⟨j1, j2, _⟩ := hk k1
    rcases hR : takeBk n x.2.1 x.2.2 with _ | Q
    · rw [hR] at h; cases h
    rw [hR] at h
    simp only [Option.map_some, Option.some.injEq] at h
    subst h
    obtain ⟨m2, m3, m4, m5⟩ := ih hl2 hR
    have hxl := k3.1
    refine ⟨m2.trans (k2.trans j1.symm), by simp [m3], ?_, ?_⟩
    · intro d hd
      rcases List.mem_cons.1 hd with rfl | hd
      · exact ⟨by omega, by omega, by rw [hxl]; exact k3⟩
      · exact m4 d hd
    · have : encBk (x.1 :: Q.1) = VM.enc x.1.length ++ (runsB (runs x.1) ++ encBk Q.1) := by simp [encBk]
      rw [this, List.append_assoc, List.append_assoc, ← m5, ← k4, hxl]
      exact j2
theorem takeBk_enc (ls : List (List Cel)) (h : ∀ x ∈ ls, BkOk x) (rest : List Nat) : takeBk ls.length (encBk ls ++ rest) false = some (ls, rest, false) := by
  induction ls with
  | nil => rfl
  | cons x r ih =>
    obtain ⟨h1, h2, h3⟩ := h x (by simp)
    have e : encBk (x :: r) ++ rest = VM.enc x.length ++ (runsB (runs x) ++ (encBk r ++ rest)) := by simp [encBk]
    rw [e, List.length_cons]
    simp only [takeBk]
    rw [num_enc _ _ 61 (by omega) (by omega)]
    simp only
    rw [takeL_enc _ x h3]
    simp only [Option.bind_some]
    rw [if_neg (by omega), ih fun d hd => h d (by simp [hd])]
    rfl
end Go.Proofs.YtdolapobkhhanaaDoor
