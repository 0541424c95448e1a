/-
  Layer 12 (event), plain: an event, lists of them, their bytes, and what any bytes tell. No program.
-/
import Derived.Test.YtciogdhapogolaaDoorVRead
namespace Go.Proofs.YtciogdhapogolaaDoor.EM
open Go.Proofs.YtciogdhapogolaaDoor
set_option maxRecDepth 100000

/-- An event. -/
structure Ev where
  t : Int
  k : Int
  d : ByteArray
  w : Int
  h : Int
  deriving DecidableEq
def zero : Ev := ⟨0, 0, ByteArray.empty, 0, 0⟩
/-- May it be an event of a list? -/
def right (e : Ev) : Bool :=
  decide (0 ≤ e.t) && decide (e.t < 4611686018427387904) && (if e.k = 2 then decide (e.d.size = 0) && decide (1 ≤ e.w) && decide (e.w ≤ 1000) && decide (1 ≤ e.h) && decide (e.h ≤ 1000)
    else decide (0 ≤ e.k) && decide (e.k ≤ 3) && decide (e.d.size ≤ 400) && decide (e.w = 0) && decide (e.h = 0))
/-- May they be a list behind this time? -/
def listB : Int → List Ev → Bool
  | _, [] => true
  | f, e :: l => right e && decide (f ≤ e.t) && listB e.t l
/-- What Tame makes of an event, and of a list. -/
def tameE (t : Int) (e : Ev) : Ev :=
  if e.k % 4 = 2 then ⟨t + e.t % 65536, 2, ByteArray.empty, e.w % 128 + 1, e.h % 128 + 1⟩
  else ⟨t + e.t % 65536, e.k % 4, if 400 < e.d.size then e.d.extract 0 400 else e.d, 0, 0⟩
def tameL : Int → List Ev → List Ev
  | _, [] => []
  | t, e :: l => tameE t e :: tameL (t + e.t % 65536) l
theorem tameE_t (t : Int) (e : Ev) : (tameE t e).t = t + e.t % 65536 := by unfold tameE; split <;> rfl
theorem tameL_len (t : Int) (l : List Ev) : (tameL t l).length = l.length := by
  induction l generalizing t with
  | nil => rfl
  | cons e l ih => simp [tameL, ih]
theorem tameE_right (t : Int) (e : Ev) (h0 : 0 ≤ t) (h1 : t + 65536 ≤ 4611686018427387904) : right (tameE t e) = true := by
  have ht : 0 ≤ e.t % 65536 ∧ e.t % 65536 < 65536 := by omega
  unfold tameE right
  split
  · simp only [↓reduceIte, Bool.and_eq_true, decide_eq_true_eq]
    refine ⟨⟨by omega, by omega⟩, ⟨⟨⟨rfl, by omega⟩, by omega⟩, by omega⟩, by omega⟩
  · rename_i hk
    simp only [Bool.and_eq_true, decide_eq_true_eq]
    refine ⟨⟨by omega, by omega⟩, ⟨⟨⟨by omega, by omega⟩, ?_⟩, trivial⟩, trivial⟩
    split
    · rw [ByteArray.size_extract]; omega
    · omega
theorem tameL_list (l : List Ev) (t : Int) (h0 : 0 ≤ t) (h1 : t + 65536 * l.length ≤ 4611686018427387904) : listB t (tameL t l) = true := by
  induction l generalizing t with
  | nil => rfl
  | cons e l ih =>
    rw [List.length_cons] at h1
    have ht : 0 ≤ e.t % 65536 ∧ e.t % 65536 < 65536 := by omega
    simp only [tameL, listB, Bool.and_eq_true, decide_eq_true_eq]
    refine ⟨⟨tameE_right t e h0 (by omega), by rw [tameE_t]; omega⟩, ?_⟩
    rw [tameE_t]
    exact ih _ (by omega) (by omega)
theorem right_parts {e : Ev} (h : right e = true) : 0 ≤ e.t ∧ e.t < 4611686018427387904 ∧ 0 ≤ e.k ∧ e.k ≤ 3 ∧ 0 ≤ e.w ∧ e.w ≤ 1000 ∧ 0 ≤ e.h ∧ e.h ≤ 1000 ∧ e.d.size ≤ 400 ∧ (e.k = 2 → e.d = ByteArray.empty) ∧ (e.k ≠ 2 → e.w = 0 ∧ e.h = 0) := by
  unfold right at h
  simp only [Bool.and_eq_true, decide_eq_true_eq] at h
  obtain ⟨⟨h1, h2⟩, h3⟩ := h
  split at h3
  · rename_i hk
    simp only [Bool.and_eq_true, decide_eq_true_eq] at h3
    obtain ⟨⟨⟨⟨a, b⟩, c⟩, d⟩, f⟩ := h3
    refine ⟨h1, h2, by omega, by omega, by omega, c, by omega, f, by omega, fun _ => ?_, fun h => absurd hk h⟩
    exact ByteArray.ext (Array.eq_empty_of_size_eq_zero a)
  · rename_i hk
    simp only [Bool.and_eq_true, decide_eq_true_eq] at h3
    obtain ⟨⟨⟨⟨a, b⟩, c⟩, d⟩, f⟩ := h3
    exact ⟨h1, h2, a, b, by omega, by omega, by omega, by omega, c, fun h => absurd h hk, fun _ => ⟨d, f⟩⟩
/-- An event's bytes behind a time; a list's. -/
def evB (f : Int) (e : Ev) : List Nat := VM.enc e.k.toNat ++ (VM.enc (e.t - f).toNat ++ (if e.k = 2 then VM.enc e.w.toNat ++ VM.enc e.h.toNat else VM.enc e.d.size ++ sb e.d))
def encL : Int → List Ev → List Nat
  | _, [] => []
  | f, e :: l => evB f e ++ encL e.t l
/-- The last time of a list behind a time. -/
def lastT : Int → List Ev → Int
  | f, [] => f
  | _, e :: l => lastT e.t l
theorem encL_append (l m : List Ev) (f : Int) : encL f (l ++ m) = encL f l ++ encL (lastT f l) m := by
  induction l generalizing f with
  | nil => rfl
  | cons e l ih => simp only [List.cons_append, encL, lastT, ih, List.append_assoc]
theorem evB_len (f : Int) (e : Ev) (h : right e = true) (hf : 0 ≤ f) : (evB f e).length ≤ 1000 := by
  obtain ⟨h1, h2, h3, h4, h5, h6, h7, h8, h9, _⟩ := right_parts h
  have a1 := VM.enc_len64 (n := e.k.toNat) (by omega)
  have a2 := VM.enc_len64 (n := (e.t - f).toNat) (by omega)
  have a3 := VM.enc_len64 (n := e.w.toNat) (by omega)
  have a4 := VM.enc_len64 (n := e.h.toNat) (by omega)
  have a5 := VM.enc_len64 (n := e.d.size) (by omega)
  unfold evB
  split <;> simp only [List.length_append, sb_len] <;> omega
theorem evB_byte (f : Int) (e : Ev) : ∀ c ∈ evB f e, c < 256 := by
  intro c hc
  unfold evB at hc
  split at hc <;> simp only [List.mem_append] at hc
  · rcases hc with h | h | h | h <;> exact VM.enc_byte _ c h
  · rcases hc with h | h | h | h
    · exact VM.enc_byte _ c h
    · exact VM.enc_byte _ c h
    · exact VM.enc_byte _ c h
    · exact sb_byte _ c h
theorem encL_byte (l : List Ev) (f : Int) : ∀ c ∈ encL f l, c < 256 := by
  induction l generalizing f with
  | nil => simp [encL]
  | cons e l ih =>
    intro c hc
    rcases List.mem_append.1 hc with h | h
    · exact evB_byte f e c h
    · exact ih _ c h

/-! ### numbers and texts that are told come first -/
theorem num_back {l : List Nat} {bad : Bool} {L : Nat} (hl : ∀ c ∈ l, c < 256) (h : (numOf l bad L).2.2 = false) :
    bad = false ∧ l = VM.enc (numOf l bad L).1 ++ (numOf l bad L).2.1 ∧ (numOf l bad L).1 < L := by
  unfold numOf at h ⊢
  split
  · rename_i hc
    rw [if_pos hc] at h
    cases h
  · rename_i hc
    rw [if_neg hc] at h
    have h1 : (VM.take l).2 ≠ 0 := fun e => hc (.inl e)
    have h2 : ¬ L ≤ (VM.take l).1 := fun e => hc (.inr e)
    refine ⟨h, ?_, by simpa using h2⟩
    obtain ⟨rest, e1, _, e3⟩ := VM.take_any l hl h1
    have e4 : l.drop (VM.take l).2 = rest := by
      have e5 := congrArg (List.drop (VM.enc (VM.take l).1).length) e1
      rw [List.drop_left] at e5
      rw [e3]
      exact e5
    rw [e4]
    exact e1
theorem num_bytes {l : List Nat} {bad : Bool} {L : Nat} (hl : ∀ c ∈ l, c < 256) : ∀ c ∈ (numOf l bad L).2.1, c < 256 := by
  unfold numOf
  split
  · simp
  · exact fun c hc => hl c (List.mem_of_mem_drop hc)
theorem num_lt (l : List Nat) (bad : Bool) (L : Nat) (h : 0 < L) : (numOf l bad L).1 < L := by
  unfold numOf
  split <;> simp only <;> omega
/-- What isn't good has nothing left. -/
theorem num_none {l : List Nat} {L : Nat} (h : (numOf l false L).2.2 = true) : (numOf l false L).2.1 = [] := by
  unfold numOf at h ⊢
  split
  · rfl
  · rename_i hc
    rw [if_neg hc] at h
    cases h
theorem num_bad (l : List Nat) (L : Nat) : (numOf l true L).2.2 = true := by
  unfold numOf
  split <;> rfl
theorem text_back {l : List Nat} {bad : Bool} {M : Nat} (hl : ∀ c ∈ l, c < 256) (h : (textOf l bad M).2.2 = false) :
    bad = false ∧ l = VM.enc (textOf l bad M).1.length ++ ((textOf l bad M).1 ++ (textOf l bad M).2.1) ∧ (textOf l bad M).1.length ≤ M := by
  unfold textOf at h ⊢
  split
  · rename_i hc
    rw [if_pos hc] at h
    cases h
  · rename_i hc
    rw [if_neg hc] at h
    obtain ⟨h1, h2, h3⟩ := num_back hl h
    have hln : ((numOf l bad (M + 1)).2.1.take (numOf l bad (M + 1)).1).length = (numOf l bad (M + 1)).1 := by rw [List.length_take]; omega
    refine ⟨h1, ?_, ?_⟩
    · simp only [hln, List.take_append_drop]
      exact h2
    · simp only [hln]; omega
theorem text_bytes {l : List Nat} {bad : Bool} {M : Nat} (hl : ∀ c ∈ l, c < 256) : (∀ c ∈ (textOf l bad M).1, c < 256) ∧ ∀ c ∈ (textOf l bad M).2.1, c < 256 := by
  unfold textOf
  have hb := num_bytes (bad := bad) (L := M + 1) hl
  split
  · simp
  · exact ⟨fun c hc => hb c (List.mem_of_mem_take hc), fun c hc => hb c (List.mem_of_mem_drop hc)⟩

theorem sb_str (l : List Nat) (hl : ∀ c ∈ l, c < 256) : sb (str l) = l := by
  unfold sb
  rw [str_list, List.map_map]
  conv => rhs; rw [← List.map_id l]
  exact List.map_congr_left fun c hc => by have := hl c hc; simp; omega
/-! ### what Take reads -/
/-- The event that bytes tell behind a time, what is left, was something missing? -/
def readE (f : Nat) (l : List Nat) (bad : Bool) : Ev × List Nat × Bool :=
  let r1 := numOf l bad 4
  let r2 := numOf r1.2.1 r1.2.2 (4611686018427387904 - f)
  if r1.1 = 2 then
    let r3 := numOf r2.2.1 r2.2.2 1001
    let r4 := numOf r3.2.1 r3.2.2 1001
    (⟨(f : Int) + r2.1, 2, ByteArray.empty, r3.1, r4.1⟩, r4.2)
  else
    let r3 := textOf r2.2.1 r2.2.2 400
    (⟨(f : Int) + r2.1, r1.1, str r3.1, 0, 0⟩, r3.2)
theorem num_enc (n : Nat) (rest : List Nat) (L : Nat) (hn : n < L) (h : n < 18446744073709551616) : numOf (VM.enc n ++ rest) false L = (n, rest, false) := by
  rw [numOf_enc n rest false L h, if_neg (by omega)]
/-- What was put is read. -/
theorem readE_enc (f : Nat) (e : Ev) (rest : List Nat) (h : right e = true) (hf : (f : Int) ≤ e.t) : readE f (evB f e ++ rest) false = (e, rest, false) := by
  obtain ⟨h1, h2, h3, h4, h5, h6, h7, h8, h9, h10, h11⟩ := right_parts h
  obtain ⟨t, k, d, w, hh⟩ := e
  simp only at *
  obtain ⟨k, rfl⟩ := Int.eq_ofNat_of_zero_le h3
  obtain ⟨w, rfl⟩ := Int.eq_ofNat_of_zero_le h5
  obtain ⟨hh, rfl⟩ := Int.eq_ofNat_of_zero_le h7
  obtain ⟨q, hq⟩ := Int.eq_ofNat_of_zero_le (show 0 ≤ t - f by omega)
  unfold evB readE
  simp only [Int.toNat_natCast, hq]
  by_cases hk : k = 2
  · subst hk
    have hd := h10 rfl
    subst hd
    rw [if_pos (show ((2 : Nat) : Int) = 2 from rfl), List.append_assoc, num_enc 2 _ 4 (by omega) (by omega)]
    simp only [↓reduceIte, List.append_assoc]
    rw [num_enc q _ _ (by omega) (by omega)]
    simp only
    rw [num_enc w _ _ (by omega) (by omega)]
    simp only
    rw [num_enc hh _ _ (by omega) (by omega)]
    simp only [Prod.mk.injEq, Ev.mk.injEq, and_true]
    omega
  · obtain ⟨hw, hh0⟩ := h11 (by omega)
    rw [if_neg (show ¬ ((k : Nat) : Int) = 2 by omega), List.append_assoc, num_enc k _ 4 (by omega) (by omega)]
    simp only [if_neg hk, List.append_assoc]
    rw [num_enc q _ _ (by omega) (by omega)]
    simp only
    rw [← sb_len d, textOf_enc (sb d) rest false 400 (by rw [sb_len]; omega), if_neg (by rw [sb_len]; omega)]
    simp only [Prod.mk.injEq, Ev.mk.injEq, and_true, str_sb]
    refine ⟨by omega, trivial, trivial, hw.symm, hh0.symm⟩
/-- What is read, if it is right, is what the bytes begin with. -/
theorem readE_back {f : Nat} {l : List Nat} (hl : ∀ c ∈ l, c < 256) (h : (readE f l false).2.2 = false) :
    l = evB f (readE f l false).1 ++ (readE f l false).2.1 ∧ (f : Int) ≤ (readE f l false).1.t := by
  have b1 := num_bytes (bad := false) (L := 4) hl
  have b2 := num_bytes (bad := (numOf l false 4).2.2) (L := 4611686018427387904 - f) b1
  unfold readE at h ⊢
  simp only at h ⊢
  by_cases hk : (numOf l false 4).1 = 2
  · rw [if_pos hk] at h ⊢
    simp only at h ⊢
    have b3 := num_bytes (bad := (numOf (numOf l false 4).2.1 (numOf l false 4).2.2 (4611686018427387904 - f)).2.2) (L := 1001) b2
    obtain ⟨c4, e4, -⟩ := num_back b3 h
    obtain ⟨c3, e3, -⟩ := num_back b2 c4
    obtain ⟨c2, e2, -⟩ := num_back b1 c3
    obtain ⟨-, e1, -⟩ := num_back hl c2
    refine ⟨?_, by omega⟩
    unfold evB
    simp only [↓reduceIte, List.append_assoc, Int.toNat_natCast]
    rw [show ((2 : Int)).toNat = 2 from rfl, show ((f : Int) + ((numOf (numOf l false 4).2.1 (numOf l false 4).2.2 (4611686018427387904 - f)).1 : Nat) - (f : Int)).toNat = (numOf (numOf l false 4).2.1 (numOf l false 4).2.2 (4611686018427387904 - f)).1 by omega, ← e4, ← e3, ← e2]
    conv => lhs; rw [e1, hk]
  · rw [if_neg hk] at h ⊢
    simp only at h ⊢
    obtain ⟨c3, e3, -⟩ := text_back b2 h
    obtain ⟨c2, e2, -⟩ := num_back b1 c3
    obtain ⟨-, e1, -⟩ := num_back hl c2
    have b3 := (text_bytes (bad := (numOf (numOf l false 4).2.1 (numOf l false 4).2.2 (4611686018427387904 - f)).2.2) (M := 400) b2).1
    refine ⟨?_, by omega⟩
    unfold evB
    simp only [List.append_assoc, Int.toNat_natCast]
    rw [if_neg (by omega), str_size, sb_str _ b3, show ((f : Int) + ((numOf (numOf l false 4).2.1 (numOf l false 4).2.2 (4611686018427387904 - f)).1 : Nat) - (f : Int)).toNat = (numOf (numOf l false 4).2.1 (numOf l false 4).2.2 (4611686018427387904 - f)).1 by omega, List.append_assoc, ← e3, ← e2]
    exact e1
/-! ### lists that are later; how many are no later -/
def later (by_ : Int) (e : Ev) : Ev := ⟨e.t + by_, e.k, e.d, e.w, e.h⟩
/-- How many are no later. -/
def upTo (l : List Ev) (t : Int) : Nat := l.countP fun e => decide (e.t ≤ t)
theorem listB_rise {l : List Ev} : ∀ {f : Int}, listB f l = true → ∀ i (hi : i < l.length), f ≤ l[i].t ∧ ∀ j (hj : j < l.length), i ≤ j → l[i].t ≤ l[j].t := by
  induction l with
  | nil => intro f _ i hi; simp at hi
  | cons e l ih =>
    intro f h i hi
    simp only [listB, Bool.and_eq_true, decide_eq_true_eq] at h
    obtain ⟨⟨-, h1⟩, h2⟩ := h
    cases i with
    | zero =>
      refine ⟨h1, fun j hj _ => ?_⟩
      cases j with
      | zero => exact Int.le_refl _
      | succ j => exact (ih h2 j (by simpa using hj)).1
    | succ i =>
      have hi' : i < l.length := by simpa using hi
      refine ⟨Int.le_trans h1 (ih h2 i hi').1, fun j hj hij => ?_⟩
      cases j with
      | zero => omega
      | succ j => exact (ih h2 i hi').2 j (by simpa using hj) (by omega)
theorem listB_right {l : List Ev} : ∀ {f : Int}, listB f l = true → ∀ e ∈ l, right e = true := by
  induction l with
  | nil => intro f _ e he; cases he
  | cons x l ih =>
    intro f h e he
    simp only [listB, Bool.and_eq_true, decide_eq_true_eq] at h
    rcases List.mem_cons.1 he with rfl | he
    · exact h.1.1
    · exact ih h.2 e he
end Go.Proofs.YtciogdhapogolaaDoor.EM
