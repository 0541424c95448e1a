/-
  Plain mathematics of layer 2 (crc): the register, the sum, frames, what bytes begin with. No program, no walk.
-/
import Derived.Test.YtfndbgdamplelaaVMath
namespace Go.Proofs.Ytfndbgdamplelaa.CM

/-- One step of the register: one to the right, turned where a 1 went out. -/
def zs (r : Nat) : Nat := (r / 2) ^^^ (if r % 2 = 1 then 3988292384 else 0)

theorem pat_bit (i : Nat) (h : 32 ≤ i) : Nat.testBit 3988292384 i = false := Nat.testBit_lt_two_pow (Nat.lt_of_lt_of_le (by decide) (Nat.pow_le_pow_right (by decide) h))

theorem zs_bit (r i : Nat) : (zs r).testBit i = (r.testBit (i + 1) ^^ (r.testBit 0 && Nat.testBit 3988292384 i)) := by
  unfold zs
  rw [Nat.testBit_xor, Nat.testBit_succ]
  congr 1
  rw [Nat.testBit_zero]
  by_cases h : r % 2 = 1
  · simp [h]
  · simp [h]

theorem zs_xor (a b : Nat) : zs (a ^^^ b) = zs a ^^^ zs b := by
  apply Nat.eq_of_testBit_eq
  intro i
  rw [Nat.testBit_xor, zs_bit, zs_bit, zs_bit, Nat.testBit_xor, Nat.testBit_xor]
  cases a.testBit (i + 1) <;> cases b.testBit (i + 1) <;> cases a.testBit 0 <;> cases b.testBit 0 <;> cases Nat.testBit 3988292384 i <;> rfl

theorem zs_zero : zs 0 = 0 := by decide
theorem zs_lt {r : Nat} (h : r < 4294967296) : zs r < 4294967296 := by
  unfold zs
  exact Nat.xor_lt_two_pow (n := 32) (by show _ < 4294967296; omega) (by split <;> decide)
theorem zs_double (x : Nat) : zs (2 * x) = x := by
  unfold zs
  rw [show 2 * x / 2 = x from by omega, if_neg (by omega), Nat.xor_zero]
theorem zs_ne {r : Nat} (h : r < 4294967296) (h0 : zs r = 0) : r = 0 := by
  have b0 : r.testBit 0 = false := by
    have e := congrArg (fun x => Nat.testBit x 31) h0
    simp only [zs_bit, Nat.zero_testBit] at e
    rw [Nat.testBit_lt_two_pow (show r < 2 ^ (31 + 1) from h)] at e
    have p : Nat.testBit 3988292384 31 = true := by decide
    rw [p] at e
    simpa using e
  apply Nat.eq_of_testBit_eq
  intro i
  rw [Nat.zero_testBit]
  cases i with
  | zero => exact b0
  | succ i =>
    have e := congrArg (fun x => Nat.testBit x i) h0
    simp only [zs_bit, Nat.zero_testBit, b0] at e
    simpa using e

/-- As many steps. -/
def zn : Nat → Nat → Nat
  | 0, r => r
  | k + 1, r => zn k (zs r)
theorem zn_xor (k a b : Nat) : zn k (a ^^^ b) = zn k a ^^^ zn k b := by
  induction k generalizing a b with
  | zero => rfl
  | succ k ih => simp only [zn]; rw [zs_xor, ih]
theorem zn_lt {k r : Nat} (h : r < 4294967296) : zn k r < 4294967296 := by
  induction k generalizing r with
  | zero => exact h
  | succ k ih => exact ih (zs_lt h)
theorem zn_ne {k r : Nat} (h : r < 4294967296) (h0 : zn k r = 0) : r = 0 := by
  induction k generalizing r with
  | zero => exact h0
  | succ k ih => exact zs_ne h (ih (zs_lt h) h0)
theorem zn_zero (k : Nat) : zn k 0 = 0 := by
  induction k with
  | zero => rfl
  | succ k ih => simp only [zn]; rw [zs_zero]; exact ih
theorem zn_pow (k x : Nat) : zn k (2 ^ k * x) = x := by
  induction k generalizing x with
  | zero => simp [zn]
  | succ k ih =>
    simp only [zn]
    rw [show 2 ^ (k + 1) * x = 2 * (2 ^ k * x) from by rw [Nat.pow_succ, Nat.mul_comm (2 ^ k) 2, Nat.mul_assoc], zs_double, ih]

/-- What the program's loop does from a bit on, k bits left: x is what is left of the byte. -/
def sh : Nat → Nat → Nat → Nat
  | 0, r, _ => r
  | k + 1, r, x => sh k ((r / 2) ^^^ (if (r ^^^ x) % 2 = 1 then 3988292384 else 0)) (x / 2)

theorem xor_mod2 (r x : Nat) : (r ^^^ x) % 2 = (r ^^^ (x % 2)) % 2 := by
  have h : ∀ a : Nat, a % 2 = (a.testBit 0).toNat := fun a => by rw [Nat.testBit_zero]; by_cases h : a % 2 = 1 <;> simp [h]; omega
  rw [h, h, Nat.testBit_xor, Nat.testBit_xor]
  congr 2
  rw [Nat.testBit_zero, Nat.testBit_zero, Nat.mod_mod]

theorem xor_half (r x : Nat) : (r ^^^ x) / 2 = (r / 2) ^^^ (x / 2) := by
  apply Nat.eq_of_testBit_eq
  intro i
  rw [← Nat.testBit_succ, Nat.testBit_xor, Nat.testBit_xor, Nat.testBit_succ, Nat.testBit_succ]

theorem sh_eq (k r x : Nat) (hx : x < 2 ^ k) : sh k r x = zn k (r ^^^ x) := by
  induction k generalizing r x with
  | zero => simp only [sh, zn]; rw [show x = 0 from by omega, Nat.xor_zero]
  | succ k ih =>
    simp only [sh, zn]
    rw [ih _ _ (by rw [Nat.pow_succ] at hx; omega)]
    congr 1
    unfold zs
    rw [xor_half]
    rw [Nat.xor_assoc, Nat.xor_assoc, Nat.xor_comm (x / 2)]

/-- The register behind one byte more. -/
def byte (r x : Nat) : Nat := zn 8 (r ^^^ x)
theorem byte_lt {r x : Nat} (hr : r < 4294967296) (hx : x < 256) : byte r x < 4294967296 := zn_lt (Nat.xor_lt_two_pow (n := 32) hr (by show _ < 4294967296; omega))
/-- The register behind bytes. -/
def reg (r : Nat) (l : List Nat) : Nat := l.foldl byte r
theorem reg_nil (r : Nat) : reg r [] = r := rfl
theorem reg_cons (r x : Nat) (l : List Nat) : reg r (x :: l) = reg (byte r x) l := rfl
theorem reg_append (r : Nat) (l m : List Nat) : reg r (l ++ m) = reg (reg r l) m := List.foldl_append
theorem reg_lt {r : Nat} {l : List Nat} (hr : r < 4294967296) (hl : ∀ x ∈ l, x < 256) : reg r l < 4294967296 := by
  induction l generalizing r with
  | nil => exact hr
  | cons x l ih => exact ih (byte_lt hr (hl x (by simp))) (fun y hy => hl y (by simp [hy]))

def sum (l : List Nat) : Nat := reg 4294967295 l ^^^ 4294967295
theorem sum_lt {l : List Nat} (hl : ∀ x ∈ l, x < 256) : sum l < 4294967296 := Nat.xor_lt_two_pow (n := 32) (reg_lt (by decide) hl) (by decide)
theorem sum_known : sum [49, 50, 51, 52, 53, 54, 55, 56, 57] = 3421780262 := by decide +kernel

/-- Four bytes of a number, the lowest first. -/
def le4 (s : Nat) : List Nat := [s % 256, s / 256 % 256, s / 65536 % 256, s / 16777216 % 256]
theorem le4_len (s : Nat) : (le4 s).length = 4 := rfl
theorem le4_byte (s : Nat) : ∀ x ∈ le4 s, x < 256 := by simp [le4]; omega
/-- The number of the four bytes that these begin with. -/
def rd4 (l : List Nat) : Nat := l.getD 0 0 + 256 * l.getD 1 0 + 65536 * l.getD 2 0 + 16777216 * l.getD 3 0
theorem rd4_le4 (s : Nat) (h : s < 4294967296) (m : List Nat) : rd4 (le4 s ++ m) = s := by
  simp [rd4, le4]; omega
theorem le4_rd4 (a b c d : Nat) (m : List Nat) (ha : a < 256) (hb : b < 256) (hc : c < 256) (hd : d < 256) : le4 (rd4 (a :: b :: c :: d :: m)) = [a, b, c, d] := by
  simp [rd4, le4]; omega
theorem rd4_lt (a b c d : Nat) (m : List Nat) (ha : a < 256) (hb : b < 256) (hc : c < 256) (hd : d < 256) : rd4 (a :: b :: c :: d :: m) < 4294967296 := by
  simp [rd4]; omega

theorem split_xor (s k : Nat) : s = (s % 2 ^ k) ^^^ (2 ^ k * (s / 2 ^ k)) := by
  apply Nat.eq_of_testBit_eq
  intro i
  rw [Nat.testBit_xor, Nat.testBit_mod_two_pow, Nat.mul_comm, ← Nat.shiftLeft_eq, Nat.testBit_shiftLeft, Nat.testBit_div_two_pow]
  by_cases h : i < k
  · simp [h, show ¬ k ≤ i by omega]
  · simp [h, show k ≤ i by omega]

theorem byte_split (r s : Nat) : byte r (s % 256) ^^^ (s / 256) = zn 8 (r ^^^ s) := by
  have h := split_xor s 8
  conv => rhs; rw [h, ← Nat.xor_assoc, zn_xor, zn_pow]
  rfl

theorem zn_add (a b r : Nat) : zn b (zn a r) = zn (a + b) r := by
  induction a generalizing r with
  | zero => simp [zn]
  | succ a ih => rw [show a + 1 + b = (a + b) + 1 from by omega]; simp only [zn]; exact ih _

/-- Four bytes into the register: 32 steps of both, held against one another. -/
theorem reg_le4 (r s : Nat) (h : s < 4294967296) : reg r (le4 s) = zn 32 (r ^^^ s) := by
  unfold le4
  rw [reg_cons, reg_cons, reg_cons, reg_cons, reg_nil]
  have e3 : ∀ q, byte q (s / 16777216 % 256) = zn 8 (q ^^^ (s / 16777216)) := fun q => by
    rw [show s / 16777216 % 256 = s / 16777216 from by omega]; rfl
  have e2 : ∀ q, byte q (s / 65536 % 256) ^^^ (s / 16777216) = zn 8 (q ^^^ (s / 65536)) := fun q => by
    have := byte_split q (s / 65536)
    rw [show s / 65536 / 256 = s / 16777216 from by omega] at this
    exact this
  have e1 : ∀ q, byte q (s / 256 % 256) ^^^ (s / 65536) = zn 8 (q ^^^ (s / 256)) := fun q => by
    have := byte_split q (s / 256)
    rw [show s / 256 / 256 = s / 65536 from by omega] at this
    exact this
  rw [e3, e2, e1, byte_split, zn_add, zn_add, zn_add]

/-- Bytes held against one another. -/
def xors (l m : List Nat) : List Nat := List.zipWith (· ^^^ ·) l m
theorem reg_xor (l m : List Nat) (h : l.length = m.length) (a b : Nat) : reg (a ^^^ b) (xors l m) = reg a l ^^^ reg b m := by
  induction l generalizing m a b with
  | nil => cases m with
    | nil => rfl
    | cons => simp at h
  | cons x l ih => cases m with
    | nil => simp at h
    | cons y m =>
      simp only [xors, List.zipWith_cons_cons, reg_cons]
      have := ih m (by simpa using h) (byte a x) (byte b y)
      rw [show byte (a ^^^ b) (x ^^^ y) = byte a x ^^^ byte b y from ?_]
      · exact this
      · unfold byte
        rw [← zn_xor]
        congr 1
        rw [Nat.xor_assoc, Nat.xor_assoc, ← Nat.xor_assoc b, Nat.xor_comm b x, Nat.xor_assoc x]

theorem reg_zeros (k r : Nat) : reg r (List.replicate k 0) = zn (8 * k) r := by
  induction k generalizing r with
  | zero => rfl
  | succ k ih =>
    rw [List.replicate_succ, reg_cons, ih]
    unfold byte
    rw [Nat.xor_zero, zn_add]
    congr 1
    omega

/-- A frame. -/
def frame (l : List Nat) : List Nat := VM.enc l.length ++ l ++ le4 (sum (VM.enc l.length ++ l))
theorem frame_len (l : List Nat) : (frame l).length = (VM.enc l.length).length + l.length + 4 := by
  unfold frame; simp [le4_len]; omega
theorem frame_byte {l : List Nat} (hl : ∀ x ∈ l, x < 256) : ∀ x ∈ frame l, x < 256 := by
  unfold frame
  intro x hx
  rcases List.mem_append.1 hx with h | h
  · rcases List.mem_append.1 h with h | h
    · exact VM.enc_byte _ x h
    · exact hl x h
  · exact le4_byte _ x h

/-- What Next tells: the bytes, and how many the frame has; 0: none. -/
def next (l : List Nat) : List Nat × Nat :=
  let n := (VM.take l).1
  let k := (VM.take l).2
  if k = 0 ∨ l.length < k + 4 ∨ l.length - k - 4 < n then ([], 0)
  else if rd4 (l.drop (k + n)) = sum (l.take (k + n)) then ((l.drop k).take n, k + n + 4)
  else ([], 0)

theorem next_frame (x m : List Nat) (hx : x.length < 18446744073709551616) (hb : ∀ c ∈ x, c < 256) : next (frame x ++ m) = (x, (frame x).length) := by
  have ht : VM.take (frame x ++ m) = (x.length, (VM.enc x.length).length) := by
    unfold frame
    rw [List.append_assoc, List.append_assoc, VM.take_enc _ _ hx]
  have hp := VM.enc_pos x.length
  unfold next
  simp only [ht]
  rw [if_neg (by rw [List.length_append, frame_len]; omega)]
  have hd : (frame x ++ m).drop ((VM.enc x.length).length + x.length) = le4 (sum (VM.enc x.length ++ x)) ++ m := by
    unfold frame
    rw [List.append_assoc, ← List.length_append, List.drop_left]
  have htk : (frame x ++ m).take ((VM.enc x.length).length + x.length) = VM.enc x.length ++ x := by
    unfold frame
    rw [List.append_assoc, ← List.length_append, List.take_left]
  have hs : sum (VM.enc x.length ++ x) < 4294967296 := sum_lt fun c hc => (List.mem_append.1 hc).elim (VM.enc_byte _ c) (hb c)
  rw [hd, htk, rd4_le4 _ hs, if_pos rfl]
  have hx2 : ((frame x ++ m).drop (VM.enc x.length).length).take x.length = x := by
    unfold frame
    rw [List.append_assoc, List.append_assoc, List.drop_left, List.take_left]
  rw [hx2, frame_len]

theorem next_any (l : List Nat) (hl : ∀ c ∈ l, c < 256) (hk : (next l).2 ≠ 0) : ∃ m, l = frame (next l).1 ++ m ∧ (next l).2 = (frame (next l).1).length ∧ (next l).1.length < 18446744073709551616 := by
  unfold next at hk ⊢
  simp only at hk ⊢
  by_cases h1 : (VM.take l).2 = 0 ∨ l.length < (VM.take l).2 + 4 ∨ l.length - (VM.take l).2 - 4 < (VM.take l).1
  · rw [if_pos h1] at hk; simp at hk
  rw [if_neg h1] at hk ⊢
  have h2 : rd4 (l.drop ((VM.take l).2 + (VM.take l).1)) = sum (l.take ((VM.take l).2 + (VM.take l).1)) := by
    by_cases h2 : rd4 (l.drop ((VM.take l).2 + (VM.take l).1)) = sum (l.take ((VM.take l).2 + (VM.take l).1))
    · exact h2
    · rw [if_neg h2] at hk; simp at hk
  rw [if_pos h2]
  clear hk
  obtain ⟨rest, he, hn, hkl⟩ := VM.take_any l hl (by omega)
  generalize (VM.take l).1 = n at *
  generalize (VM.take l).2 = k at *
  have hr : rest.length = l.length - k := by
    have := congrArg List.length he
    rw [List.length_append] at this
    omega
  have hdk : l.drop k = rest := by rw [he, hkl, List.drop_left]
  have hx : (rest.take n).length = n := by rw [List.length_take]; omega
  have hdn : l.drop (k + n) = rest.drop n := by rw [← List.drop_drop, hdk]
  have htn : l.take (k + n) = VM.enc n ++ rest.take n := by
    rw [he, hkl, List.take_length_add_append]
  simp only [hdk]
  obtain ⟨a, b, c, d, m, hm⟩ : ∃ a b c d m, rest.drop n = a :: b :: c :: d :: m := by
    have h4 : 4 ≤ (rest.drop n).length := by rw [List.length_drop]; omega
    generalize rest.drop n = q at h4
    match q, h4 with
    | a :: b :: c :: d :: m, _ => exact ⟨a, b, c, d, m, rfl⟩
  have hbb : ∀ x ∈ rest.drop n, x < 256 := fun x hx => hl x (by rw [← hdn] at hx; exact List.mem_of_mem_drop hx)
  rw [hm] at hbb
  rw [hdn, htn, hm] at h2
  refine ⟨m, ?_, ?_, by rw [hx]; exact hn⟩
  · unfold frame
    rw [hx, ← h2, le4_rd4 a b c d m (hbb a (by simp)) (hbb b (by simp)) (hbb c (by simp)) (hbb d (by simp))]
    rw [List.append_assoc, List.append_assoc]
    show l = VM.enc n ++ (rest.take n ++ (a :: b :: c :: d :: m))
    rw [← hm, List.take_append_drop]
    exact he
  · rw [frame_len, hx, ← hkl]

theorem next_zero (l : List Nat) (hk : (next l).2 = 0) : (next l).1 = [] := by
  unfold next at hk ⊢
  simp only at hk ⊢
  split
  · rfl
  · rename_i h; rw [if_neg h] at hk
    split
    · rename_i h2; rw [if_pos h2] at hk; simp at hk
    · rfl
theorem next_le (l : List Nat) (hl : ∀ c ∈ l, c < 256) : (next l).2 ≤ l.length ∧ (next l).1.length + 5 ≤ l.length + 5 := by
  by_cases hk : (next l).2 = 0
  · rw [hk, next_zero l hk]; simp
  · obtain ⟨m, h1, h2, _⟩ := next_any l hl hk
    have := congrArg List.length h1
    rw [List.length_append] at this
    have := frame_len (next l).1
    omega
theorem next_five (l : List Nat) (hl : ∀ c ∈ l, c < 256) (hk : (next l).2 ≠ 0) : 5 ≤ (next l).2 := by
  obtain ⟨m, _, h2, _⟩ := next_any l hl hk
  have := frame_len (next l).1
  have := VM.enc_pos (next l).1.length
  omega
theorem next_short (l : List Nat) (hl : ∀ c ∈ l, c < 256) (h : l.length < 5) : next l = ([], 0) := by
  have h0 : (next l).2 = 0 := by
    rcases Nat.eq_zero_or_pos (next l).2 with h0 | h0
    · exact h0
    · have := next_five l hl (by omega)
      have := (next_le l hl).1
      omega
  exact Prod.ext (next_zero l h0) h0
/-- What is a beginning of a frame, and not all of it, begins with no frame. -/
theorem next_cut (x : List Nat) (k : Nat) (hx : x.length < 18446744073709551616) (hb : ∀ c ∈ x, c < 256) (h : k < (frame x).length) : next ((frame x).take k) = ([], 0) := by
  have hby : ∀ c ∈ (frame x).take k, c < 256 := fun c hc => frame_byte hb c (List.mem_of_mem_take hc)
  have h0 : (next ((frame x).take k)).2 = 0 := by
    rcases Nat.eq_zero_or_pos (next ((frame x).take k)).2 with h0 | h0
    · exact h0
    · exfalso
      obtain ⟨m, h1, h2, h3⟩ := next_any _ hby (by omega)
      have hyb : ∀ c ∈ (next ((frame x).take k)).1, c < 256 := fun c hc => by
        apply hby
        rw [h1]
        unfold frame
        simp only [List.mem_append]
        exact .inl (.inl (.inr hc))
      generalize (next ((frame x).take k)).1 = y at *
      have e : frame x = frame y ++ (m ++ (frame x).drop k) := by
        rw [← List.append_assoc, ← h1, List.take_append_drop]
      have e1 := next_frame x [] hx hb
      rw [List.append_nil, e, next_frame y _ h3 hyb] at e1
      have e2 : (frame y).length = (frame x).length := by have := congrArg Prod.snd e1; simpa [← e] using this
      have := congrArg List.length h1
      rw [List.length_append, List.length_take] at this
      omega
  exact Prod.ext (next_zero _ h0) h0

/-- Frames, one behind the other. -/
def frames (l : List (List Nat)) : List Nat := l.flatMap frame
theorem frames_cons (x : List Nat) (l : List (List Nat)) : frames (x :: l) = frame x ++ frames l := by simp [frames]
theorem frames_snoc (x : List Nat) (l : List (List Nat)) : frames (l ++ [x]) = frames l ++ frame x := by simp [frames]
theorem frames_byte {l : List (List Nat)} (hl : ∀ x ∈ l, ∀ c ∈ x, c < 256) : ∀ c ∈ frames l, c < 256 := by
  intro c hc
  obtain ⟨x, hx, hc⟩ := List.mem_flatMap.1 hc
  exact frame_byte (hl x hx) c hc

theorem frames_len5 (l : List (List Nat)) : 5 * l.length ≤ (frames l).length := by
  induction l with
  | nil => simp
  | cons x l ih =>
    rw [frames_cons, List.length_append, List.length_cons, frame_len]
    have := VM.enc_pos x.length
    omega
/-- What bytes begin with is told in one way. -/
theorem frames_unique (a b : List (List Nat)) (r s : List Nat) (ha : ∀ x ∈ a, x.length < 18446744073709551616 ∧ ∀ c ∈ x, c < 256) (hb : ∀ x ∈ b, x.length < 18446744073709551616 ∧ ∀ c ∈ x, c < 256)
    (hr : next r = ([], 0)) (hs : next s = ([], 0)) (h : frames a ++ r = frames b ++ s) : a = b ∧ r = s := by
  induction a generalizing b with
  | nil =>
    cases b with
    | nil => exact ⟨rfl, by simpa [frames] using h⟩
    | cons y b =>
      exfalso
      rw [frames_cons, List.append_assoc] at h
      have h : r = frame y ++ (frames b ++ s) := by simpa [frames] using h
      rw [h, next_frame y _ (hb y (by simp)).1 (hb y (by simp)).2] at hr
      have := congrArg Prod.snd hr
      simp only [frame_len] at this
      omega
  | cons x a ih =>
    cases b with
    | nil =>
      exfalso
      rw [frames_cons, List.append_assoc] at h
      have h : frame x ++ (frames a ++ r) = s := by simpa [frames] using h
      rw [← h, next_frame x _ (ha x (by simp)).1 (ha x (by simp)).2] at hs
      have := congrArg Prod.snd hs
      simp only [frame_len] at this
      omega
    | cons y b =>
      rw [frames_cons, frames_cons, List.append_assoc, List.append_assoc] at h
      have e1 := next_frame x (frames a ++ r) (ha x (by simp)).1 (ha x (by simp)).2
      rw [h, next_frame y _ (hb y (by simp)).1 (hb y (by simp)).2] at e1
      have e : y = x := congrArg Prod.fst e1
      subst e
      have h := List.append_cancel_left h
      obtain ⟨h1, h2⟩ := ih b (fun x hx => ha x (by simp [hx])) (fun x hx => hb x (by simp [hx])) h
      exact ⟨by rw [h1], h2⟩
theorem frames_append (a b : List (List Nat)) : frames (a ++ b) = frames a ++ frames b := by simp [frames]
/-- Frames that are cut off anywhere: those that are whole, and behind them what is no frame. -/
theorem frames_cut_at (l : List (List Nat)) (k t : Nat) (hl : ∀ x ∈ l, x.length < 18446744073709551616 ∧ ∀ c ∈ x, c < 256) (hk : k ≤ l.length) (h1 : (frames (l.take k)).length ≤ t) (h2 : k < l.length → t < (frames (l.take (k + 1))).length) :
    ∃ rest, (frames l).take t = frames (l.take k) ++ rest ∧ next rest = ([], 0) := by
  have e : frames l = frames (l.take k) ++ frames (l.drop k) := by rw [← frames_append, List.take_append_drop]
  have e2 : (frames l).take t = frames (l.take k) ++ (frames (l.drop k)).take (t - (frames (l.take k)).length) := by
    conv => lhs; rw [e, show t = (frames (l.take k)).length + (t - (frames (l.take k)).length) from by omega]
    rw [List.take_length_add_append]
  refine ⟨_, e2, ?_⟩
  by_cases hlt : k < l.length
  · have h2 := h2 hlt
    have hx : l[k] ∈ l := List.getElem_mem _
    rw [List.take_succ_eq_append_getElem hlt, frames_snoc, List.length_append] at h2
    rw [List.drop_eq_getElem_cons hlt, frames_cons, List.take_append_of_le_length (by omega)]
    exact next_cut _ _ (hl _ hx).1 (hl _ hx).2 (by omega)
  · rw [List.drop_eq_nil_of_le (by omega)]
    simp only [frames, List.flatMap_nil, List.take_nil]
    exact next_short [] (by simp) (by simp)

/-- A burst: up to four bytes side by side, turned. -/
def burst (l : List Nat) (o t : Nat) : List Nat := xors l (List.replicate o 0 ++ le4 t ++ List.replicate (l.length - o - 4) 0)

theorem xors_len (l m : List Nat) (h : l.length = m.length) : (xors l m).length = l.length := by simp [xors, h]
theorem xors_append (a b c d : List Nat) (h : a.length = c.length) : xors (a ++ b) (c ++ d) = xors a c ++ xors b d := by
  unfold xors; exact List.zipWith_append h
theorem xors_byte (l m : List Nat) (hl : ∀ x ∈ l, x < 256) (hm : ∀ x ∈ m, x < 256) : ∀ x ∈ xors l m, x < 256 := by
  induction l generalizing m with
  | nil => simp [xors]
  | cons a l ih => cases m with
    | nil => simp [xors]
    | cons b m =>
      simp only [xors, List.zipWith_cons_cons, List.mem_cons]
      rintro x (rfl | hx)
      · exact Nat.xor_lt_two_pow (n := 8) (hl a (by simp)) (hm b (by simp))
      · exact ih m (fun x hx => hl x (by simp [hx])) (fun x hx => hm x (by simp [hx])) x hx

theorem bad_sum (h p : List Nat) (o t : Nat) (hh : ∀ x ∈ h, x < 256) (hp : ∀ x ∈ p, x < 256) (ht : t < 4294967296) (ht0 : t ≠ 0) (ho : o ≤ p.length) :
    rd4 ((burst (p ++ le4 (sum (h ++ p))) o t).drop p.length) ≠ sum (h ++ (burst (p ++ le4 (sum (h ++ p))) o t).take p.length) := by
  intro e
  have hsum : sum (h ++ p) < 4294967296 := sum_lt fun c hc => (List.mem_append.1 hc).elim (hh c) (hp c)
  generalize hd : List.replicate o 0 ++ le4 t ++ List.replicate (p.length - o) 0 = d at *
  have hb : burst (p ++ le4 (sum (h ++ p))) o t = xors (p ++ le4 (sum (h ++ p))) d := by
    unfold burst
    rw [List.length_append, le4_len, show p.length + 4 - o - 4 = p.length - o from by omega, hd]
  rw [hb] at e
  have hdl : d.length = p.length + 4 := by rw [← hd]; simp [le4_len]; omega
  have hdb : ∀ x ∈ d, x < 256 := by
    rw [← hd]
    intro x hx
    rcases List.mem_append.1 hx with h1 | h1
    · rcases List.mem_append.1 h1 with h1 | h1
      · have := List.eq_of_mem_replicate h1; omega
      · exact le4_byte _ x h1
    · have := List.eq_of_mem_replicate h1; omega
  generalize hy : xors (p ++ le4 (sum (h ++ p))) d = y at *
  have hyl : y.length = p.length + 4 := by rw [← hy, xors_len _ _ (by rw [hdl, List.length_append, le4_len]), List.length_append, le4_len]
  have hyb : ∀ x ∈ y, x < 256 := by
    rw [← hy]
    exact xors_byte _ _ (fun x hx => (List.mem_append.1 hx).elim (hp x) (le4_byte _ x)) hdb
  -- the register behind all bytes
  have r0 : reg (reg 4294967295 h) (p ++ le4 (sum (h ++ p))) = zn 32 4294967295 := by
    rw [reg_append, reg_le4 _ _ hsum]
    congr 1
    unfold sum
    rw [reg_append, ← Nat.xor_assoc, Nat.xor_self, Nat.zero_xor]
  have r1 : reg (reg 4294967295 h) y = zn 32 4294967295 := by
    obtain ⟨a, b, c, q, hm⟩ : ∃ a b c q, y.drop p.length = [a, b, c, q] := by
      have h4 : (y.drop p.length).length = 4 := by rw [List.length_drop]; omega
      generalize y.drop p.length = z at h4
      match z, h4 with
      | [a, b, c, q], _ => exact ⟨a, b, c, q, rfl⟩
    have hbb : ∀ x ∈ y.drop p.length, x < 256 := fun x hx => hyb x (List.mem_of_mem_drop hx)
    rw [hm] at hbb
    have hsy : sum (h ++ y.take p.length) < 4294967296 := sum_lt fun c hc => (List.mem_append.1 hc).elim (hh c) (fun h => hyb c (List.mem_of_mem_take h))
    have e4 : y.drop p.length = le4 (sum (h ++ y.take p.length)) := by
      rw [← e, hm, le4_rd4 a b c q [] (hbb a (by simp)) (hbb b (by simp)) (hbb c (by simp)) (hbb q (by simp))]
    conv => lhs; rw [← List.take_append_drop p.length y]
    rw [reg_append, e4, reg_le4 _ _ hsy]
    congr 1
    unfold sum
    rw [reg_append, ← Nat.xor_assoc, Nat.xor_self, Nat.zero_xor]
  have r2 := reg_xor (p ++ le4 (sum (h ++ p))) d (by rw [hdl, List.length_append, le4_len]) (reg 4294967295 h) 0
  rw [Nat.xor_zero, hy, r0, r1] at r2
  have r3 : reg 0 d = 0 := by
    have := congrArg (fun x => zn 32 4294967295 ^^^ x) r2
    simp only [Nat.xor_self] at this
    rw [← Nat.xor_assoc, Nat.xor_self, Nat.zero_xor] at this
    exact this.symm
  rw [← hd, reg_append, reg_append, reg_zeros, reg_zeros, zn_zero, reg_le4 _ _ ht, Nat.zero_xor, zn_add] at r3
  exact ht0 (zn_ne ht r3)

/-- A frame of whose bytes behind the length four side by side were turned, not all by nothing, is none. -/
theorem next_burst (x : List Nat) (o t : Nat) (hx : x.length < 18446744073709551616) (hb : ∀ c ∈ x, c < 256) (ht : t < 4294967296) (ht0 : t ≠ 0) (ho : o ≤ x.length) :
    next (VM.enc x.length ++ burst (x ++ le4 (sum (VM.enc x.length ++ x))) o t) = ([], 0) := by
  have hbad := bad_sum (VM.enc x.length) x o t (VM.enc_byte _) hb ht ht0 ho
  have htk : VM.take (VM.enc x.length ++ burst (x ++ le4 (sum (VM.enc x.length ++ x))) o t) = (x.length, (VM.enc x.length).length) := VM.take_enc _ _ hx
  unfold next
  simp only [htk]
  split
  · rfl
  · rw [if_neg]
    rw [← List.drop_drop, List.drop_left, List.take_length_add_append]
    exact hbad
end Go.Proofs.Ytfndbgdamplelaa.CM
