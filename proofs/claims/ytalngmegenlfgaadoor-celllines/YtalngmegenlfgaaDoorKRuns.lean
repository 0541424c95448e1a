/-
  Layer 8 (cell): a line's runs and their bytes, and what is read of them again. No program.
-/
import Derived.Test.YtalngmegenlfgaaDoorKMath
import Derived.Test.YtalngmegenlfgaaDoorKPut
namespace Go.Proofs.YtalngmegenlfgaaDoor.KM

/-- The last run goes on with a cell. -/
def goes (rs : List (Nat × Cel)) (c : Cel) : Bool := rs.getLast?.any fun x => decide (x.2 = c)
/-- One cell more. -/
def push (rs : List (Nat × Cel)) (c : Cel) : List (Nat × Cel) := if goes rs c = true then rs.dropLast ++ [((rs.getLastD (0, c)).1 + 1, c)] else rs ++ [(1, c)]
/-- A line's runs. -/
def runs (l : List Cel) : List (Nat × Cel) := l.foldl push []
/-- The cells of runs, at most so many of each. -/
def spread (rs : List (Nat × Cel)) (m : Nat) : List Cel := rs.flatMap fun x => List.replicate (min x.1 m) x.2
/-- .. all of them. -/
def cells (rs : List (Nat × Cel)) : List Cel := rs.flatMap fun x => List.replicate x.1 x.2
/-- How many they are. -/
def sumR (rs : List (Nat × Cel)) : Nat := (rs.map (·.1)).sum
/-- No run is empty, and no two that are the same are side by side. -/
def Apart : List (Nat × Cel) → Prop
  | [] => True
  | [x] => 0 < x.1
  | x :: y :: r => 0 < x.1 ∧ x.2 ≠ y.2 ∧ Apart (y :: r)

theorem cells_append (a b : List (Nat × Cel)) : cells (a ++ b) = cells a ++ cells b := by simp [cells]
theorem cells_one (x : Nat × Cel) : cells [x] = List.replicate x.1 x.2 := by simp [cells]
theorem cells_len (rs : List (Nat × Cel)) : (cells rs).length = sumR rs := by
  induction rs with
  | nil => rfl
  | cons x r ih => rw [show x :: r = [x] ++ r from rfl, cells_append, List.length_append, ih, cells_one]; simp [sumR]
theorem sumR_append (a b : List (Nat × Cel)) : sumR (a ++ b) = sumR a + sumR b := by simp [sumR]
theorem sumR_one (x : Nat × Cel) : sumR [x] = x.1 := by simp [sumR]
theorem spread_all (rs : List (Nat × Cel)) (m : Nat) (h : ∀ x ∈ rs, x.1 ≤ m) : spread rs m = cells rs := by
  induction rs with
  | nil => rfl
  | cons x r ih =>
    have := ih fun y hy => h y (by simp [hy])
    unfold spread cells at this ⊢
    rw [List.flatMap_cons, List.flatMap_cons, this, Nat.min_eq_left (h x (by simp))]
theorem spread_append (a b : List (Nat × Cel)) (m : Nat) : spread (a ++ b) m = spread a m ++ spread b m := by simp [spread]
theorem spread_one (x : Nat × Cel) (m : Nat) : spread [x] m = List.replicate (min x.1 m) x.2 := by simp [spread]
theorem spread_len2 (rs : List (Nat × Cel)) (m : Nat) : (spread rs m).length ≤ sumR rs := by
  induction rs with
  | nil => simp [spread]
  | cons x r ih => rw [show x :: r = [x] ++ r from rfl, spread_append, List.length_append, spread_one, List.length_replicate, sumR_append, sumR_one]; omega

theorem goes_nil (c : Cel) : goes [] c = false := rfl
theorem goes_snoc (rs : List (Nat × Cel)) (x : Nat × Cel) (c : Cel) : goes (rs ++ [x]) c = decide (x.2 = c) := by simp [goes]
theorem push_on (rs : List (Nat × Cel)) (n : Nat) (c : Cel) : push (rs ++ [(n, c)]) c = rs ++ [(n + 1, c)] := by
  unfold push
  rw [goes_snoc]
  simp
theorem push_new (rs : List (Nat × Cel)) (c : Cel) (h : goes rs c = false) : push rs c = rs ++ [(1, c)] := by
  unfold push
  rw [h]
  simp
theorem push_cells (rs : List (Nat × Cel)) (c : Cel) : cells (push rs c) = cells rs ++ [c] := by
  rcases List.eq_nil_or_concat rs with rfl | ⟨r, x, rfl⟩
  · rfl
  · rcases h : decide (x.2 = c) with _ | _
    · rw [List.concat_eq_append, push_new _ _ (by rw [goes_snoc]; exact h), cells_append, cells_one]
      simp
    · obtain ⟨n, d⟩ := x
      obtain rfl : d = c := of_decide_eq_true h
      rw [List.concat_eq_append, push_on, cells_append, cells_append, cells_one, cells_one, List.append_assoc]
      congr 1
      exact List.replicate_succ'
theorem apart_snoc (rs : List (Nat × Cel)) (x : Nat × Cel) (h : Apart rs) (hx : 0 < x.1) (hg : goes rs x.2 = false) : Apart (rs ++ [x]) := by
  induction rs using Apart.induct with
  | case1 => exact hx
  | case2 y =>
    refine ⟨h, ?_, hx⟩
    have : goes ([] ++ [y]) x.2 = false := hg
    rw [goes_snoc] at this
    exact of_decide_eq_false this
  | case3 a b r ih =>
    refine ⟨h.1, h.2.1, ih h.2.2 ?_⟩
    simpa [goes] using hg
theorem apart_init (rs : List (Nat × Cel)) (x : Nat × Cel) (h : Apart (rs ++ [x])) : Apart rs ∧ 0 < x.1 ∧ goes rs x.2 = false := by
  induction rs using Apart.induct with
  | case1 => exact ⟨trivial, h, rfl⟩
  | case2 y =>
    refine ⟨h.1, h.2.2, ?_⟩
    show goes ([] ++ [y]) x.2 = false
    rw [goes_snoc]
    exact decide_eq_false h.2.1
  | case3 a b r ih =>
    have := ih h.2.2
    exact ⟨⟨h.1, h.2.1, this.1⟩, this.2.1, by simpa [goes] using this.2.2⟩
theorem apart_pos (rs : List (Nat × Cel)) (h : Apart rs) : ∀ x ∈ rs, 0 < x.1 := by
  induction rs using Apart.induct with
  | case1 => simp
  | case2 y => intro x hx; simp at hx; subst hx; exact h
  | case3 a b r ih =>
    intro x hx
    rcases List.mem_cons.1 hx with rfl | hx
    · exact h.1
    · exact ih h.2.2 x hx
theorem push_apart (rs : List (Nat × Cel)) (c : Cel) (h : Apart rs) : Apart (push rs c) := by
  rcases List.eq_nil_or_concat rs with rfl | ⟨r, x, rfl⟩
  · show 0 < 1; omega
  · rw [List.concat_eq_append] at h ⊢
    rcases hd : decide (x.2 = c) with _ | _
    · rw [push_new _ _ (by rw [goes_snoc]; exact hd)]
      exact apart_snoc _ _ h (by show 0 < 1; omega) (by rw [goes_snoc]; exact hd)
    · obtain ⟨n, d⟩ := x
      obtain rfl : d = c := of_decide_eq_true hd
      rw [push_on]
      have := apart_init _ _ h
      exact apart_snoc _ _ this.1 (Nat.succ_pos _) this.2.2
theorem runs_snoc (l : List Cel) (c : Cel) : runs (l ++ [c]) = push (runs l) c := by simp [runs]
theorem runs_apart (l : List Cel) : Apart (runs l) := by
  unfold runs
  suffices ∀ rs, Apart rs → Apart (l.foldl push rs) from this [] trivial
  induction l with
  | nil => exact fun _ h => h
  | cons c l ih => exact fun rs h => ih _ (push_apart rs c h)
theorem runs_cells (l : List Cel) : cells (runs l) = l := by
  unfold runs
  suffices ∀ rs, cells (l.foldl push rs) = cells rs ++ l by simpa [cells] using this []
  induction l with
  | nil => simp
  | cons c l ih => intro rs; rw [List.foldl_cons, ih, push_cells, List.append_assoc]; rfl
/-- Runs that may stand beside one another are those of their cells. -/
theorem push_many (rs : List (Nat × Cel)) (k n : Nat) (c : Cel) : (List.replicate n c).foldl push (rs ++ [(k, c)]) = rs ++ [(k + n, c)] := by
  induction n generalizing k with
  | zero => rfl
  | succ n ih => rw [List.replicate_succ, List.foldl_cons, push_on, ih, Nat.add_assoc, Nat.add_comm 1 n]
theorem runs_of_cells (rs : List (Nat × Cel)) (h : Apart rs) : runs (cells rs) = rs := by
  suffices ∀ n (rs : List (Nat × Cel)), rs.length = n → Apart rs → runs (cells rs) = rs from this _ rs rfl h
  intro n
  induction n with
  | zero => intro rs h0 _; rw [List.eq_nil_of_length_eq_zero h0]; rfl
  | succ n ih =>
    intro rs hl h
    rcases List.eq_nil_or_concat rs with rfl | ⟨r, x, rfl⟩
    · simp at hl
    · rw [List.concat_eq_append] at h hl ⊢
      obtain ⟨k, c⟩ := x
      have hi := apart_init _ _ h
      have e := ih r (by simpa using hl) hi.1
      rw [cells_append, cells_one]
      unfold runs at e ⊢
      rw [List.foldl_append, e]
      obtain ⟨k, rfl⟩ : ∃ j, k = j + 1 := ⟨k - 1, by have := hi.2.1; simp only at this; omega⟩
      simp only
      rw [List.replicate_succ, List.foldl_cons, push_new _ _ hi.2.2, push_many, Nat.add_comm 1 k]

/-! ### bytes -/
/-- The bytes of a run, and of runs. -/
def runB (x : Nat × Cel) : List Nat := VM.enc x.1 ++ VM.enc x.2.rune.toNat ++ VM.enc (snum x.2.sty)
def runsB (rs : List (Nat × Cel)) : List Nat := rs.flatMap runB
theorem runsB_append (a b : List (Nat × Cel)) : runsB (a ++ b) = runsB a ++ runsB b := by simp [runsB]
theorem runsB_one (x : Nat × Cel) : runsB [x] = runB x := by simp [runsB]
theorem runsB_cons (x : Nat × Cel) (r : List (Nat × Cel)) : runsB (x :: r) = runB x ++ runsB r := by simp [runsB]
/-- What can be put, and comes back. -/
def Fine (x : Nat × Cel) : Prop := 0 < x.1 ∧ x.1 < 9223372036854775808 ∧ 0 ≤ x.2.rune ∧ x.2.rune < 1114112 ∧ sright x.2.sty = true
/-- What a run that is asked for leaves: the run (none: there is none), the bytes that are left, was something missing? -/
def takeR (l : List Nat) (bad : Bool) : Option (Nat × Cel) × List Nat × Bool :=
  let a := numOf l bad 9223372036854775808
  let b := numOf a.2.1 a.2.2 1114112
  let c := takeS b.2.1 b.2.2
  (c.1.bind fun s => if a.1 = 0 then none else some (a.1, ⟨(b.1 : Int), s⟩), c.2.1, c.2.2)
theorem takeR_enc (x : Nat × Cel) (h : Fine x) (rest : List Nat) : takeR (runB x ++ rest) false = (some x, rest, false) := by
  obtain ⟨n, ⟨r, s⟩⟩ := x
  obtain ⟨h1, h2, h3, h4, h5⟩ := h
  simp only at h1 h2 h3 h4 h5
  obtain ⟨r, rfl⟩ := Int.eq_ofNat_of_zero_le h3
  have hs := snum_lt s h5
  unfold takeR runB takeS
  have h4' : r < 1114112 := by omega
  have n1 : ¬ 9223372036854775808 ≤ n := by omega
  have n2 : ¬ 1114112 ≤ r := by omega
  have n3 : ¬ 2048 ≤ snum s := by omega
  simp only [Int.toNat_natCast, List.append_assoc]
  rw [numOf_enc n _ _ _ (by omega), if_neg n1]
  simp only
  rw [numOf_enc r _ _ _ (by omega), if_neg n2]
  simp only
  rw [numOf_enc (snum s) _ _ _ (by omega), if_neg n3]
  simp only [styOf_snum s h5, h5]
  have n4 : ¬ n = 0 := by omega
  simp [n4]
theorem numOf_back {l : List Nat} {bad : Bool} {L : Nat} (hl : ∀ c ∈ l, c < 256) (h : (numOf l bad L).2.2 = false) : l = VM.enc (numOf l bad L).1 ++ (numOf l bad L).2.1 ∧ (numOf l bad L).1 < L ∧ bad = false ∧ ∀ c ∈ (numOf l bad L).2.1, c < 256 := by
  unfold numOf at *
  split at h
  · simp at h
  · rename_i hn
    simp only at h
    rw [if_neg hn]
    simp only
    have hk : (VM.take l).2 ≠ 0 := fun e => hn (Or.inl e)
    obtain ⟨rest, hr, _, hlen⟩ := VM.take_any l hl hk
    refine ⟨?_, by omega, h, fun c hc => hl c (List.mem_of_mem_drop hc)⟩
    have hd : l.drop (VM.take l).2 = rest := by
      rw [hlen]
      generalize VM.enc (VM.take l).1 = e at *
      rw [hr, List.drop_left]
    rw [hd]
    exact hr
theorem takeR_back {l : List Nat} {bad : Bool} {x : Nat × Cel} (hl : ∀ c ∈ l, c < 256) (h : (takeR l bad).1 = some x) : Fine x ∧ l = runB x ++ (takeR l bad).2.1 ∧ (takeR l bad).2.2 = false ∧ bad = false ∧ ∀ c ∈ (takeR l bad).2.1, c < 256 := by
  unfold takeR takeS at *
  simp only at *
  generalize ha : numOf l bad 9223372036854775808 = a at *
  generalize hb : numOf a.2.1 a.2.2 1114112 = b at *
  generalize hc : numOf b.2.1 b.2.2 2048 = c at *
  split at h
  · rename_i hok
    have c0 := numOf_back (l := b.2.1) (bad := b.2.2) (L := 2048)
    have b0 := numOf_back (l := a.2.1) (bad := a.2.2) (L := 1114112)
    have a0 := numOf_back (l := l) (bad := bad) (L := 9223372036854775808) hl
    rw [ha] at a0
    rw [hb] at b0
    rw [hc] at c0
    have hbb : b.2.2 = false := by
      rcases hq : b.2.2 with _ | _
      · rfl
      · rw [hq] at hc
        have : (numOf b.2.1 true 2048).2.2 = true := by unfold numOf; split <;> rfl
        rw [hc, hok.1] at this
        cases this
    have haa : a.2.2 = false := by
      rcases hq : a.2.2 with _ | _
      · rfl
      · rw [hq] at hb
        have : (numOf a.2.1 true 1114112).2.2 = true := by unfold numOf; split <;> rfl
        rw [hb, hbb] at this
        cases this
    have ra := a0 haa
    have rb := b0 ra.2.2.2 hbb
    have rc := c0 rb.2.2.2 hok.1
    simp only [Option.bind_some] at h
    split at h
    · cases h
    · rename_i hn
      simp only [Option.some.injEq] at h
      subst h
      refine ⟨⟨by simp only; omega, ra.2.1, by simp only; omega, by have := rb.2.1; simp only; omega, hok.2⟩, ?_, hok.1, ra.2.2.1, rc.2.2.2⟩
      unfold runB
      simp only [Int.toNat_natCast]
      rw [snum_styOf c.1 rc.2.1, List.append_assoc, List.append_assoc, ← rc.1, ← rb.1]
      exact ra.1
  · simp at h

/-- What runs of so many cells that are asked for leave: the runs, behind those that are there (none: there are none), and the bytes that are left. -/
def tr (out : List (Nat × Cel)) (left : Nat) (l : List Nat) (bad : Bool) : Option (List (Nat × Cel) × List Nat × Bool) :=
  if _h0 : left = 0 then some (out, l, bad)
  else match (takeR l bad).1 with
    | none => none
    | some x => if _h : x.1 = 0 ∨ left < x.1 ∨ goes out x.2 = true then none else tr (out ++ [x]) (left - x.1) (takeR l bad).2.1 (takeR l bad).2.2
termination_by left
decreasing_by omega
theorem tr_zero (out : List (Nat × Cel)) (l : List Nat) (bad : Bool) : tr out 0 l bad = some (out, l, bad) := by rw [tr]; simp
theorem tr_none (out : List (Nat × Cel)) (left : Nat) (l : List Nat) (bad : Bool) (h : 0 < left) (hx : (takeR l bad).1 = none) : tr out left l bad = none := by
  rw [tr, dif_neg (by omega), hx]
theorem tr_not (out : List (Nat × Cel)) (left : Nat) (l : List Nat) (bad : Bool) (x : Nat × Cel) (h : 0 < left) (hx : (takeR l bad).1 = some x) (hn : left < x.1 ∨ goes out x.2 = true) : tr out left l bad = none := by
  rw [tr, dif_neg (by omega), hx]
  simp only
  rw [dif_pos (Or.inr hn)]
theorem tr_some (out : List (Nat × Cel)) (left : Nat) (l : List Nat) (bad : Bool) (x : Nat × Cel) (h : 0 < left) (hx : (takeR l bad).1 = some x) (h0 : 0 < x.1) (h1 : x.1 ≤ left) (hg : goes out x.2 = false) :
    tr out left l bad = tr (out ++ [x]) (left - x.1) (takeR l bad).2.1 (takeR l bad).2.2 := by
  rw [tr, dif_neg (by omega), hx]
  simp only
  rw [dif_neg (by rw [hg]; simp; omega)]
theorem takeR_pos {l : List Nat} {bad : Bool} {x : Nat × Cel} (h : (takeR l bad).1 = some x) : 0 < x.1 := by
  unfold takeR at h
  simp only at h
  generalize (takeS _ _).1 = o at h
  cases o with
  | none => simp at h
  | some s =>
    simp only [Option.bind_some] at h
    split at h
    · cases h
    · simp only [Option.some.injEq] at h
      subst h
      simp only
      omega
/-- Runs come back from their bytes. -/
theorem tr_enc (rs : List (Nat × Cel)) (hf : ∀ x ∈ rs, Fine x) (out : List (Nat × Cel)) (ha : Apart (out ++ rs)) (rest : List Nat) : tr out (sumR rs) (runsB rs ++ rest) false = some (out ++ rs, rest, false) := by
  induction rs generalizing out with
  | nil => rw [show sumR [] = 0 from rfl, tr_zero]; simp [runsB]
  | cons x r ih =>
    have hx := hf x (by simp)
    have e : runsB (x :: r) ++ rest = runB x ++ (runsB r ++ rest) := by rw [runsB_cons, List.append_assoc]
    have hs : sumR (x :: r) = x.1 + sumR r := by simp [sumR]
    have hg : goes out x.2 = false := by
      have : Apart ((out ++ [x]) ++ r) := by simpa using ha
      suffices ∀ r : List (Nat × Cel), Apart ((out ++ [x]) ++ r) → Apart (out ++ [x]) from (apart_init _ _ (this r ‹_›)).2.2
      intro r
      suffices ∀ n (r : List (Nat × Cel)), r.length = n → Apart ((out ++ [x]) ++ r) → Apart (out ++ [x]) from this _ r rfl
      intro n
      induction n with
      | zero => intro r h0 h; rw [List.eq_nil_of_length_eq_zero h0, List.append_nil] at h; exact h
      | succ n ihn =>
        intro r hl h
        rcases List.eq_nil_or_concat r with rfl | ⟨q, y, rfl⟩
        · simp at hl
        · rw [List.concat_eq_append] at hl h
          rw [← List.append_assoc] at h
          exact ihn q (by simpa using hl) (apart_init _ _ h).1
    rw [e, hs, tr_some out _ _ false x (by have := hx.1; omega) (by rw [takeR_enc x hx]) hx.1 (by omega) hg, takeR_enc x hx]
    simp only
    rw [Nat.add_sub_cancel_left, ih (fun y hy => hf y (by simp [hy])) (out ++ [x]) (by simpa using ha)]
    simp
/-- What is told is what the bytes begin with. -/
theorem tr_back (left : Nat) (out : List (Nat × Cel)) (l : List Nat) (bad : Bool) (hl : ∀ c ∈ l, c < 256) (ha : Apart out) (R : List (Nat × Cel) × List Nat × Bool) (h : tr out left l bad = some R) :
    ∃ more, R.1 = out ++ more ∧ l = runsB more ++ R.2.1 ∧ R.2.2 = bad ∧ sumR more = left ∧ (∀ x ∈ more, Fine x) ∧ Apart R.1 := by
  induction left using Nat.strongRecOn generalizing out l bad with
  | ind left ih =>
    rcases Nat.eq_zero_or_pos left with rfl | hp
    · rw [tr_zero] at h
      simp only [Option.some.injEq] at h
      subst h
      exact ⟨[], by simp, by simp [runsB], rfl, rfl, by simp, ha⟩
    · rcases hx : (takeR l bad).1 with _ | x
      · rw [tr_none out left l bad hp hx] at h; cases h
      · have h0 := takeR_pos hx
        by_cases hn : left < x.1 ∨ goes out x.2 = true
        · rw [tr_not out left l bad x hp hx hn] at h; cases h
        · have hg : goes out x.2 = false := by rw [← Bool.not_eq_true]; exact fun e => hn (Or.inr e)
          have hle : x.1 ≤ left := by omega
          obtain ⟨k1, k2, k3, k4, k5⟩ := takeR_back hl hx
          rw [tr_some out left l bad x hp hx h0 hle hg] at h
          obtain ⟨m, m1, m2, m3, m4, m5, m6⟩ := ih (left - x.1) (by omega) (out ++ [x]) _ _ k5 (apart_snoc _ _ ha h0 hg) h
          refine ⟨x :: m, by rw [m1]; simp, ?_, by rw [m3, k3, k4], by rw [show x :: m = [x] ++ m from rfl, sumR_append, sumR_one, m4]; omega, ?_, m6⟩
          · rw [runsB_cons, List.append_assoc, ← m2]; exact k2
          · intro y hy
            rcases List.mem_cons.1 hy with rfl | hy
            · exact k1
            · exact m5 y hy
theorem runB_pos (x : Nat × Cel) : 0 < (runB x).length := by
  unfold runB
  have := VM.enc_pos x.1
  simp only [List.length_append]
  omega
theorem runsB_sum (rs R : List (Nat × Cel)) (rest : List Nat) (hf : ∀ x ∈ rs, Fine x) (hF : ∀ x ∈ R, Fine x) (h : runsB R = runsB rs ++ rest) : sumR rs ≤ sumR R := by
  induction rs generalizing R with
  | nil => simp [sumR]
  | cons y ys ih =>
    rcases R with _ | ⟨x, xs⟩
    · have := congrArg List.length h
      have hp := runB_pos y
      rw [runsB_cons] at this
      simp [runsB] at this
      omega
    · rw [runsB_cons, runsB_cons, List.append_assoc] at h
      have e1 := takeR_enc x (hF x (by simp)) (runsB xs)
      have e2 := takeR_enc y (hf y (by simp)) (runsB ys ++ rest)
      rw [h, e2] at e1
      simp only [Prod.mk.injEq, Option.some.injEq, and_true] at e1
      obtain ⟨rfl, e⟩ := e1
      have := ih xs (fun z hz => hf z (by simp [hz])) (fun z hz => hF z (by simp [hz])) e.symm
      rw [show y :: ys = [y] ++ ys from rfl, show y :: xs = [y] ++ xs from rfl, sumR_append, sumR_append]
      omega
/-- Cut off, or asked for more cells, there are none. -/
theorem tr_more (R : List (Nat × Cel)) (hF : ∀ x ∈ R, Fine x) (left : Nat) (hl : sumR R < left) : tr [] left (runsB R) false = none := by
  rcases h : tr [] left (runsB R) false with _ | T
  · rfl
  · exfalso
    obtain ⟨m, m1, m2, m3, m4, m5, m6⟩ := tr_back left [] (runsB R) false (by intro c hc; obtain ⟨x, _, hx⟩ := List.mem_flatMap.1 hc; simp only [runB, List.mem_append] at hx; rcases hx with (hx | hx) | hx <;> exact VM.enc_byte _ _ hx) trivial T h
    have := runsB_sum m R T.2.1 m5 hF m2
    omega
theorem runsB_byte (R : List (Nat × Cel)) : ∀ c ∈ runsB R, c < 256 := by
  intro c hc
  obtain ⟨x, _, hx⟩ := List.mem_flatMap.1 hc
  simp only [runB, List.mem_append] at hx
  rcases hx with (hx | hx) | hx <;> exact VM.enc_byte _ _ hx
theorem tr_cut (R : List (Nat × Cel)) (hF : ∀ x ∈ R, Fine x) (ha : Apart R) (k : Nat) (hk : k < (runsB R).length) : tr [] (sumR R) ((runsB R).take k) false = none := by
  rcases h : tr [] (sumR R) ((runsB R).take k) false with _ | T
  · rfl
  · exfalso
    obtain ⟨m, m1, m2, m3, m4, m5, m6⟩ := tr_back (sumR R) [] _ false (fun c hc => runsB_byte R c (List.mem_of_mem_take hc)) trivial T h
    have e1 := tr_enc m m5 [] (by rw [List.nil_append]; rw [m1, List.nil_append] at m6; exact m6) (T.2.1 ++ (runsB R).drop k)
    have e2 := tr_enc R hF [] ha []
    rw [← List.append_assoc, ← m2, List.take_append_drop, m4] at e1
    rw [List.append_nil, e1] at e2
    simp only [Option.some.injEq, Prod.mk.injEq] at e2
    have := congrArg List.length e2.2.1
    simp at this
    omega
theorem runsB_len (rs : List (Nat × Cel)) (hf : ∀ x ∈ rs, Fine x) : (runsB rs).length ≤ 30 * rs.length := by
  induction rs with
  | nil => simp [runsB]
  | cons x r ih =>
    have hx := hf x (by simp)
    have h1 := VM.enc_len64 (n := x.1) (by have := hx.2.1; omega)
    have h2 := VM.enc_len64 (n := x.2.rune.toNat) (by have := hx.2.2.2.1; omega)
    have h3 := VM.enc_len64 (n := snum x.2.sty) (by have := snum_lt _ hx.2.2.2.2; omega)
    have := ih fun y hy => hf y (by simp [hy])
    rw [runsB_cons, List.length_append, List.length_cons]
    have : (runB x).length ≤ 30 := by unfold runB; simp only [List.length_append]; omega
    omega
theorem apart_len (rs : List (Nat × Cel)) (h : ∀ x ∈ rs, 0 < x.1) : rs.length ≤ sumR rs := by
  induction rs with
  | nil => simp
  | cons x r ih =>
    have := h x (by simp)
    have := ih fun y hy => h y (by simp [hy])
    rw [show x :: r = [x] ++ r from rfl, sumR_append, sumR_one]
    simp
    omega
theorem le_sumR (rs : List (Nat × Cel)) : ∀ x ∈ rs, x.1 ≤ sumR rs := by
  induction rs with
  | nil => simp
  | cons y r ih =>
    intro x hx
    rw [show y :: r = [y] ++ r from rfl, sumR_append, sumR_one]
    rcases List.mem_cons.1 hx with rfl | hx
    · omega
    · have := ih x hx; omega

/-! ### two cells of a run tell as much as all do -/
theorem okN_mid (p q : Option Cel) (c : Cel) (h1 : okN p c (some c) = true) (h2 : okN (some c) c q = true) : okN (some c) c (some c) = true := by
  unfold okN aloneN at *
  by_cases h0 : c.rune = 0
  · rw [if_pos h0] at h2
    rw [show (some c).any (fun a => halves a c) = halves c c from rfl, halves_rest c c h0] at h2
    simp at h2
  · rw [if_neg h0] at h1 ⊢
    by_cases hw : GM.wide c.rune = true
    · have : halves c c = false := by rw [← Bool.not_eq_true, halves_iff]; simp [h0]
      rw [if_pos hw, show (some c).any (fun b => halves c b) = halves c c from rfl, this] at h1
      simp at h1
    · rw [if_neg hw] at h1 ⊢
      exact h1
theorem whole_three (p : Option Cel) (c : Cel) (t : List Cel) : wholeP p (c :: c :: c :: t) = wholeP p (c :: c :: t) := by
  simp only [wholeP, List.head?_cons]
  rcases h1 : okN p c (some c) with _ | _
  · simp
  · rcases h2 : okN (some c) c t.head? with _ | _
    · simp
    · rw [okN_mid p _ c h1 h2]; simp
theorem whole_two (p : Option Cel) (c : Cel) (n : Nat) (t : List Cel) : wholeP p (List.replicate (n + 2) c ++ t) = wholeP p (c :: c :: t) := by
  induction n with
  | zero => rfl
  | succ n ih =>
    rw [show List.replicate (n + 1 + 2) c ++ t = c :: c :: c :: (List.replicate n c ++ t) from rfl, whole_three]
    exact ih
theorem whole_min (p : Option Cel) (c : Cel) (n : Nat) (t : List Cel) : wholeP p (List.replicate (min n 2) c ++ t) = wholeP p (List.replicate n c ++ t) := by
  rcases Nat.lt_or_ge n 2 with h | h
  · rw [Nat.min_eq_left (by omega)]
  · obtain ⟨m, rfl⟩ : ∃ m, n = m + 2 := ⟨n - 2, by omega⟩
    rw [Nat.min_eq_right (by omega), whole_two]
    exact (whole_two p c m t).symm
theorem whole_congr (a : List Cel) (x y : List Cel) (h : ∀ p, wholeP p x = wholeP p y) (hh : x.head? = y.head?) (p : Option Cel) : wholeP p (a ++ x) = wholeP p (a ++ y) := by
  induction a generalizing p with
  | nil => exact h p
  | cons c a ih =>
    have : (a ++ x).head? = (a ++ y).head? := by rw [List.head?_append, List.head?_append, hh]
    rw [List.cons_append, List.cons_append, wholeP, wholeP, this, ih]
theorem spread_head (rs : List (Nat × Cel)) (h : ∀ x ∈ rs, 0 < x.1) : (spread rs 2).head? = (cells rs).head? := by
  rcases rs with _ | ⟨⟨n, c⟩, r⟩
  · rfl
  · have hn : 0 < n := h (n, c) (by simp)
    obtain ⟨m, rfl⟩ : ∃ m, n = m + 1 := ⟨n - 1, by omega⟩
    rw [show (m + 1, c) :: r = [(m + 1, c)] ++ r from rfl, spread_append, cells_append, spread_one, cells_one]
    obtain ⟨k, hk⟩ : ∃ k, min (m + 1) 2 = k + 1 := ⟨min (m + 1) 2 - 1, by omega⟩
    simp only [hk]
    rfl
theorem whole_spread (rs : List (Nat × Cel)) (h : ∀ x ∈ rs, 0 < x.1) (p : Option Cel) : wholeP p (spread rs 2) = wholeP p (cells rs) := by
  induction rs generalizing p with
  | nil => rfl
  | cons x r ih =>
    have hr : ∀ y ∈ r, 0 < y.1 := fun y hy => h y (by simp [hy])
    rw [show x :: r = [x] ++ r from rfl, spread_append, cells_append, spread_one, cells_one, whole_min]
    exact whole_congr _ _ _ (ih hr) (spread_head r hr) p
end Go.Proofs.YtalngmegenlfgaaDoor.KM
