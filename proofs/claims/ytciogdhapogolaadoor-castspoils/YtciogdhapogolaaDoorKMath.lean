/-
  Layer 8 (cell): styles, cells and lines, by the chapter's words. No program.
-/
import Derived.Test.YtciogdhapogolaaDoorGMath
import Derived.Test.YtciogdhapogolaaDoorVMath
namespace Go.Proofs.YtciogdhapogolaaDoor.KM

/-- A style. -/
structure Sty where
  bold : Bool
  under : Bool
  turned : Bool
  fore : Int
  back : Int
  deriving DecidableEq
/-- A cell. -/
structure Cel where
  rune : Int
  sty : Sty
  deriving DecidableEq

/-- A colour. -/
def colour (n : Int) : Bool := decide (0 ≤ n) && decide (n ≤ 8)
theorem colour_iff (n : Int) : colour n = true ↔ 0 ≤ n ∧ n ≤ 8 := by simp [colour]
/-- The zero style. -/
def zero : Sty := ⟨false, false, false, 0, 0⟩
/-- Is a style right? -/
def sright (s : Sty) : Bool := colour s.fore && colour s.back
theorem sright_iff (s : Sty) : sright s = true ↔ (0 ≤ s.fore ∧ s.fore ≤ 8) ∧ (0 ≤ s.back ∧ s.back ≤ 8) := by simp [sright, colour]
/-- A style behind one parameter. -/
def chg (s : Sty) (p : Int) : Sty :=
  if p = 0 then zero
  else if p = 1 then { s with bold := true } else if p = 22 then { s with bold := false }
  else if p = 4 then { s with under := true } else if p = 24 then { s with under := false }
  else if p = 7 then { s with turned := true } else if p = 27 then { s with turned := false }
  else if 30 ≤ p ∧ p ≤ 37 then { s with fore := p - 29 } else if p = 39 then { s with fore := 0 }
  else if 40 ≤ p ∧ p ≤ 47 then { s with back := p - 39 } else if p = 49 then { s with back := 0 }
  else s
/-- .. behind many. -/
def chgL (s : Sty) (l : List Int) : Sty := l.foldl chg s
/-- .. behind those that Change is handed. -/
def chgA (s : Sty) (l : List Int) : Sty := if l = [] then zero else chgL s l
/-- A style's parameters. -/
def params (s : Sty) : List Int :=
  [0] ++ (if s.bold then [1] else []) ++ (if s.under then [4] else []) ++ (if s.turned then [7] else []) ++ (if s.fore ≠ 0 then [29 + s.fore] else []) ++ (if s.back ≠ 0 then [39 + s.back] else [])

theorem chgL_append (s : Sty) (a b : List Int) : chgL s (a ++ b) = chgL (chgL s a) b := by simp [chgL]
theorem chgL_nil (s : Sty) : chgL s [] = s := rfl
theorem chgL_one (s : Sty) (p : Int) : chgL s [p] = chg s p := rfl
theorem chg_right (s : Sty) (p : Int) (h : sright s = true) : sright (chg s p) = true := by
  rw [sright_iff] at h ⊢
  unfold chg
  have z : zero.fore = 0 ∧ zero.back = 0 := ⟨rfl, rfl⟩
  repeat' split
  all_goals (try simp only)
  all_goals omega
theorem chg_fore (s : Sty) (n : Int) (h : 1 ≤ n ∧ n ≤ 8) : chg s (29 + n) = { s with fore := n } := by
  unfold chg
  rw [if_neg (by omega), if_neg (by omega), if_neg (by omega), if_neg (by omega), if_neg (by omega), if_neg (by omega), if_neg (by omega), if_pos (by omega)]
  congr 1
  omega
theorem chg_back (s : Sty) (n : Int) (h : 1 ≤ n ∧ n ≤ 8) : chg s (39 + n) = { s with back := n } := by
  unfold chg
  rw [if_neg (by omega), if_neg (by omega), if_neg (by omega), if_neg (by omega), if_neg (by omega), if_neg (by omega), if_neg (by omega), if_neg (by omega), if_neg (by omega), if_pos (by omega)]
  congr 1
  omega
/-- Each style is made of any one by its own parameters. -/
theorem chg_params (a s : Sty) (h : sright s = true) : chgL a (params s) = s := by
  rw [sright_iff] at h
  obtain ⟨b, u, t, f, k⟩ := s
  simp only at h
  unfold params
  simp only [chgL_append]
  rw [show chgL a [0] = zero from rfl]
  have h1 : chgL zero (if b = true then [1] else []) = ⟨b, false, false, 0, 0⟩ := by cases b <;> rfl
  have h2 : chgL ⟨b, false, false, 0, 0⟩ (if u = true then [4] else []) = ⟨b, u, false, 0, 0⟩ := by cases u <;> rfl
  have h3 : chgL ⟨b, u, false, 0, 0⟩ (if t = true then [7] else []) = ⟨b, u, t, 0, 0⟩ := by cases t <;> rfl
  have h4 : chgL ⟨b, u, t, 0, 0⟩ (if f ≠ 0 then [29 + f] else []) = ⟨b, u, t, f, 0⟩ := by
    by_cases e : f = 0
    · rw [if_neg (by simpa using e), e]; rfl
    · rw [if_pos e, chgL_one, chg_fore _ _ (by omega)]
  have h5 : chgL ⟨b, u, t, f, 0⟩ (if k ≠ 0 then [39 + k] else []) = ⟨b, u, t, f, k⟩ := by
    by_cases e : k = 0
    · rw [if_neg (by simpa using e), e]; rfl
    · rw [if_pos e, chgL_one, chg_back _ _ (by omega)]
  rw [h1, h2, h3, h4, h5]
theorem params_ne (s : Sty) : params s ≠ [] := by simp [params]
theorem params_len (s : Sty) : (params s).length ≤ 6 := by
  unfold params
  simp only [List.length_append]
  repeat' split
  all_goals simp

/-- A style's number. -/
def snum (s : Sty) : Nat := s.fore.toNat + 16 * s.back.toNat + (if s.bold then 256 else 0) + (if s.under then 512 else 0) + (if s.turned then 1024 else 0)
/-- The style of a number. -/
def styOf (n : Nat) : Sty := ⟨n / 256 % 2 == 1, n / 512 % 2 == 1, n / 1024 % 2 == 1, ((n % 16 : Nat) : Int), ((n % 256 / 16 : Nat) : Int)⟩
theorem snum_lt (s : Sty) (h : sright s = true) : snum s < 2048 := by
  rw [sright_iff] at h
  unfold snum
  repeat' split
  all_goals omega
theorem styOf_snum (s : Sty) (h : sright s = true) : styOf (snum s) = s := by
  rw [sright_iff] at h
  obtain ⟨b, u, t, f, k⟩ := s
  simp only at h
  obtain ⟨f, rfl⟩ := Int.eq_ofNat_of_zero_le h.1.1
  obtain ⟨k, rfl⟩ := Int.eq_ofNat_of_zero_le h.2.1
  simp only [snum, styOf, Int.toNat_natCast]
  cases b <;> cases u <;> cases t <;> simp only [Bool.false_eq_true, if_true, if_false, Sty.mk.injEq, beq_eq_false_iff_ne, beq_iff_eq] <;> omega
theorem snum_styOf (n : Nat) (h : n < 2048) : snum (styOf n) = n := by
  simp only [snum, styOf, Int.toNat_natCast, beq_iff_eq]
  have h1 : n / 256 % 2 < 2 := Nat.mod_lt _ (by omega)
  have h2 : n / 512 % 2 < 2 := Nat.mod_lt _ (by omega)
  have h3 : n / 1024 % 2 < 2 := Nat.mod_lt _ (by omega)
  split <;> split <;> split <;> omega

/-- Are they the two halves of one wide rune? -/
def halves (a b : Cel) : Bool := GM.wide a.rune && decide (b = ⟨0, a.sty⟩)
/-- Is a cell, between its neighbours, a half of a wide rune without the other half? -/
def aloneN (p : Option Cel) (c : Cel) (n : Option Cel) : Bool :=
  if c.rune = 0 then !(p.any fun a => halves a c) else if GM.wide c.rune = true then !(n.any fun b => halves c b) else false
/-- A cell with a rune that is right. -/
def cright (c : Cel) : Bool := GM.right c.rune && sright c.sty
/-- What is asked of one cell of a whole line. -/
def okN (p : Option Cel) (c : Cel) (n : Option Cel) : Bool := !aloneN p c n && (decide (c.rune = 0) || cright c)
/-- Is a line whole, behind a cell (or none)? -/
def wholeP : Option Cel → List Cel → Bool
  | _, [] => true
  | p, c :: r => okN p c r.head? && wholeP (some c) r
def whole (l : List Cel) : Bool := wholeP none l
/-- A blank in a cell's place. -/
def blank (c : Cel) : Cel := ⟨32, c.sty⟩
def fixN (p : Option Cel) (c : Cel) (n : Option Cel) : Cel := if aloneN p c n = true then blank c else c
/-- A line mended, behind a cell (or none). -/
def mendP : Option Cel → List Cel → List Cel
  | _, [] => []
  | p, c :: r => fixN p c r.head? :: mendP (some c) r
def mend (l : List Cel) : List Cel := mendP none l
/-- The reference's: from the left. -/
def rmend : List Cel → List Cel
  | [] => []
  | [c] => [if GM.wide c.rune = true ∨ c.rune = 0 then blank c else c]
  | c :: d :: r => if GM.wide c.rune = true ∧ d.rune = 0 ∧ d.sty = c.sty then c :: d :: rmend r else (if GM.wide c.rune = true ∨ c.rune = 0 then blank c else c) :: rmend (d :: r)

theorem wide0 : GM.wide 0 = false := by decide
theorem wide32 : GM.wide 32 = false := by decide
theorem right32 : GM.right 32 = true := by decide
theorem halves_iff (a b : Cel) : halves a b = true ↔ GM.wide a.rune = true ∧ b.rune = 0 ∧ b.sty = a.sty := by
  obtain ⟨r, s⟩ := b
  simp [halves]
theorem halves_rest (a b : Cel) (h : a.rune = 0) : halves a b = false := by unfold halves; rw [h, wide0]; rfl
theorem wide_ne (c : Cel) (h : GM.wide c.rune = true) : c.rune ≠ 0 := by intro e; rw [e, wide0] at h; cases h

theorem mendP_len (p : Option Cel) (l : List Cel) : (mendP p l).length = l.length := by
  induction l generalizing p with
  | nil => rfl
  | cons c r ih => simp [mendP, ih]
theorem mend_len (l : List Cel) : (mend l).length = l.length := mendP_len _ _
/-- From the left, or by the neighbours: the same, where the cell ahead is no first half of the first one. -/
theorem rmend_eq (l : List Cel) (p : Option Cel) (h : ∀ a ∈ p, ∀ b ∈ l.head?, halves a b = false) : rmend l = mendP p l := by
  induction l using rmend.induct generalizing p with
  | case1 => rfl
  | case2 c =>
    have hp : p.any (fun a => halves a c) = false := by
      cases p with
      | none => rfl
      | some a => simpa using h a (by simp) c (by simp)
    simp only [rmend, mendP, fixN, aloneN, hp, List.head?_nil, Option.any_none, Bool.not_false]
    by_cases h0 : c.rune = 0
    · simp [h0]
    · by_cases hw : GM.wide c.rune = true
      · simp [h0, hw]
      · simp [h0, hw]
  | case3 c d r hc ih =>
    have hcd : halves c d = true := (halves_iff c d).2 hc
    have h0 := wide_ne c hc.1
    have hd := halves_rest d
    rw [rmend, if_pos hc, ih (some d) (by intro a ha b _; simp at ha; subst ha; exact hd b hc.2.1)]
    have e1 : fixN p c (some d) = c := by simp [fixN, aloneN, h0, hc.1, hcd]
    have e2 : fixN (some c) d r.head? = d := by simp [fixN, aloneN, hc.2.1, hcd]
    simp only [mendP, List.head?_cons, e1, e2]
  | case4 c d r hc ih =>
    have hcd : halves c d = false := by rw [← Bool.not_eq_true, halves_iff]; exact hc
    have hp : p.any (fun a => halves a c) = false := by
      cases p with
      | none => rfl
      | some a => simpa using h a (by simp) c (by simp)
    rw [rmend, if_neg hc, ih (some c) (by intro a ha b hb; simp at ha hb; subst ha hb; exact hcd)]
    have e1 : fixN p c (some d) = if GM.wide c.rune = true ∨ c.rune = 0 then blank c else c := by
      unfold fixN aloneN
      rw [hp]
      simp only [Option.any_some, hcd, Bool.not_false]
      by_cases h0 : c.rune = 0
      · simp [h0]
      · by_cases hw : GM.wide c.rune = true
        · simp [h0, hw]
        · simp [h0, hw]
    show _ = fixN p c (some d) :: mendP (some c) (d :: r)
    rw [e1]
theorem rmend_mend (l : List Cel) : rmend l = mend l := rmend_eq l none (by simp)

/-- A cell that the laws hand in: right, or a rest with a right style. -/
def tame (c : Cel) : Prop := sright c.sty = true ∧ (c.rune = 0 ∨ GM.right c.rune = true)
theorem blank_tame (c : Cel) (h : tame c) : tame (blank c) := ⟨h.1, .inr right32⟩
theorem fix_tame (p : Option Cel) (c : Cel) (n : Option Cel) (h : tame c) : tame (fixN p c n) := by
  unfold fixN; split
  · exact blank_tame c h
  · exact h
theorem mendP_tame (p : Option Cel) (l : List Cel) (h : ∀ c ∈ l, tame c) : ∀ c ∈ mendP p l, tame c := by
  induction l generalizing p with
  | nil => simp [mendP]
  | cons c r ih =>
    intro x hx
    rcases List.mem_cons.1 hx with rfl | hx
    · exact fix_tame _ _ _ (h c (by simp))
    · exact ih (some c) (fun y hy => h y (by simp [hy])) x hx
theorem okN_tame (p : Option Cel) (c : Cel) (n : Option Cel) (h : tame c) : okN p c n = !aloneN p c n := by
  unfold okN cright
  rw [h.1]
  rcases h.2 with e | e
  · simp [e]
  · simp [e]
theorem whole_mends (p : Option Cel) (l : List Cel) (h : ∀ c ∈ l, tame c) : wholeP p l = true ↔ mendP p l = l := by
  induction l generalizing p with
  | nil => simp [wholeP, mendP]
  | cons c r ih =>
    have hi := ih (some c) (fun y hy => h y (by simp [hy]))
    rw [wholeP, mendP, okN_tame _ _ _ (h c (by simp)), List.cons.injEq, Bool.and_eq_true, hi]
    have : (!aloneN p c r.head?) = true ↔ fixN p c r.head? = c := by
      unfold fixN
      rcases ha : aloneN p c r.head? with _ | _
      · simp
      · have hne : c.rune ≠ 32 := by
          intro e
          unfold aloneN at ha
          rw [e, wide32] at ha
          simp at ha
        simp only [Bool.not_true, Bool.false_eq_true, if_true, false_iff]
        intro e
        exact hne (by rw [← e]; rfl)
    rw [this]
/-- The neighbours that a cell has behind mending make it alone no more. -/
theorem mended_whole (p q : Option Cel) (l : List Cel) (h : ∀ c ∈ l, tame c) (hq : ∀ a b, p = some a → l.head? = some b → (halves a b = true → q = some a)) : wholeP q (mendP p l) = true := by
  induction l generalizing p q with
  | nil => rfl
  | cons c r ih =>
    rw [mendP, wholeP, okN_tame _ _ _ (fix_tame _ _ _ (h c (by simp))), Bool.and_eq_true]
    constructor
    · rw [Bool.not_eq_true']
      rcases ha : aloneN p c r.head? with _ | _
      · have e : fixN p c r.head? = c := by unfold fixN; rw [ha]; simp
        rw [e]
        unfold aloneN at ha ⊢
        by_cases h0 : c.rune = 0
        · rw [if_pos h0] at ha ⊢
          cases p with
          | none => simp at ha
          | some a =>
            simp only [Option.any_some, Bool.not_eq_false'] at ha
            rw [hq a c rfl rfl ha]
            simp [ha]
        · rw [if_neg h0] at ha ⊢
          by_cases hw : GM.wide c.rune = true
          · rw [if_pos hw] at ha ⊢
            cases r with
            | nil => simp at ha
            | cons d r =>
              simp only [List.head?_cons, Option.any_some, Bool.not_eq_false'] at ha
              have hd := (halves_iff c d).1 ha
              have : fixN (some c) d r.head? = d := by simp [fixN, aloneN, hd.2.1, ha]
              simp [mendP, this, ha]
          · rw [if_neg hw]
      · have e : fixN p c r.head? = blank c := by unfold fixN; rw [ha]; simp
        rw [e]
        simp [aloneN, blank, wide32]
    · refine ih (some c) _ (fun y hy => h y (by simp [hy])) (fun a b ea eb hh => ?_)
      simp only [Option.some.injEq] at ea
      subst ea
      have h0 := (halves_iff c b).1 hh
      have hn := wide_ne c h0.1
      have : aloneN p c r.head? = false := by unfold aloneN; rw [if_neg hn, if_pos h0.1, eb]; simp [hh]
      unfold fixN; rw [this]; simp
theorem mend_whole (l : List Cel) (h : ∀ c ∈ l, tame c) : whole (mend l) = true := mended_whole none none l h (by simp)
theorem mend_tame (l : List Cel) (h : ∀ c ∈ l, tame c) : ∀ c ∈ mend l, tame c := mendP_tame none l h
theorem whole_iff (l : List Cel) (h : ∀ c ∈ l, tame c) : whole l = true ↔ mend l = l := whole_mends none l h
theorem mend_mend (l : List Cel) (h : ∀ c ∈ l, tame c) : mend (mend l) = mend l := (whole_iff _ (mend_tame l h)).1 (mend_whole l h)

/-- The law's own words for a whole line. -/
def okW (p : Option Cel) (c : Cel) (n : Option Cel) : Bool :=
  if c.rune = 0 then p.any fun a => GM.wide a.rune && decide (a.sty = c.sty)
  else sright c.sty && GM.right c.rune && (if GM.wide c.rune = true then n.any fun b => decide (b.rune = 0) else true)
def wantP : Option Cel → List Cel → Bool
  | _, [] => true
  | p, c :: r => okW p c r.head? && wantP (some c) r
theorem want_eq (p : Option Cel) (l : List Cel) : wantP p l = wholeP p l := by
  induction l generalizing p with
  | nil => rfl
  | cons c r ih =>
    rw [wantP, wholeP, ih (some c)]
    by_cases h0 : c.rune = 0
    · have : okW p c r.head? = okN p c r.head? := by
        unfold okW okN aloneN
        rw [if_pos h0, if_pos h0]
        cases p with
        | none => simp
        | some a =>
          have : halves a c = (GM.wide a.rune && decide (a.sty = c.sty)) := by
            rw [Bool.eq_iff_iff, halves_iff, Bool.and_eq_true, decide_eq_true_eq]
            exact ⟨fun h => ⟨h.1, h.2.2.symm⟩, fun h => ⟨h.1, h0, h.2.symm⟩⟩
          simp [this, h0]
      rw [this]
    · by_cases hw : GM.wide c.rune = true
      · have e1 : okW p c r.head? = (cright c && r.head?.any fun b => decide (b.rune = 0)) := by
          unfold okW cright
          rw [if_neg h0, if_pos hw, Bool.and_comm (sright _)]
        have e2 : okN p c r.head? = (cright c && r.head?.any fun b => halves c b) := by
          unfold okN aloneN
          rw [if_neg h0, if_pos hw]
          simp [h0, Bool.and_comm]
        rw [e1, e2]
        cases r with
        | nil => simp
        | cons d r =>
          simp only [List.head?_cons, Option.any_some]
          by_cases hd : d.rune = 0
          · by_cases hs : d.sty = c.sty
            · have : halves c d = true := (halves_iff c d).2 ⟨hw, hd, hs⟩
              rw [this]; simp [hd]
            · have hf : halves c d = false := by rw [← Bool.not_eq_true, halves_iff]; simp [hs]
              have : wholeP (some c) (d :: r) = false := by
                rw [wholeP]
                unfold okN aloneN
                rw [if_pos hd]
                simp [hf]
              rw [this, hf]; simp
          · have hf : halves c d = false := by rw [← Bool.not_eq_true, halves_iff]; simp [hd]
            simp [hf, hd]
      · have e1 : okW p c r.head? = cright c := by
          unfold okW cright
          rw [if_neg h0, if_neg hw, Bool.and_comm (sright _)]
          simp
        have e2 : okN p c r.head? = cright c := by
          unfold okN aloneN
          rw [if_neg h0, if_neg hw]
          simp [h0]
        rw [e1, e2]
end Go.Proofs.YtciogdhapogolaaDoor.KM
