/-
  Layer 17 (cast), plain: what the landed Import reads, piece by piece, and that it is what AMath's imp tells. No program.
-/
import Derived.Test.YtciogdhapogolaaDoorAMath
namespace Go.Proofs.YtciogdhapogolaaDoor.AM
open Go.Lib

abbrev St := Option (List UInt8)
def numS (s : St) : Nat × St := match s.bind JM.num with | some p => (p.1, some p.2) | none => (0, none)
def utmS (s : St) : Nat × St := match s.bind JM.utm with | some p => (p.1, some p.2) | none => (0, none)
def kindS (s : St) : Int × St := match s.bind kindR with | some p => (p.1, some p.2) | none => (0, none)
def unqS (s : St) : List UInt8 × St := match s.bind JM.unq with | some p => (p.1.flatMap JM.enc, some p.2) | none => ([], none)
def preS (p : List UInt8) (s : St) : St := s.bind (pre p)
/-- A size's text; none: 0, 0. -/
def sizeW (l : List UInt8) : Nat × Nat := (sizeR l).getD (0, 0)
/-- What an event's line tells, be it right or not. -/
def evW (t : Nat) (k : Int) (x : List UInt8) : EM.Ev := if k = 2 then ⟨t, 2, ByteArray.empty, (sizeW x).1, (sizeW x).2⟩ else ⟨t, k, bytesA x, 0, 0⟩
def lineS (s : St) : EM.Ev × St :=
  let a := utmS (preS [91] s)
  let k := kindS (preS [44, 32, 34] a.2)
  let u := unqS (preS [34, 44, 32] k.2)
  (evW a.1 k.1 u.1, preS [93, 10] u.2)
def lineW (l : List UInt8) : Option (EM.Ev × List UInt8) :=
  (pre [91] l).bind fun l1 => (JM.utm l1).bind fun p => (pre [44, 32, 34] p.2).bind fun l2 => (kindR l2).bind fun q =>
  (pre [34, 44, 32] q.2).bind fun l3 => (JM.unq l3).bind fun u => (pre [93, 10] u.2).map fun l4 => (evW p.1 q.1 (u.1.flatMap JM.enc), l4)
theorem lineS_none : (lineS none).2 = none := rfl
theorem lineS_some (l : List UInt8) : (match lineW l with | some p => lineS (some l) = (p.1, some p.2) | none => (lineS (some l)).2 = none) := by
  unfold lineW lineS preS utmS kindS unqS
  cases h1 : pre [91] l with
  | none => simp [h1]
  | some l1 =>
  cases h2 : JM.utm l1 with
  | none => simp [h1, h2]
  | some p =>
  obtain ⟨t, l2⟩ := p
  cases h3 : pre [44, 32, 34] l2 with
  | none => simp [h1, h2, h3]
  | some l3 =>
  cases h4 : kindR l3 with
  | none => simp [h1, h2, h3, h4]
  | some p =>
  obtain ⟨k, l4⟩ := p
  cases h5 : pre [34, 44, 32] l4 with
  | none => simp [h1, h2, h3, h4, h5]
  | some l5 =>
  cases h6 : JM.unq l5 with
  | none => simp [h1, h2, h3, h4, h5, h6]
  | some p =>
  obtain ⟨x, l6⟩ := p
  cases h7 : pre [93, 10] l6 with
  | none => simp [h1, h2, h3, h4, h5, h6, h7]
  | some l7 => simp [h1, h2, h3, h4, h5, h6, h7]
def linesW : Nat → List UInt8 → Option (List EM.Ev)
  | 0, l => if l = [] then some [] else none
  | n + 1, l => if l = [] then some [] else (lineW l).bind fun p => (linesW n p.2).map fun r => p.1 :: r
/-- What the landed Import tells. -/
def impW (s : List UInt8) : Option (Nat × Nat × List EM.Ev) :=
  (headR s).bind fun p => (linesW p.2.2.length p.2.2).bind fun l => if EM.listB 0 l then some (p.1, p.2.1, l) else none

theorem sizeW_eq (l : List UInt8) : sizeW l = (if (numS (preS [120] (numS (some l)).2)).2 = some [] then ((numS (some l)).1, (numS (preS [120] (numS (some l)).2)).1) else (0, 0)) := by
  unfold sizeW sizeR preS numS
  cases h1 : JM.num l with
  | none => simp [h1]
  | some p =>
  obtain ⟨x, l1⟩ := p
  cases h2 : pre [120] l1 with
  | none => simp [h1, h2]
  | some l2 =>
  cases h3 : JM.num l2 with
  | none => simp [h1, h2, h3]
  | some p =>
  obtain ⟨y, l3⟩ := p
  by_cases h4 : l3 = []
  · simp [h1, h2, h3, h4]
  · simp [h1, h2, h3, h4]
/-! ### it is what AMath tells -/
theorem evW_of {t : Nat} {k : Int} {x : List UInt8} {e : EM.Ev} (h : evR t k x = some e) : evW t k x = e := by
  unfold evR at h
  unfold evW sizeW
  split at h
  · rename_i hk
    rw [if_pos hk]
    obtain ⟨p, h1, h2⟩ := Option.map_eq_some_iff.1 h
    rw [h1, ← h2]
    rfl
  · rename_i hk
    rw [if_neg hk]
    exact Option.some.inj h
theorem evR_of {t : Nat} {k : Int} {x : List UInt8} (h : EM.right (evW t k x) = true) : evR t k x = some (evW t k x) := by
  unfold evR
  unfold evW sizeW at *
  split
  · rename_i hk
    rw [if_pos hk] at h
    cases hs : sizeR x with
    | none =>
      rw [hs] at h
      simp [EM.right] at h
    | some p => rfl
  · rfl
theorem lineW_of {l : List UInt8} {p : EM.Ev × List UInt8} (h : lineR l = some p) : lineW l = some p := by
  unfold lineR at h
  obtain ⟨l1, h1, h⟩ := Option.bind_eq_some_iff.1 h
  obtain ⟨a, h2, h⟩ := Option.bind_eq_some_iff.1 h
  obtain ⟨l3, h3, h⟩ := Option.bind_eq_some_iff.1 h
  obtain ⟨b, h4, h⟩ := Option.bind_eq_some_iff.1 h
  obtain ⟨l5, h5, h⟩ := Option.bind_eq_some_iff.1 h
  obtain ⟨c, h6, h⟩ := Option.bind_eq_some_iff.1 h
  obtain ⟨l7, h7, h⟩ := Option.bind_eq_some_iff.1 h
  obtain ⟨e, h8, h⟩ := Option.map_eq_some_iff.1 h
  unfold lineW
  rw [h1, Option.bind_some, h2, Option.bind_some, h3, Option.bind_some, h4, Option.bind_some, h5, Option.bind_some, h6, Option.bind_some, h7, Option.map_some, evW_of h8, h]
theorem lineR_of {l : List UInt8} {p : EM.Ev × List UInt8} (h : lineW l = some p) (hr : EM.right p.1 = true) : lineR l = some p := by
  unfold lineW at h
  obtain ⟨l1, h1, h⟩ := Option.bind_eq_some_iff.1 h
  obtain ⟨a, h2, h⟩ := Option.bind_eq_some_iff.1 h
  obtain ⟨l3, h3, h⟩ := Option.bind_eq_some_iff.1 h
  obtain ⟨b, h4, h⟩ := Option.bind_eq_some_iff.1 h
  obtain ⟨l5, h5, h⟩ := Option.bind_eq_some_iff.1 h
  obtain ⟨c, h6, h⟩ := Option.bind_eq_some_iff.1 h
  obtain ⟨l7, h7, h⟩ := Option.map_eq_some_iff.1 h
  subst h
  unfold lineR
  rw [h1, Option.bind_some, h2, Option.bind_some, h3, Option.bind_some, h4, Option.bind_some, h5, Option.bind_some, h6, Option.bind_some, h7, Option.bind_some, evR_of hr]
  rfl
theorem linesW_of : ∀ (n : Nat) {l : List UInt8} {L : List EM.Ev}, linesR n l = some L → linesW n l = some L := by
  intro n
  induction n with
  | zero => intro l L h; exact h
  | succ n ih =>
    intro l L h
    unfold linesR at h
    unfold linesW
    split
    · rename_i hl; rw [if_pos hl] at h; exact h
    · rename_i hl
      rw [if_neg hl] at h
      obtain ⟨p, h1, h⟩ := Option.bind_eq_some_iff.1 h
      obtain ⟨r, h2, h⟩ := Option.map_eq_some_iff.1 h
      rw [lineW_of h1, Option.bind_some, ih h2, Option.map_some, h]
theorem linesR_of : ∀ (n : Nat) {l : List UInt8} {L : List EM.Ev}, linesW n l = some L → (∀ e ∈ L, EM.right e = true) → linesR n l = some L := by
  intro n
  induction n with
  | zero => intro l L h _; exact h
  | succ n ih =>
    intro l L h hr
    unfold linesW at h
    unfold linesR
    split
    · rename_i hl; rw [if_pos hl] at h; exact h
    · rename_i hl
      rw [if_neg hl] at h
      obtain ⟨p, h1, h⟩ := Option.bind_eq_some_iff.1 h
      obtain ⟨r, h2, h⟩ := Option.map_eq_some_iff.1 h
      subst h
      rw [lineR_of h1 (hr p.1 (by simp)), Option.bind_some, ih h2 (fun e he => hr e (by simp [he]))]
      rfl
theorem impW_eq (s : List UInt8) : impW s = imp s := by
  unfold impW imp
  cases headR s with
  | none => rfl
  | some p =>
    rw [Option.bind_some, Option.bind_some]
    cases hw : linesW p.2.2.length p.2.2 with
    | none =>
      cases hr : linesR p.2.2.length p.2.2 with
      | none => rfl
      | some L => rw [linesW_of _ hr] at hw; cases hw
    | some L =>
      rw [Option.bind_some]
      by_cases hl : EM.listB 0 L = true
      · rw [linesR_of _ hw (listB_right hl), Option.bind_some]
      · rw [if_neg hl]
        cases hr : linesR p.2.2.length p.2.2 with
        | none => rfl
        | some L' =>
          have := linesW_of _ hr
          rw [hw] at this
          cases this
          rw [Option.bind_some, if_neg hl]

/-! ### lengths -/
theorem preS_len {p : List UInt8} {s : St} {n : Nat} (h : (s.getD []).length ≤ n) : ((preS p s).getD []).length ≤ n := by
  unfold preS
  cases s with
  | none => simp
  | some l =>
    rw [Option.bind_some]
    cases hp : pre p l with
    | none => simp
    | some r =>
      have := congrArg List.length (pre_back hp)
      rw [List.length_append] at this
      simp at h ⊢
      omega
theorem numS_len {s : St} {n : Nat} (h : (s.getD []).length ≤ n) : ((numS s).2.getD []).length ≤ n := by
  unfold numS
  cases s with
  | none => simp
  | some l =>
    rw [Option.bind_some]
    cases hp : JM.num l with
    | none => simp
    | some r =>
      obtain ⟨a, r⟩ := r
      have := congrArg List.length (JM.num_back hp)
      rw [List.length_append] at this
      simp at h ⊢
      omega
theorem utmS_len {s : St} {n : Nat} (h : (s.getD []).length ≤ n) : ((utmS s).2.getD []).length ≤ n := by
  unfold utmS
  cases s with
  | none => simp
  | some l =>
    rw [Option.bind_some]
    cases hp : JM.utm l with
    | none => simp
    | some r =>
      obtain ⟨a, r⟩ := r
      have := congrArg List.length (JM.utm_back hp).1
      rw [List.length_append] at this
      simp at h ⊢
      omega
theorem kindS_len {s : St} {n : Nat} (h : (s.getD []).length ≤ n) : ((kindS s).2.getD []).length ≤ n := by
  unfold kindS
  cases s with
  | none => simp
  | some l =>
    rw [Option.bind_some]
    cases l with
    | nil => simp [kindR]
    | cons b t =>
      have e : kindR (b :: t) = (signK b).map fun k => (k, t) := rfl
      rw [e]
      cases signK b with
      | none => simp
      | some k => simp at h ⊢; omega
theorem wr_ge (r : Nat) : (JM.enc r).length ≤ (JM.wr r).length := by
  have h1 := (JM.enc_len r).2
  unfold JM.wr
  repeat' split
  · simp
  · rename_i h; rw [h, JM.enc_one (by decide)]; simp
  · rename_i h; rw [h, JM.enc_one (by decide)]; simp
  · simp; omega
  · exact Nat.le_refl _
theorem flat_ge (rs : List Nat) : (rs.flatMap JM.enc).length ≤ (rs.flatMap JM.wr).length := by
  induction rs with
  | nil => simp
  | cons r rs ih =>
    have := wr_ge r
    simp only [List.flatMap_cons, List.length_append]
    omega
theorem unq_len {l r : List UInt8} {rs : List Nat} (h : JM.unq l = some (rs, r)) : r.length ≤ l.length ∧ (rs.flatMap JM.enc).length ≤ l.length := by
  obtain ⟨h1, h2⟩ := JM.unq_sound h
  have h3 := congrArg List.length h2
  have h4 := flat_ge rs
  unfold JM.quote at h3
  rw [JM.runes_flat _ h1] at h3
  simp only [List.length_append, List.length_cons, List.length_nil] at h3
  omega
theorem unqS_len {s : St} {n : Nat} (h : (s.getD []).length ≤ n) : ((unqS s).2.getD []).length ≤ n ∧ (unqS s).1.length ≤ n := by
  unfold unqS
  cases s with
  | none => simp
  | some l =>
    rw [Option.bind_some]
    cases hp : JM.unq l with
    | none => simp
    | some r =>
      obtain ⟨a, r⟩ := r
      have := unq_len hp
      exact ⟨Nat.le_trans this.1 h, Nat.le_trans this.2 h⟩
/-- A line that was read is at least a byte long. -/
theorem lineW_less {l : List UInt8} {p : EM.Ev × List UInt8} (h : lineW l = some p) : p.2.length < l.length := by
  unfold lineW at h
  obtain ⟨l1, h1, h⟩ := Option.bind_eq_some_iff.1 h
  have g1 := congrArg List.length (pre_back h1)
  rw [List.length_append, List.length_singleton] at g1
  obtain ⟨a, h2, h⟩ := Option.bind_eq_some_iff.1 h
  obtain ⟨a1, a2⟩ := a
  have g2 := congrArg List.length (JM.utm_back h2).1
  rw [List.length_append] at g2
  obtain ⟨l3, h3, h⟩ := Option.bind_eq_some_iff.1 h
  have g3 := congrArg List.length (pre_back h3)
  rw [List.length_append] at g3
  obtain ⟨b, h4, h⟩ := Option.bind_eq_some_iff.1 h
  have g4 : b.2.length ≤ l3.length := by
    cases l3 with
    | nil => cases h4
    | cons x t =>
      obtain ⟨k, _, h4⟩ := Option.map_eq_some_iff.1 h4
      subst h4
      simp
  obtain ⟨l5, h5, h⟩ := Option.bind_eq_some_iff.1 h
  have g5 := congrArg List.length (pre_back h5)
  rw [List.length_append] at g5
  obtain ⟨c, h6, h⟩ := Option.bind_eq_some_iff.1 h
  obtain ⟨c1, c2⟩ := c
  have g6 := (unq_len h6).1
  obtain ⟨l7, h7, h⟩ := Option.map_eq_some_iff.1 h
  have g7 := congrArg List.length (pre_back h7)
  rw [List.length_append] at g7
  subst h
  dsimp only at *
  omega
/-- How many lines there are, at most. -/
theorem linesW_len : ∀ (n : Nat) {l : List UInt8} {L : List EM.Ev}, linesW n l = some L → L.length ≤ l.length := by
  intro n
  induction n with
  | zero =>
    intro l L h
    unfold linesW at h
    split at h
    · cases h; simp
    · cases h
  | succ n ih =>
    intro l L h
    unfold linesW at h
    split at h
    · cases h; simp
    · obtain ⟨p, h1, h⟩ := Option.bind_eq_some_iff.1 h
      obtain ⟨r, h2, h⟩ := Option.map_eq_some_iff.1 h
      subst h
      have := ih h2
      have := lineW_less h1
      rw [List.length_cons]
      omega
/-! ### the whole, by the reader's steps -/
theorem linesW_more : ∀ (n m : Nat) (l : List UInt8), l.length ≤ n → l.length ≤ m → linesW n l = linesW m l := by
  intro n
  induction n with
  | zero =>
    intro m l hn hm
    obtain rfl : l = [] := List.length_eq_zero_iff.1 (by omega)
    cases m <;> simp [linesW]
  | succ n ih =>
    intro m l hn hm
    by_cases hl : l = []
    · subst hl
      cases m <;> simp [linesW]
    · have hp : 0 < l.length := List.length_pos_iff.2 hl
      obtain ⟨m, rfl⟩ : ∃ k, m = k + 1 := ⟨m - 1, by omega⟩
      unfold linesW
      rw [if_neg hl, if_neg hl]
      cases hw : lineW l with
      | none => rfl
      | some p =>
        have := lineW_less hw
        rw [Option.bind_some, Option.bind_some, ih m p.2 (by omega) (by omega)]
/-- What the events read so far and the reader's text tell in all. -/
def tailS (acc : List EM.Ev) (s : St) : Option (List EM.Ev) := s.bind fun l => (linesW l.length l).map (acc ++ ·)
theorem tailS_done (acc : List EM.Ev) : tailS acc (some []) = some acc := by simp [tailS, linesW]
theorem tailS_step (acc : List EM.Ev) {l : List UInt8} (hl : l ≠ []) : tailS acc (some l) = tailS (acc ++ [(lineS (some l)).1]) (lineS (some l)).2 := by
  have hp : 0 < l.length := List.length_pos_iff.2 hl
  have h := lineS_some l
  unfold tailS
  rw [Option.bind_some]
  obtain ⟨m, hm⟩ : ∃ k, l.length = k + 1 := ⟨l.length - 1, by omega⟩
  have e : linesW (m + 1) l = (lineW l).bind fun p => (linesW m p.2).map fun r => p.1 :: r := by
    show (if l = [] then some [] else _) = _
    rw [if_neg hl]
  rw [hm, e]
  cases hw : lineW l with
  | none =>
    rw [hw] at h
    simp only at h
    rw [h]
    rfl
  | some p =>
    rw [hw] at h
    simp only at h
    have hless := lineW_less hw
    rw [h, Option.bind_some, Option.bind_some, linesW_more m p.2.length p.2 (by omega) (Nat.le_refl _)]
    cases linesW p.2.length p.2 with
    | none => rfl
    | some r => simp
theorem tail_less {l : List UInt8} (hl : l ≠ []) : ((lineS (some l)).2.getD []).length < l.length := by
  have hp : 0 < l.length := List.length_pos_iff.2 hl
  have h := lineS_some l
  cases hw : lineW l with
  | none =>
    rw [hw] at h
    simp only at h
    rw [h]
    simpa using hp
  | some p =>
    rw [hw] at h
    simp only at h
    rw [h]
    exact lineW_less hw
theorem impW_S (s : List UInt8) : impW s = (tailS [] (preS [125, 10] (numS (preS pB (numS (preS pA (some s))).2)).2)).bind fun l =>
    if EM.listB 0 l then some ((numS (preS pA (some s))).1, (numS (preS pB (numS (preS pA (some s))).2)).1, l) else none := by
  unfold impW headR
  cases h1 : pre pA s with
  | none => simp [preS, numS, tailS, h1]
  | some l1 =>
  cases h2 : JM.num l1 with
  | none => simp [preS, numS, tailS, h1, h2]
  | some p =>
  obtain ⟨x, l2⟩ := p
  cases h3 : pre pB l2 with
  | none => simp [preS, numS, tailS, h1, h2, h3]
  | some l3 =>
  cases h4 : JM.num l3 with
  | none => simp [preS, numS, tailS, h1, h2, h3, h4]
  | some p =>
  obtain ⟨y, l4⟩ := p
  cases h5 : pre [125, 10] l4 with
  | none => simp [preS, numS, tailS, h1, h2, h3, h4, h5]
  | some l5 =>
    simp only [preS, numS, tailS, h1, h2, h3, h4, h5, Option.bind_some, Option.map_some]
    cases linesW l5.length l5 with
    | none => rfl
    | some L => simp
end Go.Proofs.YtciogdhapogolaaDoor.AM
