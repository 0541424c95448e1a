/-
  Layer 15 (play), plain: a player, what is done with one, what it tells. No program.
-/
import Derived.Test.YtdbnpdbnjipjiaaEUntil
namespace Go.Proofs.Ytdbnpdbnjipjiaa.PM
open Go.Proofs.Ytdbnpdbnjipjiaa EM
set_option maxRecDepth 100000

/-- A player. -/
structure Pl where
  l : List Ev
  told : Nat
  start : Int
  wall : Int
  p : Int
  q : Int
  paused : Bool
/-- Its time. -/
def Pl.now (P : Pl) : Int := min (P.start + P.wall * P.p / P.q) 4611686018427387904
structure Pl.Ok (P : Pl) : Prop where
  s0 : 0 ≤ P.start
  s1 : P.start < 4611686018427387904
  w0 : 0 ≤ P.wall
  w1 : P.wall ≤ 4611686018427387904
  p0 : 1 ≤ P.p
  p1 : P.p ≤ 1000
  q0 : 1 ≤ P.q
  q1 : P.q ≤ 1000
  len : P.l.length ≤ 1000
  rise : ∀ i (hi : i < P.l.length) j (hj : j < P.l.length), i ≤ j → P.l[i].t ≤ P.l[j].t
  times : ∀ i (hi : i < P.l.length), 0 ≤ P.l[i].t ∧ P.l[i].t < 4611686018427387904
/-- All that is due was told. -/
def Pl.Full (P : Pl) : Prop := P.told = upTo P.l P.now
/-- What lies between two numbers of events told. -/
def seg (l : List Ev) (a b : Nat) : List Ev := (l.drop a).take (b - a)
def Pl.due (P : Pl) : Pl := { P with told := upTo P.l P.now }
def Pl.goes (P : Pl) (n : Int) : Pl := { P with wall := if P.paused = true then P.wall else P.wall + min (max n 0) (4611686018427387904 - P.wall) }
def Pl.tick (P : Pl) (n : Int) : Pl := (P.goes n).due
def Pl.anew (P : Pl) (t : Int) : Pl := { P with start := t, wall := 0 }
def Pl.step (P : Pl) : Pl := if P.told = P.l.length then P else (P.anew (P.l.getD P.told zero).t).due
def rightS (a b : Int) : Bool := decide (1 ≤ a) && decide (a ≤ 1000) && decide (1 ≤ b) && decide (b ≤ 1000)
def Pl.speed (P : Pl) (a b : Int) : Pl := { P with start := min P.now 4611686018427387903, wall := 0, p := a, q := b }
def Pl.pause (P : Pl) (on : Bool) : Pl := { P with paused := on }
def new (l : List Ev) (s p q : Int) : Pl := ⟨l, upTo l s, s, 0, p, q, false⟩

theorem rightS_iff {a b : Int} : rightS a b = true ↔ (1 ≤ a ∧ a ≤ 1000) ∧ 1 ≤ b ∧ b ≤ 1000 := by
  unfold rightS
  simp only [Bool.and_eq_true, decide_eq_true_eq]
  omega
theorem seg_len (l : List Ev) (a b : Nat) (h : a ≤ b) (hb : b ≤ l.length) : (seg l a b).length = b - a := by
  unfold seg
  rw [List.length_take, List.length_drop]
  omega
theorem seg_self (l : List Ev) (a : Nat) : seg l a a = [] := by simp [seg]
theorem seg_app (l : List Ev) (a b c : Nat) (h : a ≤ b) (h' : b ≤ c) : seg l a b ++ seg l b c = seg l a c := by
  unfold seg
  rw [show c - a = (b - a) + (c - b) by omega, List.take_add, List.drop_drop, show a + (b - a) = b by omega]
theorem seg_all (l : List Ev) : seg l 0 l.length = l := by simp [seg]
theorem seg_head (l : List Ev) (a : Nat) : seg l 0 a = l.take a := by simp [seg]
theorem upTo_mono (l : List Ev) {s t : Int} (h : s ≤ t) : upTo l s ≤ upTo l t := by
  unfold upTo
  refine List.countP_mono_left fun e _ he => ?_
  simp only [decide_eq_true_eq] at he ⊢
  omega
/-- Where the number of those that are no later parts a list. -/
theorem upTo_parts (L : List Ev) (t : Int) (hr : ∀ i (hi : i < L.length) j (hj : j < L.length), i ≤ j → L[i].t ≤ L[j].t) :
    (∀ q (hq : q < L.length), q < upTo L t → L[q].t ≤ t) ∧ (∀ q (hq : q < L.length), upTo L t ≤ q → t < L[q].t) := by
  have hall : ∀ q (hq : q < L.length), L[q].t ≤ t → q + 1 ≤ upTo L t := by
    intro q hq h
    have e1 : (L.take (q + 1)).countP (fun e => decide (e.t ≤ t)) = (L.take (q + 1)).length := by
      rw [List.countP_eq_length]
      intro e he
      obtain ⟨i, hi, rfl⟩ := List.mem_iff_getElem.1 he
      rw [List.length_take] at hi
      have := hr i (by omega) q hq (by omega)
      simp only [List.getElem_take, decide_eq_true_eq]
      omega
    unfold upTo
    conv => rhs; rw [← List.take_append_drop (q + 1) L]
    rw [List.countP_append, e1, List.length_take]
    omega
  have hnone : ∀ q (hq : q < L.length), t < L[q].t → upTo L t ≤ q := by
    intro q hq h
    have e1 : (L.drop q).countP (fun e => decide (e.t ≤ t)) = 0 := by
      rw [List.countP_eq_zero]
      intro e he
      obtain ⟨i, hi, rfl⟩ := List.mem_iff_getElem.1 he
      rw [List.length_drop] at hi
      have := hr q hq (q + i) (by omega) (by omega)
      simp only [List.getElem_drop, decide_eq_true_eq]
      omega
    unfold upTo
    conv => lhs; rw [← List.take_append_drop q L]
    rw [List.countP_append, e1]
    have := List.countP_le_length (p := fun e : Ev => decide (e.t ≤ t)) (l := L.take q)
    rw [List.length_take] at this
    omega
  refine ⟨fun q hq h => ?_, fun q hq h => ?_⟩
  · by_cases hc : L[q].t ≤ t
    · exact hc
    · have := hnone q hq (by omega); omega
  · by_cases hc : L[q].t ≤ t
    · have := hall q hq hc; omega
    · omega

section
variable {P : Pl}
theorem Pl.Ok.gone (h : P.Ok) : 0 ≤ P.wall * P.p / P.q := Int.ediv_nonneg (Int.mul_nonneg h.w0 (by have := h.p0; omega)) (by have := h.q0; omega)
theorem Pl.Ok.now0 (h : P.Ok) : 0 ≤ P.now := by
  have := h.gone
  have := h.s0
  unfold Pl.now
  omega
theorem Pl.now_top (P : Pl) : P.now ≤ 4611686018427387904 := by unfold Pl.now; omega
theorem Pl.Ok.now_start (h : P.Ok) : P.start ≤ P.now := by
  have := h.gone
  have := h.s1
  unfold Pl.now
  omega
theorem now_anew (P : Pl) (t : Int) (h : t ≤ 4611686018427387904) : (P.anew t).now = t := by
  unfold Pl.now Pl.anew
  simp only [Int.zero_mul, Int.zero_ediv, Int.add_zero]
  omega
theorem Pl.Ok.goes (h : P.Ok) (n : Int) : (P.goes n).Ok := by
  have := h.w0
  have := h.w1
  refine ⟨h.s0, h.s1, ?_, ?_, h.p0, h.p1, h.q0, h.q1, h.len, h.rise, h.times⟩
  · show 0 ≤ if P.paused = true then P.wall else _
    split <;> omega
  · show (if P.paused = true then P.wall else _) ≤ _
    split <;> omega
theorem Pl.Ok.now_goes (h : P.Ok) (n : Int) : P.now ≤ (P.goes n).now := by
  have := h.w1
  have hw : P.wall ≤ (P.goes n).wall := by
    show P.wall ≤ if P.paused = true then P.wall else _
    split <;> omega
  have h1 : P.wall * P.p ≤ (P.goes n).wall * P.p := Int.mul_le_mul_of_nonneg_right hw (by have := h.p0; omega)
  have h2 := Int.ediv_le_ediv (c := P.q) (by have := h.q0; omega) h1
  show min (P.start + P.wall * P.p / P.q) _ ≤ min (P.start + (P.goes n).wall * P.p / P.q) _
  omega
theorem Pl.Ok.due (h : P.Ok) : P.due.Ok := ⟨h.s0, h.s1, h.w0, h.w1, h.p0, h.p1, h.q0, h.q1, h.len, h.rise, h.times⟩
theorem Pl.due_full (P : Pl) : P.due.Full := rfl
theorem Pl.Ok.tick (h : P.Ok) (n : Int) : (P.tick n).Ok := (h.goes n).due
theorem Pl.tick_full (P : Pl) (n : Int) : (P.tick n).Full := rfl
theorem Pl.Ok.tick_told (h : P.Ok) (hf : P.Full) (n : Int) : P.told ≤ (P.tick n).told := by
  rw [hf]
  exact upTo_mono P.l (h.now_goes n)
theorem Pl.told_le (hf : P.Full) : P.told ≤ P.l.length := by rw [hf]; exact upTo_le _ _
theorem Pl.Ok.anew (h : P.Ok) (t : Int) (h0 : 0 ≤ t) (h1 : t < 4611686018427387904) : (P.anew t).Ok := ⟨h0, h1, Int.le_refl _, by show (0 : Int) ≤ _; omega, h.p0, h.p1, h.q0, h.q1, h.len, h.rise, h.times⟩
theorem Pl.Ok.step (h : P.Ok) (hf : P.Full) : P.step.Ok := by
  unfold Pl.step
  split
  · exact h
  · rename_i hn
    have hl := Pl.told_le hf
    have ht := h.times P.told (by omega)
    have e : P.l.getD P.told zero = P.l[P.told] := by simp [show P.told < P.l.length by omega]
    rw [e]
    exact (h.anew _ ht.1 ht.2).due
theorem Pl.step_full (hf : P.Full) : P.step.Full := by
  unfold Pl.step
  split
  · exact hf
  · rfl
/-- A step tells one event at the least. -/
theorem Pl.Ok.step_told (h : P.Ok) (hf : P.Full) (hn : P.told < P.l.length) : P.told < P.step.told ∧ P.now < P.step.now := by
  have ht := h.times P.told hn
  have e : P.l.getD P.told zero = P.l[P.told] := by simp [hn]
  have hs : P.step = (P.anew P.l[P.told].t).due := by unfold Pl.step; rw [if_neg (by omega), e]
  have hnow : P.step.now = P.l[P.told].t := by rw [hs]; exact now_anew P P.l[P.told].t (by omega)
  have hlt : P.now < P.l[P.told].t := (upTo_parts P.l P.now h.rise).2 P.told hn (by rw [hf]; exact Nat.le_refl _)
  refine ⟨?_, by omega⟩
  have ht' : P.step.told = upTo P.l P.l[P.told].t := by
    rw [hs]
    show upTo P.l (P.anew P.l[P.told].t).now = _
    rw [now_anew P P.l[P.told].t (by omega)]
  rw [ht']
  rcases Nat.lt_or_ge P.told (upTo P.l P.l[P.told].t) with h1 | h1
  · exact h1
  · have := (upTo_parts P.l P.l[P.told].t h.rise).2 P.told hn h1
    omega
theorem Pl.Ok.speed (h : P.Ok) {a b : Int} (hr : rightS a b = true) : (P.speed a b).Ok := by
  obtain ⟨⟨h1, h2⟩, h3, h4⟩ := rightS_iff.1 hr
  have := h.now0
  exact ⟨by show 0 ≤ min P.now _; omega, by show min P.now _ < _; omega, Int.le_refl _, by show (0 : Int) ≤ _; omega, h1, h2, h3, h4, h.len, h.rise, h.times⟩
theorem Pl.speed_now (P : Pl) (a b : Int) : (P.speed a b).now = min P.now 4611686018427387903 := by
  unfold Pl.speed
  show min (min P.now 4611686018427387903 + 0 * a / b) 4611686018427387904 = _
  rw [Int.zero_mul, Int.zero_ediv]
  omega
theorem Pl.Ok.speed_full (h : P.Ok) (hf : P.Full) (a b : Int) : (P.speed a b).Full := by
  show P.told = upTo P.l (P.speed a b).now
  rw [Pl.speed_now, hf]
  have := P.now_top
  rcases Int.lt_or_le P.now 4611686018427387904 with h1 | h1
  · rw [show min P.now 4611686018427387903 = P.now by omega]
  · rw [show min P.now 4611686018427387903 = 4611686018427387903 by omega]
    have ha : ∀ t : Int, 4611686018427387903 ≤ t → upTo P.l t = P.l.length := fun t ht => by
      unfold upTo
      rw [List.countP_eq_length]
      intro e he
      obtain ⟨i, hi, rfl⟩ := List.mem_iff_getElem.1 he
      have := h.times i hi
      simp only [decide_eq_true_eq]
      omega
    rw [ha _ (by omega), ha _ (by omega)]
theorem Pl.Ok.pause (h : P.Ok) (on : Bool) : (P.pause on).Ok := ⟨h.s0, h.s1, h.w0, h.w1, h.p0, h.p1, h.q0, h.q1, h.len, h.rise, h.times⟩
theorem Pl.pause_full (hf : P.Full) (on : Bool) : (P.pause on).Full := hf
theorem new_ok {l : List Ev} {s p q : Int} (hl : l.length ≤ 1000) (hb : listB 0 l = true) (h0 : 0 ≤ s) (h1 : s < 4611686018427387904) (hr : rightS p q = true) : (new l s p q).Ok := by
  obtain ⟨⟨a1, a2⟩, a3, a4⟩ := rightS_iff.1 hr
  refine ⟨h0, h1, Int.le_refl _, by show (0 : Int) ≤ _; omega, a1, a2, a3, a4, hl, fun i hi j hj h => (listB_rise hb i hi).2 j hj h, fun i hi => ?_⟩
  have := right_parts (listB_right hb _ (List.getElem_mem hi))
  exact ⟨this.1, this.2.1⟩
theorem new_now (l : List Ev) (s p q : Int) (h1 : s < 4611686018427387904) : (new l s p q).now = s := by
  show min (s + 0 * p / q) 4611686018427387904 = s
  rw [Int.zero_mul, Int.zero_ediv]
  omega
theorem new_full (l : List Ev) (s p q : Int) (h1 : s < 4611686018427387904) : (new l s p q).Full := by
  show upTo l s = upTo l (new l s p q).now
  rw [new_now l s p q h1]
end
end Go.Proofs.Ytdbnpdbnjipjiaa.PM
