/-
  Layer 9's laws: lines that went up and then down again. No program walked.
-/
import Derived.Test.YtbpkklcegiiheaaDoorDLawP
namespace Go.Proofs.YtbpkklcegiiheaaDoor
open Go.RowKit Go.Lib KM

theorem bytes_blanks (n : Nat) : bytesOfL (KM.blanks n zero) = List.replicate n 32 := by
  induction n with
  | zero => rfl
  | succ n ih =>
    have : KM.blanks (n + 1) zero = ⟨32, zero⟩ :: KM.blanks n zero := rfl
    rw [this, bytes_cons, ih, List.replicate_succ]
    rfl
theorem text_blanks (n : Nat) : textB (KM.blanks n zero) = [] := by
  unfold textB trimRightB
  rw [bytes_blanks]
  simp

/-- A line by its number. -/
theorem Gr_line_eq {g : Gr} {y : Nat} (hy : y < g.ls.length) : g.line y = g.ls[y] := by simp [KM.Gr.line, hy]

theorem updown {α : Type} (l : List α) (b : α) (T N M : Nat) (h : T + N + M ≤ l.length) :
    let u := l.take T ++ ((l.drop (T + N)).take M ++ List.replicate N b) ++ l.drop (T + N + M)
    u.take T ++ (List.replicate N b ++ (u.drop T).take M) ++ u.drop (T + N + M) = l.take T ++ List.replicate N b ++ l.drop (T + N) := by
  intro u
  have h1 : (l.take T).length = T := by simp; omega
  have h2 : ((l.drop (T + N)).take M).length = M := by simp; omega
  have e1 : u.take T = l.take T := by
    show (l.take T ++ ((l.drop (T + N)).take M ++ List.replicate N b) ++ l.drop (T + N + M)).take T = _
    rw [List.append_assoc, List.take_append_of_le_length (by omega), List.take_of_length_le (by omega)]
  have e2 : (u.drop T).take M = (l.drop (T + N)).take M := by
    show ((l.take T ++ ((l.drop (T + N)).take M ++ List.replicate N b) ++ l.drop (T + N + M)).drop T).take M = _
    rw [List.append_assoc, List.drop_append, List.drop_of_length_le (by omega), h1, Nat.sub_self, List.drop_zero, List.nil_append, List.append_assoc, List.take_append_of_le_length (by omega), List.take_of_length_le (by omega)]
  have e3 : u.drop (T + N + M) = l.drop (T + N + M) := by
    show (l.take T ++ ((l.drop (T + N)).take M ++ List.replicate N b) ++ l.drop (T + N + M)).drop (T + N + M) = _
    have : (l.take T ++ ((l.drop (T + N)).take M ++ List.replicate N b)).length = T + N + M := by simp only [List.length_append, h1, h2, List.length_replicate]; omega
    rw [List.drop_append, List.drop_of_length_le (by omega), this, Nat.sub_self, List.drop_zero, List.nil_append]
  rw [e1, e2, e3, List.append_assoc, List.append_assoc, List.append_assoc]
  congr 2
  have := List.take_append_drop M (l.drop (T + N))
  rw [List.drop_drop] at this
  exact this

theorem lines_math {g : Gr} (hok : g.Ok) (n0 n1 n2 : Int) : ∃ T E N : Nat, min (max n0 0) (g.h : Int) = (T : Int) ∧ min (max n1 0) (g.h : Int) = (E : Int) ∧ min (max n2 0) (max ((E : Int) - (T : Int)) 0) = (N : Int) ∧ T ≤ g.h ∧ E ≤ g.h ∧ T + N ≤ g.h ∧
    (gup g n0 n1 n2 zero).2 = (g.ls.drop T).take N ∧ (gdown (gup g n0 n1 n2 zero).1 n0 n1 n2 zero).ls = g.ls.take T ++ List.replicate N (KM.blanks g.w zero) ++ g.ls.drop (T + N) := by
  obtain ⟨T, hT⟩ := Int.eq_ofNat_of_zero_le (show 0 ≤ min (max n0 0) (g.h : Int) by omega)
  obtain ⟨E, hE⟩ := Int.eq_ofNat_of_zero_le (show 0 ≤ min (max n1 0) (g.h : Int) by omega)
  obtain ⟨N, hN⟩ := Int.eq_ofNat_of_zero_le (show 0 ≤ min (max n2 0) (max ((E : Int) - (T : Int)) 0) by omega)
  have hlen := hok.len
  refine ⟨T, E, N, hT, hE, hN, by omega, by omega, by omega, ?_⟩
  have hw := gup_w (g := g) n0 n1 n2 zero
  by_cases hlt : max n0 0 < min n1 (g.h : Int)
  · have q1 : (max n0 0).toNat = T := by omega
    have q2 : (min n1 (g.h : Int)).toNat = E := by omega
    have q3 : (nr n2 0 (min n1 (g.h : Int) - max n0 0)).toNat = N := by unfold nr; omega
    have hTN : T + N ≤ E := by omega
    refine ⟨by unfold gup; rw [if_pos hlt, q1, q3], ?_⟩
    have hu : (gup g n0 n1 n2 zero).1.ls = upL g.ls g.w T E N zero := by unfold gup; rw [if_pos hlt, q1, q2, q3]
    unfold gdown
    rw [hw.1, hw.2, if_pos hlt, q1, q2, q3]
    show downL (gup g n0 n1 n2 zero).1.ls g.w T E N zero = _
    rw [hu]
    have := updown g.ls (KM.blanks g.w zero) T N (E - T - N) (by omega)
    rw [show T + N + (E - T - N) = E by omega] at this
    exact this
  · have hN0 : N = 0 := by omega
    have hu : gup g n0 n1 n2 zero = (g, []) := by unfold gup; rw [if_neg hlt]
    rw [hu]
    refine ⟨by rw [hN0]; simp, ?_⟩
    unfold gdown
    rw [if_neg hlt, hN0]
    simp
theorem lines_at {g g2 : Gr} (hok : g.Ok) {T N : Nat} (hTN : T + N ≤ g.h) (h : g2.ls = g.ls.take T ++ List.replicate N (KM.blanks g.w zero) ++ g.ls.drop (T + N)) {i : Nat} (_hi : i < g.h) :
    g2.line i = if T ≤ i ∧ i < T + N then KM.blanks g.w zero else g.line i := by
  have hlen := hok.len
  have h1 : (g.ls.take T).length = T := by simp; omega
  have h2 : (g.ls.take T ++ List.replicate N (KM.blanks g.w zero)).length = T + N := by rw [List.length_append, h1, List.length_replicate]
  unfold KM.Gr.line
  rw [h, List.getD_eq_getElem?_getD, List.getD_eq_getElem?_getD]
  by_cases c1 : i < T
  · rw [if_neg (by omega), List.getElem?_append_left (by omega), List.getElem?_append_left (by omega), List.getElem?_take, if_pos c1]
  · by_cases c2 : i < T + N
    · rw [if_pos ⟨by omega, c2⟩, List.getElem?_append_left (by omega), List.getElem?_append_right (by omega), h1, List.getElem?_replicate, if_pos (by omega)]
      rfl
    · rw [if_neg (by omega), List.getElem?_append_right (by omega), h2, List.getElem?_drop, show T + N + (i - (T + N)) = i by omega]
end Go.Proofs.YtbpkklcegiiheaaDoor
