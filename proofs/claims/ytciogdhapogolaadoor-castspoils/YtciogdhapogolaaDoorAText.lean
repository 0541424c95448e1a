/-
  Layer 17 (cast): the pieces of a line as the program's texts.
-/
import Derived.Test.YtciogdhapogolaaDoorAMath
import Derived.Test.YtciogdhapogolaaDoorEEv
import Derived.Test.YtciogdhapogolaaDoorJTime
import Derived.Test.YtciogdhapogolaaDoorJRunes
set_option linter.unusedVariables false
namespace Go.Proofs.YtciogdhapogolaaDoor
open Go.RowKit Go.Lib EM
set_option maxRecDepth 100000

theorem timeL_eq (n : Nat) : timeL n = JM.timeL n := rfl
/-- What stands ahead of an event's time, behind it, behind its sign, behind its text. -/
theorem line_tx (T S Q : List UInt8) : (⟨#[91]⟩ : ByteArray) ++ tx T ++ ⟨#[44, 32, 34]⟩ ++ tx S ++ ⟨#[34, 44, 32]⟩ ++ tx Q ++ ⟨#[93, 10]⟩ = tx ([91] ++ (T ++ ([44, 32, 34] ++ (S ++ ([34, 44, 32] ++ (Q ++ [93, 10])))))) := by
  show tx [91] ++ tx T ++ tx [44, 32, 34] ++ tx S ++ tx [34, 44, 32] ++ tx Q ++ tx [93, 10] = _
  simp only [tx_add, List.append_assoc]
theorem head_tx (a b : List UInt8) : (⟨#[123, 34, 118, 101, 114, 115, 105, 111, 110, 34, 58, 32, 50, 44, 32, 34, 119, 105, 100, 116, 104, 34, 58, 32]⟩ : ByteArray) ++ tx a ++ ⟨#[44, 32, 34, 104, 101, 105, 103, 104, 116, 34, 58, 32]⟩ ++ tx b ++ ⟨#[125, 10]⟩ = tx (AM.pA ++ (a ++ (AM.pB ++ (b ++ [125, 10])))) := by
  show tx AM.pA ++ tx a ++ tx AM.pB ++ tx b ++ tx [125, 10] = _
  simp only [tx_add, List.append_assoc]
theorem size_tx (a b : Nat) : tx (decDigits a) ++ ⟨#[120]⟩ ++ tx (decDigits b) = tx (AM.sizeB a b) := by
  show tx (decDigits a) ++ tx [120] ++ tx (decDigits b) = _
  simp only [tx_add, List.append_assoc]
  rfl
/-- How much an event's text may hold, for its line to be written. -/
structure Fits (e : Ev) : Prop where
  t0 : 0 ≤ e.t
  t1 : e.t ≤ 9223372036854775807
  w0 : 0 ≤ e.w
  w1 : e.w ≤ 9223372036854775807
  h0 : 0 ≤ e.h
  h1 : e.h ≤ 9223372036854775807
  d : e.d.size ≤ 100000
theorem fits_right {e : Ev} (h : right e = true) : Fits e := by
  obtain ⟨h1, h2, h3, h4, h5, h6, h7, h8, h9, _⟩ := right_parts h
  exact ⟨h1, by omega, h5, by omega, h7, by omega, by omega⟩
theorem fits_list {f : Int} {l : List Ev} (h : listB f l = true) : ∀ e ∈ l, Fits e := fun e he => fits_right (AM.listB_right h e he)
/-- A text's size, from the list. -/
theorem textB_len {e : Ev} (h : Fits e) : (AM.textB e).length ≤ 100000 := by
  unfold AM.textB
  split
  · have x := AM.dec_len e.w.toNat (by have := h.w1; omega)
    have y := AM.dec_len e.h.toNat (by have := h.h1; omega)
    unfold AM.sizeB
    rw [List.length_append, List.length_cons]
    omega
  · rw [Array.length_toList]
    exact h.d
/-- How long a line is, and what is written in all. -/
theorem line_len {e : Ev} (h : Fits e) : (AM.lineB e).length ≤ 700000 := by
  have a := AM.time_len e.t.toNat (by have := h.t1; omega)
  have b := JM.quote_len (AM.textB e)
  have c := textB_len h
  unfold AM.lineB
  simp only [List.length_append, List.length_cons, List.length_nil]
  omega
theorem cast_len (x y : Int) (hx : x ≤ 9223372036854775807) (hy : y ≤ 9223372036854775807) {l : List Ev} (h : ∀ e ∈ l, Fits e) : (AM.castB x.toNat y.toNat l).length ≤ 200 + 700000 * l.length := by
  have h1 : (l.flatMap AM.lineB).length ≤ 700000 * l.length := by
    induction l with
    | nil => simp
    | cons e l ih =>
      have h1 := line_len (h e (by simp))
      have h2 := ih (fun x hx => h x (by simp [hx]))
      rw [List.flatMap_cons, List.length_append, List.length_cons]
      omega
  have a := AM.dec_len x.toNat (by omega)
  have b := AM.dec_len y.toNat (by omega)
  unfold AM.castB AM.headB AM.pA AM.pB
  simp only [List.length_append, List.length_cons, List.length_nil]
  omega
end Go.Proofs.YtciogdhapogolaaDoor
