/-
  Layer 9's laws: numbers kept to their low bits; grids that are the same.
-/
import Derived.Test.YtbpkklcegiiheaaDoorDFitL
import Derived.Test.YtbpkklcegiiheaaDoorDFill
import Derived.Test.YtbpkklcegiiheaaDoorDWholeL
import Derived.Test.YtbpkklcegiiheaaDoorDDo
import Derived.Test.YtbpkklcegiiheaaDoorDOpenA
import Derived.Test.YtbpkklcegiiheaaDoorDCopy
import Derived.Test.YtbpkklcegiiheaaDoorDSameG
namespace Go.Proofs.YtbpkklcegiiheaaDoor
open Go.RowKit Go.Lib KM

set_option maxRecDepth 100000 in
theorem and31 (n : Int) : bits .and .i64 n 31 = n % 32 := by
  have h127 : (BitVec.ofInt 64 31).toNat = 2 ^ 5 - 1 := by decide
  have key : (BitVec.ofInt 64 n &&& BitVec.ofInt 64 31).toNat = (n % ((2 ^ 64 : Nat) : Int)).toNat % 2 ^ 5 := by
    rw [BitVec.toNat_and, BitVec.toNat_ofInt, h127, Nat.and_two_pow_sub_one_eq_mod]
  show IntKind.i64.wrap ((BitVec.ofInt 64 n &&& BitVec.ofInt 64 31).toNat : Nat) = n % 32
  rw [key, IntKind.wrap_i64]
  omega
set_option maxRecDepth 100000 in
theorem and15 (n : Int) : bits .and .i64 n 15 = n % 16 := by
  have h127 : (BitVec.ofInt 64 15).toNat = 2 ^ 4 - 1 := by decide
  have key : (BitVec.ofInt 64 n &&& BitVec.ofInt 64 15).toNat = (n % ((2 ^ 64 : Nat) : Int)).toNat % 2 ^ 4 := by
    rw [BitVec.toNat_and, BitVec.toNat_ofInt, h127, Nat.and_two_pow_sub_one_eq_mod]
  show IntKind.i64.wrap ((BitVec.ofInt 64 n &&& BitVec.ofInt 64 15).toNat : Nat) = n % 16
  rw [key, IntKind.wrap_i64]
  omega
/-- Two numbers in memory. -/
def TwoIn (w : World) (b : Nat) (x y : Int) : Prop := w.heap[b]? = some (.cells #[.int .i64 x, .int .i64 y] 22 (0, 0))
theorem TwoIn.cells {w : World} {b : Nat} {x y : Int} (h : TwoIn w b x y) : w.cell? ⟨b, 0, none⟩ = some (.int .i64 x) ∧ w.cell? ⟨b, 1, none⟩ = some (.int .i64 y) := by
  unfold TwoIn at h
  refine ⟨?_, ?_⟩ <;> simp [World.cell?, h]
theorem TwoIn.lt {w : World} {b : Nat} {x y : Int} (h : TwoIn w b x y) : b < w.heap.size := (Array.getElem?_eq_some_iff.1 h).1
theorem TwoIn.keep {w w' : World} {b : Nat} {x y : Int} (h : TwoIn w b x y) (hk : w'.heap[b]? = w.heap[b]?) : TwoIn w' b x y := hk.trans h
theorem TwoIn.below {w w' : World} {b : Nat} {x y : Int} (h : TwoIn w b x y) (hb : Below w.heap.size w w') : TwoIn w' b x y := h.keep (hb.block b h.lt)
theorem TwoIn.fresh (w : World) (x y : Int) : TwoIn (w.alloc (.cells #[.int .i64 x, .int .i64 y] 22)) w.heap.size x y := heap_alloc_new w _
/-- Three. -/
def ThreeIn (w : World) (b : Nat) (x y z : Int) : Prop := w.heap[b]? = some (.cells #[.int .i64 x, .int .i64 y, .int .i64 z] 46 (0, 0))
theorem ThreeIn.cells {w : World} {b : Nat} {x y z : Int} (h : ThreeIn w b x y z) : w.cell? ⟨b, 0, none⟩ = some (.int .i64 x) ∧ w.cell? ⟨b, 1, none⟩ = some (.int .i64 y) ∧ w.cell? ⟨b, 2, none⟩ = some (.int .i64 z) := by
  unfold ThreeIn at h
  refine ⟨?_, ?_, ?_⟩ <;> simp [World.cell?, h]
theorem ThreeIn.lt {w : World} {b : Nat} {x y z : Int} (h : ThreeIn w b x y z) : b < w.heap.size := (Array.getElem?_eq_some_iff.1 h).1
theorem ThreeIn.keep {w w' : World} {b : Nat} {x y z : Int} (h : ThreeIn w b x y z) (hk : w'.heap[b]? = w.heap[b]?) : ThreeIn w' b x y z := hk.trans h
theorem ThreeIn.below {w w' : World} {b : Nat} {x y z : Int} (h : ThreeIn w b x y z) (hb : Below w.heap.size w w') : ThreeIn w' b x y z := h.keep (hb.block b h.lt)
theorem ThreeIn.fresh (w : World) (x y z : Int) : ThreeIn (w.alloc (.cells #[.int .i64 x, .int .i64 y, .int .i64 z] 46)) w.heap.size x y z := heap_alloc_new w _

theorem gsame_self (g : Gr) : gsame g g = true := by simp [gsame]
theorem gsame_eq {a b : Gr} (ha : a.Ok) (hb : b.Ok) : gsame a b = (decide (b.w = a.w) && decide (b.ls = a.ls)) := by
  have h1 := ha.len
  have h2 := hb.len
  unfold gsame
  by_cases e1 : a.w = b.w
  · by_cases e2 : a.ls = b.ls
    · have : a.h = b.h := by rw [← h1, ← h2, e2]
      simp [e1, e2, this]
    · have : ¬ b.ls = a.ls := fun e => e2 e.symm
      simp [e2, this]
  · have : ¬ b.w = a.w := fun e => e1 e.symm
    simp [e1, this]
theorem gsame_new {g : Gr} (hw : g.w ≤ 59) (y : Int) : gsame g (gnew ((g.w : Int) + 1) y) = false := by
  have : (gnew ((g.w : Int) + 1) y).w = g.w + 1 := by
    show (nr ((g.w : Int) + 1) 1 60).toNat = g.w + 1
    unfold nr
    omega
  unfold gsame
  rw [this]
  simp
theorem KM.Gr.Ok.short {g : Gr} (h : g.Ok) : ∀ l ∈ g.ls, l.length ≤ 1000 := fun l hl => by rw [(h.row l hl).len]; have := h.w2; omega
end Go.Proofs.YtbpkklcegiiheaaDoor
