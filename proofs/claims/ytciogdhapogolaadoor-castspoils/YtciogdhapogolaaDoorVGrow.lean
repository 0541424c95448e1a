/-
  A row of bytes that is the call's own; what has changed where it grew.
-/
import Derived.Test.YtciogdhapogolaaDoorRows
import Derived.Test.YtciogdhapogolaaDoorVMem
import Derived.WalkKit
import Derived.WalkSpells
import Derived.Lib.Hide
namespace Go.Proofs.YtciogdhapogolaaDoor
open Go.RowKit

theorem Tryd.info5 : (Tryd.prog.info? 5).map (fun i => (i.zero, i.size, i.bytes)) = some (some (.int .u8 0), 1, 1) := by kernel_rfl

theorem run_cut (A : Option Addr) (n c k : Nat) (w : World) (h : k ≤ n) : (Instr.slice 37 (.slice A n c) (some (.int .i64 (k : Int))) none none).run Tryd.prog w = .ok (.slice (cutA A c k) (n - k) (c - k)) w := by
  have hs : (sizeOf (Tryd.prog.elem 37)).run Tryd.prog w = .ok 1 w := by kernel_rfl
  rw [run_slice_l (P := Tryd.prog) (w := w) (t := 37) (a := A) (len := n) (cap := c) (by kernel_rfl) .i64 (k : Int) (by omega) (by omega), hs]
  simp [Result.andThen, sliced, cutA]

/-- The slice value v, in a row of the call's own from block 'base' on, holds just these bytes. -/
def Own (w : World) (base : Nat) (v : Value) (l : List Nat) : Prop := w.ownsRow base 5 1 v l.length (nums .u8 l)

theorem Own.nil (w : World) (base : Nat) : Own w base (.slice none 0 0) [] := World.ownsRow_nil _ _ _ _
theorem Own.form {w : World} {base : Nat} {v : Value} {l : List Nat} (h : Own w base v l) : ∃ A c, v = .slice A l.length c ∧ l.length ≤ c ∧ c ≤ maxLen ∧ (A = none → c = 0) ∧ Row w w.heap.size .u8 A l := by
  rcases h.2 with ⟨rfl, h0⟩ | ⟨g, cap, cur, rfl, _, hh, h1, h2, _⟩
  · refine ⟨none, 0, by rw [h0], by omega, by unfold maxLen; omega, fun _ => rfl, ?_⟩
    have : l = [] := List.eq_nil_of_length_eq_zero h0
    subst this
    exact Row.nil
  · exact ⟨_, _, rfl, h1, h2, by simp, Row.of_own h⟩
theorem Own.lt {w : World} {base : Nat} {v : Value} {l : List Nat} (h : Own w base v l) : ∀ k, v.ownBlock = some k → base ≤ k := fun k hk => (World.ownsRow.lt h k hk).1

theorem Own.snoc {w : World} {base : Nat} {v : Value} {l : List Nat} {x : Nat} {c : Int} (hc : c = (x : Int)) (h : w.ownsRow base 5 1 v (l.length + 1) (nums .u8 l ++ [.int .u8 c])) : Own w base v (l ++ [x]) := by
  subst hc
  unfold Own
  rw [nums_append, List.length_append]
  exact h
/-- w' is w but for the row of v and for new blocks; v' lies where v lay, or in a new block. -/
structure Grow (w w' : World) (v v' : Value) : Prop where
  grown : w.grownBy w' v.ownBlock
  place : v'.ownBlock = v.ownBlock ∨ ∀ k, v'.ownBlock = some k → w.heap.size ≤ k

theorem Grow.refl (w : World) (v : Value) : Grow w w v v := ⟨⟨rfl, rfl, rfl, Nat.le_refl _, fun _ _ _ => rfl⟩, .inl rfl⟩
theorem Grow.trans {a b c : World} {v v1 v2 : Value} (h : Grow a b v v1) (k : Grow b c v1 v2) : Grow a c v v2 := by
  have hs := h.grown.size
  refine ⟨⟨k.grown.os.trans h.grown.os, k.grown.tape.trans h.grown.tape, k.grown.output.trans h.grown.output, Nat.le_trans hs k.grown.size, fun i hi hne => ?_⟩, ?_⟩
  · refine (k.grown.block i (by omega) ?_).trans (h.grown.block i hi hne)
    rcases h.place with e | e
    · rw [e]; exact hne
    · intro e'; have := e i e'.symm; omega
  · rcases k.place with e | e
    · rw [e]; exact h.place
    · exact .inr fun j hj => by have := e j hj; omega
theorem Grow.below {w w' : World} {v v' : Value} {base : Nat} {l : List Nat} (h : Grow w w' v v') (ho : Own w base v l) (hb : base ≤ w.heap.size) : Below base w w' :=
  (Below.refl base w).grown h.grown hb ho.lt
/-- An append onto the call's own row, what was appended laid in a new block first. -/
theorem Grow.append {w w1 : World} {v v1 : Value} {o : Obj} (hg : (w.alloc o).grownBy w1 v.ownBlock) (hp : v1.ownBlock = v.ownBlock ∨ v1.ownBlock = some (w.heap.size + 1)) : Grow w w1 v v1 := by
  have hs := hg.size
  have hz : (w.alloc o).heap.size = w.heap.size + 1 := by simp
  refine ⟨⟨hg.os, hg.tape, hg.output, by omega, fun k hk hne => (hg.block k (by omega) hne).trans (Below.heap_alloc w o k hk)⟩, ?_⟩
  rcases hp with e | e
  · exact .inl e
  · exact .inr fun k hk => by rw [e] at hk; injection hk with hk; omega
theorem Row.grow {w w' : World} {v v' : Value} {B : Nat} {k : IntKind} {A : Option Addr} {l : List Nat} (h : Row w B k A l) (hg : Grow w w' v v') (hB : B ≤ w.heap.size) (hne : 0 < l.length → ∀ ad, A = some ad → some ad.block ≠ v.ownBlock) : Row w' B k A l := fun hl => by
  obtain ⟨b, off, e, hb, hc⟩ := h hl
  exact ⟨b, off, e, hb, fun j hj => (World.cell?_of_block (w := w) (a := ⟨b, off + j, none⟩) (hg.grown.block b (by omega) (hne hl _ e))).trans (hc j hj)⟩
end Go.Proofs.YtciogdhapogolaaDoor
