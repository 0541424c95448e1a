/-
  Layer 15 (play): what an operation changes ('Fr'); rows of events cut.
-/
import Derived.Test.YtdbnpdbnjipjiaaEWd
import Derived.Deep.CutRange
namespace Go.Proofs.Ytdbnpdbnjipjiaa
open Go.RowKit Go.Lib EM
set_option maxRecDepth 100000

/-! ### what has changed -/
/-- w' is w but for the blocks of S and for new ones. -/
structure Fr (S : Nat → Prop) (w w' : World) : Prop where
  os : w'.os = w.os
  tape : w'.tape = w.tape
  output : w'.output = w.output
  size : w.heap.size ≤ w'.heap.size
  block : ∀ k, k < w.heap.size → ¬ S k → w'.heap[k]? = w.heap[k]?
theorem Fr.refl (S : Nat → Prop) (w : World) : Fr S w w := ⟨rfl, rfl, rfl, Nat.le_refl _, fun _ _ _ => rfl⟩
theorem Fr.below {S : Nat → Prop} {w w' : World} (h : Fr S w w') {B : Nat} (hB : B ≤ w.heap.size) (hS : ∀ k, S k → B ≤ k) : Below B w w' :=
  ⟨h.os, h.tape, h.output, h.size, fun k hk => h.block k (by omega) (fun hs => by have := hS k hs; omega)⟩
theorem Fr.of_below {S : Nat → Prop} {w w' : World} (h : Below w.heap.size w w') : Fr S w w' := ⟨h.os, h.tape, h.output, h.size, fun k hk _ => h.block k hk⟩
theorem Fr.trans' {S : Nat → Prop} {a b c : World} (h : Fr S a b) (k : Fr S b c) : Fr S a c := by
  have hs := h.size
  exact ⟨k.os.trans h.os, k.tape.trans h.tape, k.output.trans h.output, Nat.le_trans hs k.size, fun i hi hn => (k.block i (by omega) hn).trans (h.block i hi hn)⟩
/-- Two steps, the second one on whatever is old of S or new. -/
theorem Fr.trans {S T : Nat → Prop} {a b c : World} (h : Fr S a b) (k : Fr T b c) (hT : ∀ i, T i → S i ∨ a.heap.size ≤ i) : Fr S a c := by
  have hs := h.size
  refine ⟨k.os.trans h.os, k.tape.trans h.tape, k.output.trans h.output, Nat.le_trans hs k.size, fun i hi hn => (k.block i (by omega) (fun ht => ?_)).trans (h.block i hi hn)⟩
  rcases hT i ht with h1 | h1
  · exact hn h1
  · omega
theorem Fr.mono {S T : Nat → Prop} {w w' : World} (h : Fr S w w') (hT : ∀ i, S i → T i) : Fr T w w' := ⟨h.os, h.tape, h.output, h.size, fun k hk hn => h.block k hk (fun hs => hn (hT k hs))⟩
theorem Fr.setCell {S : Nat → Prop} {w : World} {a : Addr} (u : Value) (h : S a.block) : Fr S w (w.setCell a u) :=
  ⟨rfl, rfl, rfl, by simp, fun k _ hn => Below.heap_setCell _ _ _ _ (fun e => hn (by rw [e]; exact h))⟩
theorem Fr.alloc (S : Nat → Prop) (w : World) (o : Obj) : Fr S w (w.alloc o) := Fr.of_below ((Below.refl _ _).alloc (Nat.le_refl _) o)
theorem Fr.drew (S : Nat → Prop) (w : World) : Fr S w w.drew := ⟨rfl, rfl, rfl, Nat.le_refl _, fun _ _ _ => rfl⟩
theorem Fr.drewN (S : Nat → Prop) (w : World) (n : Nat) : Fr S w (w.drewN n) := ⟨rfl, rfl, rfl, Nat.le_refl _, fun _ _ _ => rfl⟩
theorem Fr.grow {S : Nat → Prop} {w w' : World} {v v' : Value} (h : Grow w w' v v') (hv : ∀ k, v.ownBlock = some k → S k ∨ w.heap.size ≤ k) : Fr S w w' :=
  ⟨h.grown.os, h.grown.tape, h.grown.output, h.grown.size, fun k hk hn => h.grown.block k hk (fun e => by
    rcases hv k e.symm with h1 | h1
    · exact hn h1
    · omega)⟩

/-! ### rows cut -/
section
variable {α : Type} {E : El α}
theorem El.size_of (E : El α) : ∃ i, Try.prog.info? E.ty = some i ∧ i.size = E.s ∧ i.zero = some E.z ∧ i.bytes = E.bytes := by
  obtain ⟨i, hi, h1, h2, h3⟩ := info_parts E.info
  exact ⟨i, hi, h2, h1, h3⟩
theorem El.cells_drop (L : List α) (k : Nat) : E.cells (L.drop k) = (E.cells L).drop (k * E.s) := by
  induction L generalizing k with
  | nil => simp [El.cells]
  | cons a L ih =>
    cases k with
    | zero => simp
    | succ k =>
      rw [List.drop_succ_cons, E.cells_cons, ih, Nat.add_mul, Nat.one_mul, Nat.add_comm, List.drop_append, E.len, Nat.add_sub_cancel_left, show (E.f a).drop (E.s + k * E.s) = [] from List.drop_eq_nil_of_le (by rw [E.len]; omega), List.nil_append]
variable {w w' : World}
/-- Where a cut begins. -/
def El.cutA (E : El α) (A : Option Addr) (c k : Nat) : Option Addr := if c = k then A else A.map (·.add (k * E.s))
theorem El.cutA_some (E : El α) (b o c k : Nat) (h : c ≠ k) : E.cutA (some ⟨b, o, none⟩) c k = some ⟨b, o + k * E.s, none⟩ := by
  unfold El.cutA
  rw [if_neg h]
  simp only [Option.map_some, Option.some.injEq]
  unfold Addr.add; split <;> simp_all
theorem El.cutA_none (E : El α) {A : Option Addr} {c k : Nat} (hA : A = none → c = 0) (h : E.cutA A c k = none) : c - k = 0 := by
  unfold El.cutA at h
  split at h
  · omega
  · rw [Option.map_eq_none_iff] at h
    rw [hA h]; omega
theorem El.elem_eq (E : El α) : Try.prog.elem E.sl = E.ty := by
  unfold Program.elem
  rw [E.und]
theorem El.und' (E : El α) : Try.prog.underlying E.sl = some (.slice (Try.prog.elem E.sl)) := by rw [E.elem_eq]; exact E.und
theorem El.sizeOf_run (E : El α) (w : World) : (sizeOf (Try.prog.elem E.sl)).run Try.prog w = .ok E.s w := by
  obtain ⟨i, hi, hs, _, _⟩ := E.size_of
  rw [E.elem_eq]
  simp [sizeOf, typeInfo, hi, hs]
theorem El.run_head (E : El α) (A : Option Addr) (n c k : Nat) (w : World) (h : k ≤ c) : (Instr.slice E.sl (.slice A n c) none (some (.int .i64 (k : Int))) none).run Try.prog w = .ok (.slice A k c) w := by
  rw [run_slice_h (P := Try.prog) (w := w) (t := E.sl) (a := A) (len := n) (cap := c) E.und' .i64 (k : Int) (by omega) (by omega), E.sizeOf_run]
  have e : A.map (fun a => a.add 0) = A := by cases A <;> simp [Addr.add]
  simp [Result.andThen, sliced, e]
theorem El.run_mid (E : El α) (A : Option Addr) (n c k j : Nat) (w : World) (h : k ≤ j) (hj : j ≤ c) : (Instr.slice E.sl (.slice A n c) (some (.int .i64 (k : Int))) (some (.int .i64 (j : Int))) none).run Try.prog w = .ok (.slice (E.cutA A c k) (j - k) (c - k)) w := by
  rw [run_slice_lh (P := Try.prog) (w := w) (t := E.sl) (a := A) (len := n) (cap := c) E.und' .i64 .i64 (k : Int) (j : Int) (by omega) (by omega) (by omega), E.sizeOf_run]
  simp [Result.andThen, sliced, El.cutA]
theorem El.Row.cut {B c k : Nat} {A : Option Addr} {L : List α} (h : E.Row w B A L) (hk : k ≤ L.length) (hc : L.length ≤ c) : E.Row w B (E.cutA A c k) (L.drop k) := fun hp => by
  rw [List.length_drop] at hp
  obtain ⟨b, off, rfl, hb, hcell⟩ := h (by omega)
  refine ⟨b, off + k * E.s, E.cutA_some b off c k (by omega), hb, fun j hj => ?_⟩
  rw [List.length_drop] at hj
  have hm : k * E.s + (L.length - k) * E.s = L.length * E.s := by rw [← Nat.add_mul]; congr 1; omega
  rw [Nat.add_assoc, hcell _ (by omega), E.cells_drop, List.getElem?_drop]
theorem El.Row.mid {B c k j : Nat} {A : Option Addr} {L : List α} (h : E.Row w B A L) (hk : k ≤ j) (hj : j ≤ L.length) (hc : L.length ≤ c) : E.Row w B (E.cutA A c k) ((L.drop k).take (j - k)) := (h.cut (by omega) hc).take _
/-- A row of the call's own that isn't touched. -/
theorem El.Own.fr {S : Nat → Prop} {base : Nat} {v : Value} {L : List α} (h : E.Own w base v L) (hf : Fr S w w') (hS : ∀ k, S k → v.ownBlock ≠ some k) : E.Own w' base v L :=
  h.keep fun k hk => hf.block k (h.lt k hk).2 (fun hs => hS k hs hk)
end
theorem headE (A : Option Addr) (n c k : Nat) (w : World) (h : k ≤ c) : (Instr.slice 22 (.slice A n c) none (some (.int .i64 (k : Int))) none).run Try.prog w = .ok (.slice A k c) w := evE.run_head A n c k w h
theorem midE (A : Option Addr) (n c k j : Nat) (w : World) (h : k ≤ j) (hj : j ≤ c) : (Instr.slice 22 (.slice A n c) (some (.int .i64 (k : Int))) (some (.int .i64 (j : Int))) none).run Try.prog w = .ok (.slice (evE.cutA A c k) (j - k) (c - k)) w := evE.run_mid A n c k j w h hj
end Go.Proofs.Ytdbnpdbnjipjiaa
