/-
  Layer 1 (vary): what putOne and Put answer, behind bytes that the call's own row holds.
-/
import Derived.Test.YtalngmegenlfgaaDoorRows
import Derived.Test.YtalngmegenlfgaaDoorVMath
import Derived.Test.YtalngmegenlfgaaDoorVMem
import Derived.WalkKit
import Derived.WalkSpells
import Derived.Lib.Hide
namespace Go.Proofs.YtalngmegenlfgaaDoor
open Go.RowKit

theorem Tryd.info5 : (Tryd.prog.info? 5).map (fun i => (i.zero, i.size, i.bytes)) = some (some (.int .u8 0), 1, 1) := by kernel_rfl

theorem run_cut (A : Option Addr) (n c k : Nat) (w : World) (h : k ≤ n) : (Instr.slice 34 (.slice A n c) (some (.int .i64 (k : Int))) none none).run Tryd.prog w = .ok (.slice (cutA A c k) (n - k) (c - k)) w := by
  have hs : (sizeOf (Tryd.prog.elem 34)).run Tryd.prog w = .ok 1 w := by kernel_rfl
  rw [run_slice_l (P := Tryd.prog) (w := w) (t := 34) (a := A) (len := n) (cap := c) (by kernel_rfl) .i64 (k : Int) (by omega) (by omega), hs]
  simp [Result.andThen, sliced, cutA]

/-- The slice value v, in a row of the call's own from block 'base' on, holds just these bytes. -/
def Own (w : World) (base : Nat) (v : Value) (l : List Nat) : Prop := w.ownsRow base 5 1 v l.length (nums .u8 l)

theorem Own.nil (w : World) (base : Nat) : Own w base (.slice none 0 0) [] := World.ownsRow_nil _ _ _ _
theorem Own.form {w : World} {base : Nat} {v : Value} {l : List Nat} (h : Own w base v l) : ∃ A c, v = .slice A l.length c ∧ l.length ≤ c ∧ c ≤ maxLen ∧ (A = none → c = 0) ∧ Row w w.heap.size .u8 A l := by
  rcases h.2 with ⟨rfl, h0⟩ | ⟨g, cap, cur, rfl, _, hh, h1, h2, _⟩
  · refine ⟨none, 0, by rw [h0], by omega, by unfold maxLen; omega, fun _ => rfl, ?_⟩
    have : l = [] := List.eq_nil_of_length_eq_zero h0
    subst this
    exact Row.nil
  · exact ⟨_, _, rfl, h1, h2, by simp, Row.of_own h⟩
theorem Own.lt {w : World} {base : Nat} {v : Value} {l : List Nat} (h : Own w base v l) : ∀ k, v.ownBlock = some k → base ≤ k := fun k hk => (World.ownsRow.lt h k hk).1

theorem Own.snoc {w : World} {base : Nat} {v : Value} {l : List Nat} {x : Nat} {c : Int} (hc : c = (x : Int)) (h : w.ownsRow base 5 1 v (l.length + 1) (nums .u8 l ++ [.int .u8 c])) : Own w base v (l ++ [x]) := by
  subst hc
  unfold Own
  rw [nums_append, List.length_append]
  exact h
/-- w' is w but for the row of v and for new blocks; v' lies where v lay, or in a new block. -/
structure Grow (w w' : World) (v v' : Value) : Prop where
  grown : w.grownBy w' v.ownBlock
  place : v'.ownBlock = v.ownBlock ∨ ∀ k, v'.ownBlock = some k → w.heap.size ≤ k

theorem Grow.refl (w : World) (v : Value) : Grow w w v v := ⟨⟨rfl, rfl, rfl, Nat.le_refl _, fun _ _ _ => rfl⟩, .inl rfl⟩
theorem Grow.trans {a b c : World} {v v1 v2 : Value} (h : Grow a b v v1) (k : Grow b c v1 v2) : Grow a c v v2 := by
  have hs := h.grown.size
  refine ⟨⟨k.grown.os.trans h.grown.os, k.grown.tape.trans h.grown.tape, k.grown.output.trans h.grown.output, Nat.le_trans hs k.grown.size, fun i hi hne => ?_⟩, ?_⟩
  · refine (k.grown.block i (by omega) ?_).trans (h.grown.block i hi hne)
    rcases h.place with e | e
    · rw [e]; exact hne
    · intro e'; have := e i e'.symm; omega
  · rcases k.place with e | e
    · rw [e]; exact h.place
    · exact .inr fun j hj => by have := e j hj; omega
theorem Grow.below {w w' : World} {v v' : Value} {base : Nat} {l : List Nat} (h : Grow w w' v v') (ho : Own w base v l) (hb : base ≤ w.heap.size) : Below base w w' :=
  (Below.refl base w).grown h.grown hb ho.lt
/-- An append onto the call's own row, what was appended laid in a new block first. -/
theorem Grow.append {w w1 : World} {v v1 : Value} {o : Obj} (hg : (w.alloc o).grownBy w1 v.ownBlock) (hp : v1.ownBlock = v.ownBlock ∨ v1.ownBlock = some (w.heap.size + 1)) : Grow w w1 v v1 := by
  have hs := hg.size
  have hz : (w.alloc o).heap.size = w.heap.size + 1 := by simp
  refine ⟨⟨hg.os, hg.tape, hg.output, by omega, fun k hk hne => (hg.block k (by omega) hne).trans (Below.heap_alloc w o k hk)⟩, ?_⟩
  rcases hp with e | e
  · exact .inl e
  · exact .inr fun k hk => by rw [e] at hk; injection hk with hk; omega
theorem Row.grow {w w' : World} {v v' : Value} {B : Nat} {k : IntKind} {A : Option Addr} {l : List Nat} (h : Row w B k A l) (hg : Grow w w' v v') (hB : B ≤ w.heap.size) (hne : 0 < l.length → ∀ ad, A = some ad → some ad.block ≠ v.ownBlock) : Row w' B k A l := fun hl => by
  obtain ⟨b, off, e, hb, hc⟩ := h hl
  exact ⟨b, off, e, hb, fun j hj => (World.cell?_of_block (w := w) (a := ⟨b, off + j, none⟩) (hg.grown.block b (by omega) (hne hl _ e))).trans (hc j hj)⟩

set_option maxRecDepth 100000 in
set_option maxHeartbeats 400000 in
theorem putOne_grow (v : Value) (xs : List Nat) (n : Nat) (w : World) (base : Nat) (hn : n < 18446744073709551616) (hx : xs.length ≤ 1000000000) (hown : Own w base v xs) (hbase : base ≤ w.heap.size) :
    Calls Tryd.prog 45 #[v, .int .u64 n] w fun e w' => ∃ v', e = .returned v' ∧ Own w' base v' (xs ++ VM.enc n) ∧ Grow w w' v v' := by
  obtain ⟨i0, hi, hz0, hz1, hz2⟩ := info_parts Tryd.info5
  go_enter Tryd.func45, Tryd.ntmps45
  go_wp2
  go_loopw [0, 1] (fun u m wr => ∃ (ys : List Nat) (k : Nat), m = .int .u64 k ∧ k < 18446744073709551616 ∧ Own wr base u ys ∧ ys ++ VM.enc k = xs ++ VM.enc n ∧ Grow w wr v u)
    (fun _ m _ => (intOf m).toNat)
  case atStart => exact ⟨xs, n, rfl, hn, hown, rfl, Grow.refl _ _⟩
  case round =>
    obtain ⟨ys, k, rfl, hk, ho, he, hb⟩ := hrel
    have hlen : ys.length ≤ 1000000010 := by
      have h1 := congrArg List.length he
      have h2 := VM.enc_len64 hn
      simp only [List.length_append] at h1
      omega
    have HE := Lib.hid he; clear he
    have HO := Lib.hid ho; clear ho
    have hzr := hb.grown.size
    have HB := Lib.hid hb; clear hb
    by_cases h128 : 128 ≤ k
    · go_wp2_with (at_builtin; refine wpList_append_own_at _ rfl _ _ 34 rfl base 5 i0 (.int .u8 0) 1 1 Tryd.underlying34 hi hz0 hz1 hz2 rfl (by decide) _ _ _ rfl (HO.out.alloc _) ⟨wr.heap.size, 0, none⟩ 1 1 [.int .u8 ((k : Int) % 128 + 128)] rfl rfl ?c1 ?c2 ?c3 ?c4 ?c5 ?_)
      case c1 => exact cell_one_new _ _ _
      case c2 => intro u hu; simp at hu; subst hu; rfl
      case c3 => unfold maxLen; omega
      case c4 => omega
      case c5 => simp; omega
      · intro v' w1 ho1 hg1 _ hp1
        have HO1 := Lib.hid (ho1 : w1.ownsRow base 5 1 v' (ys.length + 1) (nums .u8 ys ++ [.int .u8 ((k : Int) % 128 + 128)])); clear ho1
        have HG := Lib.hid (Grow.append hg1 hp1); clear hg1 hp1
        go_wp2
        go_roundw
        case rel => exact ⟨ys ++ [k % 128 + 128], k / 128, by go_num, by omega, Own.snoc (by omega) HO1.out, by rw [← HE.out, VM.enc_ge h128]; simp, HB.out.trans HG.out⟩
        case measure => simp [intOf]; omega
    · go_wp2_with (at_builtin; refine wpList_append_own_at _ rfl _ _ 34 rfl base 5 i0 (.int .u8 0) 1 1 Tryd.underlying34 hi hz0 hz1 hz2 rfl (by decide) _ _ _ rfl (HO.out.alloc _) ⟨wr.heap.size, 0, none⟩ 1 1 [.int .u8 (k : Int)] rfl rfl ?d1 ?d2 ?d3 ?d4 ?d5 ?_)
      case d1 => exact cell_one_new _ _ _
      case d2 => intro u hu; simp at hu; subst hu; rfl
      case d3 => unfold maxLen; omega
      case d4 => omega
      case d5 => simp; omega
      · intro v' w1 ho1 hg1 _ hp1
        have HO1 := Lib.hid (ho1 : w1.ownsRow base 5 1 v' (ys.length + 1) (nums .u8 ys ++ [.int .u8 (k : Int)])); clear ho1
        have HG := Lib.hid (Grow.append hg1 hp1); clear hg1 hp1
        go_wp2
        go_ret
        exact ⟨v', rfl, by rw [← HE.out, VM.enc_lt (by omega)]; exact Own.snoc rfl HO1.out, HB.out.trans HG.out⟩

theorem putOne_any (v : Value) (xs : List Nat) (n : Nat) (w : World) (base : Nat) (hn : n < 18446744073709551616) (hx : xs.length ≤ 1000000000) (hown : Own w base v xs) (hbase : base ≤ w.heap.size) :
    Calls Tryd.prog 45 #[v, .int .u64 n] w fun e w' => ∃ v', e = .returned v' ∧ Own w' base v' (xs ++ VM.enc n) ∧ Below base w w' :=
  (putOne_grow v xs n w base hn hx hown hbase).mono fun _ _ ⟨v', h1, h2, h3⟩ => ⟨v', h1, h2, h3.below hown hbase⟩

set_option maxRecDepth 100000 in
set_option maxHeartbeats 400000 in
theorem put_grow (v : Value) (xs : List Nat) (A : Option Addr) (c : Nat) (l : List Nat) (w : World) (base B : Nat) (hl : ∀ n ∈ l, n < 18446744073709551616) (hm : l.length ≤ 10000000) (hx : xs.length ≤ 100000000)
    (hr : Row w B .u64 A l) (hB : B ≤ w.heap.size) (hne : 0 < l.length → ∀ ad, A = some ad → some ad.block ≠ v.ownBlock) (hown : Own w base v xs) (hbase : base ≤ w.heap.size) :
    Calls Tryd.prog 35 #[v, .slice A l.length c] w fun e w' => ∃ v', e = .returned v' ∧ Own w' base v' (xs ++ VM.encs l) ∧ Grow w w' v v' := by
  have HNE := Lib.hid hne; clear hne
  go_enter Tryd.func35, Tryd.ntmps35
  go_wp2
  go_loopw [0, 9] (fun u i wr => ∃ k : Nat, k ≤ l.length ∧ i = .int .i64 k ∧ Own wr base u (xs ++ VM.encs (l.take k)) ∧ Grow w wr v u)
    (fun _ i _ => l.length - (intOf i).toNat)
  case atStart => exact ⟨0, Nat.zero_le _, rfl, by simpa [VM.encs] using hown, Grow.refl _ _⟩
  case round =>
    obtain ⟨k, hk, rfl, ho, hb⟩ := hrel
    have HO := Lib.hid ho; clear ho
    have hzr := hb.grown.size
    have HB := Lib.hid hb; clear hb
    by_cases hlt : k < l.length
    · obtain ⟨b, off, rfl, hbb, hcell⟩ := (hr.grow HB.out hB HNE.out).at_ hlt
      have hgk : l.getD k 0 = l[k] := by simp [hlt]
      have hn : l.getD k 0 < 18446744073709551616 := by rw [hgk]; exact hl _ (List.getElem_mem _)
      have htk : l.take (k + 1) = l.take k ++ [l.getD k 0] := by rw [List.take_succ_eq_append_getElem hlt, hgk]
      have hlen : (xs ++ VM.encs (l.take k)).length ≤ 1000000000 := by
        have := VM.encs_len (l.take k) (fun n h => hl n (List.mem_of_mem_take h))
        rw [List.length_append]
        rw [List.length_take] at this
        omega
      have HT := Lib.hid htk; clear htk hgk
      generalize l.getD k 0 = x at *
      have HN := Lib.hid hn; clear hn
      have HLE := Lib.hid hlen; clear hlen hl hr
      go_wp2_with fail
      refine (putOne_grow _ (xs ++ VM.encs (l.take k)) x _ base HN.out HLE.out HO.out (by omega)).mono ?_
      rintro e w1 ⟨v', rfl, ho1, hb1⟩
      have HO1 := Lib.hid ho1; clear ho1
      have HB1 := Lib.hid hb1; clear hb1
      go_wp2
      go_roundw
      case rel => exact ⟨k + 1, by omega, by go_num, by rw [HT.out, VM.encs_append, ← List.append_assoc]; simpa [VM.encs] using HO1.out, HB.out.trans HB1.out⟩
      case measure => simp [intOf]; omega
    · go_wp2
      go_ret
      have e : l.take k = l := List.take_of_length_le (by omega)
      exact ⟨_, rfl, by have := HO.out; rw [e] at this; exact this, HB.out⟩

theorem put_any (v : Value) (xs : List Nat) (A : Option Addr) (c : Nat) (l : List Nat) (w : World) (base : Nat) (hl : ∀ n ∈ l, n < 18446744073709551616) (hm : l.length ≤ 10000000) (hx : xs.length ≤ 100000000)
    (hr : Row w base .u64 A l) (hown : Own w base v xs) (hbase : base ≤ w.heap.size) :
    Calls Tryd.prog 35 #[v, .slice A l.length c] w fun e w' => ∃ v', e = .returned v' ∧ Own w' base v' (xs ++ VM.encs l) ∧ Below base w w' :=
  (put_grow v xs A c l w base base hl hm hx hr hbase (fun hp ad ha e => by
    obtain ⟨b, off, h1, h2, _⟩ := hr hp
    rw [h1] at ha
    injection ha with ha
    subst ha
    have := hown.lt b e.symm
    omega) hown hbase).mono fun _ _ ⟨v', h1, h2, h3⟩ => ⟨v', h1, h2, h3.below hown hbase⟩
end Go.Proofs.YtalngmegenlfgaaDoor
