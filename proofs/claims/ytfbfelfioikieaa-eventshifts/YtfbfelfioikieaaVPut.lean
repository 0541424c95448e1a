/-
  Layer 1 (vary): what putOne and Put answer, behind bytes that the call's own row holds.
-/
import Derived.Test.YtfbfelfioikieaaVMath
import Derived.Test.YtfbfelfioikieaaVGrow
namespace Go.Proofs.Ytfbfelfioikieaa
open Go.RowKit

set_option maxRecDepth 100000 in
set_option maxHeartbeats 400000 in
theorem putOne_grow (v : Value) (xs : List Nat) (n : Nat) (w : World) (base : Nat) (hn : n < 18446744073709551616) (hx : xs.length ≤ 1000000000) (hown : Own w base v xs) (hbase : base ≤ w.heap.size) :
    Calls Try.prog 32 #[v, .int .u64 n] w fun e w' => ∃ v', e = .returned v' ∧ Own w' base v' (xs ++ VM.enc n) ∧ Grow w w' v v' := by
  obtain ⟨i0, hi, hz0, hz1, hz2⟩ := info_parts Try.info5
  go_enter Try.func32, Try.ntmps32
  go_wp2
  go_loopw [0, 1] (fun u m wr => ∃ (ys : List Nat) (k : Nat), m = .int .u64 k ∧ k < 18446744073709551616 ∧ Own wr base u ys ∧ ys ++ VM.enc k = xs ++ VM.enc n ∧ Grow w wr v u)
    (fun _ m _ => (intOf m).toNat)
  case atStart => exact ⟨xs, n, rfl, hn, hown, rfl, Grow.refl _ _⟩
  case round =>
    obtain ⟨ys, k, rfl, hk, ho, he, hb⟩ := hrel
    have hlen : ys.length ≤ 1000000010 := by
      have h1 := congrArg List.length he
      have h2 := VM.enc_len64 hn
      simp only [List.length_append] at h1
      omega
    have HE := Lib.hid he; clear he
    have HO := Lib.hid ho; clear ho
    have hzr := hb.grown.size
    have HB := Lib.hid hb; clear hb
    by_cases h128 : 128 ≤ k
    · go_wp2_with (at_builtin; refine wpList_append_own_at _ rfl _ _ 30 rfl base 5 i0 (.int .u8 0) 1 1 Try.underlying30 hi hz0 hz1 hz2 rfl (by decide) _ _ _ rfl (HO.out.alloc _) ⟨wr.heap.size, 0, none⟩ 1 1 [.int .u8 ((k : Int) % 128 + 128)] rfl rfl ?c1 ?c2 ?c3 ?c4 ?c5 ?_)
      case c1 => exact cell_one_new _ _ _
      case c2 => intro u hu; simp at hu; subst hu; rfl
      case c3 => unfold maxLen; omega
      case c4 => omega
      case c5 => simp; omega
      · intro v' w1 ho1 hg1 _ hp1
        have HO1 := Lib.hid (ho1 : w1.ownsRow base 5 1 v' (ys.length + 1) (nums .u8 ys ++ [.int .u8 ((k : Int) % 128 + 128)])); clear ho1
        have HG := Lib.hid (Grow.append hg1 hp1); clear hg1 hp1
        go_wp2
        go_roundw
        case rel => exact ⟨ys ++ [k % 128 + 128], k / 128, by go_num, by omega, Own.snoc (by omega) HO1.out, by rw [← HE.out, VM.enc_ge h128]; simp, HB.out.trans HG.out⟩
        case measure => simp [intOf]; omega
    · go_wp2_with (at_builtin; refine wpList_append_own_at _ rfl _ _ 30 rfl base 5 i0 (.int .u8 0) 1 1 Try.underlying30 hi hz0 hz1 hz2 rfl (by decide) _ _ _ rfl (HO.out.alloc _) ⟨wr.heap.size, 0, none⟩ 1 1 [.int .u8 (k : Int)] rfl rfl ?d1 ?d2 ?d3 ?d4 ?d5 ?_)
      case d1 => exact cell_one_new _ _ _
      case d2 => intro u hu; simp at hu; subst hu; rfl
      case d3 => unfold maxLen; omega
      case d4 => omega
      case d5 => simp; omega
      · intro v' w1 ho1 hg1 _ hp1
        have HO1 := Lib.hid (ho1 : w1.ownsRow base 5 1 v' (ys.length + 1) (nums .u8 ys ++ [.int .u8 (k : Int)])); clear ho1
        have HG := Lib.hid (Grow.append hg1 hp1); clear hg1 hp1
        go_wp2
        go_ret
        exact ⟨v', rfl, by rw [← HE.out, VM.enc_lt (by omega)]; exact Own.snoc rfl HO1.out, HB.out.trans HG.out⟩

theorem putOne_any (v : Value) (xs : List Nat) (n : Nat) (w : World) (base : Nat) (hn : n < 18446744073709551616) (hx : xs.length ≤ 1000000000) (hown : Own w base v xs) (hbase : base ≤ w.heap.size) :
    Calls Try.prog 32 #[v, .int .u64 n] w fun e w' => ∃ v', e = .returned v' ∧ Own w' base v' (xs ++ VM.enc n) ∧ Below base w w' :=
  (putOne_grow v xs n w base hn hx hown hbase).mono fun _ _ ⟨v', h1, h2, h3⟩ => ⟨v', h1, h2, h3.below hown hbase⟩

set_option maxRecDepth 100000 in
set_option maxHeartbeats 400000 in
theorem put_grow (v : Value) (xs : List Nat) (A : Option Addr) (c : Nat) (l : List Nat) (w : World) (base B : Nat) (hl : ∀ n ∈ l, n < 18446744073709551616) (hm : l.length ≤ 10000000) (hx : xs.length ≤ 100000000)
    (hr : Row w B .u64 A l) (hB : B ≤ w.heap.size) (hne : 0 < l.length → ∀ ad, A = some ad → some ad.block ≠ v.ownBlock) (hown : Own w base v xs) (hbase : base ≤ w.heap.size) :
    Calls Try.prog 24 #[v, .slice A l.length c] w fun e w' => ∃ v', e = .returned v' ∧ Own w' base v' (xs ++ VM.encs l) ∧ Grow w w' v v' := by
  have HNE := Lib.hid hne; clear hne
  go_enter Try.func24, Try.ntmps24
  go_wp2
  go_loopw [0, 9] (fun u i wr => ∃ k : Nat, k ≤ l.length ∧ i = .int .i64 k ∧ Own wr base u (xs ++ VM.encs (l.take k)) ∧ Grow w wr v u)
    (fun _ i _ => l.length - (intOf i).toNat)
  case atStart => exact ⟨0, Nat.zero_le _, rfl, by simpa [VM.encs] using hown, Grow.refl _ _⟩
  case round =>
    obtain ⟨k, hk, rfl, ho, hb⟩ := hrel
    have HO := Lib.hid ho; clear ho
    have hzr := hb.grown.size
    have HB := Lib.hid hb; clear hb
    by_cases hlt : k < l.length
    · obtain ⟨b, off, rfl, hbb, hcell⟩ := (hr.grow HB.out hB HNE.out).at_ hlt
      have hgk : l.getD k 0 = l[k] := by simp [hlt]
      have hn : l.getD k 0 < 18446744073709551616 := by rw [hgk]; exact hl _ (List.getElem_mem _)
      have htk : l.take (k + 1) = l.take k ++ [l.getD k 0] := by rw [List.take_succ_eq_append_getElem hlt, hgk]
      have hlen : (xs ++ VM.encs (l.take k)).length ≤ 1000000000 := by
        have := VM.encs_len (l.take k) (fun n h => hl n (List.mem_of_mem_take h))
        rw [List.length_append]
        rw [List.length_take] at this
        omega
      have HT := Lib.hid htk; clear htk hgk
      generalize l.getD k 0 = x at *
      have HN := Lib.hid hn; clear hn
      have HLE := Lib.hid hlen; clear hlen hl hr
      go_wp2_with fail
      refine (putOne_grow _ (xs ++ VM.encs (l.take k)) x _ base HN.out HLE.out HO.out (by omega)).mono ?_
      rintro e w1 ⟨v', rfl, ho1, hb1⟩
      have HO1 := Lib.hid ho1; clear ho1
      have HB1 := Lib.hid hb1; clear hb1
      go_wp2
      go_roundw
      case rel => exact ⟨k + 1, by omega, by go_num, by rw [HT.out, VM.encs_append, ← List.append_assoc]; simpa [VM.encs] using HO1.out, HB.out.trans HB1.out⟩
      case measure => simp [intOf]; omega
    · go_wp2
      go_ret
      have e : l.take k = l := List.take_of_length_le (by omega)
      exact ⟨_, rfl, by have := HO.out; rw [e] at this; exact this, HB.out⟩

theorem put_any (v : Value) (xs : List Nat) (A : Option Addr) (c : Nat) (l : List Nat) (w : World) (base : Nat) (hl : ∀ n ∈ l, n < 18446744073709551616) (hm : l.length ≤ 10000000) (hx : xs.length ≤ 100000000)
    (hr : Row w base .u64 A l) (hown : Own w base v xs) (hbase : base ≤ w.heap.size) :
    Calls Try.prog 24 #[v, .slice A l.length c] w fun e w' => ∃ v', e = .returned v' ∧ Own w' base v' (xs ++ VM.encs l) ∧ Below base w w' :=
  (put_grow v xs A c l w base base hl hm hx hr hbase (fun hp ad ha e => by
    obtain ⟨b, off, h1, h2, _⟩ := hr hp
    rw [h1] at ha
    injection ha with ha
    subst ha
    have := hown.lt b e.symm
    omega) hown hbase).mono fun _ _ ⟨v', h1, h2, h3⟩ => ⟨v', h1, h2, h3.below hown hbase⟩
end Go.Proofs.Ytfbfelfioikieaa
