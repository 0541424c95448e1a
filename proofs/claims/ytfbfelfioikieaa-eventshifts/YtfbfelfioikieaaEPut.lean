/-
  Layer 12 (event): Put.
-/
import Derived.Test.YtfbfelfioikieaaERight
import Derived.Test.YtfbfelfioikieaaEWd
import Derived.Test.YtfbfelfioikieaaVApp
namespace Go.Proofs.Ytfbfelfioikieaa
open Go.RowKit Go.Lib EM
set_option maxRecDepth 100000

theorem row_new2 (w : World) (k : IntKind) (x y : Nat) (t : TypeId) : Row (w.alloc (.cells #[.int k (x : Int), .int k (y : Int)] t)) (w.heap.size + 1) k (some ⟨w.heap.size, 0, none⟩) [x, y] := fun _ => by
  refine ⟨w.heap.size, 0, rfl, by omega, fun j hj => ?_⟩
  rcases (by simp at hj; omega : j = 0 ∨ j = 1) with rfl | rfl <;> simp
theorem grown_trans {a b c : World} {v v1 : Value} (h : Grow a b v v1) (k : b.grownBy c v1.ownBlock) : a.grownBy c v.ownBlock := by
  have hs := h.grown.size
  refine ⟨k.os.trans h.grown.os, k.tape.trans h.grown.tape, k.output.trans h.grown.output, Nat.le_trans hs k.size, fun i hi hne => ?_⟩
  refine (k.block i (by omega) ?_).trans (h.grown.block i hi hne)
  rcases h.place with e | e
  · rw [e]; exact hne
  · intro e'; have := e i e'.symm; omega
theorem grown_first {a b c : World} {g : Option Nat} (h : Below a.heap.size a b) (k : b.grownBy c g) : a.grownBy c g :=
  ⟨k.os.trans h.os, k.tape.trans h.tape, k.output.trans h.output, Nat.le_trans h.size k.size, fun i hi hne => (k.block i (Nat.lt_of_lt_of_le hi h.size) hne).trans (h.block i hi)⟩
/-- What isn't the grown row stays. -/
theorem EvAt.grown {w w' : World} {g : Nat} {e : Ev} {r : Option Nat} (h : EvAt w g e) (k : w.grownBy w' r) (hne : r ≠ some g) : EvAt w' g e := (k.block g h.lt (fun e => hne e.symm)).trans h
/-- Put(v, x, y), the two laid in a new block, v a row of the call's own that is older. -/
theorem put_two_grow (v : Value) (xs : List Nat) (x y : Nat) (w : World) (base : Nat) (h1 : x < 18446744073709551616) (h2 : y < 18446744073709551616) (hx : xs.length ≤ 100000000) (hown : Own w base v xs) (hbase : base ≤ w.heap.size) :
    Calls Try.prog 24 #[v, .slice (some ⟨w.heap.size, 0, none⟩) 2 2] (w.alloc (.cells #[.int .u64 (x : Int), .int .u64 (y : Int)] 44)) fun e w' => ∃ v', e = .returned v' ∧ Own w' base v' (xs ++ (VM.enc x ++ VM.enc y)) ∧ Grow w w' v v' := by
  refine (put_grow v xs _ 2 [x, y] _ base (w.heap.size + 1) (by simp; omega) (by simp) hx (row_new2 w .u64 x y _) (by simp) (fun _ ad ha e => ?_) (hown.alloc _) (by simp; omega)).mono ?_
  · injection ha with ha
    subst ha
    exact Nat.lt_irrefl _ (World.ownsRow.lt hown _ e.symm).2
  · rintro e w1 ⟨v', rfl, ho, hg⟩
    have : VM.encs [x, y] = VM.enc x ++ VM.enc y := by simp [VM.encs]
    rw [this] at ho
    exact ⟨v', rfl, ho, grow_alloc _ hg⟩
set_option maxHeartbeats 1000000 in
theorem putText_g (v : Value) (xs : List Nat) (s : ByteArray) (w : World) (base : Nat) (hs : s.size ≤ 100000000) (hx : xs.length ≤ 100000000) (hown : Own w base v xs) (hbase : base ≤ w.heap.size) :
    Calls Try.prog 25 #[v, .string s] w fun e w' => ∃ v', e = .returned v' ∧ Own w' base v' (xs ++ (VM.enc s.size ++ sb s)) ∧ w.grownBy w' v.ownBlock := by
  obtain ⟨i0, hi, hz0, hz1, hz2⟩ := info_parts Try.info5
  have hlen := VM.enc_len64 (n := s.size) (by omega)
  go_enter Try.func25, Try.ntmps25
  go_wp2_with fail
  refine (putOne_grow v xs s.size w base (by omega) (by omega) hown hbase).mono ?_
  rintro e w1 ⟨v1, rfl, ho1, hb1⟩
  have hz := hb1.grown.size
  have hxl : (xs ++ VM.enc s.size).length ≤ 100000010 := by rw [List.length_append]; omega
  have HO1 := Lib.hid ho1; have HB1 := Lib.hid hb1; clear ho1 hb1 hown
  go_wp2_with (at_builtin; refine Lib.wpList_append_own_string _ rfl (.tmp 9) (.tmp 10) 30 9 rfl base 5 i0 Try.underlying30 Try.underlying9 hi hz0 hz1 hz2 v1 _ _ rfl HO1.out s rfl (by unfold maxLen; omega) (by omega) (by omega) ?_; intro v2 w2 ho2 hg2 _; have HO2 := Lib.hid ho2; have HG2 := Lib.hid (grown_trans HB1.out hg2); clear ho2 hg2)
  go_ret
  refine ⟨v2, rfl, ?_, HG2.out⟩
  have h := HO2.out
  rw [strCells_sb, ← nums_append] at h
  unfold Own
  rw [← List.append_assoc, List.length_append, sb_len]
  exact h

set_option maxHeartbeats 1000000 in
theorem eput_ok (v : Value) (xs : List Nat) (f : Int) (e : Ev) (w : World) (base : Nat) (he : right e = true) (h0 : 0 ≤ f) (hf : f ≤ e.t) (hx : xs.length ≤ 10000000) (hown : Own w base v xs) (hbase : base ≤ w.heap.size) :
    Calls Try.prog 14 #[v, .int .i64 f, evV e] w fun x w' => ∃ v', x = .returned v' ∧ Own w' base v' (xs ++ evB f e) ∧ w.grownBy w' v.ownBlock := by
  obtain ⟨h1, h2, h3, h4, h5, h6, h7, h8, h9, -, -⟩ := right_parts he
  have HO := Lib.hid hown
  have hne : v.ownBlock ≠ some w.heap.size := fun e => Nat.lt_irrefl _ (World.ownsRow.lt hown _ e).2
  have HNE := Lib.hid hne
  clear hown he hne
  unfold evB
  obtain ⟨t, k, d, x, y⟩ := e
  simp only at h1 h2 h3 h4 h5 h6 h7 h8 h9 hf ⊢
  obtain ⟨k, rfl⟩ := Int.eq_ofNat_of_zero_le h3
  obtain ⟨x, rfl⟩ := Int.eq_ofNat_of_zero_le h5
  obtain ⟨y, rfl⟩ := Int.eq_ofNat_of_zero_le h7
  obtain ⟨q, hq⟩ := Int.eq_ofNat_of_zero_le (show 0 ≤ t - f by omega)
  rw [hq]
  simp only [evV, Int.toNat_natCast]
  have hqb : q < 4611686018427387904 := by omega
  obtain ⟨w1, hw1⟩ : ∃ w1, w1 = w.alloc (.cells #[.int .i64 t, .int .i64 (k : Int), .string d, .int .i64 (x : Int), .int .i64 (y : Int)] 25) := ⟨_, rfl⟩
  have hb1 : Below w.heap.size w w1 := by rw [hw1]; exact (Below.refl _ _).alloc (Nat.le_refl _) _
  have hc1 : EvAt w1 w.heap.size ⟨t, k, d, x, y⟩ := by rw [hw1]; exact EvAt.new w ⟨t, k, d, x, y⟩
  have W1 := Lib.hid hw1
  have HB1 := Lib.hid hb1
  have HC1 := Lib.hid hc1
  have HO1 := Lib.hid (HO.out.below HB1.out)
  have hz1 := hb1.size
  have uk : IntKind.u64.wrap (k : Int) = (k : Int) := by rw [IntKind.wrap_u64]; omega
  have uq : IntKind.u64.wrap (q : Int) = (q : Int) := by rw [IntKind.wrap_u64]; omega
  have ux : IntKind.u64.wrap (x : Int) = (x : Int) := by rw [IntKind.wrap_u64]; omega
  have uy : IntKind.u64.wrap (y : Int) = (y : Int) := by rw [IntKind.wrap_u64]; omega
  have HP := Lib.hid (put_two_grow v xs k q w1 base (by omega) (by omega) (by omega) HO1.out (by omega))
  have hl1 := VM.enc_len64 (n := k) (by omega)
  have hl2 := VM.enc_len64 (n := q) (by omega)
  have HXL := Lib.hid (show (xs ++ (VM.enc k ++ VM.enc q)).length ≤ 10000100 by simp only [List.length_append]; omega)
  clear hw1 hb1 hc1 hl1 hl2
  by_cases hk2 : k = 2
  · have g1 : ((k : Int) == 2) = true := beq_iff_eq.2 (by omega)
    rw [if_pos (show (k : Int) = 2 by omega)]
    clear hk2
    go_enter Try.func14, Try.ntmps14
    go_upto_region 1 with fail
    rw [← W1.out]
    obtain ⟨e0, e1, e2, e3, e4⟩ := HC1.out.cells
    simp only at e0 e1 e2 e3 e4
    go_wp2_with fail
    refine HP.out.mono ?_
    rintro e w2 ⟨v2, rfl, ho2, hg2⟩
    obtain ⟨d0, d1, d2, d3, d4⟩ := (HC1.out.grown hg2.grown HNE.out).cells
    have hz2 := hg2.grown.size
    have HP2 := Lib.hid (put_two_grow v2 _ x y w2 base (by omega) (by omega) (by have := HXL.out; omega) ho2 (by omega))
    have HG2 := Lib.hid hg2
    clear ho2 hg2 e0 e1 e2 e3 e4 HP
    go_wp2_with fail
    refine HP2.out.mono ?_
    rintro e w3 ⟨v3, rfl, ho3, hg3⟩
    have HO3 := Lib.hid ho3
    have HG3 := Lib.hid (grown_first HB1.out (grown_trans HG2.out hg3.grown))
    clear ho3 hg3
    go_wp2_with fail
    go_ret
    exact ⟨v3, rfl, by have := HO3.out; simpa only [List.append_assoc] using this, HG3.out⟩
  · have g1 : ((k : Int) == 2) = false := beq_eq_false_iff_ne.2 (by omega)
    rw [if_neg (show ¬ ((k : Nat) : Int) = 2 by omega)]
    clear hk2
    go_enter Try.func14, Try.ntmps14
    go_upto_region 1 with fail
    rw [← W1.out]
    obtain ⟨e0, e1, e2, e3, e4⟩ := HC1.out.cells
    simp only at e0 e1 e2 e3 e4
    go_wp2_with fail
    refine HP.out.mono ?_
    rintro e w2 ⟨v2, rfl, ho2, hg2⟩
    obtain ⟨d0, d1, d2, d3, d4⟩ := (HC1.out.grown hg2.grown HNE.out).cells
    have hz2 := hg2.grown.size
    have HP2 := Lib.hid (putText_g v2 _ d w2 base (by omega) (by have := HXL.out; omega) ho2 (by omega))
    have HG2 := Lib.hid hg2
    clear ho2 hg2 e0 e1 e2 e3 e4 HP
    go_wp2_with fail
    refine HP2.out.mono ?_
    rintro e w3 ⟨v3, rfl, ho3, hg3⟩
    have HO3 := Lib.hid ho3
    have HG3 := Lib.hid (grown_first HB1.out (grown_trans HG2.out hg3))
    clear ho3 hg3
    go_wp2_with fail
    go_ret
    exact ⟨v3, rfl, by have := HO3.out; simpa only [List.append_assoc] using this, HG3.out⟩
end Go.Proofs.Ytfbfelfioikieaa
