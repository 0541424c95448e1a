/-
  Layer 9's laws: within, tame, kind; a Deed as a value.
-/
import Derived.Test.YtbpkklcegiiheaaDoorDStep
import Derived.Test.YtbpkklcegiiheaaDoorDClear
import Derived.Lib.MinMax
namespace Go.Proofs.YtbpkklcegiiheaaDoor
open Go.RowKit Go.Lib KM

set_option maxRecDepth 100000 in
theorem within_ok (w : World) (n a b : Int) : Calls Tryd.prog 18 #[.int .i64 n, .int .i64 a, .int .i64 b] w fun e w' => e = .returned (.int .i64 (min (max n a) b)) ∧ w' = w := by
  go_enter Tryd.func18, Tryd.ntmps18
  go_wp2
  go_ret
  exact ⟨rfl, rfl⟩

theorem stame_eq (s : Sty) : stame s = if sright s = true then s else KM.zero := rfl
theorem setSty_at {w : World} {b : Nat} {s : Sty} (h : StyIn w b s) (s' : Sty) : StyIn (((((w.setCell ⟨b, 0, none⟩ (.bool s'.bold)).setCell ⟨b, 1, none⟩ (.bool s'.under)).setCell ⟨b, 2, none⟩ (.bool s'.turned)).setCell ⟨b, 3, none⟩ (.int .i64 s'.fore)).setCell ⟨b, 4, none⟩ (.int .i64 s'.back)) b s' := by
  unfold StyIn at h ⊢
  simp [World.setCell, Array.getElem?_modify, h]
theorem setSty_fr {S : Nat → Prop} (w : World) (b : Nat) (s' : Sty) (h : S b) : Fr S w (((((w.setCell ⟨b, 0, none⟩ (.bool s'.bold)).setCell ⟨b, 1, none⟩ (.bool s'.under)).setCell ⟨b, 2, none⟩ (.bool s'.turned)).setCell ⟨b, 3, none⟩ (.int .i64 s'.fore)).setCell ⟨b, 4, none⟩ (.int .i64 s'.back)) :=
  ((((Fr.setCell (a := ⟨b, 0, none⟩) _ h).trans' (Fr.setCell (a := ⟨b, 1, none⟩) _ h)).trans' (Fr.setCell (a := ⟨b, 2, none⟩) _ h)).trans' (Fr.setCell (a := ⟨b, 3, none⟩) _ h)).trans' (Fr.setCell (a := ⟨b, 4, none⟩) _ h)

set_option maxRecDepth 100000 in
set_option maxHeartbeats 1000000 in
theorem ltame_ok (w : World) (s : Sty) : Calls Tryd.prog 34 #[styV s] w fun e w' => e = .returned (styV (stame s)) ∧ Below w.heap.size w w' := by
  obtain ⟨w1, hw1⟩ : ∃ w1, w1 = w.alloc (.cells #[.bool s.bold, .bool s.under, .bool s.turned, .int .i64 s.fore, .int .i64 s.back] 35) := ⟨_, rfl⟩
  obtain ⟨w2, hw2⟩ : ∃ w2, w2 = w1.alloc (.cells #[.bool false, .bool false, .bool false, .int .i64 0, .int .i64 0] 35) := ⟨_, rfl⟩
  have hb1 : Below w.heap.size w w1 := by rw [hw1]; exact (Below.refl _ _).alloc (Nat.le_refl _) _
  have hz1 : w1.heap.size = w.heap.size + 1 := by rw [hw1]; simp
  have hb12 : Below w1.heap.size w1 w2 := by rw [hw2]; exact (Below.refl _ _).alloc (Nat.le_refl _) _
  have hz2 : w2.heap.size = w.heap.size + 2 := by rw [hw2, World.size_alloc, hz1]
  have hs2 : StyIn w2 w.heap.size s := (show StyIn w1 w.heap.size s by rw [hw1]; exact StyIn.fresh w s).below hb12
  have hr2 : StyIn w2 (w.heap.size + 1) KM.zero := by rw [hw2, ← hz1]; exact StyIn.fresh w1 KM.zero
  have HB2 := Lib.hid (below_next hb1 hb12)
  have HS2 := Lib.hid hs2
  have HR2 := Lib.hid hr2
  have W1 := Lib.hid hw1
  have W2 := Lib.hid hw2
  have HST := Lib.hid (fun v => style_ok v s)
  have hbz := fun w => build_zstyle w
  obtain ⟨k0, k1, k2, k3, k4⟩ := hs2.cells
  unfold stame
  clear hw1 hw2 hb1 hb12 hs2 hr2
  obtain ⟨sb, su, st, sf, sk⟩ := s
  simp only [styV] at *
  rcases hsr : sright ⟨sb, su, st, sf, sk⟩ with _ | _
  · rw [hsr] at HST
    simp only [Bool.false_eq_true, if_false, KM.zero]
    clear hsr
    go_enter Tryd.func34, Tryd.ntmps34
    go_wp2_with fail
    rw [← W1.out, ← W2.out]
    refine (HST.out w2).mono ?_
    rintro e w3 ⟨rfl, hb3⟩
    have hr3 := HR2.out.below hb3
    obtain ⟨q0, q1, q2, q3, q4⟩ := hr3.cells
    have hfz : ∀ j, w3.frozen? ⟨w.heap.size + 1, j, none⟩ = false := fun j => by
      unfold StyIn at hr3
      simp [World.frozen?, hr3]
    have f0 := hfz 0; have f1 := hfz 1; have f2 := hfz 2; have f3 := hfz 3; have f4 := hfz 4
    obtain ⟨p0, p1, p2, p3, p4⟩ := (HS2.out.below hb3).cells
    simp only [KM.zero] at q0 q1 q2 q3 q4
    simp only at p0 p1 p2 p3 p4
    have HFIN := Lib.hid (fun s' : Sty => (⟨setSty_at hr3 s', (below_next HB2.out hb3).trans ((setSty_fr (S := fun j => w.heap.size ≤ j) w3 (w.heap.size + 1) s' (show w.heap.size ≤ w.heap.size + 1 by omega)).below (by have := hb3.size; omega) (fun j hj => hj))⟩ : _ ∧ Below w.heap.size w _))
    clear hr3 hfz hb3 HR2 HS2 HB2
    go_wp2_with fail
    obtain ⟨s1, s2⟩ := HFIN.out ⟨false, false, false, 0, 0⟩
    obtain ⟨j0, j1, j2, j3, j4⟩ := s1.cells
    simp only at s2 j0 j1 j2 j3 j4
    refine bodyPost_ret (v := .agg #[.bool false, .bool false, .bool false, .int .i64 0, .int .i64 0]) ?_ rfl ⟨rfl, s2⟩
    simp [results, Tryd.results34, go_sem, j0, j1, j2, j3, j4]
  · rw [hsr] at HST
    simp only [if_true]
    clear hsr
    go_enter Tryd.func34, Tryd.ntmps34
    go_wp2_with fail
    rw [← W1.out, ← W2.out]
    refine (HST.out w2).mono ?_
    rintro e w3 ⟨rfl, hb3⟩
    have hr3 := HR2.out.below hb3
    obtain ⟨q0, q1, q2, q3, q4⟩ := hr3.cells
    have hfz : ∀ j, w3.frozen? ⟨w.heap.size + 1, j, none⟩ = false := fun j => by
      unfold StyIn at hr3
      simp [World.frozen?, hr3]
    have f0 := hfz 0; have f1 := hfz 1; have f2 := hfz 2; have f3 := hfz 3; have f4 := hfz 4
    obtain ⟨p0, p1, p2, p3, p4⟩ := (HS2.out.below hb3).cells
    simp only [KM.zero] at q0 q1 q2 q3 q4
    simp only at p0 p1 p2 p3 p4
    have HFIN := Lib.hid (fun s' : Sty => (⟨setSty_at hr3 s', (below_next HB2.out hb3).trans ((setSty_fr (S := fun j => w.heap.size ≤ j) w3 (w.heap.size + 1) s' (show w.heap.size ≤ w.heap.size + 1 by omega)).below (by have := hb3.size; omega) (fun j hj => hj))⟩ : _ ∧ Below w.heap.size w _))
    clear hr3 hfz hb3 HR2 HS2 HB2
    go_wp2_with fail
    obtain ⟨s1, s2⟩ := HFIN.out ⟨sb, su, st, sf, sk⟩
    obtain ⟨j0, j1, j2, j3, j4⟩ := s1.cells
    simp only at s2 j0 j1 j2 j3 j4
    refine bodyPost_ret (v := .agg #[.bool sb, .bool su, .bool st, .int .i64 sf, .int .i64 sk]) ?_ rfl ⟨rfl, s2⟩
    simp [results, Tryd.results34, go_sem, j0, j1, j2, j3, j4]

set_option maxRecDepth 100000 in
theorem and16 (n : Int) : bits .and .i64 n 65535 = n % 65536 := by
  have h127 : (BitVec.ofInt 64 65535).toNat = 2 ^ 16 - 1 := by decide
  have key : (BitVec.ofInt 64 n &&& BitVec.ofInt 64 65535).toNat = (n % ((2 ^ 64 : Nat) : Int)).toNat % 2 ^ 16 := by
    rw [BitVec.toNat_and, BitVec.toNat_ofInt, h127, Nat.and_two_pow_sub_one_eq_mod]
  show IntKind.i64.wrap ((BitVec.ofInt 64 n &&& BitVec.ofInt 64 65535).toNat : Nat) = n % 65536
  rw [key, IntKind.wrap_i64]
  omega
/-- A Deed as a value; its cells. -/
def deV (d : De) : Value := .agg #[.int .i64 d.kind, .int .i64 d.a, .int .i64 d.b, .int .i64 d.c, .int .i32 d.cel.rune, .bool d.cel.sty.bold, .bool d.cel.sty.under, .bool d.cel.sty.turned, .int .i64 d.cel.sty.fore, .int .i64 d.cel.sty.back]
def deL (d : De) : List Value := [.int .i64 d.kind, .int .i64 d.a, .int .i64 d.b, .int .i64 d.c, .int .i32 d.cel.rune, .bool d.cel.sty.bold, .bool d.cel.sty.under, .bool d.cel.sty.turned, .int .i64 d.cel.sty.fore, .int .i64 d.cel.sty.back]
set_option maxRecDepth 100000 in
theorem kind_ok (w : World) (d : De) : Calls Tryd.prog 35 #[deV d] w fun e w' => e = .returned (.int .i64 (d.k : Int)) ∧ Below w.heap.size w w' := by
  have hk : (d.k : Int) = d.kind % 65536 % 7 := by unfold De.k; omega
  rw [hk]
  clear hk
  obtain ⟨q, a, b, c, ⟨r, ⟨sb, su, st, sf, sk⟩⟩⟩ := d
  have h16 := and16 q
  have hm : Int.tmod (q % 65536) 7 = q % 65536 % 7 := by rw [Int.tmod_eq_emod_of_nonneg (by omega)]
  simp only [deV]
  go_enter Tryd.func35, Tryd.ntmps35
  go_wp2
  go_ret
  exact ⟨rfl, (Below.refl _ _).alloc (Nat.le_refl _) _⟩
end Go.Proofs.YtbpkklcegiiheaaDoor
