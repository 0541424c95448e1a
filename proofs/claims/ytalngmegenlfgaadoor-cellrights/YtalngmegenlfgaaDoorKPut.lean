/-
  Layer 8 (cell): PutStyle, TakeStyle.
-/
import Derived.Test.YtalngmegenlfgaaDoorKNum
import Derived.Laws.ResultCell
namespace Go.Proofs.YtalngmegenlfgaaDoor
open Go.RowKit Go.Lib KM

theorem row_new2 (w : World) (k : IntKind) (x y : Nat) (t : TypeId) : Row (w.alloc (.cells #[.int k (x : Int), .int k (y : Int)] t)) (w.heap.size + 1) k (some ⟨w.heap.size, 0, none⟩) [x, y] := fun _ => by
  refine ⟨w.heap.size, 0, rfl, by omega, fun j hj => ?_⟩
  rcases (by simp at hj; omega : j = 0 ∨ j = 1) with rfl | rfl <;> simp
/-- Put(v, x), x laid in a new block, v a row of the call's own that is older. -/
theorem put_one_grow (v : Value) (xs : List Nat) (x : Nat) (w : World) (base : Nat) (h1 : x < 18446744073709551616) (hx : xs.length ≤ 100000000) (hown : Own w base v xs) (hbase : base ≤ w.heap.size) :
    Calls Tryd.prog 35 #[v, .slice (some ⟨w.heap.size, 0, none⟩) 1 1] (w.alloc (.cells #[.int .u64 (x : Int)] 58)) fun e w' => ∃ v', e = .returned v' ∧ Own w' base v' (xs ++ VM.enc x) ∧ Grow w w' v v' := by
  refine (put_grow v xs _ 1 [x] _ base (w.heap.size + 1) (by simp; omega) (by simp) hx (row_new w .u64 x _) (by simp) (fun _ ad ha e => ?_) (hown.alloc _) (by simp; omega)).mono ?_
  · injection ha with ha
    subst ha
    exact Nat.lt_irrefl _ (World.ownsRow.lt hown _ e.symm).2
  · rintro e w1 ⟨v', rfl, ho, hg⟩
    rw [VM.encs_one] at ho
    exact ⟨v', rfl, ho, grow_alloc _ hg⟩
theorem put_two_grow (v : Value) (xs : List Nat) (x y : Nat) (w : World) (base : Nat) (h1 : x < 18446744073709551616) (h2 : y < 18446744073709551616) (hx : xs.length ≤ 100000000) (hown : Own w base v xs) (hbase : base ≤ w.heap.size) :
    Calls Tryd.prog 35 #[v, .slice (some ⟨w.heap.size, 0, none⟩) 2 2] (w.alloc (.cells #[.int .u64 (x : Int), .int .u64 (y : Int)] 58)) fun e w' => ∃ v', e = .returned v' ∧ Own w' base v' (xs ++ (VM.enc x ++ VM.enc y)) ∧ Grow w w' v v' := by
  refine (put_grow v xs _ 2 [x, y] _ base (w.heap.size + 1) (by simp; omega) (by simp) hx (row_new2 w .u64 x y _) (by simp) (fun _ ad ha e => ?_) (hown.alloc _) (by simp; omega)).mono ?_
  · injection ha with ha
    subst ha
    exact Nat.lt_irrefl _ (World.ownsRow.lt hown _ e.symm).2
  · rintro e w1 ⟨v', rfl, ho, hg⟩
    have : VM.encs [x, y] = VM.enc x ++ VM.enc y := by simp [VM.encs]
    rw [this] at ho
    exact ⟨v', rfl, ho, grow_alloc _ hg⟩

set_option maxRecDepth 100000 in
theorem putStyle_ok (v : Value) (xs : List Nat) (s : Sty) (w : World) (base : Nat) (hs : sright s = true) (hx : xs.length ≤ 100000000) (hown : Own w base v xs) (hbase : base ≤ w.heap.size) :
    Calls Tryd.prog 19 #[v, styV s] w fun e w' => ∃ v', e = .returned v' ∧ Own w' base v' (xs ++ VM.enc (snum s)) ∧ Grow w w' v v' := by
  have hlt := snum_lt s hs
  have HN := Lib.hid (fun w => number_ok w s hs)
  have HO := Lib.hid hown
  clear hown
  obtain ⟨b, u, t, f, k⟩ := s
  simp only [styV] at HN ⊢
  generalize snum ⟨b, u, t, f, k⟩ = n at *
  go_enter Tryd.func19, Tryd.ntmps19
  go_wp2_with fail
  refine (HN.out _).mono ?_
  rintro e w1 ⟨rfl, hb1⟩
  have hb : Below w.heap.size w w1 := below_next ((Below.refl _ _).alloc (Nat.le_refl _) _) hb1
  have hz := hb.size
  have HB := Lib.hid hb
  clear hb hb1
  go_wp2_with fail
  refine (put_one_grow v xs n w1 base (by omega) hx (HO.out.below HB.out) (by omega)).mono ?_
  rintro e w2 ⟨v', rfl, ho, hg⟩
  have HO2 := Lib.hid ho
  have HG2 := Lib.hid hg
  clear ho hg
  go_wp2
  go_ret
  exact ⟨v', rfl, HO2.out, Grow.of_below HB.out HG2.out⟩

theorem Rd.on {w w' : World} {g B : Nat} {l : List Nat} {bad : Bool} (h : Rd w g l bad) (hb : Below B w w') (hg : g < B) : Rd w' g l bad := by
  obtain ⟨A, c, h1, h2, h3, h4, h5⟩ := h
  exact ⟨A, c, (hb.block g hg).trans h1, h2, h3, h4.below (hb.mono (by omega)), h5⟩
theorem only_next {a b c : World} {g : Option Nat} (h : a.grownBy b g) (k : Below a.heap.size b c) : a.grownBy c g :=
  ⟨k.os.trans h.os, k.tape.trans h.tape, k.output.trans h.output, Nat.le_trans h.size k.size, fun i hi hne => (k.block i hi).trans (h.block i hi hne)⟩
theorem only_first {a b c : World} {g : Option Nat} (h : Below a.heap.size a b) (k : b.grownBy c g) : a.grownBy c g :=
  ⟨k.os.trans h.os, k.tape.trans h.tape, k.output.trans h.output, Nat.le_trans h.size k.size, fun i hi hne => (k.block i (Nat.lt_of_lt_of_le hi h.size) hne).trans (h.block i hi)⟩

/-- What a style that is asked for leaves: the style (none: there is none), the bytes that are left, was something missing? -/
def takeS (l : List Nat) (bad : Bool) : Option Sty × List Nat × Bool :=
  (if (numOf l bad 2048).2.2 = false ∧ sright (styOf (numOf l bad 2048).1) = true then some (styOf (numOf l bad 2048).1) else none, (numOf l bad 2048).2.1, (numOf l bad 2048).2.2)
def TakeSPost (w : World) (g : Nat) (r : Option Sty × List Nat × Bool) (e : Ending) (w' : World) : Prop :=
  e = .returned (.tuple #[styV (r.1.getD zero), .bool r.1.isSome]) ∧ Rd w' g r.2.1 r.2.2 ∧ w.grownBy w' (some g)
theorem numOf_lt (l : List Nat) (bad : Bool) (L : Nat) (h : 0 < L) : (numOf l bad L).1 < L := by
  unfold numOf
  split
  · exact h
  · rename_i hn; simp only; omega

theorem results_style {fn : Func} {p u : Tmp} (h : fn.results = #[.cell p 23, .tmp u]) (tmps : Array Value) (w : World) (g : Nat) (s : Sty) (hp : tmps.getD p undef = .pointer (some ⟨g, 0, none⟩)) (hg : StyAt w g s) :
    (results fn tmps).run Tryd.prog w = .ok (.tuple #[styV s, tmps.getD u undef]) w := by
  rw [results_cell_tmp h, hp]
  have := run_loadVar_row (P := Tryd.prog) w g 23 23 _ (0, 0) _ hg Tryd.underlying23 rfl (by kernel_rfl)
  simp [asAddr, this, styV]

set_option maxRecDepth 100000 in
set_option maxHeartbeats 1000000 in
theorem takeStyle_ok (w : World) (g : Nat) (l : List Nat) (bad : Bool) (h : Rd w g l bad) :
    Calls Tryd.prog 20 #[.pointer (some ⟨g, 0, none⟩)] w (TakeSPost w g (takeS l bad)) := by
  have hgl := h.lt
  have hz := fun w => build_zero w
  have HN := Lib.hid (fun (v : World) (hv : Rd v g l bad) => num_any v g l bad 2048 (by omega) hv)
  rw [show lim 2048 = 2048 from rfl] at HN
  have hlt := numOf_lt l bad 2048 (by omega)
  have HR := Lib.hid h
  clear h
  unfold takeS
  generalize numOf l bad 2048 = r at *
  obtain ⟨n, l', bad'⟩ := r
  simp only at hlt ⊢
  have HS := Lib.hid (fun v => styleOf_ok v n hlt)
  have HRI := Lib.hid (fun v => style_ok v (styOf n))
  generalize styOf n = q at *
  generalize hx : (if bad' = false ∧ sright q = true then some q else none) = x
  have HX := Lib.hid hx
  clear hx
  obtain ⟨b, u, t, f, k⟩ := q
  simp only [styV] at HS HRI
  obtain ⟨w0, hw0⟩ : ∃ w0, w0 = w.alloc (.cells #[.bool false, .bool false, .bool false, .int .i64 0, .int .i64 0] 23) := ⟨_, rfl⟩
  have hb0 : Below w.heap.size w w0 := by rw [hw0]; exact (Below.refl _ _).alloc (Nat.le_refl _) _
  have hs0 : StyAt w0 w.heap.size zero := by rw [hw0]; exact heap_alloc_new w _
  have W0 := Lib.hid hw0
  have HB0 := Lib.hid hb0
  have HS0 := Lib.hid hs0
  have hz0 := hb0.size
  clear hw0 hb0 hs0
  go_enter Tryd.func20, Tryd.ntmps20
  go_wp2_with fail
  rw [← W0.out]
  refine (HN.out w0 (HR.out.on HB0.out hgl)).mono ?_
  rintro e w1 ⟨rfl, hr1, hg1⟩
  have HR1 := Lib.hid hr1
  have HG1 := Lib.hid hg1
  have hz1 := hg1.size
  have hs1 : StyAt w1 w.heap.size zero := (hg1.block w.heap.size HS0.out.lt (by simp; omega)).trans HS0.out
  have HS1 := Lib.hid hs1
  clear hr1 hg1 hs1
  go_wp2_with fail
  refine (HS.out _).mono ?_
  rintro e w2 ⟨rfl, hb2⟩
  have HB2 := Lib.hid hb2
  have hz2 := hb2.size
  have HR2 := Lib.hid (HR1.out.on hb2 HR1.out.lt)
  have HS2 := Lib.hid (HS1.out.below hb2 HS1.out.lt)
  clear hb2
  go_upto_region 2 with fail
  obtain ⟨w3, hw3⟩ : ∃ w3, w3 = w2.alloc (.cells #[.bool b, .bool u, .bool t, .int .i64 f, .int .i64 k] 23) := ⟨_, rfl⟩
  rw [← hw3]
  have hb3 : Below w2.heap.size w2 w3 := by rw [hw3]; exact (Below.refl _ _).alloc (Nat.le_refl _) _
  have hs3 : StyAt w3 w2.heap.size ⟨b, u, t, f, k⟩ := by rw [hw3]; exact heap_alloc_new w2 _
  have HS3 := Lib.hid hs3
  obtain ⟨d0, d1, d2, d3, d4, _, _, _, _, _⟩ := hs3.cells
  simp only at d0 d1 d2 d3 d4
  have HR3 := Lib.hid (HR2.out.on hb3 HR2.out.lt)
  have hst3 := HS2.out.below hb3 HS2.out.lt
  have HST3 := Lib.hid hst3
  have hz3 := hb3.size
  have HG3 := Lib.hid (show w.grownBy w3 (some g) from only_next (only_next (only_first HB0.out HG1.out) (HB2.out.mono (by omega))) (hb3.mono (by omega)))
  clear hw3 hb3 hs3 hst3
  rcases bad' with _ | _
  · rcases hq : sright ⟨b, u, t, f, k⟩ with _ | _
    · obtain rfl : x = none := by rw [← HX.out, hq]; simp
      have HQ := Lib.hid hq
      clear hq
      go_wp2_with fail
      refine (good_any w3 g l' false HR3.out).mono ?_
      rintro e w4 ⟨rfl, hw4⟩
      rw [← hw4]
      clear hw4 w4
      go_wp2_with fail
      refine (HRI.out w3).mono ?_
      rw [HQ.out]
      rintro e w4 ⟨rfl, hb4⟩
      have HB4 := Lib.hid hb4
      have hst4 := HST3.out.below hb4 HST3.out.lt
      obtain ⟨_, _, _, _, _, k0, k1, k2, k3, k4⟩ := hst4.cells
      have HST4 := Lib.hid hst4
      have HR4 := Lib.hid (HR3.out.on hb4 HR3.out.lt)
      have hz4 := hb4.size
      clear hb4 hst4
      go_wp2_with fail
      refine bodyPost_ret (results_style rfl _ _ w.heap.size zero rfl (setS_at HST4.out false false false 0 0)) rfl ⟨rfl, HR4.out.on (setS_below (Below.refl w.heap.size w4) (Nat.le_refl _) false false false 0 0) hgl, only_next (only_next HG3.out (HB4.out.mono (by omega))) (setS_below (Below.refl w.heap.size w4) (Nat.le_refl _) false false false 0 0)⟩
    · obtain rfl : x = some ⟨b, u, t, f, k⟩ := by rw [← HX.out, hq]; simp
      have HQ := Lib.hid hq
      clear hq
      go_wp2_with fail
      refine (good_any w3 g l' false HR3.out).mono ?_
      rintro e w4 ⟨rfl, hw4⟩
      rw [← hw4]
      clear hw4 w4
      go_wp2_with fail
      refine (HRI.out w3).mono ?_
      rw [HQ.out]
      rintro e w4 ⟨rfl, hb4⟩
      have HB4 := Lib.hid hb4
      have hst4 := HST3.out.below hb4 HST3.out.lt
      obtain ⟨_, _, _, _, _, k0, k1, k2, k3, k4⟩ := hst4.cells
      obtain ⟨c0, c1, c2, c3, c4, _, _, _, _, _⟩ := (HS3.out.below hb4 HS3.out.lt).cells
      simp only at c0 c1 c2 c3 c4
      have HST4 := Lib.hid hst4
      have HR4 := Lib.hid (HR3.out.on hb4 HR3.out.lt)
      have hz4 := hb4.size
      clear hb4 hst4
      go_wp2_with fail
      refine bodyPost_ret (results_style rfl _ _ w.heap.size _ rfl (setS_at HST4.out b u t f k)) rfl ⟨rfl, HR4.out.on (setS_below (Below.refl w.heap.size w4) (Nat.le_refl _) b u t f k) hgl, only_next (only_next HG3.out (HB4.out.mono (by omega))) (setS_below (Below.refl w.heap.size w4) (Nat.le_refl _) b u t f k)⟩
  · obtain rfl : x = none := by rw [← HX.out]; simp
    obtain ⟨_, _, _, _, _, k0, k1, k2, k3, k4⟩ := HST3.out.cells
    go_wp2_with fail
    refine (good_any w3 g l' true HR3.out).mono ?_
    rintro e w4 ⟨rfl, hw4⟩
    rw [← hw4]
    clear hw4 w4
    go_wp2_with fail
    refine bodyPost_ret (results_style rfl _ _ w.heap.size zero rfl (setS_at HST3.out false false false 0 0)) rfl ⟨rfl, HR3.out.on (setS_below (Below.refl w.heap.size w3) (Nat.le_refl _) false false false 0 0) hgl, only_next HG3.out (setS_below (Below.refl w.heap.size w3) (Nat.le_refl _) false false false 0 0)⟩
end Go.Proofs.YtalngmegenlfgaaDoor
