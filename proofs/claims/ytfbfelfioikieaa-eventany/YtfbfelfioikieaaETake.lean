/-
  Layer 12 (event): Take.
-/
import Derived.Test.YtfbfelfioikieaaERight
import Derived.Test.YtfbfelfioikieaaEGive
import Derived.Laws.ResultCell
namespace Go.Proofs.Ytfbfelfioikieaa
open Go.RowKit Go.Lib EM
set_option maxRecDepth 100000

theorem Rd.grown {w w' : World} {g : Nat} {l : List Nat} {bad : Bool} (h : Rd w g l bad) (hb : Below w.heap.size w w') : Rd w' g l bad := h.on hb h.lt
theorem EvAt.only {w w' : World} {g k : Nat} {e : Ev} (h : EvAt w k e) (hg : w.grownBy w' (some g)) (hne : k ≠ g) : EvAt w' k e := (hg.block k h.lt (by intro e; injection e with e; exact hne e)).trans h

theorem only_next {a b c : World} {g : Option Nat} (h : a.grownBy b g) (k : Below a.heap.size b c) : a.grownBy c g :=
  ⟨k.os.trans h.os, k.tape.trans h.tape, k.output.trans h.output, Nat.le_trans h.size k.size, fun i hi hne => (k.block i hi).trans (h.block i hi hne)⟩
theorem only_first {a b c : World} {g : Option Nat} (h : Below a.heap.size a b) (k : b.grownBy c g) : a.grownBy c g :=
  ⟨k.os.trans h.os, k.tape.trans h.tape, k.output.trans h.output, Nat.le_trans h.size k.size, fun i hi hne => (k.block i (Nat.lt_of_lt_of_le hi h.size) hne).trans (h.block i hi)⟩
/-- An event stored over another one. -/
def setE (w : World) (g : Nat) (t k : Int) (d : ByteArray) (x y : Int) : World := ((((w.setCell ⟨g, 0, none⟩ (.int .i64 t)).setCell ⟨g, 1, none⟩ (.int .i64 k)).setCell ⟨g, 2, none⟩ (.string d)).setCell ⟨g, 3, none⟩ (.int .i64 x)).setCell ⟨g, 4, none⟩ (.int .i64 y)
theorem setE_at {w : World} {g : Nat} {e : Ev} (h : EvAt w g e) (t k : Int) (d : ByteArray) (x y : Int) : EvAt (setE w g t k d x y) g ⟨t, k, d, x, y⟩ := ((((h.set0 t).set1 k).set2 d).set3 x).set4 y
theorem setE_below {w w0 : World} {g B : Nat} (h : Below B w0 w) (hg : B ≤ g) (t k : Int) (d : ByteArray) (x y : Int) : Below B w0 (setE w g t k d x y) := by
  unfold setE
  exact ((((h.setCell (p := ⟨g, 0, none⟩) hg _).setCell (p := ⟨g, 1, none⟩) hg _).setCell (p := ⟨g, 2, none⟩) hg _).setCell (p := ⟨g, 3, none⟩) hg _).setCell (p := ⟨g, 4, none⟩) hg _
theorem results_ev {fn : Func} {p u : Tmp} (h : fn.results = #[.cell p 25, .tmp u]) (tmps : Array Value) (w : World) (g : Nat) (e : Ev) (hp : tmps.getD p undef = .pointer (some ⟨g, 0, none⟩)) (hg : EvAt w g e) :
    (results fn tmps).run Try.prog w = .ok (.tuple #[evV e, tmps.getD u undef]) w := by
  rw [results_cell_tmp h, hp]
  have := run_loadVar_row (P := Try.prog) w g 25 25 _ (0, 0) _ hg Try.underlying25 rfl (by kernel_rfl)
  simp [asAddr, this, evV]

/-- What Take leaves. -/
def TakePost (w : World) (g : Nat) (r : Ev × List Nat × Bool) (x : Ending) (w' : World) : Prop :=
  if r.2.2 = false ∧ right r.1 = true then x = .returned (.tuple #[evV r.1, .bool true]) ∧ Rd w' g r.2.1 false ∧ w.grownBy w' (some g)
  else x = .returned (.tuple #[evV zero, .bool false]) ∧ w.grownBy w' (some g)

set_option maxHeartbeats 2000000 in
theorem take_ok (w : World) (g : Nat) (l : List Nat) (f : Nat) (hf : f < 4611686018427387904) (h : Rd w g l false) :
    Calls Try.prog 16 #[.pointer (some ⟨g, 0, none⟩), .int .i64 (f : Int)] w (TakePost w g (readE f l false)) := by
  have HR := Lib.hid h
  have hgz := h.lt
  clear h
  obtain ⟨M, hM⟩ : ∃ M, M = 4611686018427387904 - f := ⟨_, rfl⟩
  have hMI : (4611686018427387904 : Int) - (f : Int) = (M : Int) := by omega
  have hM0 : 0 < M := by omega
  have hMf : M + f = 4611686018427387904 := by omega
  have hlim : lim (M : Int) = M := by unfold lim; rw [if_neg (by omega), Int.toNat_natCast]
  have HLIM := Lib.hid hlim
  clear hlim
  generalize hr : readE f l false = r
  have hr2 := hr
  unfold readE at hr2
  simp only [← hM] at hr2
  have HRE := Lib.hid hr2
  clear hr hr2 hM
  obtain ⟨w0, hw0⟩ : ∃ w0, w0 = w.alloc (.cells #[.int .i64 0, .int .i64 0, .string ⟨#[]⟩, .int .i64 0, .int .i64 0] 25) := ⟨_, rfl⟩
  have hb0 : Below w.heap.size w w0 := by rw [hw0]; exact (Below.refl _ _).alloc (Nat.le_refl _) _
  have hz0 : w.heap.size ≤ w0.heap.size := hb0.size
  have hc0 : EvAt w0 w.heap.size zero := by rw [hw0]; exact EvAt.new w zero
  have hN1 := num_any w0 g l false 4 (by omega) (HR.out.grown hb0)
  rw [show lim 4 = 4 from rfl] at hN1
  obtain ⟨n1, hn1⟩ : ∃ n1, n1 = numOf l false 4 := ⟨_, rfl⟩
  have hre := HRE.out
  rw [← hn1] at hN1 hre
  have hn1b : n1.1 < 4 := by rw [hn1]; exact num_lt _ _ _ (by omega)
  obtain ⟨k, l1, b1⟩ := n1
  simp only at hre
  obtain ⟨n2, hn2⟩ : ∃ n2, n2 = numOf l1 b1 M := ⟨_, rfl⟩
  rw [← hn2] at hre
  have hn2b : n2.1 < M := by rw [hn2]; exact num_lt _ _ _ hM0
  have HE2 := Lib.hid hn2
  have HN1 := Lib.hid hN1
  have W0 := Lib.hid hw0
  have HB0 := Lib.hid hb0
  have HC0 := Lib.hid hc0
  have hk := fun w => build_evk w (k : Int)
  have hz := fun w => build_ev0 w
  obtain ⟨dt, l2, b2⟩ := n2
  simp only at hre hn2b hn1b
  have HRE := Lib.hid hre
  clear hw0 hb0 hc0 hn1 hN1 hn2 hre
  go_enter Try.func16, Try.ntmps16
  go_upto_region 1 with fail
  rw [← W0.out]
  go_wp2_with fail
  refine HN1.out.mono ?_
  rintro e w1 ⟨rfl, hr1, hg1⟩
  simp only at hr1 ⊢
  have hz1 := hg1.size
  have HR1 := Lib.hid hr1
  have HZ1 := Lib.hid (HC0.out.only hg1 (by omega))
  have HG1 := Lib.hid (only_first HB0.out hg1)
  clear hr1 hg1 HN1
  go_upto_region 2 with fail
  obtain ⟨w2, hw2⟩ : ∃ w2, w2 = w1.alloc (.cells #[.int .i64 0, .int .i64 (k : Int), .string ⟨#[]⟩, .int .i64 0, .int .i64 0] 25) := ⟨_, rfl⟩
  rw [← hw2]
  have hb2 : Below w1.heap.size w1 w2 := by rw [hw2]; exact (Below.refl _ _).alloc (Nat.le_refl _) _
  have hc2 : EvAt w2 w1.heap.size ⟨0, k, ⟨#[]⟩, 0, 0⟩ := by rw [hw2]; exact EvAt.new w1 ⟨0, k, ⟨#[]⟩, 0, 0⟩
  have HR2 := Lib.hid (HR1.out.grown hb2)
  have HZ2 := Lib.hid (HZ1.out.dead hb2)
  have HG2 := Lib.hid (only_next HG1.out (hb2.mono (by omega)))
  have HC2 := Lib.hid hc2
  have hz2 := hb2.size
  have HN2 := Lib.hid (num_any w2 g l1 b1 (M : Int) (by omega) HR2.out)
  rw [HLIM.out, ← HE2.out] at HN2
  have hg6 : w1.heap.size ≠ g := by omega
  have hg6' : w.heap.size ≤ w1.heap.size := by omega
  clear hw2 hb2 hc2
  go_wp2_with fail
  refine HN2.out.mono ?_
  rintro e w3 ⟨rfl, hr3, hg3⟩
  simp only at hr3 ⊢
  have hz3 := hg3.size
  have hc3 := HC2.out.only hg3 hg6
  have HR3 := Lib.hid hr3
  have HZ3 := Lib.hid (HZ2.out.only hg3 (by omega))
  have HG3 := Lib.hid (only_trans HG2.out (show w2.grownBy w3 (some g) from hg3))
  have HC3 := Lib.hid hc3
  obtain ⟨e0, e1, e2, e3, e4⟩ := hc3.cells
  have f0 := hc3.thaw 0
  simp only at e0 e1 e2 e3 e4
  clear hr3 hg3 hc3 HN2
  go_upto_region 3 with fail
  have hc4 := HC3.out.set0 ((f : Int) + (dt : Int))
  have hb4 : Below w1.heap.size w3 (w3.setCell ⟨w1.heap.size, 0, none⟩ (.int .i64 ((f : Int) + (dt : Int)))) := (Below.refl _ _).setCell (p := ⟨w1.heap.size, 0, none⟩) (Nat.le_refl _) _
  simp only at hc4
  clear e0 e1 e2 e3 e4 f0
  have hR4 := HR3.out.on hb4 (by omega)
  have hZ4 := HZ3.out.below hb4 (by have := HZ1.out.lt; omega)
  have hG4 := only_next HG3.out (hb4.mono hg6')
  have hz4 := hb4.size
  generalize w3.setCell ⟨w1.heap.size, 0, none⟩ (.int .i64 ((f : Int) + (dt : Int))) = w4 at *
  have HR4 := Lib.hid hR4
  have HZ4 := Lib.hid hZ4
  have HG4 := Lib.hid hG4
  have HC4 := Lib.hid hc4
  obtain ⟨e0, e1, e2, e3, e4⟩ := hc4.cells
  have f2 := hc4.thaw 2
  have f3 := hc4.thaw 3
  have f4 := hc4.thaw 4
  simp only at e0 e1 e2 e3 e4
  generalize hT : (f : Int) + (dt : Int) = T at *
  clear hR4 hZ4 hG4 hc4 hb4 hT
  go_upto_if 19 with fail
  go_cut [] from 7 to 41 (fun wc => EvAt wc w1.heap.size r.1 ∧ Rd wc g r.2.1 r.2.2 ∧ EvAt wc w.heap.size zero ∧ w.grownBy wc (some g) ∧ w1.heap.size < wc.heap.size)
  case first =>
    by_cases hk2 : k = 2
    · have g1 : ((k : Int) == 2) = true := beq_iff_eq.2 (by omega)
      have hre := HRE.out
      rw [if_pos hk2] at hre
      obtain ⟨n3, hn3⟩ : ∃ n3, n3 = numOf l2 b2 1001 := ⟨_, rfl⟩
      rw [← hn3] at hre
      have HN3 := Lib.hid (num_any w4 g l2 b2 1001 (by omega) HR4.out)
      rw [show lim 1001 = 1001 from rfl, ← hn3] at HN3
      clear hn3
      obtain ⟨a3, l3, b3⟩ := n3
      simp only at hre
      obtain ⟨n4, hn4⟩ : ∃ n4, n4 = numOf l3 b3 1001 := ⟨_, rfl⟩
      rw [← hn4] at hre
      have HE4 := Lib.hid hn4
      clear hn4
      obtain ⟨a4, l4, b4⟩ := n4
      simp only at hre
      have HRE2 := Lib.hid hre
      have HK2 := Lib.hid hk2
      clear hre hk2
      go_wp2_with fail
      refine HN3.out.mono ?_
      rintro e w5 ⟨rfl, hr5, hg5⟩
      simp only at hr5 ⊢
      have hz5 := hg5.size
      have hc5 := HC4.out.only hg5 hg6
      have HR5 := Lib.hid hr5
      have HZ5 := Lib.hid (HZ4.out.only hg5 (by omega))
      have HG5 := Lib.hid (only_trans HG4.out (show w4.grownBy w5 (some g) from hg5))
      have HC5 := Lib.hid hc5
      clear e0 e1 e2 e3 e4 f2 f3 f4
      obtain ⟨e0, e1, e2, e3, e4⟩ := hc5.cells
      have f3 := hc5.thaw 3
      simp only at e0 e1 e2 e3 e4
      clear hr5 hg5 hc5 HN3
      go_upto_region 5 with fail
      have hc6 := HC5.out.set3 (a3 : Int)
      have hb6 : Below w1.heap.size w5 (w5.setCell ⟨w1.heap.size, 3, none⟩ (.int .i64 (a3 : Int))) := (Below.refl _ _).setCell (p := ⟨w1.heap.size, 3, none⟩) (Nat.le_refl _) _
      simp only at hc6
      clear e0 e1 e2 e3 e4 f3
      have hR6 := HR5.out.on hb6 (by omega)
      have hZ6 := HZ5.out.below hb6 (by have := HZ1.out.lt; omega)
      have hG6 := only_next HG5.out (hb6.mono hg6')
      have hz6 := hb6.size
      generalize w5.setCell ⟨w1.heap.size, 3, none⟩ (.int .i64 (a3 : Int)) = w6 at *
      have HN4 := Lib.hid (num_any w6 g l3 b3 1001 (by omega) hR6)
      rw [show lim 1001 = 1001 from rfl, ← HE4.out] at HN4
      have HZ6 := Lib.hid hZ6
      have HG6 := Lib.hid hG6
      have HC6 := Lib.hid hc6
      clear hR6 hZ6 hG6 hc6 hb6
      go_wp2_with fail
      refine HN4.out.mono ?_
      rintro e w7 ⟨rfl, hr7, hg7⟩
      simp only at hr7 ⊢
      have hz7 := hg7.size
      have hc7 := HC6.out.only hg7 hg6
      have HR7 := Lib.hid hr7
      have HZ7 := Lib.hid (HZ6.out.only hg7 (by omega))
      have HG7 := Lib.hid (only_trans HG6.out (show w6.grownBy w7 (some g) from hg7))
      have HC7 := Lib.hid hc7
      obtain ⟨e0, e1, e2, e3, e4⟩ := hc7.cells
      have f4 := hc7.thaw 4
      simp only at e0 e1 e2 e3 e4
      clear hr7 hg7 hc7 HN4
      go_wp2_with fail
      go_meet
      case rel =>
        have hb8 : Below w1.heap.size w7 (w7.setCell ⟨w1.heap.size, 4, none⟩ (.int .i64 (a4 : Int))) := (Below.refl _ _).setCell (p := ⟨w1.heap.size, 4, none⟩) (Nat.le_refl _) _
        have hc8 := HC7.out.set4 (a4 : Int)
        have hre := HRE2.out
        have hk2 := HK2.out
        subst hk2
        rw [← hre]
        exact ⟨hc8, HR7.out.on hb8 (by omega), HZ7.out.below hb8 (by have := HZ1.out.lt; omega), only_next HG7.out (hb8.mono hg6'), hc8.lt⟩
    · have g1 : ((k : Int) == 2) = false := beq_eq_false_iff_ne.2 (by omega)
      have hre := HRE.out
      rw [if_neg hk2] at hre
      obtain ⟨n3, hn3⟩ : ∃ n3, n3 = textOf l2 b2 400 := ⟨_, rfl⟩
      rw [← hn3] at hre
      have HN3 := Lib.hid (text_any w4 g l2 b2 400 (by omega) HR4.out)
      rw [show (400 : Int).toNat = 400 from rfl, ← hn3] at HN3
      clear hn3 hk2
      obtain ⟨a3, l3, b3⟩ := n3
      simp only at hre
      have HRE2 := Lib.hid hre
      clear hre
      go_wp2_with fail
      refine HN3.out.mono ?_
      rintro e w7 ⟨rfl, hr7, hg7⟩
      simp only at hr7 ⊢
      have hz7 := hg7.size
      have hc7 := HC4.out.only hg7 hg6
      have HR7 := Lib.hid hr7
      have HZ7 := Lib.hid (HZ4.out.only hg7 (by omega))
      have HG7 := Lib.hid (only_trans HG4.out (show w4.grownBy w7 (some g) from hg7))
      have HC7 := Lib.hid hc7
      clear e0 e1 e2 e3 e4 f2 f3 f4
      obtain ⟨e0, e1, e2, e3, e4⟩ := hc7.cells
      have f2 := hc7.thaw 2
      simp only at e0 e1 e2 e3 e4
      clear hr7 hg7 hc7 HN3
      go_wp2_with fail
      go_meet
      case rel =>
        have hb8 : Below w1.heap.size w7 (w7.setCell ⟨w1.heap.size, 2, none⟩ (.string (str a3))) := (Below.refl _ _).setCell (p := ⟨w1.heap.size, 2, none⟩) (Nat.le_refl _) _
        have hc8 := HC7.out.set2 (str a3)
        have hre := HRE2.out
        rw [← hre]
        exact ⟨hc8, HR7.out.on hb8 (by omega), HZ7.out.below hb8 (by have := HZ1.out.lt; omega), only_next HG7.out (hb8.mono hg6'), hc8.lt⟩
  case rest =>
    obtain ⟨hcx, hrx, hzx, hgx, hlx⟩ := hcut
    obtain ⟨v, hv⟩ : ∃ v, v = wc := ⟨_, rfl⟩
    rw [← hv] at hcx hrx hzx hgx hlx ⊢
    clear hv wc e0 e1 e2 e3 e4 f2 f3 f4
    have HCX := Lib.hid hcx
    have HRX := Lib.hid hrx
    have HZX := Lib.hid hzx
    have HGX := Lib.hid hgx
    clear hcx hrx hzx hgx HRE HC4 HZ4 HR4 HG4 HC3 HR3 HZ3 HG3
    obtain ⟨⟨t, kk, d, x, y⟩, l', b'⟩ := r
    simp only at HCX HRX
    have HGD := Lib.hid (good_any v g l' b' HRX.out)
    cases b' with
    | true =>
      have HGV := Lib.hid (give_ok v g l' true HRX.out)
      go_wp2_with fail
      refine HGD.out.mono ?_
      rintro e v1 ⟨rfl, hv1⟩
      rw [← hv1]
      clear hv1 v1
      go_wp2_with fail
      refine HGV.out.mono ?_
      rintro e v2 ⟨rfl, hg2⟩
      have hzz := HZX.out.only hg2 (by omega)
      have HZ2' := Lib.hid hzz
      have HGG := Lib.hid (only_trans HGX.out (show v.grownBy v2 (some g) from hg2))
      have hs2 := hg2.size
      obtain ⟨c0, c1, c2, c3, c4⟩ := hzz.cells
      have q0 := hzz.thaw 0; have q1 := hzz.thaw 1; have q2 := hzz.thaw 2; have q3 := hzz.thaw 3; have q4 := hzz.thaw 4
      clear hzz hg2
      go_wp2_with fail
      refine bodyPost_ret (results_ev rfl _ _ w.heap.size _ rfl (setE_at HZ2'.out 0 0 ⟨#[]⟩ 0 0)) rfl ?_
      unfold TakePost
      rw [if_neg (by simp)]
      exact ⟨rfl, only_next HGG.out (setE_below (Below.refl _ _) (Nat.le_refl _) 0 0 ⟨#[]⟩ 0 0)⟩
    | false =>
      have HRT := Lib.hid (fun v => right_ok v ⟨t, kk, d, x, y⟩)
      simp only [evV] at HRT
      generalize hrt : right ⟨t, kk, d, x, y⟩ = rt at HRT
      have HRQ := Lib.hid hrt
      clear hrt
      obtain ⟨e0, e1, e2, e3, e4⟩ := HCX.out.cells
      simp only at e0 e1 e2 e3 e4
      go_wp2_with fail
      refine HGD.out.mono ?_
      rintro e v1 ⟨rfl, hv1⟩
      rw [← hv1]
      clear hv1 v1
      cases rt with
      | false =>
        go_wp2_with fail
        refine (HRT.out v).mono ?_
        rintro e v1 ⟨rfl, hb1⟩
        have HRX1 := HRX.out.grown hb1
        have HZX1 := Lib.hid (HZX.out.dead hb1)
        have HGX1 := Lib.hid (only_next HGX.out (hb1.mono (by have := HZX.out.lt; omega)))
        have HGV := Lib.hid (give_ok v1 g l' false HRX1)
        clear HRX1 hb1 e0 e1 e2 e3 e4
        go_wp2_with fail
        refine HGV.out.mono ?_
        rintro e v2 ⟨rfl, hg2⟩
        have hzz := HZX1.out.only hg2 (by omega)
        have HZ2' := Lib.hid hzz
        have HGG := Lib.hid (only_trans HGX1.out (show v1.grownBy v2 (some g) from hg2))
        have hs2 := hg2.size
        obtain ⟨c0, c1, c2, c3, c4⟩ := hzz.cells
        have q0 := hzz.thaw 0; have q1 := hzz.thaw 1; have q2 := hzz.thaw 2; have q3 := hzz.thaw 3; have q4 := hzz.thaw 4
        clear hzz hg2
        go_wp2_with fail
        refine bodyPost_ret (results_ev rfl _ _ w.heap.size _ rfl (setE_at HZ2'.out 0 0 ⟨#[]⟩ 0 0)) rfl ?_
        unfold TakePost
        rw [if_neg (by simp only [HRQ.out]; simp)]
        exact ⟨rfl, only_next HGG.out (setE_below (Below.refl _ _) (Nat.le_refl _) 0 0 ⟨#[]⟩ 0 0)⟩
      | true =>
        go_wp2_with fail
        refine (HRT.out v).mono ?_
        rintro e v1 ⟨rfl, hb1⟩
        have HRX1 := Lib.hid (HRX.out.grown hb1)
        have hzz := HZX.out.dead hb1
        have HZX1 := Lib.hid hzz
        have HGX1 := Lib.hid (only_next HGX.out (hb1.mono (by have := HZX.out.lt; omega)))
        obtain ⟨d0, d1, d2, d3, d4⟩ := (HCX.out.dead hb1).cells
        simp only at d0 d1 d2 d3 d4
        obtain ⟨c0, c1, c2, c3, c4⟩ := hzz.cells
        have q0 := hzz.thaw 0; have q1 := hzz.thaw 1; have q2 := hzz.thaw 2; have q3 := hzz.thaw 3; have q4 := hzz.thaw 4
        clear hb1 e0 e1 e2 e3 e4 hzz
        go_wp2_with fail
        refine bodyPost_ret (results_ev rfl _ _ w.heap.size _ rfl (setE_at HZX1.out t kk d x y)) rfl ?_
        unfold TakePost
        rw [if_pos ⟨rfl, HRQ.out⟩]
        have hbe := setE_below (Below.refl w.heap.size v1) (Nat.le_refl _) t kk d x y
        exact ⟨rfl, HRX1.out.on hbe hgz, only_next HGX1.out hbe⟩
end Go.Proofs.Ytfbfelfioikieaa
