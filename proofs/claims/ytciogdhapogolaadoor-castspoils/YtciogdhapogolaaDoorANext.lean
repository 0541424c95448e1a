/-
  Layer 17 (cast): size and nextEvent, as they landed.
-/
import Derived.Test.YtciogdhapogolaaDoorARdr
import Derived.Test.YtciogdhapogolaaDoorERight
import Derived.Laws.Rows
import Derived.Deep.Cut
set_option linter.unusedVariables false
namespace Go.Proofs.YtciogdhapogolaaDoor
open Go.RowKit Go.Lib EM
set_option maxRecDepth 100000

/-- A reader behind the entry of the call that made it; what the entry's world holds. -/
structure Rn (W0 w : World) (g : Nat) (s : AM.St) : Prop where
  fms : Fms W0
  num : Num W0
  utf : Utf W0
  bel : Below W0.heap.size W0 w
  g0 : W0.heap.size ≤ g
  rd : RdS w g s
section
variable {W0 w w' : World} {g : Nat} {s s' : AM.St}
theorem Rn.step (h : Rn W0 w g s) (hg : w.grownBy w' (some g)) (hr : RdS w' g s') : Rn W0 w' g s' :=
  ⟨h.fms, h.num, h.utf, h.bel.trans (only_below hg h.g0 h.bel.size), h.g0, hr⟩
theorem Rn.on (h : Rn W0 w g s) {B : Nat} (hb : Below B w w') (hB : g < B) : Rn W0 w' g s :=
  ⟨h.fms, h.num, h.utf, h.bel.trans (hb.mono (Nat.le_trans h.g0 (Nat.le_of_lt hB))), h.g0, (hb.block g hB).trans h.rd⟩
theorem Rn.next (h : Rn W0 w g s) (hb : Below w.heap.size w w') : Rn W0 w' g s := h.on hb h.rd.lt
theorem Rn.fmsN (h : Rn W0 w g s) : Fms w := h.fms.on h.bel
theorem Rn.numN (h : Rn W0 w g s) : Num w := h.num.on h.bel
theorem Rn.utfN (h : Rn W0 w g s) : Utf w := h.utf.on h.bel
/-- What the reader's calls leave. -/
def RnPost (W0 w : World) (g : Nat) (v : Value) (s' : AM.St) (e : Ending) (w' : World) : Prop := e = .returned v ∧ Rn W0 w' g s' ∧ w.grownBy w' (some g)
theorem Rn.skip (h : Rn W0 w g s) (p : List UInt8) (hp : p ≠ []) : Calls Tryd.prog 16 #[.pointer (some ⟨g, 0, none⟩), .string (tx p)] w (RnPost W0 w g (.tuple #[]) (AM.preS p s)) :=
  (skip_ok w g s p hp h.rd).mono fun _ _ k => ⟨k.1, h.step k.2.2 k.2.1, k.2.2⟩
theorem Rn.takeNum (h : Rn W0 w g s) (hl : (s.getD []).length ≤ 1000000) : Calls Tryd.prog 17 #[.pointer (some ⟨g, 0, none⟩), .func (.func 18) #[] #[]] w (RnPost W0 w g (.int .i64 ((AM.numS s).1 : Int)) (AM.numS s).2) :=
  (takeNum_ok w g s h.rd hl h.numN).mono fun _ _ k => ⟨k.1, h.step k.2.2 k.2.1, k.2.2⟩
theorem Rn.takeUtm (h : Rn W0 w g s) (hl : (s.getD []).length ≤ 1000000) : Calls Tryd.prog 17 #[.pointer (some ⟨g, 0, none⟩), .func (.func 33) #[] #[]] w (RnPost W0 w g (.int .i64 ((AM.utmS s).1 : Int)) (AM.utmS s).2) :=
  (takeUtm_ok w g s h.rd hl h.numN).mono fun _ _ k => ⟨k.1, h.step k.2.2 k.2.1, k.2.2⟩
theorem Rn.takeKind (h : Rn W0 w g s) : Calls Tryd.prog 17 #[.pointer (some ⟨g, 0, none⟩), .func (.func 34) #[] #[]] w (RnPost W0 w g (.int .i64 (AM.kindS s).1) (AM.kindS s).2) :=
  (takeKind_ok w g s h.rd h.fmsN.sgn).mono fun _ _ k => ⟨k.1, h.step k.2.2 k.2.1, k.2.2⟩
theorem Rn.takeUnq (h : Rn W0 w g s) (hl : (s.getD []).length ≤ 1000000) : Calls Tryd.prog 35 #[.pointer (some ⟨g, 0, none⟩), .func (.func 36) #[] #[]] w (RnPost W0 w g (.string (tx (AM.unqS s).1)) (AM.unqS s).2) :=
  (takeUnq_ok w g s h.rd hl h.fmsN.fmt h.numN h.utfN).mono fun _ _ k => ⟨k.1, h.step k.2.2 k.2.1, k.2.2⟩
end
/-- A new reader. -/
theorem Rn.new (w : World) (l : List UInt8) (hF : Fms w) (hN : Num w) (hU : Utf w) : Rn w (w.alloc (.cells #[.string (tx l), .bool true] 42)) w.heap.size (some l) :=
  ⟨hF, hN, hU, (Below.refl _ _).alloc (Nat.le_refl _) _, Nat.le_refl _, RdS.new w l⟩
theorem run_build_rd (w : World) (l : ByteArray) : (Instr.build 42 #[(0, .string l), (1, .bool true)]).run Tryd.prog w = .ok (.agg #[.string l, .bool true]) w := by kernel_rfl

set_option maxHeartbeats 2000000 in
theorem size_ok (w : World) (l : List UInt8) (hl : l.length ≤ 1000000) (hF : Fms w) (hN : Num w) (hU : Utf w) :
    Calls Tryd.prog 37 #[.string (tx l)] w fun e w' => e = .returned (.tuple #[.int .i64 ((AM.sizeW l).1 : Int), .int .i64 ((AM.sizeW l).2 : Int)]) ∧ Below w.heap.size w w' := by
  have hz := AM.sizeW_eq l
  have hn := Rn.new w l hF hN hU
  obtain ⟨V, hV⟩ : ∃ V, V = w.alloc (.cells #[.string (tx l), .bool true] 42) := ⟨_, rfl⟩
  rw [← hV] at hn
  have HV := Lib.hid hV
  have HR0 := Lib.hid hn
  have q0 : ((some l : AM.St).getD []).length ≤ 1000000 := hl
  have HT1 := Lib.hid (hn.takeNum q0)
  have q1 := AM.numS_len q0
  have q2 := AM.preS_len (p := [120]) q1
  have HB := fun v => run_build_rd v (tx l)
  clear hV hn hF hN hU
  generalize AM.numS (some l) = a at *
  obtain ⟨x, s1⟩ := a
  simp only at HT1 q1 q2 hz
  generalize hs2 : AM.preS [120] s1 = s2 at *
  have HS2 := Lib.hid hs2
  generalize hb : AM.numS s2 = b at *
  have HBB := Lib.hid hb
  obtain ⟨y, s3⟩ := b
  simp only at hz
  generalize AM.sizeW l = Z at *
  have HZ := Lib.hid hz
  clear hs2 hb hz
  go_enter Tryd.func37, Tryd.ntmps37
  go_upto_region 2 with fail
  rw [← HV.out]
  go_wp2_with fail
  refine HT1.out.mono ?_
  rintro e w1 ⟨rfl, hr1, hg1⟩
  have HR1 := Lib.hid hr1
  have HK := Lib.hid (hr1.skip [120] (by simp))
  clear hr1 hg1 HT1
  go_wp2_with fail
  refine HK.out.mono ?_
  rw [HS2.out]
  rintro e w2 ⟨rfl, hr2, hg2⟩
  have HT2 := Lib.hid (hr2.takeNum q2)
  rw [HBB.out] at HT2
  clear hr2 hg2 HK
  go_wp2_with fail
  refine HT2.out.mono ?_
  rintro e w3 ⟨rfl, hr3, hg3⟩
  simp only at hr3 ⊢
  have HR3 := Lib.hid hr3
  obtain ⟨c0, c1, -, -⟩ := two_cell hr3.rd
  clear hr3 hg3 HT2
  cases s3 with
  | none =>
    have e : Z = (0, 0) := by rw [HZ.out]; rfl
    subst e
    simp only [Option.getD_none, Option.isSome_none] at c0 c1
    go_wp2_with fail
    go_ret2
    exact ⟨rfl, HR3.out.bel⟩
  | some r =>
    simp only [Option.getD_some, Option.isSome_some] at c0 c1
    cases r with
    | nil =>
      have e : Z = (x, y) := by rw [HZ.out]; rfl
      subst e
      go_wp2_with fail
      go_ret2
      exact ⟨rfl, HR3.out.bel⟩
    | cons c t =>
      have e : Z = (0, 0) := by rw [HZ.out, if_neg (by simp)]
      subst e
      generalize hL : c :: t = L at *
      have g0 : (L == []) = false := by rw [← hL]; rfl
      clear hL
      go_wp2_with fail
      go_ret2
      exact ⟨rfl, HR3.out.bel⟩

theorem EvAt.only {w w' : World} {g k : Nat} {e : Ev} (h : EvAt w k e) (hg : w.grownBy w' (some g)) (hne : k ≠ g) : EvAt w' k e := (hg.block k h.lt (by intro e; injection e with e; exact hne e)).trans h
theorem build_evt (w : World) (t : Int) : (Instr.build 27 #[(0, .int .i64 t)]).run Tryd.prog w = .ok (.agg #[.int .i64 t, .int .i64 0, .string ByteArray.empty, .int .i64 0, .int .i64 0]) w := by kernel_rfl
/-- An event stored over another one. -/
def setE (w : World) (g : Nat) (t k : Int) (d : ByteArray) (x y : Int) : World := ((((w.setCell ⟨g, 0, none⟩ (.int .i64 t)).setCell ⟨g, 1, none⟩ (.int .i64 k)).setCell ⟨g, 2, none⟩ (.string d)).setCell ⟨g, 3, none⟩ (.int .i64 x)).setCell ⟨g, 4, none⟩ (.int .i64 y)
theorem setE_at {w : World} {g : Nat} {e : Ev} (h : EvAt w g e) (t k : Int) (d : ByteArray) (x y : Int) : EvAt (setE w g t k d x y) g ⟨t, k, d, x, y⟩ := ((((h.set0 t).set1 k).set2 d).set3 x).set4 y
theorem setE_below {w w0 : World} {g B : Nat} (h : Below B w0 w) (hg : B ≤ g) (t k : Int) (d : ByteArray) (x y : Int) : Below B w0 (setE w g t k d x y) := by
  unfold setE
  exact ((((h.setCell (p := ⟨g, 0, none⟩) hg _).setCell (p := ⟨g, 1, none⟩) hg _).setCell (p := ⟨g, 2, none⟩) hg _).setCell (p := ⟨g, 3, none⟩) hg _).setCell (p := ⟨g, 4, none⟩) hg _

set_option maxHeartbeats 4000000 in
theorem next_ok (W0 w : World) (g : Nat) (s : AM.St) (h : Rn W0 w g s) (hl : (s.getD []).length ≤ 1000000) :
    Calls Tryd.prog 19 #[.pointer (some ⟨g, 0, none⟩)] w (RnPost W0 w g (evV (AM.lineS s).1) (AM.lineS s).2) := by
  have hgz := h.rd.lt
  have hWz := h.bel.size
  obtain ⟨w0, hw0⟩ : ∃ w0, w0 = w.alloc (.cells #[.int .i64 0, .int .i64 0, .string ⟨#[]⟩, .int .i64 0, .int .i64 0] 27) := ⟨_, rfl⟩
  have hb0 : Below w.heap.size w w0 := by rw [hw0]; exact (Below.refl _ _).alloc (Nat.le_refl _) _
  have hz0 : w.heap.size ≤ w0.heap.size := hb0.size
  have hc0 : EvAt w0 w.heap.size zero := by rw [hw0]; exact EvAt.new w zero
  have hr0 := h.next hb0
  have q1 := AM.preS_len (p := [91]) hl
  have q2 := AM.utmS_len q1
  have q3 := AM.preS_len (p := [44, 32, 34]) q2
  have q4 := AM.kindS_len q3
  have q5 := AM.preS_len (p := [34, 44, 32]) q4
  obtain ⟨q6, q7⟩ := AM.unqS_len q5
  have HK1 := Lib.hid (hr0.skip [91] (by simp))
  have hLS : AM.lineS s = (AM.evW (AM.utmS (AM.preS [91] s)).1 (AM.kindS (AM.preS [44, 32, 34] (AM.utmS (AM.preS [91] s)).2)).1 (AM.unqS (AM.preS [34, 44, 32] (AM.kindS (AM.preS [44, 32, 34] (AM.utmS (AM.preS [91] s)).2)).2)).1, AM.preS [93, 10] (AM.unqS (AM.preS [34, 44, 32] (AM.kindS (AM.preS [44, 32, 34] (AM.utmS (AM.preS [91] s)).2)).2)).2) := rfl
  rw [hLS]
  clear hLS
  generalize AM.preS [91] s = s1 at *
  generalize ha : AM.utmS s1 = a at *
  obtain ⟨t, s2⟩ := a
  simp only at q2 q3 q4 q5 q6 q7 ⊢
  generalize hs3 : AM.preS [44, 32, 34] s2 = s3 at *
  generalize hk : AM.kindS s3 = kk at *
  obtain ⟨k, s4⟩ := kk
  simp only at q4 q5 q6 q7 ⊢
  generalize hs5 : AM.preS [34, 44, 32] s4 = s5 at *
  generalize hu : AM.unqS s5 = u at *
  obtain ⟨x, s6⟩ := u
  simp only at q6 q7 ⊢
  generalize hs7 : AM.preS [93, 10] s6 = s7 at *
  have HA := Lib.hid ha
  have H3 := Lib.hid hs3
  have HKK := Lib.hid hk
  have H5 := Lib.hid hs5
  have HU := Lib.hid hu
  have H7 := Lib.hid hs7
  have HW0 := Lib.hid hw0
  have HC0 := Lib.hid hc0
  have HG0 := Lib.hid (show w.grownBy w0 (some g) from only_next (only_refl w _) hb0)
  have hbt := fun v => build_evt v (t : Int)
  clear ha hs3 hk hs5 hu hs7 hw0 hc0 hr0 h hb0
  go_enter Tryd.func19, Tryd.ntmps19
  go_upto_region 1 with fail
  rw [← HW0.out]
  go_wp2_with fail
  refine HK1.out.mono ?_
  rintro e w1 ⟨rfl, hr1, hg1⟩
  have hz1 := hg1.size
  have HZ1 := Lib.hid (HC0.out.only hg1 (by omega))
  have HG1 := Lib.hid (only_trans HG0.out (show w0.grownBy w1 (some g) from hg1))
  have HT := Lib.hid (hr1.takeUtm q1)
  rw [HA.out] at HT
  clear hr1 hg1 HK1
  go_wp2_with fail
  refine HT.out.mono ?_
  rintro e w2 ⟨rfl, hr2, hg2⟩
  simp only at hr2 ⊢
  have hz2 := hg2.size
  have HZ2 := Lib.hid (HZ1.out.only hg2 (by omega))
  have HG2 := Lib.hid (only_trans HG1.out (show w1.grownBy w2 (some g) from hg2))
  have HR2 := Lib.hid hr2
  clear hr2 hg2 HT
  go_upto_region 3 with fail
  obtain ⟨w3, hw3⟩ : ∃ w3, w3 = w2.alloc (.cells #[.int .i64 (t : Int), .int .i64 0, .string ⟨#[]⟩, .int .i64 0, .int .i64 0] 27) := ⟨_, rfl⟩
  rw [← hw3]
  have hb3 : Below w2.heap.size w2 w3 := by rw [hw3]; exact (Below.refl _ _).alloc (Nat.le_refl _) _
  have hc3 : EvAt w3 w2.heap.size ⟨t, 0, ⟨#[]⟩, 0, 0⟩ := by rw [hw3]; exact EvAt.new w2 ⟨t, 0, ⟨#[]⟩, 0, 0⟩
  have hz3 := hb3.size
  have HZ3 := Lib.hid (HZ2.out.dead hb3)
  have HG3 := Lib.hid (only_next HG2.out (hb3.mono (by omega)))
  have HC3 := Lib.hid hc3
  have HK3 := Lib.hid ((HR2.out.next hb3).skip [44, 32, 34] (by simp))
  rw [H3.out] at HK3
  have hgb : w2.heap.size ≠ g := by omega
  clear hw3 hb3 hc3
  go_wp2_with fail
  refine HK3.out.mono ?_
  rintro e w4 ⟨rfl, hr4, hg4⟩
  have hz4 := hg4.size
  have HZ4 := Lib.hid (HZ3.out.only hg4 (by omega))
  have HG4 := Lib.hid (only_trans HG3.out (show w3.grownBy w4 (some g) from hg4))
  have HC4 := Lib.hid (HC3.out.only hg4 hgb)
  have HT4 := Lib.hid hr4.takeKind
  rw [HKK.out] at HT4
  clear hr4 hg4 HK3
  go_wp2_with fail
  refine HT4.out.mono ?_
  rintro e w5 ⟨rfl, hr5, hg5⟩
  simp only at hr5 ⊢
  have hz5 := hg5.size
  have HZ5 := Lib.hid (HZ4.out.only hg5 (by omega))
  have HG5 := Lib.hid (only_trans HG4.out (show w4.grownBy w5 (some g) from hg5))
  have HC5 := Lib.hid (HC4.out.only hg5 hgb)
  have HR5 := Lib.hid hr5
  obtain ⟨e0, e1, e2, e3, e4⟩ := HC5.out.cells
  have f1 := HC5.out.thaw 1
  simp only at e0 e1 e2 e3 e4
  clear hr5 hg5 HT4
  go_upto_region 5 with fail
  have hc6 := HC5.out.set1 k
  have hb6 : Below w2.heap.size w5 (w5.setCell ⟨w2.heap.size, 1, none⟩ (.int .i64 k)) := (Below.refl _ _).setCell (p := ⟨w2.heap.size, 1, none⟩) (Nat.le_refl _) _
  simp only at hc6
  clear e0 e1 e2 e3 e4 f1
  have hz6 := hb6.size
  have hr6 := HR5.out.on hb6 (by omega)
  have hZ6 := HZ5.out.below hb6 (by have := HZ1.out.lt; omega)
  have hG6 := only_next HG5.out (hb6.mono (by omega))
  generalize w5.setCell ⟨w2.heap.size, 1, none⟩ (.int .i64 k) = w6 at *
  have HZ6 := Lib.hid hZ6
  have HG6 := Lib.hid hG6
  have HC6 := Lib.hid hc6
  have HK6 := Lib.hid (hr6.skip [34, 44, 32] (by simp))
  rw [H5.out] at HK6
  clear hZ6 hG6 hc6 hb6 hr6
  go_wp2_with fail
  refine HK6.out.mono ?_
  rintro e w7 ⟨rfl, hr7, hg7⟩
  have hz7 := hg7.size
  have HZ7 := Lib.hid (HZ6.out.only hg7 (by omega))
  have HG7 := Lib.hid (only_trans HG6.out (show w6.grownBy w7 (some g) from hg7))
  have HC7 := Lib.hid (HC6.out.only hg7 hgb)
  have HT7 := Lib.hid (hr7.takeUnq q5)
  rw [HU.out] at HT7
  clear hr7 hg7 HK6
  go_wp2_with fail
  refine HT7.out.mono ?_
  rintro e w8 ⟨rfl, hr8, hg8⟩
  simp only at hr8 ⊢
  have hz8 := hg8.size
  have HZ8 := Lib.hid (HZ7.out.only hg8 (by omega))
  have HG8 := Lib.hid (only_trans HG7.out (show w7.grownBy w8 (some g) from hg8))
  have HC8 := Lib.hid (HC7.out.only hg8 hgb)
  have HR8 := Lib.hid hr8
  obtain ⟨e0, e1, e2, e3, e4⟩ := HC8.out.cells
  have f2 := HC8.out.thaw 2
  simp only at e0 e1 e2 e3 e4
  clear hr8 hg8 HT7
  go_upto_region 7 with fail
  have hc9 := HC8.out.set2 (tx x)
  have hb9 : Below w2.heap.size w8 (w8.setCell ⟨w2.heap.size, 2, none⟩ (.string (tx x))) := (Below.refl _ _).setCell (p := ⟨w2.heap.size, 2, none⟩) (Nat.le_refl _) _
  simp only at hc9
  clear e0 e1 e2 e3 e4 f2
  have hz9 := hb9.size
  have hr9 := HR8.out.on hb9 (by omega)
  have hZ9 := HZ8.out.below hb9 (by have := HZ1.out.lt; omega)
  have hG9 := only_next HG8.out (hb9.mono (by omega))
  generalize w8.setCell ⟨w2.heap.size, 2, none⟩ (.string (tx x)) = w9 at *
  have HZ9 := Lib.hid hZ9
  have HG9 := Lib.hid hG9
  have HC9 := Lib.hid hc9
  have HK9 := Lib.hid (hr9.skip [93, 10] (by simp))
  rw [H7.out] at HK9
  clear hZ9 hG9 hc9 hb9 hr9
  go_wp2_with fail
  refine HK9.out.mono ?_
  rintro e wa ⟨rfl, hra, hga⟩
  have hza := hga.size
  have hca := HC9.out.only hga hgb
  have HZA := Lib.hid (HZ9.out.only hga (by omega))
  have HGA := Lib.hid (only_trans HG9.out (show w9.grownBy wa (some g) from hga))
  have HCA := Lib.hid hca
  have HRA := Lib.hid hra
  obtain ⟨e0, e1, e2, e3, e4⟩ := hca.cells
  simp only at e0 e1 e2 e3 e4
  clear hra hga HK9 hca
  by_cases hk2 : k = 2
  · have g1 : (k == 2) = true := beq_iff_eq.2 hk2
    have HSZ := Lib.hid (size_ok wa x q7 HRA.out.fmsN HRA.out.numN HRA.out.utfN)
    have HEW := Lib.hid (show AM.evW t k x = ⟨t, k, ⟨#[]⟩, ((AM.sizeW x).1 : Int), ((AM.sizeW x).2 : Int)⟩ by have he : ByteArray.empty = ⟨#[]⟩ := rfl; unfold AM.evW; rw [if_pos hk2, hk2, he])
    generalize AM.sizeW x = sz at *
    obtain ⟨X, Y⟩ := sz
    simp only at HSZ HEW
    clear hk2
    go_wp2_with fail
    refine HSZ.out.mono ?_
    rintro e wb ⟨rfl, hbb⟩
    have hzb := hbb.size
    have hcb := HCA.out.dead hbb
    have HZB := Lib.hid (HZA.out.dead hbb)
    have HGB := Lib.hid (only_next HGA.out (hbb.mono (by omega)))
    have HRB := Lib.hid (HRA.out.next hbb)
    have HCB := Lib.hid hcb
    clear e0 e1 e2 e3 e4
    obtain ⟨e0, e1, e2, e3, e4⟩ := hcb.cells
    have f2 := hcb.thaw 2
    have f3 := hcb.thaw 3
    have f4 := hcb.thaw 4
    simp only at e0 e1 e2 e3 e4
    clear hcb hbb HSZ
    go_upto_region 11 with fail
    have hcc := ((HCB.out.set3 (X : Int)).set4 (Y : Int)).set2 ⟨#[]⟩
    have hbc : Below w2.heap.size wb (((wb.setCell ⟨w2.heap.size, 3, none⟩ (.int .i64 (X : Int))).setCell ⟨w2.heap.size, 4, none⟩ (.int .i64 (Y : Int))).setCell ⟨w2.heap.size, 2, none⟩ (.string ⟨#[]⟩)) :=
      (((Below.refl _ _).setCell (p := ⟨w2.heap.size, 3, none⟩) (Nat.le_refl _) _).setCell (p := ⟨w2.heap.size, 4, none⟩) (Nat.le_refl _) _).setCell (p := ⟨w2.heap.size, 2, none⟩) (Nat.le_refl _) _
    simp only at hcc
    clear e0 e1 e2 e3 e4 f2 f3 f4
    have hzc := hbc.size
    have HRC := Lib.hid (HRB.out.on hbc (by omega))
    have hZC := HZB.out.below hbc (by have := HZ1.out.lt; omega)
    have HGC := Lib.hid (only_next HGB.out (hbc.mono (by omega)))
    generalize (((wb.setCell ⟨w2.heap.size, 3, none⟩ (.int .i64 (X : Int))).setCell ⟨w2.heap.size, 4, none⟩ (.int .i64 (Y : Int))).setCell ⟨w2.heap.size, 2, none⟩ (.string ⟨#[]⟩)) = wc at *
    have HZC := Lib.hid hZC
    obtain ⟨e0, e1, e2, e3, e4⟩ := hcc.cells
    simp only at e0 e1 e2 e3 e4
    obtain ⟨c0, c1, c2, c3, c4⟩ := hZC.cells
    have p0 := hZC.thaw 0; have p1 := hZC.thaw 1; have p2 := hZC.thaw 2; have p3 := hZC.thaw 3; have p4 := hZC.thaw 4
    clear hZC hcc hbc
    go_wp2_with fail
    refine bodyPost_ret (results_cell_row rfl _ _ w.heap.size _ _ _ _ rfl (setE_at HZC.out t k ⟨#[]⟩ X Y) Tryd.underlying27 rfl (by kernel_rfl)) rfl ?_
    have hbe := setE_below (Below.refl w.heap.size wc) (Nat.le_refl _) t k ⟨#[]⟩ X Y
    rw [HEW.out]
    exact ⟨rfl, HRC.out.on hbe hgz, only_next HGC.out hbe⟩
  · have g1 : (k == 2) = false := beq_eq_false_iff_ne.2 hk2
    have HEW := Lib.hid (show AM.evW t k x = ⟨t, k, tx x, 0, 0⟩ by unfold AM.evW; rw [if_neg hk2]; rfl)
    clear hk2
    obtain ⟨c0, c1, c2, c3, c4⟩ := HZA.out.cells
    have p0 := HZA.out.thaw 0; have p1 := HZA.out.thaw 1; have p2 := HZA.out.thaw 2; have p3 := HZA.out.thaw 3; have p4 := HZA.out.thaw 4
    go_wp2_with fail
    refine bodyPost_ret (results_cell_row rfl _ _ w.heap.size _ _ _ _ rfl (setE_at HZA.out t k (tx x) 0 0) Tryd.underlying27 rfl (by kernel_rfl)) rfl ?_
    have hbe := setE_below (Below.refl w.heap.size wa) (Nat.le_refl _) t k (tx x) 0 0
    rw [HEW.out]
    exact ⟨rfl, HRA.out.on hbe hgz, only_next HGA.out hbe⟩
end Go.Proofs.YtciogdhapogolaaDoor
