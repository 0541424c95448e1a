/-
  CellAny: any bytes begin with the bytes of the whole line that is told, or with none's. For all bytes and every width; the package's table of wide runes as the program's text lays it.
-/
import Derived.Test.YtalngmegenlfgaaDoorKTakeL
import Derived.Test.YtalngmegenlfgaaDoorKFit
import Derived.Test.YtalngmegenlfgaaDoorKOpen
import Derived.Test.YtalngmegenlfgaaDoorKCond
import Derived.Test.YtalngmegenlfgaaDoorCards
import Derived.Test.YtalngmegenlfgaaDoorTie
import Derived.Deep.RegionHeld3
import Derived.OpenShut
import Derived.HandedFrom
import Derived.ChangeSame
import Derived.ChangeVars
import Derived.JoinedOf
import Derived.JoinedAt
namespace Go.Proofs.YtalngmegenlfgaaDoor.cellAny
open Go.ChangeShapes Go.WideShapes Go.ChangeAt Go.RowKit Go.Lib KM

theorem i64_and63 (n : Int) : bits .and .i64 n 63 = n % 64 := by
  have h127 : (BitVec.ofInt 64 63).toNat = 2 ^ 6 - 1 := by decide
  have key : (BitVec.ofInt 64 n &&& BitVec.ofInt 64 63).toNat = (n % ((2 ^ 64 : Nat) : Int)).toNat % 2 ^ 6 := by
    rw [BitVec.toNat_and, BitVec.toNat_ofInt, h127, Nat.and_two_pow_sub_one_eq_mod]
  show IntKind.i64.wrap ((BitVec.ofInt 64 n &&& BitVec.ofInt 64 63).toNat : Nat) = n % 64
  rw [key, IntKind.wrap_i64]
  omega
theorem low6 (n : Int) : ∃ q : Nat, q < 64 ∧ bits .and .i64 n 63 = (q : Int) := ⟨(n % 64).toNat, by omega, by rw [i64_and63]; omega⟩
/-- What is told is a whole line whose bytes come first. -/
theorem line_back {l : List Nat} {q : Nat} {T : List Cel × List Nat × Bool} (hl : ∀ x ∈ l, x < 256) (h : lineOf (tr [] q l false) = some T) :
    T.1.length = q ∧ whole T.1 = true ∧ (∀ x ∈ runs T.1, Fine x) ∧ l = runsB (runs T.1) ++ T.2.1 := by
  rcases hR : tr [] q l false with _ | R
  · rw [hR] at h; cases h
  · obtain ⟨more, m1, m2, m3, m4, m5, m6⟩ := tr_back q [] l false hl trivial R hR
    obtain ⟨rs, l2, b2⟩ := R
    simp only [List.nil_append] at m1 m2 m6
    subst m1
    rw [hR] at h
    unfold lineOf at h
    simp only [Option.bind_some] at h
    split at h
    · rename_i hw
      simp only [Option.some.injEq] at h
      subst h
      simp only
      rw [runs_of_cells rs m6]
      exact ⟨by rw [cells_len, m4], hw, m5, m2⟩
    · cases h

set_option maxRecDepth 100000 in
set_option maxHeartbeats 2000000 in
theorem core (A : Option Addr) (c : Nat) (l : List Nat) (z : Int) (w : World) (hlc : l.length ≤ c) (hA : A = none → c = 0) (hr : Row w w.heap.size .u8 A l) (hby : ∀ x ∈ l, x < 256) (hT : Tabs w) :
    Calls Tryd.prog 9 #[.slice A l.length c, .int .i64 z] w fun e w' => e = .returned (.bool true) ∧ Below w.heap.size w w' := by
  have HT := Lib.hid hT
  have HR := Lib.hid hr
  have HA := Lib.hid hA
  have HBY := Lib.hid hby
  clear hT hr hA hby
  by_cases h3 : 300 < l.length
  · have g : decide ((300 : Int) < (l.length : Int)) = true := by simp; omega
    go_enter Tryd.func9, Tryd.ntmps9
    go_wp2_with fail
    refine (fit_ok _ HT.out).mono ?_
    rintro e w1 ⟨rfl, b1⟩
    have HB1 := Lib.hid b1
    clear b1
    go_wp2_with fail
    go_ret
    exact ⟨rfl, HB1.out⟩
  · have g : decide ((300 : Int) < (l.length : Int)) = false := by simp; omega
    obtain ⟨q, hq, hqe⟩ := low6 z
    have hroom := HT.out.room
    go_enter Tryd.func9, Tryd.ntmps9
    go_wp2_with fail
    refine (fit_ok _ HT.out).mono ?_
    rintro e w1 ⟨rfl, b1⟩
    have HB1 := Lib.hid b1
    have HT1 := Lib.hid (HT.out.on b1 HT.out.room)
    have HR1 := Lib.hid (HR.out.below b1)
    have z1 := b1.size
    clear b1
    go_wp2_with fail
    refine (of_any w1 A l c w.heap.size HR1.out HA.out (by omega) HBY.out).mono ?_
    rintro e w2 ⟨gr, rfl, hgr, hrd, b2⟩
    have HB2 := Lib.hid (below_next HB1.out b2)
    have HT2 := Lib.hid (HT1.out.on b2 HT1.out.room)
    have HRD := Lib.hid hrd
    have z2 := b2.size
    have HTL := Lib.hid (takeLine_ok w2 gr l false q (by omega) hrd (tabs_only HT2.out (by omega)))
    have HLB := Lib.hid (fun T => line_back (l := l) (q := q) (T := T) HBY.out)
    generalize lineOf (tr [] q l false) = R at *
    clear hrd b2
    rcases R with _ | T
    · go_wp2_with fail
      refine HTL.out.mono ?_
      rintro e w3 (⟨_, rfl, hg3⟩ | ⟨T, v, hn, _⟩)
      · have HB3 := Lib.hid (HB2.out.trans (only_below hg3 (show w.heap.size ≤ gr by omega) (by omega)))
        clear hg3
        go_wp2_with fail
        go_ret
        exact ⟨rfl, HB3.out⟩
      · cases hn
    · obtain ⟨k1, k2, k3, k4⟩ := HLB.out T rfl
      obtain ⟨L, l2, bad2⟩ := T
      simp only at k1 k2 k3 k4
      have hbl := congrArg List.length k4
      rw [List.length_append] at hbl
      have htk : l.take (runsB (runs L)).length = runsB (runs L) := by
        conv => lhs; rw [k4]
        exact List.take_left
      have HK2 := Lib.hid k2
      have HK3 := Lib.hid k3
      have HTK := Lib.hid htk
      have HK1 := Lib.hid k1
      have hLq : L.length ≤ 63 := by omega
      have hCl : (runsB (runs L)).length ≤ l.length := by omega
      clear k1 k2 k3 k4 htk HLB hbl
      go_wp2_with fail
      refine HTL.out.mono ?_
      rintro e w3 (⟨hn, _⟩ | ⟨T, v, hn, rfl, o3, hrd3, hg3⟩)
      · cases hn
      injection hn with hn
      subst hn
      simp only at o3 hrd3
      have hb3 : Below w.heap.size w2 w3 := only_below hg3 (show w.heap.size ≤ gr by omega) (by omega)
      have HB3 := Lib.hid (HB2.out.trans hb3)
      have HT3 := Lib.hid (tabs_only HT2.out (by omega) w3 hg3)
      have z3 := hg3.size
      obtain ⟨A3, c3, rfl, _, _, hA3, r3⟩ := o3.row
      have HR3 := Lib.hid r3
      clear hg3 hb3 o3 r3 hrd3
      have HPL := Lib.hid (putLine_ok w3 (.slice none 0 0) [] w3.heap.size L A3 c3 w3.heap.size (Own.nil _ _) (Nat.le_refl _) (by simp) HR3.out (Nat.le_refl _) (by omega) HK3.out)
      rw [List.nil_append] at HPL
      generalize runsB (runs L) = C at *
      go_wp2_with fail
      refine HPL.out.mono ?_
      rintro e w4 ⟨v4, rfl, o4, b4⟩
      obtain ⟨A4, c4, rfl, hc4, _, _, r4⟩ := o4.form
      have HR4 := Lib.hid r4
      have HRL4 := Lib.hid (HR3.out.below b4)
      have HB4 := Lib.hid (HB3.out.trans (b4.mono (by omega)))
      have HT4 := Lib.hid (HT3.out.on b4 HT3.out.room)
      have z4 := b4.size
      clear b4 o4 r4
      have HC1 : Hid (∀ v, Below w4.heap.size w4 v → (convert 34 9 (.slice A C.length c)).run Tryd.prog v = .ok (.string (str C)) v) := Lib.hid (fun v hv => by
        have h := run_string A (l.take C.length) c w.heap.size v (((HR.out.below (HB4.out.trans (hv.mono HB4.out.size)))).take _)
        rw [HTK.out] at h
        exact h)
      have HC2 : Hid (∀ v, Below w4.heap.size w4 v → (convert 34 9 (.slice A4 C.length c4)).run Tryd.prog v = .ok (.string (str C)) v) := Lib.hid (fun v hv => run_string A4 C c4 w4.heap.size v (HR4.out.below hv))
      have hhd := fun v => run_head A l.length c C.length v (by omega)
      have g5 : ((L.length : Int) == (q : Int)) = true := by rw [HK1.out]; simp
      have g6 : decide ((C.length : Int) ≤ (l.length : Int)) = true := by simp; omega
      have g7 : decide (C.length ≤ l.length) = true := by simp; omega
      go_wp2_with fail
      refine wp_region_noPanic ?_
      refine wp_region_held_drew (S := fun v => Below w4.heap.size w4 v) (by kernel_rfl) (Below.refl _ _).drew (fun hHeld => ?_)
      have HSd := Lib.hid hHeld
      refine wpAnyH_take (i := 0) (v := ?va0) rfl (by kernel_rfl) (by kernel_rfl) (by kernel_rfl) (fun _ _ _ h => h) (Or.inl ⟨by rfl, ?ha0⟩) (by assumption) ?_
      case ha0 => intro w hSw; (try dsimp only at hSw); go_simp; try with_reducible rfl
      simp only [List.getElem_toArray, List.getElem_cons_zero, Act.put, List.setIfInBounds_toArray, List.set_cons_zero, List.set_cons_succ]
      refine wpAnyH_take (i := 1) (v := ?va1) rfl (by kernel_rfl) (by kernel_rfl) (by kernel_rfl) (fun _ _ _ h => h) (Or.inl ⟨by rfl, ?ha1⟩) (by assumption) ?_
      case ha1 => intro w hSw; (try dsimp only at hSw); go_simp; try with_reducible rfl
      simp only [List.getElem_toArray, List.getElem_cons_succ, List.getElem_cons_zero, Act.put, List.setIfInBounds_toArray, List.set_cons_zero, List.set_cons_succ]
      refine wpAnyH_take (i := 2) (v := ?va2) rfl (by kernel_rfl) (by kernel_rfl) (by kernel_rfl) (fun _ _ _ h => h) (Or.inl ⟨by rfl, ?ha2⟩) (by assumption) ?_
      case ha2 => intro w hSw; (try dsimp only at hSw); go_simp; try with_reducible rfl
      simp only [List.getElem_toArray, List.getElem_cons_succ, List.getElem_cons_zero, Act.put, List.setIfInBounds_toArray, List.set_cons_zero, List.set_cons_succ]
      refine wpAnyH_take (i := 3) (v := ?va3) rfl (by kernel_rfl) (by kernel_rfl) (by kernel_rfl) (fun _ _ _ h => h) (Or.inl ⟨by rfl, ?ha3⟩) (by assumption) ?_
      case ha3 => intro w hSw; (try dsimp only at hSw); go_simp; try with_reducible rfl
      simp only [List.getElem_toArray, List.getElem_cons_succ, List.getElem_cons_zero, Act.put, List.setIfInBounds_toArray, List.set_cons_zero, List.set_cons_succ]
      refine wpAnyH_take (i := 4) (v := ?va4) rfl (by kernel_rfl) (by kernel_rfl) (by kernel_rfl) (fun _ _ _ h => h) (Or.inl ⟨by rfl, ?ha4⟩) (by assumption) ?_
      case ha4 => intro w hSw; (try dsimp only at hSw); go_simp; try with_reducible rfl
      simp only [List.getElem_toArray, List.getElem_cons_succ, List.getElem_cons_zero, Act.put, List.setIfInBounds_toArray, List.set_cons_zero, List.set_cons_succ]
      refine wpAnyH_take (i := 5) (v := ?va5) rfl (by kernel_rfl) (by kernel_rfl) (by kernel_rfl) (fun _ _ _ h => h) (Or.inl ⟨by rfl, ?ha5⟩) (by assumption) ?_
      case ha5 => intro w hSw; (try dsimp only at hSw); go_simp; try with_reducible rfl
      simp only [List.getElem_toArray, List.getElem_cons_succ, List.getElem_cons_zero, Act.put, List.setIfInBounds_toArray, List.set_cons_zero, List.set_cons_succ]
      refine wpAnyH_ready (rs := [6]) (by kernel_rfl) (by simp) ?_
      refine AllReadyH.cons rfl (fun K hK => ?_) AllReadyH.nil
      go_simp
      refine (whole_ok _ (HT4.out.on HSd.out HT4.out.room) L A3 c3 w3.heap.size (HRL4.out.below (HSd.out.mono z4)) (Nat.le_trans z4 HSd.out.size) (by omega)).mono ?_
      rw [HK2.out]
      rintro e v1 ⟨rfl, hbx⟩
      have HSv1 := Lib.hid (below_next HSd.out hbx)
      clear hbx
      dsimp only
      refine hK.out _ _ ?_ (fun hHeld => ?_)
      · exact HSv1.out
      clear hK K
      refine wpAnyH_take (i := 7) (v := ?vb7) rfl (by kernel_rfl) (by kernel_rfl) (by kernel_rfl) (fun _ _ _ h => h) (Or.inl ⟨by rfl, ?hb7⟩) (by assumption) ?_
      case hb7 => intro w hSw; (try dsimp only at hSw); have q1 := HC1.out w hSw; have q2 := HC2.out w hSw; go_simp; try with_reducible rfl
      simp only [List.getElem_toArray, List.getElem_cons_succ, List.getElem_cons_zero, Act.put, List.setIfInBounds_toArray, List.set_cons_zero, List.set_cons_succ]
      refine wpAnyH_take (i := 8) (v := ?vb8) rfl (by kernel_rfl) (by kernel_rfl) (by kernel_rfl) (fun _ _ _ h => h) (Or.inl ⟨by rfl, ?hb8⟩) (by assumption) ?_
      case hb8 => intro w hSw; (try dsimp only at hSw); have q1 := HC1.out w hSw; have q2 := HC2.out w hSw; go_simp; try with_reducible rfl
      simp only [List.getElem_toArray, List.getElem_cons_succ, List.getElem_cons_zero, Act.put, List.setIfInBounds_toArray, List.set_cons_zero, List.set_cons_succ]
      refine wpAnyH_take (i := 9) (v := ?vb9) rfl (by kernel_rfl) (by kernel_rfl) (by kernel_rfl) (fun _ _ _ h => h) (Or.inl ⟨by rfl, ?hb9⟩) (by assumption) ?_
      case hb9 => intro w hSw; (try dsimp only at hSw); have q1 := HC1.out w hSw; have q2 := HC2.out w hSw; go_simp; try with_reducible rfl
      simp only [List.getElem_toArray, List.getElem_cons_succ, List.getElem_cons_zero, Act.put, List.setIfInBounds_toArray, List.set_cons_zero, List.set_cons_succ]
      refine wpAnyH_take (i := 10) (v := ?vb10) rfl (by kernel_rfl) (by kernel_rfl) (by kernel_rfl) (fun _ _ _ h => h) (Or.inl ⟨by rfl, ?hb10⟩) (by assumption) ?_
      case hb10 => intro w hSw; (try dsimp only at hSw); have q1 := HC1.out w hSw; have q2 := HC2.out w hSw; go_simp; try with_reducible rfl
      simp only [List.getElem_toArray, List.getElem_cons_succ, List.getElem_cons_zero, Act.put, List.setIfInBounds_toArray, List.set_cons_zero, List.set_cons_succ]
      refine wpAnyH_take (i := 11) (v := ?vb11) rfl (by kernel_rfl) (by kernel_rfl) (by kernel_rfl) (fun _ _ _ h => h) (Or.inl ⟨by rfl, ?hb11⟩) (by assumption) ?_
      case hb11 => intro w hSw; (try dsimp only at hSw); have q1 := HC1.out w hSw; have q2 := HC2.out w hSw; go_simp; try with_reducible rfl
      simp only [List.getElem_toArray, List.getElem_cons_succ, List.getElem_cons_zero, Act.put, List.setIfInBounds_toArray, List.set_cons_zero, List.set_cons_succ]
      refine wpAnyH_take (i := 12) (v := ?vb12) rfl (by kernel_rfl) (by kernel_rfl) (by kernel_rfl) (fun _ _ _ h => h) (Or.inl ⟨by rfl, ?hb12⟩) (by assumption) ?_
      case hb12 => intro w hSw; (try dsimp only at hSw); have q1 := HC1.out w hSw; have q2 := HC2.out w hSw; go_simp; try with_reducible rfl
      simp only [List.getElem_toArray, List.getElem_cons_succ, List.getElem_cons_zero, Act.put, List.setIfInBounds_toArray, List.set_cons_zero, List.set_cons_succ]
      refine wpAnyH_take (i := 13) (v := ?vb13) rfl (by kernel_rfl) (by kernel_rfl) (by kernel_rfl) (fun _ _ _ h => h) (Or.inl ⟨by rfl, ?hb13⟩) (by assumption) ?_
      case hb13 => intro w hSw; (try dsimp only at hSw); have q1 := HC1.out w hSw; have q2 := HC2.out w hSw; go_simp; try with_reducible rfl
      simp only [List.getElem_toArray, List.getElem_cons_succ, List.getElem_cons_zero, Act.put, List.setIfInBounds_toArray, List.set_cons_zero, List.set_cons_succ]
      refine wpAnyH_take (i := 14) (v := ?vb14) rfl (by kernel_rfl) (by kernel_rfl) (by kernel_rfl) (fun _ _ _ h => h) (Or.inl ⟨by rfl, ?hb14⟩) (by assumption) ?_
      case hb14 => intro w hSw; (try dsimp only at hSw); have q1 := HC1.out w hSw; have q2 := HC2.out w hSw; go_simp; try with_reducible rfl
      simp only [List.getElem_toArray, List.getElem_cons_succ, List.getElem_cons_zero, Act.put, List.setIfInBounds_toArray, List.set_cons_zero, List.set_cons_succ]
      refine wpAnyH_take (i := 15) (v := ?vb15) rfl (by kernel_rfl) (by kernel_rfl) (by kernel_rfl) (fun _ _ _ h => h) (Or.inl ⟨by rfl, ?hb15⟩) (by assumption) ?_
      case hb15 => intro w hSw; (try dsimp only at hSw); have q1 := HC1.out w hSw; have q2 := HC2.out w hSw; go_simp; try with_reducible rfl
      simp only [List.getElem_toArray, List.getElem_cons_succ, List.getElem_cons_zero, Act.put, List.setIfInBounds_toArray, List.set_cons_zero, List.set_cons_succ]
      refine wpAnyH_take (i := 16) (v := ?vb16) rfl (by kernel_rfl) (by kernel_rfl) (by kernel_rfl) (fun _ _ _ h => h) (Or.inl ⟨by rfl, ?hb16⟩) (by assumption) ?_
      case hb16 => intro w hSw; (try dsimp only at hSw); have q1 := HC1.out w hSw; have q2 := HC2.out w hSw; go_simp; try with_reducible rfl
      simp only [List.getElem_toArray, List.getElem_cons_succ, List.getElem_cons_zero, Act.put, List.setIfInBounds_toArray, List.set_cons_zero, List.set_cons_succ]
      refine wpAnyH_take (i := 17) (v := ?vb17) rfl (by kernel_rfl) (by kernel_rfl) (by kernel_rfl) (fun _ _ _ h => h) (Or.inl ⟨by rfl, ?hb17⟩) (by assumption) ?_
      case hb17 => intro w hSw; (try dsimp only at hSw); have q1 := HC1.out w hSw; have q2 := HC2.out w hSw; go_simp; try with_reducible rfl
      simp only [List.getElem_toArray, List.getElem_cons_succ, List.getElem_cons_zero, Act.put, List.setIfInBounds_toArray, List.set_cons_zero, List.set_cons_succ]
      refine wpAnyH_take (i := 18) (v := ?vb18) rfl (by kernel_rfl) (by kernel_rfl) (by kernel_rfl) (fun _ _ _ h => h) (Or.inl ⟨by rfl, ?hb18⟩) (by assumption) ?_
      case hb18 => intro w hSw; (try dsimp only at hSw); have q1 := HC1.out w hSw; have q2 := HC2.out w hSw; go_simp; try with_reducible rfl
      simp only [List.getElem_toArray, List.getElem_cons_succ, List.getElem_cons_zero, Act.put, List.setIfInBounds_toArray, List.set_cons_zero, List.set_cons_succ]
      refine wpAnyH_take (i := 19) (v := ?vb19) rfl (by kernel_rfl) (by kernel_rfl) (by kernel_rfl) (fun _ _ _ h => h) (Or.inl ⟨by rfl, ?hb19⟩) (by assumption) ?_
      case hb19 => intro w hSw; (try dsimp only at hSw); have q1 := HC1.out w hSw; have q2 := HC2.out w hSw; go_simp; try with_reducible rfl
      simp only [List.getElem_toArray, List.getElem_cons_succ, List.getElem_cons_zero, Act.put, List.setIfInBounds_toArray, List.set_cons_zero, List.set_cons_succ]
      refine wpAnyH_take (i := 20) (v := ?vb20) rfl (by kernel_rfl) (by kernel_rfl) (by kernel_rfl) (fun _ _ _ h => h) (Or.inl ⟨by rfl, ?hb20⟩) (by assumption) ?_
      case hb20 => intro w hSw; (try dsimp only at hSw); have q1 := HC1.out w hSw; have q2 := HC2.out w hSw; go_simp; try with_reducible rfl
      simp only [List.getElem_toArray, List.getElem_cons_succ, List.getElem_cons_zero, Act.put, List.setIfInBounds_toArray, List.set_cons_zero, List.set_cons_succ]
      refine wpAnyH_take (i := 21) (v := ?vb21) rfl (by kernel_rfl) (by kernel_rfl) (by kernel_rfl) (fun _ _ _ h => h) (Or.inl ⟨by rfl, ?hb21⟩) (by assumption) ?_
      case hb21 => intro w hSw; (try dsimp only at hSw); have q1 := HC1.out w hSw; have q2 := HC2.out w hSw; go_simp; try with_reducible rfl
      simp only [List.getElem_toArray, List.getElem_cons_succ, List.getElem_cons_zero, Act.put, List.setIfInBounds_toArray, List.set_cons_zero, List.set_cons_succ]
      refine wpAnyH_take (i := 22) (v := ?vb22) rfl (by kernel_rfl) (by kernel_rfl) (by kernel_rfl) (fun _ _ _ h => h) (Or.inl ⟨by rfl, ?hb22⟩) (by assumption) ?_
      case hb22 => intro w hSw; (try dsimp only at hSw); have q1 := HC1.out w hSw; have q2 := HC2.out w hSw; go_simp; try with_reducible rfl
      simp only [List.getElem_toArray, List.getElem_cons_succ, List.getElem_cons_zero, Act.put, List.setIfInBounds_toArray, List.set_cons_zero, List.set_cons_succ]
      refine wpAnyH_take (i := 23) (v := ?vb23) rfl (by kernel_rfl) (by kernel_rfl) (by kernel_rfl) (fun _ _ _ h => h) (Or.inl ⟨by rfl, ?hb23⟩) (by assumption) ?_
      case hb23 => intro w hSw; (try dsimp only at hSw); have q1 := HC1.out w hSw; have q2 := HC2.out w hSw; go_simp; try with_reducible rfl
      simp only [List.getElem_toArray, List.getElem_cons_succ, List.getElem_cons_zero, Act.put, List.setIfInBounds_toArray, List.set_cons_zero, List.set_cons_succ]
      refine wpAnyH_take (i := 24) (v := ?vb24) rfl (by kernel_rfl) (by kernel_rfl) (by kernel_rfl) (fun _ _ _ h => h) (Or.inl ⟨by rfl, ?hb24⟩) (by assumption) ?_
      case hb24 => intro w hSw; (try dsimp only at hSw); have q1 := HC1.out w hSw; have q2 := HC2.out w hSw; go_simp; try with_reducible rfl
      simp only [List.getElem_toArray, List.getElem_cons_succ, List.getElem_cons_zero, Act.put, List.setIfInBounds_toArray, List.set_cons_zero, List.set_cons_succ]
      refine wpAnyH_take (i := 25) (v := ?vb25) rfl (by kernel_rfl) (by kernel_rfl) (by kernel_rfl) (fun _ _ _ h => h) (Or.inl ⟨by rfl, ?hb25⟩) (by assumption) ?_
      case hb25 => intro w hSw; (try dsimp only at hSw); have q1 := HC1.out w hSw; have q2 := HC2.out w hSw; go_simp; try with_reducible rfl
      simp only [List.getElem_toArray, List.getElem_cons_succ, List.getElem_cons_zero, Act.put, List.setIfInBounds_toArray, List.set_cons_zero, List.set_cons_succ]
      refine wpAnyH_done (by kernel_rfl) ?_ _
      refine NoPanic.normal ?_
      go_wp2_with fail
      go_ret
      exact ⟨rfl, HB4.out.trans (HSv1.out.mono HB4.out.size)⟩
theorem walk (A : Option Addr) (len cap : Nat) (zs : List Int) (z : Int) (w : World) (hw : IsRow .u8 w A len cap zs) (_hz : (Lit.int .i64 z).wf = true) (hT : Tabs w) :
    Calls Tryd.prog 9 #[.slice A len cap, .int .i64 z] w fun e w' => e = .returned (.bool true) ∧ Below w.heap.size w w' := by
  obtain ⟨l, rfl, _, h2, h3, h4, h5⟩ := came hw top_u8
  exact core A cap l z w h2 h3 h4 h5 hT

theorem own : ownKnob Tryd.prog.godebug = none := by kernel_rfl
theorem laidOut : laidOutB Tryd.prog = true := by kernel_rfl

set_option maxRecDepth 100000 in
theorem lifted (os : Os) (started : os.Started) (H : Type) (enc : TypeId × Value → H) :
    ReturnsInHanded {} Tryd.checked os 9 .any (fun w args => (Rows.cellAnySpec.pre enc Tryd.prog Tryd.f9 Rows.cellAnyRow.domain false w args ∧ laidMetH Tryd.prog Rows.cellAnyRow.laid w) ∧ sizedMet enc Tryd.prog Tryd.f9 (OpenSpec.ofChange Rows.cellAnySpec) false w args)
      (Rows.cellAnySpec.post enc Tryd.prog Tryd.f9 false true false false) := by
  refine returnsInHanded_of_change_and (C := Tryd.checked) (X := fun w _ => laidMetH Tryd.prog Rows.cellAnyRow.laid w) (fun _ _ _ hh h => h.of_heap hh) own started (by kernel_rfl) Tryd.func9
    (ChangeSpec.witness_shaped (enc := enc) (C := Tryd.checked) (os := os) (X := fun w _ => laidMetH Tryd.prog Rows.cellAnyRow.laid w) false (start8 os) #[.slice none 0 0, .int .i64 0] 8 rfl (World.shaped_of_RefB (by kernel_rfl) (by kernel_rfl)) (by kernel_rfl) (by kernel_rfl) (by kernel_rfl) (met_cellAny os _)) ?_
  intro W base args ds gs before hval0 hW _ _ hL _
  have hval : ∀ (j : Nat) t v, Tryd.f9.params[j]? = some t → args[j]? = some v → Value.okWide Tryd.prog W .any base t v := hval0
  have hW' := hW
  obtain ⟨p, q, hA0, hV, rfl, hfz, hnd⟩ := hW
  have hA : DataW.TrodAll enc Tryd.prog W 0 (fun _ => true) true Tryd.f9.params.toList args.toList ds p := hA0
  rw [Tryd.params9] at hA hval
  obtain ⟨v0, vs0, d0, ds0, p0, q0, hargs, rfl, rfl, h0, r0⟩ := trodAll_cons hA
  obtain ⟨v1, vs1, d1, ds1, p1, q1, rfl, rfl, rfl, h1, r1⟩ := trodAll_cons r0
  obtain ⟨rfl, rfl, rfl⟩ := trodAll_nil r1
  obtain rfl : args = #[v0, v1] := by cases args; simp_all
  obtain ⟨rfl, rfl⟩ := trodVars_none hV
  obtain ⟨a0, len0, cap0, rfl⟩ := okWide_slice Tryd.underlying34 (hval 0 34 v0 rfl rfl)
  have k0 := h0
  have lt0 : ∀ x ∈ p0, x.block < W.heap.size := by obtain ⟨m, hm⟩ := k0; exact DataW.trod_lt m _ _ _ hm
  obtain ⟨z0, w0⟩ : ∃ zs, IsRow .u8 W a0 len0 cap0 zs := by
    obtain ⟨fuel, hf⟩ := h0
    rcases open_ints Tryd.underlying34 Tryd.underlying5 (by kernel_rfl) hf with ⟨hcs, _⟩ | ⟨x, l, c, zs, hcs, _, hl, hm, hz, _, hcell, hwz⟩
    · simp [Value.cells] at hcs
      obtain ⟨rfl, rfl, rfl⟩ := hcs
      exact ⟨[], .inl ⟨rfl, rfl, rfl, rfl⟩⟩
    · simp [Value.cells] at hcs
      obtain ⟨rfl, rfl, rfl⟩ := hcs
      exact ⟨zs, .inr ⟨_, rfl, hl, hm, by simpa using hz, hcell, hwz⟩⟩
  obtain ⟨a1, rfl, rfl, rfl, w1⟩ := open_int Tryd.underlying3 (hval 1 3 v1 rfl rfl) h1
  clear hA0 hval0
  refine (walk a0 len0 cap0 z0 a1 W w0 w1 (tabs_cellAny hL)).mono fun e W' ⟨he, bel⟩ => ?_
  subst he
  exact ⟨_, rfl, _, _, _, [], _, [], hW', trodAll_mk1 (shut_bool Tryd.underlying4 _), (trodAll_cons_mk (Below.trod laidOut (by kernel_rfl) (of_decide_eq_true (by kernel_rfl)) k0 bel lt0) (trodAll_cons_mk (shut_int Tryd.underlying3 w1) trodAll_mk0)), rfl, bel.frame _, fun h => by cases h⟩

theorem over : Rows.cellAnyRow.holds Tryd.pinned (OpenSpec.ofChange Rows.cellAnySpec) :=
  OpenClaim.holds_of_wide 9 Tryd.f9 rfl rfl rfl rfl rfl rfl rfl ⟨rfl, rfl, rfl, rfl, rfl⟩ rfl rfl rfl rfl rfl (by kernel_rfl) Tryd.func9 (by kernel_rfl)
    (of_decide_eq_true (by kernel_rfl)) (by unfold Func.isWrapper; first | (rw [if_pos (by decide +kernel)]; kernel_rfl) | (rw [if_neg (by decide +kernel)]; exact ⟨rfl, rfl⟩))
    (fun os started H enc _ => lifted os started H enc)

theorem cardOver : Rows.CellAnyCardSaid :=
  Claim7.holds_tied_plain_at .later [] [.data] true (true, "4f396e1d14b963e642369da60c586bea4ab32b1863cbf0082d54e6225053dd77") false
    over (fun _ h => by cases h) (by kernel_rfl) (fun _ h => by cases h) cellAny_row_tie rfl ⟨rfl, rfl⟩ (by kernel_rfl) rfl
    (fun f fn hf hfn => by
      obtain rfl : f = 9 := Option.some.inj ((show Tryd.prog.funcNamed Rows.cellAnyRow.func = some 9 by kernel_rfl).symm.trans hf) |>.symm
      obtain rfl : fn = Tryd.f9 := (Option.some.inj (Tryd.func9.symm.trans hfn)).symm
      exact ⟨by kernel_rfl, fun j t ht => by
        rw [Tryd.params9] at ht
        have hm : t ∈ [34, 3] := by simpa using Array.mem_of_getElem? ht
        have hall : ([34, 3].all fun u => !Tryd.prog.wantsStandIn u) = true := by kernel_rfl
        exact (show Tryd.prog.wantsStandIn t = false by simpa using List.all_eq_true.1 hall t hm)⟩)
    (by kernel_rfl)

end Go.Proofs.YtalngmegenlfgaaDoor.cellAny
namespace Go.Proofs.YtalngmegenlfgaaDoor
theorem cellAny_holds : Rows.CellAnyCardSaid := cellAny.cardOver
end Go.Proofs.YtalngmegenlfgaaDoor
