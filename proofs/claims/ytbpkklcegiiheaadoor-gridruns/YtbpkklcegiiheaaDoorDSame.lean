/-
  Layer 9 (grid): slices.Equal of cells, slices.EqualFunc of lines, Same.
-/
import Derived.Test.YtbpkklcegiiheaaDoorDGrid
import Derived.Test.YtbpkklcegiiheaaDoorKSame
import Derived.Test.YtbpkklcegiiheaaDoorKRMend
namespace Go.Proofs.YtbpkklcegiiheaaDoor
open Go.RowKit Go.Lib KM

set_option maxRecDepth 100000 in
set_option maxHeartbeats 1000000 in
theorem equalC (w : World) (a b : List Cel) (A A' : Option Addr) (c c' B : Nat) (ha : celE.Row w B A a) (hb : celE.Row w B A' b) (hB : B ≤ w.heap.size) (hl : a.length ≤ 1000) (_hl : b.length ≤ 1000) :
    Calls Tryd.prog 50 #[.slice A a.length c, .slice A' b.length c'] w fun e w' => e = .returned (.bool (decide (a = b))) ∧ Below w.heap.size w w' := by
  have HA := Lib.hid ha
  have HB := Lib.hid hb
  clear ha hb
  by_cases hlen : a.length = b.length
  · have g0 : ((a.length : Int) != (b.length : Int)) = false := by simp; omega
    generalize hq : decide (a = b) = q
    have HQ := Lib.hid hq
    clear hq
    obtain ⟨n, hn⟩ : ∃ n, n = b.length := ⟨_, rfl⟩
    rw [← hn] at g0 hlen ⊢
    have HN := Lib.hid hn
    have HL := Lib.hid hlen
    clear hn hlen
    go_enter Tryd.func50, Tryd.ntmps50
    go_wp2
    go_loopw [13] (fun i wr => ∃ k : Nat, k ≤ a.length ∧ i = .int .i64 (k : Int) ∧ Below w.heap.size w wr ∧ ∀ j, j < k → a[j]? = b[j]?) (fun i _ => a.length - (RowKit.intOf i).toNat)
    case atStart => exact ⟨0, Nat.zero_le _, rfl, Below.refl _ _, fun j hj => absurd hj (by omega)⟩
    case round =>
      obtain ⟨k, hk, rfl, hbe, hall⟩ := hrel
      have HBE := Lib.hid hbe
      have HALL := Lib.hid hall
      clear hbe hall
      by_cases hlt : k < a.length
      · have g1 : decide ((k : Int) < (a.length : Int)) = true := by simp; omega
        have gn : decide (k < a.length) = true := by simp; omega
        have hkb : k < b.length := by have := HL.out; have := HN.out; omega
        have hkn : k < n := by have := HN.out; omega
        obtain ⟨b0, o0, rfl, hb0, c0, c1, c2, c3, c4, c5⟩ := cel_at (HA.out.below (HBE.out.mono hB)) hlt
        obtain ⟨b1, o1, rfl, hb1, d0, d1, d2, d3, d4, d5⟩ := cel_at (HB.out.below (HBE.out.mono hB)) hkb
        have heq := fun w => run_eqC w a[k] b[k]
        have HNO := Lib.hid (fun h => HQ.out.symm.trans (same_not hlt hkb h))
        have HYES := Lib.hid (fun h : decide (a[k] = b[k]) = true => show a[k]? = b[k]? by rw [List.getElem?_eq_getElem hlt, List.getElem?_eq_getElem hkb, of_decide_eq_true h])
        generalize decide (a[k] = b[k]) = d at *
        generalize a[k] = x at *
        generalize b[k] = y at *
        obtain ⟨r, ⟨bo, u, t, f, ba⟩⟩ := x
        obtain ⟨r', ⟨bo', u', t', f', ba'⟩⟩ := y
        simp only [celV] at *
        rcases d with _ | _
        · obtain rfl : q = false := HNO.out rfl
          go_wp2_with fail
          go_quiet (fail)
          go_wp2_with fail
          go_ret
          exact ⟨rfl, below_drewN HBE.out _⟩
        · have HY := Lib.hid (HYES.out rfl)
          go_wp2_with fail
          go_quiet (fail)
          go_wp2_with fail
          go_roundw
          case rel => exact ⟨k + 1, by omega, by simp, below_drewN HBE.out _, upto_succ HALL.out HY.out⟩
          case measure => simp [RowKit.intOf]; omega
      · have g1 : decide ((k : Int) < (a.length : Int)) = false := by simp; omega
        have gn : decide (k < a.length) = false := by simp; omega
        obtain rfl : k = a.length := by omega
        obtain rfl : q = true := HQ.out.symm.trans (same_yes (by rw [HL.out, HN.out]) HALL.out)
        go_wp2_with fail
        go_ret
        exact ⟨rfl, HBE.out⟩
  · have g0 : ((a.length : Int) != (b.length : Int)) = true := by simp; omega
    have e : decide (a = b) = false := by simp; intro e; exact hlen (by rw [e])
    rw [e]
    clear e
    go_enter Tryd.func50, Tryd.ntmps50
    go_wp2
    go_ret
    exact ⟨rfl, Below.refl _ _⟩

theorem lsame_not {a b : List (List Cel)} {k : Nat} (ha : k < a.length) (hb : k < b.length) (h : decide (a[k] = b[k]) = false) : decide (a = b) = false := by
  rw [decide_eq_false_iff_not] at h ⊢
  intro e
  subst e
  exact h rfl
theorem lsame_yes {a b : List (List Cel)} (hl : a.length = b.length) (h : ∀ j, j < a.length → a[j]? = b[j]?) : decide (a = b) = true := by
  rw [decide_eq_true_eq]
  refine List.ext_getElem? fun j => ?_
  rcases Nat.lt_or_ge j a.length with hj | hj
  · exact h j hj
  · rw [List.getElem?_eq_none hj, List.getElem?_eq_none (by omega)]
/-- A line that is read off lines. -/
theorem LinesAt.at_ {w : World} {N : Nat → Prop} {A : Option Addr} {LL : List (List Cel)} (h : LinesAt w N A LL) {j : Nat} (hj : j < LL.length) : ∃ b off A' c', A = some ⟨b, off, none⟩ ∧ b < w.heap.size ∧ w.cell? ⟨b, off + j, none⟩ = some (.slice A' LL[j].length c') ∧ celE.Row w w.heap.size A' LL[j] ∧ (A' = none → c' = 0) := by
  obtain ⟨b, off, e, hb, _, hc⟩ := h (by omega)
  obtain ⟨A', c', h1, h2, _, h4⟩ := hc j hj
  exact ⟨b, off, A', c', e, hb, h1, h2, h4⟩

set_option maxRecDepth 100000 in
set_option maxHeartbeats 2000000 in
theorem lequal_ok (w : World) {N N' : Nat → Prop} (a b : List (List Cel)) (A A' : Option Addr) (c c' : Nat) (ha : LinesAt w N A a) (hb : LinesAt w N' A' b) (h1 : ∀ l ∈ a, l.length ≤ 1000) (h2 : ∀ l ∈ b, l.length ≤ 1000) (_hl : a.length ≤ 1000) (_hl' : b.length ≤ 1000) :
    Calls Tryd.prog 15 #[.slice A a.length c, .slice A' b.length c'] w fun e w' => e = .returned (.bool (decide (a = b))) ∧ Below w.heap.size w w' := by
  have HA := Lib.hid ha
  have HB := Lib.hid hb
  have H1 := Lib.hid h1
  have H2 := Lib.hid h2
  clear ha hb h1 h2
  by_cases hlen : a.length = b.length
  · have g0 : ((a.length : Int) != (b.length : Int)) = false := by simp; omega
    generalize hq : decide (a = b) = q
    have HQ := Lib.hid hq
    clear hq
    obtain ⟨n, hn⟩ : ∃ n, n = b.length := ⟨_, rfl⟩
    rw [← hn] at g0 hlen ⊢
    have HN := Lib.hid hn
    have HL := Lib.hid hlen
    clear hn hlen
    go_enter Tryd.func15, Tryd.ntmps15
    go_wp2
    go_loopw [13] (fun i wr => ∃ k : Nat, k ≤ a.length ∧ i = .int .i64 (k : Int) ∧ Below w.heap.size w wr ∧ ∀ j, j < k → a[j]? = b[j]?) (fun i _ => a.length - (RowKit.intOf i).toNat)
    case atStart => exact ⟨0, Nat.zero_le _, rfl, Below.refl _ _, fun j hj => absurd hj (by omega)⟩
    case round =>
      obtain ⟨k, hk, rfl, hbe, hall⟩ := hrel
      have HBE := Lib.hid hbe
      have HALL := Lib.hid hall
      clear hbe hall
      by_cases hlt : k < a.length
      · have g1 : decide ((k : Int) < (a.length : Int)) = true := by simp; omega
        have gn : decide (k < a.length) = true := by simp; omega
        have hkb : k < b.length := by have := HL.out; have := HN.out; omega
        have hkn : k < n := by have := HN.out; omega
        obtain ⟨wd, hwd⟩ : ∃ wd, wd = wr.drew := ⟨_, rfl⟩
        have hbd : Below w.heap.size w wd := HBE.out.trans (by rw [hwd]; exact (Below.refl _ _).drew)
        obtain ⟨b0, o0, A0, c0, rfl, _, d0, r0, _⟩ := (HA.out.below hbd).at_ hlt
        obtain ⟨b1, o1, A1, c1, rfl, _, d1, r1, _⟩ := (HB.out.below hbd).at_ hkb
        have HNO := Lib.hid (fun h => HQ.out.symm.trans (lsame_not hlt hkb h))
        have HYES := Lib.hid (fun h : decide (a[k] = b[k]) = true => show a[k]? = b[k]? by rw [List.getElem?_eq_getElem hlt, List.getElem?_eq_getElem hkb, of_decide_eq_true h])
        have HSM := Lib.hid (same_ok wd a[k] b[k] A0 A1 c0 c1 wd.heap.size r0 r1 (Nat.le_refl _) (H1.out _ (List.getElem_mem _)) (H2.out _ (List.getElem_mem _)))
        have WD := Lib.hid hwd
        have HBD := Lib.hid hbd
        clear hwd hbd r0 r1
        generalize decide (a[k] = b[k]) = d at *
        generalize a[k].length = m0 at *
        generalize b[k].length = m1 at *
        rcases d with _ | _
        · obtain rfl : q = false := HNO.out rfl
          go_wp2_with fail
          refine still_at 8 wd WD.out (by kernel_rfl) (by kernel_rfl) ?_
          simp only [List.take_succ_cons, List.take_zero, List.drop_succ_cons, List.drop_zero]
          repeat still_step
          refine wpStill_nil ?_
          go_wp2_with fail
          refine HSM.out.mono ?_
          rintro e w2 ⟨rfl, hb2⟩
          have HB2 := Lib.hid (HBD.out.trans (hb2.mono HBD.out.size))
          clear hb2
          go_wp2_with fail
          go_ret
          exact ⟨rfl, HB2.out⟩
        · have HY := Lib.hid (HYES.out rfl)
          go_wp2_with fail
          refine still_at 8 wd WD.out (by kernel_rfl) (by kernel_rfl) ?_
          simp only [List.take_succ_cons, List.take_zero, List.drop_succ_cons, List.drop_zero]
          repeat still_step
          refine wpStill_nil ?_
          go_wp2_with fail
          refine HSM.out.mono ?_
          rintro e w2 ⟨rfl, hb2⟩
          have HB2 := Lib.hid (HBD.out.trans (hb2.mono HBD.out.size))
          clear hb2
          go_wp2_with fail
          go_roundw
          case rel => exact ⟨k + 1, by omega, by simp, HB2.out, upto_succ HALL.out HY.out⟩
          case measure => simp [RowKit.intOf]; omega
      · have g1 : decide ((k : Int) < (a.length : Int)) = false := by simp; omega
        have gn : decide (k < a.length) = false := by simp; omega
        obtain rfl : k = a.length := by omega
        obtain rfl : q = true := HQ.out.symm.trans (lsame_yes (by rw [HL.out, HN.out]) HALL.out)
        go_wp2_with fail
        go_ret
        exact ⟨rfl, HBE.out⟩
  · have g0 : ((a.length : Int) != (b.length : Int)) = true := by simp; omega
    have e : decide (a = b) = false := by simp; intro e; exact hlen (by rw [e])
    rw [e]
    clear e
    go_enter Tryd.func15, Tryd.ntmps15
    go_wp2
    go_ret
    exact ⟨rfl, Below.refl _ _⟩

set_option maxRecDepth 100000 in
set_option maxHeartbeats 2000000 in
theorem equalFunc_ok (w : World) {N N' : Nat → Prop} (a b : List (List Cel)) (A A' : Option Addr) (c c' : Nat) (ha : LinesAt w N A a) (hb : LinesAt w N' A' b) (h1 : ∀ l ∈ a, l.length ≤ 1000) (h2 : ∀ l ∈ b, l.length ≤ 1000) (_hl : a.length ≤ 1000) (_hl' : b.length ≤ 1000) :
    Calls Tryd.prog 49 #[.slice A a.length c, .slice A' b.length c', .func (.func 50) #[] #[]] w fun e w' => e = .returned (.bool (decide (a = b))) ∧ Below w.heap.size w w' := by
  have HA := Lib.hid ha
  have HB := Lib.hid hb
  have H1 := Lib.hid h1
  have H2 := Lib.hid h2
  clear ha hb h1 h2
  by_cases hlen : a.length = b.length
  · have g0 : ((a.length : Int) != (b.length : Int)) = false := by simp; omega
    generalize hq : decide (a = b) = q
    have HQ := Lib.hid hq
    clear hq
    obtain ⟨n, hn⟩ : ∃ n, n = b.length := ⟨_, rfl⟩
    rw [← hn] at g0 hlen ⊢
    have HN := Lib.hid hn
    have HL := Lib.hid hlen
    clear hn hlen
    go_enter Tryd.func49, Tryd.ntmps49
    go_wp2_with fail
    go_loopw [17] (fun i wr => ∃ k : Nat, k ≤ a.length ∧ i = .int .i64 (k : Int) ∧ Below w.heap.size w wr ∧ ∀ j, j < k → a[j]? = b[j]?) (fun i _ => a.length - (RowKit.intOf i).toNat)
    case atStart => exact ⟨0, Nat.zero_le _, rfl, Below.refl _ _, fun j hj => absurd hj (by omega)⟩
    case round =>
      obtain ⟨k, hk, rfl, hbe, hall⟩ := hrel
      have HBE := Lib.hid hbe
      have HALL := Lib.hid hall
      clear hall
      by_cases hlt : k < a.length
      · have g1 : decide ((k : Int) < (a.length : Int)) = true := by simp; omega
        have gn : decide (k < a.length) = true := by simp; omega
        have hkb : k < b.length := by have := HL.out; have := HN.out; omega
        have hkn : k < n := by have := HN.out; omega
        obtain ⟨b0, o0, A0, c0, rfl, _, d0, r0, _⟩ := (HA.out.below hbe).at_ hlt
        obtain ⟨b1, o1, A1, c1, rfl, _, d1, r1, _⟩ := (HB.out.below hbe).at_ hkb
        have HNO := Lib.hid (fun h => HQ.out.symm.trans (lsame_not hlt hkb h))
        have HYES := Lib.hid (fun h : decide (a[k] = b[k]) = true => show a[k]? = b[k]? by rw [List.getElem?_eq_getElem hlt, List.getElem?_eq_getElem hkb, of_decide_eq_true h])
        have HSM := Lib.hid (equalC wr a[k] b[k] A0 A1 c0 c1 wr.heap.size r0 r1 (Nat.le_refl _) (H1.out _ (List.getElem_mem _)) (H2.out _ (List.getElem_mem _)))
        clear hbe r0 r1
        generalize decide (a[k] = b[k]) = d at *
        generalize a[k].length = m0 at *
        generalize b[k].length = m1 at *
        rcases d with _ | _
        · obtain rfl : q = false := HNO.out rfl
          go_wp2_with fail
          refine HSM.out.mono ?_
          rintro e w2 ⟨rfl, hb2⟩
          have HB2 := Lib.hid (HBE.out.trans (hb2.mono HBE.out.size))
          clear hb2
          go_wp2_with fail
          go_ret
          exact ⟨rfl, HB2.out⟩
        · have HY := Lib.hid (HYES.out rfl)
          go_wp2_with fail
          refine HSM.out.mono ?_
          rintro e w2 ⟨rfl, hb2⟩
          have HB2 := Lib.hid (HBE.out.trans (hb2.mono HBE.out.size))
          clear hb2
          go_wp2_with fail
          go_roundw
          case rel => exact ⟨k + 1, by omega, by simp, HB2.out, upto_succ HALL.out HY.out⟩
          case measure => simp [RowKit.intOf]; omega
      · have g1 : decide ((k : Int) < (a.length : Int)) = false := by simp; omega
        have gn : decide (k < a.length) = false := by simp; omega
        obtain rfl : k = a.length := by omega
        obtain rfl : q = true := HQ.out.symm.trans (lsame_yes (by rw [HL.out, HN.out]) HALL.out)
        go_wp2_with fail
        go_ret
        exact ⟨rfl, HBE.out⟩
  · have g0 : ((a.length : Int) != (b.length : Int)) = true := by simp; omega
    have e : decide (a = b) = false := by simp; intro e; exact hlen (by rw [e])
    rw [e]
    clear e
    go_enter Tryd.func49, Tryd.ntmps49
    go_wp2_with fail
    go_ret
    exact ⟨rfl, Below.refl _ _⟩
end Go.Proofs.YtbpkklcegiiheaaDoor
