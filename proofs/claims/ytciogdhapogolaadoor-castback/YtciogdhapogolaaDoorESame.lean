/-
  Layer 12's laws: Same.
-/
import Derived.Test.YtciogdhapogolaaDoorEWd
import Derived.Deep.QuietTactic
namespace Go.Proofs.YtciogdhapogolaaDoor
open Go.RowKit Go.Lib EM

theorem esame_not {a b : List Ev} {k : Nat} (ha : k < a.length) (hb : k < b.length) (h : decide (a[k] = b[k]) = false) : decide (a = b) = false := by
  rw [decide_eq_false_iff_not] at h ⊢
  intro e
  subst e
  exact h rfl
theorem esame_yes {a b : List Ev} (hl : a.length = b.length) (h : ∀ j, j < a.length → a[j]? = b[j]?) : decide (a = b) = true := by
  rw [decide_eq_true_eq]
  refine List.ext_getElem? fun j => ?_
  rcases Nat.lt_or_ge j a.length with hj | hj
  · exact h j hj
  · rw [List.getElem?_eq_none hj, List.getElem?_eq_none (by omega)]
theorem esame_succ {a b : List Ev} {k : Nat} (h : ∀ j, j < k → a[j]? = b[j]?) (hk : a[k]? = b[k]?) : ∀ j, j < k + 1 → a[j]? = b[j]? := by
  intro j hj
  rcases Nat.lt_or_ge j k with h1 | h1
  · exact h j h1
  · obtain rfl : j = k := by omega
    exact hk

set_option maxRecDepth 100000 in
set_option maxHeartbeats 1000000 in
theorem esame_ok (w : World) (a b : List Ev) (A A' : Option Addr) (c c' B : Nat) (ha : evE.Row w B A a) (hb : evE.Row w B A' b) (hB : B ≤ w.heap.size) (hl : a.length ≤ 1000) (_hl : b.length ≤ 1000) :
    Calls Tryd.prog 13 #[.slice A a.length c, .slice A' b.length c'] w fun e w' => e = .returned (.bool (decide (a = b))) ∧ Below w.heap.size w w' := by
  have HA := Lib.hid ha
  have HB := Lib.hid hb
  clear ha hb
  by_cases hlen : a.length = b.length
  · have g0 : ((a.length : Int) != (b.length : Int)) = false := by simp; omega
    generalize hq : decide (a = b) = q
    have HQ := Lib.hid hq
    clear hq
    obtain ⟨n, hn⟩ : ∃ n, n = b.length := ⟨_, rfl⟩
    rw [← hn] at g0 hlen ⊢
    have HN := Lib.hid hn
    have HL := Lib.hid hlen
    clear hn hlen
    go_enter Tryd.func13, Tryd.ntmps13
    go_wp2
    go_loopw [5] (fun i wr => ∃ k : Nat, k ≤ a.length ∧ i = .int .i64 (k : Int) ∧ Below w.heap.size w wr ∧ ∀ j, j < k → a[j]? = b[j]?) (fun i _ => a.length - (RowKit.intOf i).toNat)
    case atStart => exact ⟨0, Nat.zero_le _, rfl, Below.refl _ _, fun j hj => absurd hj (by omega)⟩
    case round =>
      obtain ⟨k, hk, rfl, hbe, hall⟩ := hrel
      have HBE := Lib.hid hbe
      have HALL := Lib.hid hall
      clear hbe hall
      by_cases hlt : k < a.length
      · have g1 : decide ((k : Int) < (a.length : Int)) = true := by simp; omega
        have gn : decide (k < a.length) = true := by simp; omega
        have hkb : k < b.length := by have := HL.out; have := HN.out; omega
        have hkn : k < n := by have := HN.out; omega
        obtain ⟨b0, o0, rfl, hb0, c0, c1, c2, c3, c4⟩ := ev_at (HA.out.below (HBE.out.mono hB)) hlt
        obtain ⟨b1, o1, rfl, hb1, d0, d1, d2, d3, d4⟩ := ev_at (HB.out.below (HBE.out.mono hB)) hkb
        have heq := fun w => run_eqE w a[k] b[k]
        have HNO := Lib.hid (fun h => HQ.out.symm.trans (esame_not hlt hkb h))
        have HYES := Lib.hid (fun h : decide (a[k] = b[k]) = true => show a[k]? = b[k]? by rw [List.getElem?_eq_getElem hlt, List.getElem?_eq_getElem hkb, of_decide_eq_true h])
        generalize decide (a[k] = b[k]) = d at *
        generalize a[k] = x at *
        generalize b[k] = y at *
        obtain ⟨t, kk, dd, x, z⟩ := x
        obtain ⟨t', kk', dd', x', z'⟩ := y
        simp only [evV] at *
        rcases d with _ | _
        · obtain rfl : q = false := HNO.out rfl
          go_wp2_with fail
          go_quiet (fail)
          go_wp2_with fail
          go_ret
          exact ⟨rfl, below_drewN HBE.out _⟩
        · have HY := Lib.hid (HYES.out rfl)
          go_wp2_with fail
          go_quiet (fail)
          go_wp2_with fail
          go_roundw
          case rel => exact ⟨k + 1, by omega, by simp, below_drewN HBE.out _, esame_succ HALL.out HY.out⟩
          case measure => simp [RowKit.intOf]; omega
      · have g1 : decide ((k : Int) < (a.length : Int)) = false := by simp; omega
        have gn : decide (k < a.length) = false := by simp; omega
        obtain rfl : k = a.length := by omega
        obtain rfl : q = true := HQ.out.symm.trans (esame_yes (by rw [HL.out, HN.out]) HALL.out)
        go_wp2_with fail
        go_ret
        exact ⟨rfl, HBE.out⟩
  · have g0 : ((a.length : Int) != (b.length : Int)) = true := by simp; omega
    have e : decide (a = b) = false := by simp; intro e; exact hlen (by rw [e])
    rw [e]
    clear e
    go_enter Tryd.func13, Tryd.ntmps13
    go_wp2
    go_ret
    exact ⟨rfl, Below.refl _ _⟩
end Go.Proofs.YtciogdhapogolaaDoor
