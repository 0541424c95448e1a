/-
  Layer 15's laws: the reference's Same draws at most.
-/
import Derived.Test.YtdbnpdbnjipjiaaESame
namespace Go.Proofs.Ytdbnpdbnjipjiaa
open Go.RowKit Go.Lib EM

set_option maxRecDepth 100000 in
set_option maxHeartbeats 1000000 in
theorem esame_quiet (w : World) (a b : List Ev) (A A' : Option Addr) (c c' B : Nat) (ha : evE.Row w B A a) (hb : evE.Row w B A' b) (hl : a.length ≤ 1000) (_hl : b.length ≤ 1000) :
    Calls Try.prog 20 #[.slice A a.length c, .slice A' b.length c'] w fun e w' => e = .returned (.bool (decide (a = b))) ∧ ∃ n, w' = w.drewN n := by
  have HA := Lib.hid ha
  have HB := Lib.hid hb
  clear ha hb
  by_cases hlen : a.length = b.length
  · have g0 : ((a.length : Int) != (b.length : Int)) = false := by simp; omega
    generalize hq : decide (a = b) = q
    have HQ := Lib.hid hq
    clear hq
    obtain ⟨n, hn⟩ : ∃ n, n = b.length := ⟨_, rfl⟩
    rw [← hn] at g0 hlen ⊢
    have HN := Lib.hid hn
    have HL := Lib.hid hlen
    clear hn hlen
    go_enter Try.func20, Try.ntmps20
    go_wp2
    go_loopw [5] (fun i wr => ∃ k : Nat, k ≤ a.length ∧ i = .int .i64 (k : Int) ∧ (∃ m, wr = w.drewN m) ∧ ∀ j, j < k → a[j]? = b[j]?) (fun i _ => a.length - (RowKit.intOf i).toNat)
    case atStart => exact ⟨0, Nat.zero_le _, rfl, ⟨0, rfl⟩, fun j hj => absurd hj (by omega)⟩
    case round =>
      obtain ⟨k, hk, rfl, ⟨m, hbe⟩, hall⟩ := hrel
      subst hbe
      have HALL := Lib.hid hall
      clear hall
      by_cases hlt : k < a.length
      · have g1 : decide ((k : Int) < (a.length : Int)) = true := by simp; omega
        have gn : decide (k < a.length) = true := by simp; omega
        have hkb : k < b.length := by have := HL.out; have := HN.out; omega
        have hkn : k < n := by have := HN.out; omega
        obtain ⟨b0, o0, rfl, hb0, c0, c1, c2, c3, c4⟩ := ev_at (HA.out : evE.Row (w.drewN m) B A a) hlt
        obtain ⟨b1, o1, rfl, hb1, d0, d1, d2, d3, d4⟩ := ev_at (HB.out : evE.Row (w.drewN m) B A' b) hkb
        have heq := fun w => run_eqE w a[k] b[k]
        have HNO := Lib.hid (fun h => HQ.out.symm.trans (esame_not hlt hkb h))
        have HYES := Lib.hid (fun h : decide (a[k] = b[k]) = true => show a[k]? = b[k]? by rw [List.getElem?_eq_getElem hlt, List.getElem?_eq_getElem hkb, of_decide_eq_true h])
        generalize decide (a[k] = b[k]) = d at *
        generalize a[k] = x at *
        generalize b[k] = y at *
        obtain ⟨t, kk, dd, x, z⟩ := x
        obtain ⟨t', kk', dd', x', z'⟩ := y
        simp only [evV] at *
        rcases d with _ | _
        · obtain rfl : q = false := HNO.out rfl
          go_wp2_with fail
          go_quiet (fail)
          go_wp2_with fail
          go_ret
          exact ⟨rfl, _, World.drewN_drewN _ _ _⟩
        · have HY := Lib.hid (HYES.out rfl)
          go_wp2_with fail
          go_quiet (fail)
          go_wp2_with fail
          go_roundw
          case rel => exact ⟨k + 1, by omega, by simp, ⟨_, rfl⟩, esame_succ HALL.out HY.out⟩
          case measure => simp [RowKit.intOf]; omega
      · have g1 : decide ((k : Int) < (a.length : Int)) = false := by simp; omega
        have gn : decide (k < a.length) = false := by simp; omega
        obtain rfl : k = a.length := by omega
        obtain rfl : q = true := HQ.out.symm.trans (esame_yes (by rw [HL.out, HN.out]) HALL.out)
        go_wp2_with fail
        go_ret
        exact ⟨rfl, _, rfl⟩
  · have g0 : ((a.length : Int) != (b.length : Int)) = true := by simp; omega
    have e : decide (a = b) = false := by simp; intro e; exact hlen (by rw [e])
    rw [e]
    clear e
    go_enter Try.func20, Try.ntmps20
    go_wp2
    go_ret
    exact ⟨rfl, 0, rfl⟩
end Go.Proofs.Ytdbnpdbnjipjiaa
