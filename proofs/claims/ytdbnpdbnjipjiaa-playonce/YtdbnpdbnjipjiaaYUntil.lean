/-
  Layer 15's laws: the reference's Until changes nothing.
-/
import Derived.Test.YtdbnpdbnjipjiaaEUntil
namespace Go.Proofs.Ytdbnpdbnjipjiaa
open Go.RowKit Go.Lib EM
set_option maxRecDepth 100000

theorem runtil_same (w : World) (l : List Ev) (A : Option Addr) (c B : Nat) (t : Int) (hr : evE.Row w B A l) (hl : l.length ≤ 1000) :
    Calls Try.prog 25 #[.slice A l.length c, .int .i64 t] w fun e w' => e = .returned (.int .i64 (upTo l t : Nat)) ∧ w' = w := by
  have HR := Lib.hid hr
  clear hr
  go_enter Try.func25, Try.ntmps25
  go_wp2
  go_loopw [5, 6] (fun n i wr => ∃ k q : Nat, k ≤ l.length ∧ i = .int .i64 (k : Int) ∧ n = .int .i64 (q : Int) ∧ q = upTo (l.take k) t ∧ q ≤ 1000 ∧ wr = w) (fun _ i _ => l.length - (RowKit.intOf i).toNat)
  case atStart => exact ⟨0, 0, Nat.zero_le _, rfl, rfl, rfl, Nat.zero_le _, rfl⟩
  case round =>
    obtain ⟨k, q, hk, rfl, rfl, hq, hq1, rfl⟩ := hrel
    have HQ := Lib.hid hq
    clear hq
    by_cases hlt : k < l.length
    · have g1 : decide ((k : Int) < (l.length : Int)) = true := by simp; omega
      have gn : decide (k < l.length) = true := by simp; omega
      obtain ⟨b, off, rfl, hbl, c0, c1, c2, c3, c4⟩ := ev_at HR.out hlt
      have HS := Lib.hid (upTo_succ l t k hlt)
      have HLE := Lib.hid (upTo_le (l.take (k + 1)) t)
      generalize l[k] = y at *
      obtain ⟨yt, yk, yd, yx, yz⟩ := y
      simp only at c0 HS
      clear c1 c2 c3 c4
      by_cases hyt : yt ≤ t
      · have g2 : decide (yt ≤ t) = true := by simpa
        have HN := Lib.hid (show q + 1 = upTo (l.take (k + 1)) t by rw [HS.out, if_pos hyt, HQ.out])
        have hq2 : q + 1 ≤ 1000 := by have := HLE.out; have := HN.out; rw [List.length_take] at *; omega
        clear hyt
        go_wp2_with fail
        go_roundw
        case rel => exact ⟨k + 1, q + 1, by omega, by simp, by simp, HN.out, hq2, trivial⟩
        case measure => simp [RowKit.intOf]; omega
      · have g2 : decide (yt ≤ t) = false := by simpa using hyt
        have HN := Lib.hid (show q = upTo (l.take (k + 1)) t by rw [HS.out, if_neg hyt, HQ.out, Nat.add_zero])
        clear hyt
        go_wp2_with fail
        go_roundw
        case rel => exact ⟨k + 1, q, by omega, by simp, rfl, HN.out, hq1, trivial⟩
        case measure => simp [RowKit.intOf]; omega
    · have g1 : decide ((k : Int) < (l.length : Int)) = false := by simp; omega
      have gn : decide (k < l.length) = false := by simp; omega
      have HE := Lib.hid (show q = upTo l t by rw [HQ.out, List.take_of_length_le (by omega)])
      go_wp2_with fail
      go_ret
      exact ⟨by rw [← HE.out]; rfl, rfl⟩
end Go.Proofs.Ytdbnpdbnjipjiaa
