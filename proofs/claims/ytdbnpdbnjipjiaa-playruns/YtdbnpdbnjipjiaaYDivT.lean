/-
  Layer 15 (play): the library's division of two words by a speed: all speeds.
-/
import Derived.Test.YtdbnpdbnjipjiaaYDiv
namespace Go.Proofs.Ytdbnpdbnjipjiaa
open Go.RowKit Go.Lib
set_option maxRecDepth 100000

/-- Div64 by a speed. -/
theorem div64_ok (w : World) (hi lo y : Int) (h0 : 0 ≤ hi) (h1 : hi < y) (l0 : 0 ≤ lo) (l1 : lo < 18446744073709551616) (hy : y ≤ 1000) :
    Calls Try.prog 34 #[.int .u64 hi, .int .u64 lo, .int .u64 y] w fun e w' => (∃ r, e = .returned (.tuple #[.int .u64 ((18446744073709551616 * hi + lo) / y), .int .u64 r])) ∧ ∃ n, w' = w.drewN n := by
  by_cases h : hi = 0
  · have g1 : (y == 0) = false := beq_eq_false_iff_ne.2 (by omega)
    have g2 : decide (y ≤ hi) = false := decide_eq_false (by omega)
    subst h
    obtain ⟨Q, hQ⟩ : ∃ Q, lo.tdiv y = Q := ⟨_, rfl⟩
    obtain ⟨R, hR⟩ : ∃ R, lo.tmod y = R := ⟨_, rfl⟩
    have e : (18446744073709551616 * 0 + lo) / y = Q := by rw [← hQ, Int.tdiv_eq_ediv_of_nonneg l0]; congr 1; omega
    have q0 : 0 ≤ Q := by rw [← hQ]; exact Int.tdiv_nonneg l0 (by omega)
    have q1 : Q ≤ lo := by rw [← hQ, Int.tdiv_eq_ediv_of_nonneg l0]; exact Int.ediv_le_self _ l0
    rw [e]
    have q2 : Q ≤ 18446744073709551615 := by omega
    clear e
    go_enter Try.func34, Try.ntmps34
    go_wp2
    go_quiet (fail)
    go_wp2
    go_ret2
    exact ⟨⟨_, rfl⟩, _, rfl⟩
  · have hf := bits_few ⟨y.toNat, by omega⟩ (by show 1 ≤ y.toNat; omega)
    simp only at hf
    obtain ⟨b1, b2, b3, b4⟩ := hf
    generalize hb : Lib.bitLen y.toNat = L at *
    have hL : L = 1 ∨ L = 2 ∨ L = 3 ∨ L = 4 ∨ L = 5 ∨ L = 6 ∨ L = 7 ∨ L = 8 ∨ L = 9 ∨ L = 10 := by omega
    rcases hL with rfl | rfl | rfl | rfl | rfl | rfl | rfl | rfl | rfl | rfl
    · exfalso; simp at b4; omega
    · exact (div_62 w hi lo y h0 h1 l0 l1 (by simp at b3; omega) (by simp at b4; omega) hy hb h).mono fun _ _ h => ⟨h.1, 0, h.2⟩
    · exact (div_61 w hi lo y h0 h1 l0 l1 (by simp at b3; omega) (by simp at b4; omega) hy hb h).mono fun _ _ h => ⟨h.1, 0, h.2⟩
    · exact (div_60 w hi lo y h0 h1 l0 l1 (by simp at b3; omega) (by simp at b4; omega) hy hb h).mono fun _ _ h => ⟨h.1, 0, h.2⟩
    · exact (div_59 w hi lo y h0 h1 l0 l1 (by simp at b3; omega) (by simp at b4; omega) hy hb h).mono fun _ _ h => ⟨h.1, 0, h.2⟩
    · exact (div_58 w hi lo y h0 h1 l0 l1 (by simp at b3; omega) (by simp at b4; omega) hy hb h).mono fun _ _ h => ⟨h.1, 0, h.2⟩
    · exact (div_57 w hi lo y h0 h1 l0 l1 (by simp at b3; omega) (by simp at b4; omega) hy hb h).mono fun _ _ h => ⟨h.1, 0, h.2⟩
    · exact (div_56 w hi lo y h0 h1 l0 l1 (by simp at b3; omega) (by simp at b4; omega) hy hb h).mono fun _ _ h => ⟨h.1, 0, h.2⟩
    · exact (div_55 w hi lo y h0 h1 l0 l1 (by simp at b3; omega) (by simp at b4; omega) hy hb h).mono fun _ _ h => ⟨h.1, 0, h.2⟩
    · exact (div_54 w hi lo y h0 h1 l0 l1 (by simp at b3; omega) (by simp at b4; omega) hy hb h).mono fun _ _ h => ⟨h.1, 0, h.2⟩
end Go.Proofs.Ytdbnpdbnjipjiaa
