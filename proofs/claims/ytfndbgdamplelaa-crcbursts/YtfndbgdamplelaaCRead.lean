/-
  Layer 2 (crc): what readSum answers.
-/
import Derived.Test.YtfndbgdamplelaaCSum
import Derived.Deep.QuietTactic
import Derived.BigQuiet
namespace Go.Proofs.Ytfndbgdamplelaa
open Go.RowKit

theorem join4 (a b c d : Nat) (ha : a < 256) (hb : b < 256) (hc : c < 256) :
    a ||| (b * 256) ||| (c * 65536) ||| (d * 16777216) = a + 256 * b + 65536 * c + 16777216 * d := by
  rw [Nat.or_comm a, nat_join 8 (b * 256) a (by omega) (by omega), Nat.or_comm _ (c * 65536), nat_join 16 (c * 65536) _ (by omega) (by omega), Nat.or_comm _ (d * 16777216), nat_join 24 (d * 16777216) _ (by omega) (by omega)]
  omega

theorem join4_bits (a b c d : Nat) (ha : a < 256) (hb : b < 256) (hc : c < 256) (hd : d < 256) :
    bits .or .u32 (bits .or .u32 (bits .or .u32 (a : Int) ((b : Int) * 256)) ((c : Int) * 65536)) ((d : Int) * 16777216) = ((a + 256 * b + 65536 * c + 16777216 * d : Nat) : Int) := by
  have e : ∀ x y : Nat, (x : Int) * (y : Int) = ((x * y : Nat) : Int) := fun _ _ => by push_cast; rfl
  have p : ∀ x y : Nat, x < 4294967296 → y < 4294967296 → x ||| y < 4294967296 := fun x y hx hy => Nat.or_lt_two_pow (n := 32) hx hy
  rw [show ((b : Int) * 256) = ((b * 256 : Nat) : Int) from e b 256, show ((c : Int) * 65536) = ((c * 65536 : Nat) : Int) from e c 65536, show ((d : Int) * 16777216) = ((d * 16777216 : Nat) : Int) from e d 16777216]
  have p1 := p a (b * 256) (by omega) (by omega)
  have p2 := p _ (c * 65536) p1 (by omega)
  rw [u32_or_nat _ _ (by omega) (by omega), u32_or_nat _ _ p1 (by omega), u32_or_nat _ _ p2 (by omega), join4 a b c d ha hb hc]

set_option maxRecDepth 100000 in
set_option maxHeartbeats 400000 in
theorem readSum_any (A : Option Addr) (c : Nat) (l : List Nat) (w : World) (B : Nat) (hm : l.length ≤ maxLen) (h4 : 4 ≤ l.length) (hr : Row w B .u8 A l) (hb : ∀ c ∈ l, c < 256) :
    Calls Try.prog 17 #[.slice A l.length c] w fun e w' => e = .returned (.int .u32 (CM.rd4 l : Nat)) ∧ ∃ n, w' = w.drewN n := by
  unfold maxLen at hm
  obtain ⟨b, off, rfl, _, hc0⟩ := hr.at_ (j := 0) (by omega)
  obtain ⟨b1, off1, e1, _, hc1⟩ := hr.at_ (j := 1) (by omega)
  obtain ⟨b2, off2, e2, _, hc2⟩ := hr.at_ (j := 2) (by omega)
  obtain ⟨b3, off3, e3, _, hc3⟩ := hr.at_ (j := 3) (by omega)
  cases e1; cases e2; cases e3
  have g : ∀ j, j < l.length → l.getD j 0 < 256 := fun j hj => by
    have : l.getD j 0 = l[j] := by simp [hj]
    rw [this]; exact hb _ (List.getElem_mem _)
  have g0 := g 0 (by omega); have g1 := g 1 (by omega); have g2 := g 2 (by omega); have g3 := g 3 (by omega)
  have HR : Hid (CM.rd4 l = l.getD 0 0 + 256 * l.getD 1 0 + 65536 * l.getD 2 0 + 16777216 * l.getD 3 0) := rfl
  clear g hr hb
  rw [Nat.add_zero] at hc0
  generalize l.getD 0 0 = x0 at *
  generalize l.getD 1 0 = x1 at *
  generalize l.getD 2 0 = x2 at *
  generalize l.getD 3 0 = x3 at *
  have HJ := Lib.hid (join4_bits x0 x1 x2 x3 g0 g1 g2 g3)
  go_enter Try.func17, Try.ntmps17
  go_wp2
  go_quiet (fail)
  go_wp2
  go_ret
  exact ⟨ret_int (by rw [HR.out]; exact HJ.out), nq, rfl⟩
end Go.Proofs.Ytfndbgdamplelaa
