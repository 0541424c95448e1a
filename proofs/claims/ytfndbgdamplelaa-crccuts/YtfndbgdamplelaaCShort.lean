/-
  Layer 2 (crc): the statements' guard 'short'.
-/
import Derived.Test.YtfndbgdamplelaaCFit
import Derived.Test.YtfndbgdamplelaaVRows
namespace Go.Proofs.Ytfndbgdamplelaa
open Go.RowKit

def shortB (ls : List (List Nat)) : Bool := decide (ls.length ≤ 20 ∧ ∀ x ∈ ls, x.length ≤ 300)

set_option maxRecDepth 100000 in
set_option maxHeartbeats 1000000 in
theorem short_any (A : Option Addr) (c : Nat) (ls : List (List Nat)) (w : World) (B : Nat) (hm : ls.length ≤ maxLen) (hr : Row2 w B A ls) :
    Calls Try.prog 9 #[.slice A ls.length c] w fun e w' => e = .returned (.bool (shortB ls)) ∧ w = w' := by
  unfold maxLen at hm
  by_cases h20 : ls.length ≤ 20
  · have hd : decide ((20 : Int) < (ls.length : Int)) = false := by simp; omega
    go_enter Try.func9, Try.ntmps9
    go_wp2
    go_loop [10] (fun i => ∃ k : Nat, k ≤ ls.length ∧ i = .int .i64 k ∧ ∀ x ∈ ls.take k, x.length ≤ 300) (fun i => ls.length - (intOf i).toNat)
    case atStart => exact ⟨0, by omega, rfl, by simp⟩
    case round =>
      obtain ⟨k, hk, rfl, hd2⟩ := hrel
      have HD := Lib.hid hd2; clear hd2
      by_cases hlt : k < ls.length
      · obtain ⟨b, off, A', c', rfl, _, hcell, _, _, hc1, hc2⟩ := hr.at_ hlt
        have hgk : ls.getD k [] = ls[k] := by simp [hlt]
        have hmem : ls.getD k [] ∈ ls := by rw [hgk]; exact List.getElem_mem _
        have htk : ls.take (k + 1) = ls.take k ++ [ls.getD k []] := by rw [List.take_succ_eq_append_getElem hlt, hgk]
        unfold maxLen at hc2
        have HT := Lib.hid htk; have HM := Lib.hid hmem
        clear htk hmem hgk hr
        generalize ls.getD k [] = x at *
        by_cases h300 : x.length ≤ 300
        · have hd3 : decide ((300 : Int) < (x.length : Int)) = false := by simp; omega
          go_wp2
          go_round
          case rel => exact ⟨k + 1, by omega, by go_num, fun y hy => by rw [HT.out] at hy; rcases List.mem_append.1 hy with h | h; exact HD.out y h; simp at h; subst h; exact h300⟩
          case measure => simp [intOf]; omega
        · have hd3 : decide ((300 : Int) < (x.length : Int)) = true := by simp; omega
          have hs : shortB ls = false := by
            refine decide_eq_false fun h => h300 (h.2 x HM.out)
          have HS := Lib.hid hs; clear hs h300
          go_wp2
          go_ret
          exact ⟨by rw [HS.out]; rfl, rfl⟩
      · have hs : shortB ls = true := by
          have e : ls.take k = ls := List.take_of_length_le (by omega)
          have := HD.out
          rw [e] at this
          exact decide_eq_true ⟨h20, this⟩
        have HS := Lib.hid hs; clear hs
        go_wp2
        go_ret
        exact ⟨by rw [HS.out]; rfl, rfl⟩
  · have hd : decide ((20 : Int) < (ls.length : Int)) = true := by simp; omega
    have hs : shortB ls = false := decide_eq_false fun h => h20 h.1
    have HS := Lib.hid hs; clear hs h20
    go_enter Try.func9, Try.ntmps9
    go_wp2
    go_ret
    exact ⟨by rw [HS.out]; rfl, rfl⟩
end Go.Proofs.Ytfndbgdamplelaa
