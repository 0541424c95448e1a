/-
  JsonAny's walk: any text begins with the quote of the text that is told, or with none.
-/
import Derived.Test.YtkoikbfcjfikhaaDoorJUnq
import Derived.Test.YtkoikbfcjfikhaaDoorJRunes
set_option linter.unusedVariables false
namespace Go.Proofs.YtkoikbfcjfikhaaDoor
open Go.RowKit

set_option maxHeartbeats 1000000 in
set_option maxRecDepth 100000 in
theorem whole_ok (l : List UInt8) (hl : l.length ≤ 1000000) (w : World) :
    Calls Tryd.prog 12 #[.string (tx l)] w fun e w' => e = .returned (.string (tx (JM.whole l))) ∧ Below w.heap.size w w' := by
  obtain ⟨cap, W, h1, b1, -, hR, -⟩ := run_runes w (tx l) (by rw [tx_size]; exact hl)
  rw [tx_list] at h1 hR
  have h2 := run_back W _ cap (JM.runes l) (fun r hr => good_le (JM.runes_good l r hr)) hR
  have HW := Lib.hid (show JM.whole l = (JM.runes l).flatMap JM.enc from rfl)
  generalize JM.runes l = rs at *
  clear hR
  go_enter Tryd.func12, Tryd.ntmps12
  go_wp2
  go_ret
  refine ⟨?_, b1⟩
  rw [HW.out]
  rfl

namespace jsonAny
set_option maxHeartbeats 4000000 in
set_option maxRecDepth 100000 in
theorem walk (s : ByteArray) (w : World) (hs : s.size ≤ maxLen) (hF : Fmt w) (hN : Num w) (hU : Utf w) :
    Calls Tryd.prog 4 #[.string s] w fun e w' => e = .returned (.bool true) ∧ Below w.heap.size w w' := by
  obtain ⟨l, rfl⟩ : ∃ l, s = tx l := ⟨s.data.toList, (tx_of s).symm⟩
  rw [tx_size] at hs
  by_cases h300 : 300 < l.length
  · have g : decide ((300 : Int) < (l.length : Int)) = true := by simp; omega
    go_enter Tryd.func4, Tryd.ntmps4
    go_wp2_with (go_at_call 9; refine (fit_ok _ hF).mono ?_; rintro e w1 ⟨rfl, b1⟩)
    go_ret
    exact ⟨rfl, b1⟩
  have g : decide ((300 : Int) < (l.length : Int)) = false := by simp; omega
  have hunq := fun w a b c => unquote_ok l (by omega) w a b c
  cases hu : JM.unq l with
  | none =>
    rw [hu, unV_none] at hunq
    clear hu h300
    go_enter Tryd.func4, Tryd.ntmps4
    go_wp2_with (go_at_call 9; refine (fit_ok _ hF).mono ?_; rintro e w1 ⟨rfl, b1⟩; refine Hid.out ?_)
    have hF1 := hF.on b1
    have hN1 := hN.on b1
    have hU1 := hU.on b1
    refine Lib.hid ?_
    go_wp2_with (go_at_call 11; refine (hunq _ hF1 hN1 hU1).mono ?_; rintro e w2 ⟨rfl, b2⟩)
    go_ret
    exact ⟨by simp, below_next b1 b2⟩
  | some rr =>
    obtain ⟨rs, rest⟩ := rr
    obtain ⟨hgood, hback⟩ := JM.unq_sound hu
    rw [hu, unV_some] at hunq
    have hlq := congrArg List.length hback
    rw [List.length_append] at hlq
    have hrl : rs.length ≤ 300 := by
      have h1 : (JM.quote (rs.flatMap JM.enc)).length = 2 + (rs.flatMap JM.wr).length := by
        unfold JM.quote
        rw [JM.runes_flat _ hgood]
        simp; omega
      have h2 : rs.length ≤ (rs.flatMap JM.wr).length := by
        clear hgood hback hunq hu hlq h1
        induction rs with
        | nil => simp
        | cons r rs ih =>
          have := List.length_pos_iff.2 (JM.wr_ne r)
          rw [List.flatMap_cons, List.length_append, List.length_cons]
          omega
      omega
    have hfl := JM.flat_len JM.enc 4 rs (fun r => (JM.enc_len r).2)
    have hwh : JM.whole (rs.flatMap JM.enc) = rs.flatMap JM.enc := by unfold JM.whole; rw [JM.runes_flat _ hgood]
    have hq := fun w h => quote_ok (tx (rs.flatMap JM.enc)) (by rw [tx_size]; omega) w h
    have hw := fun w => whole_ok (rs.flatMap JM.enc) (by omega) w
    rw [tx_list] at hq
    rw [hwh] at hw
    have hcat : tx (JM.quote (rs.flatMap JM.enc)) ++ tx rest = tx l := by rw [tx_add, hback]
    have hq2 : (JM.quote (rs.flatMap JM.enc)).length ≤ 300 := by omega
    have hr2 : rest.length ≤ 300 := by omega
    generalize JM.quote (rs.flatMap JM.enc) = Q at *
    generalize rs.flatMap JM.enc = T at *
    clear hu hgood hback hlq hwh h300
    go_enter Tryd.func4, Tryd.ntmps4
    go_wp2_with (go_at_call 9; refine (fit_ok _ hF).mono ?_; rintro e w1 ⟨rfl, b1⟩; refine Hid.out ?_)
    have hF1 := hF.on b1
    have hN1 := hN.on b1
    have hU1 := hU.on b1
    refine Lib.hid ?_
    go_wp2_with (go_at_call 11; refine (hunq _ hF1 hN1 hU1).mono ?_; rintro e w2 ⟨rfl, b2⟩; refine Hid.out ?_)
    have hF2 := hF1.on b2
    refine Lib.hid ?_
    go_wp2_with (first
      | (go_at_call 10; refine (hq _ hF2).mono ?_; rintro e w3 ⟨rfl, b3⟩)
      | (go_at_call 12; refine (hw _).mono ?_; rintro e w4 ⟨rfl, b4⟩))
    go_ret
    exact ⟨by simp, below_next (below_next (below_next b1 b2) b3) b4⟩
end jsonAny
end Go.Proofs.YtkoikbfcjfikhaaDoor
