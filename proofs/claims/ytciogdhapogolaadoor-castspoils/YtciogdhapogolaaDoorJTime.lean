/-
  Layer 3 (json): Time; and the anchor of the stage's statements (a time, a quote).
-/
import Derived.Test.YtciogdhapogolaaDoorJQuote
import Derived.Lib.ItoaLen
set_option linter.unusedVariables false
namespace Go.Proofs.YtciogdhapogolaaDoor
open Go.RowKit

theorem below_grow (w : World) (k : Nat) (os : Array Obj) : Below w.heap.size w (Sort.grow (w.drewN k) os) :=
  ⟨rfl, rfl, rfl, by show w.heap.size ≤ (w.heap ++ os).size; simp, fun j hj => by show (w.heap ++ os)[j]? = _; simp [Array.getElem?_append, hj]⟩

theorem itoa_ok (n : Int) (h0 : 0 ≤ n) (h1 : n ≤ 9223372036854775807) (w : World) (hF : Fmt w) :
    Calls Tryd.prog 22 #[.int .i64 n] w fun e w' => e = .returned (.string (tx (Lib.decDigits n.toNat))) ∧ Below w.heap.size w w' := by
  refine (Tryd.strconv_Itoa n (by omega) h1 w hF.pow).mono ?_
  rintro e w' ⟨rfl, k, os, rfl⟩
  refine ⟨?_, below_grow w k os⟩
  unfold Lib.itoa
  rw [if_neg (by omega)]

/-- A number of millionths as seconds. -/
def timeL (n : Nat) : List UInt8 := Lib.decDigits (n / 1000000) ++ [46] ++ (Lib.decDigits (1000000 + n % 1000000)).drop 1

theorem decDigits_len (n : Nat) (h : n < 18446744073709551616) : (Lib.decDigits n).length ≤ 20 := by rw [Lib.decDigits_length]; exact Lib.nDigits_le20 n h
theorem seven_len (n : Nat) (h : n < 1000000) : (Lib.decDigits (1000000 + n)).length = 7 := by rw [Lib.decDigits_length]; exact Lib.nDigits_unique 6 _ (by omega) (by omega)

set_option maxHeartbeats 1000000 in
set_option maxRecDepth 100000 in
theorem time_ok (n : Int) (h0 : 0 ≤ n) (h1 : n ≤ 9223372036854775807) (w : World) (hF : Fmt w) :
    Calls Tryd.prog 23 #[.int .i64 n] w fun e w' => e = .returned (.string (tx (timeL n.toNat))) ∧ Below w.heap.size w w' := by
  have q0 : n.tdiv 1000000 = n / 1000000 := Int.tdiv_eq_ediv_of_nonneg h0
  have r0 : n.tmod 1000000 = n % 1000000 := Int.tmod_eq_emod_of_nonneg h0
  obtain ⟨a, ha⟩ : ∃ a, a = Lib.decDigits (n / 1000000).toNat := ⟨_, rfl⟩
  obtain ⟨b, hb⟩ : ∃ b, b = Lib.decDigits (1000000 + n % 1000000).toNat := ⟨_, rfl⟩
  have la : a.length ≤ 20 := by rw [ha]; exact decDigits_len _ (by omega)
  have lb : b.length = 7 := by
    rw [hb, show (1000000 + n % 1000000).toNat = 1000000 + (n % 1000000).toNat by omega]
    exact seven_len _ (by omega)
  have HT := Lib.hid (show timeL n.toNat = a ++ [46] ++ b.drop 1 by
    unfold timeL
    rw [ha, hb, show (n / 1000000).toNat = n.toNat / 1000000 by omega, show (1000000 + n % 1000000).toNat = 1000000 + n.toNat % 1000000 by omega])
  have HA := Lib.hid ha
  have HB := Lib.hid hb
  clear ha hb
  have m0 : 0 ≤ n / 1000000 := by omega
  have m1 : n / 1000000 ≤ 9223372036854775807 := by omega
  have m2 : 0 ≤ n % 1000000 := by omega
  have m3 : n % 1000000 < 1000000 := by omega
  go_enter Tryd.func23, Tryd.ntmps23
  go_wp2_with (go_at_call 22; refine (itoa_ok _ m0 m1 _ hF).mono ?_; rintro e w1 ⟨rfl, b1⟩; rw [← HA.out]; refine Hid.out ?_)
  have hF1 := hF.on b1
  refine Lib.hid ?_
  go_wp2_with (go_at_call 22; refine (itoa_ok _ (by omega) (by omega) _ hF1).mono ?_; rintro e w2 ⟨rfl, b2⟩; rw [← HB.out]; refine Hid.out ?_)
  refine Lib.hid ?_
  go_wp2
  go_ret
  refine ⟨?_, jbelow_next b1 b2⟩
  show Ending.returned (.string (tx a ++ tx [46] ++ (tx b).extract 1 7)) = _
  rw [HT.out, ByteArray.extract_mk, List.take_of_length_le (by simp; omega), tx_add]
  exact congrArg (fun x => Ending.returned (.string x)) (tx_add _ _)

end Go.Proofs.YtciogdhapogolaaDoor
