/-
  JsonTimes' walk: times come back, whatever is behind them, and have six places.
-/
import Derived.Test.YtkoikbfcjfikhaaDoorJUntime
set_option linter.unusedVariables false
namespace Go.Proofs.YtkoikbfcjfikhaaDoor.jsonTimes
open Go.RowKit

theorem and62 (n : Int) : bits .and .i64 n 4611686018427387903 = n % 4611686018427387904 := by
  have hm : (BitVec.ofInt 64 4611686018427387903).toNat = 2 ^ 62 - 1 := by decide
  have key : (BitVec.ofInt 64 n &&& BitVec.ofInt 64 4611686018427387903).toNat = (n % ((2 ^ 64 : Nat) : Int)).toNat % 2 ^ 62 := by
    rw [BitVec.toNat_and, BitVec.toNat_ofInt, hm, Nat.and_two_pow_sub_one_eq_mod]
  show IntKind.i64.wrap ((BitVec.ofInt 64 n &&& BitVec.ofInt 64 4611686018427387903).toNat : Nat) = n % 4611686018427387904
  rw [key, IntKind.wrap_i64]
  omega

set_option maxHeartbeats 4000000 in
set_option maxRecDepth 100000 in
theorem walk (n : Int) (more : ByteArray) (w : World) (hn : (Lit.int .i64 n).wf = true) (hm : more.size ≤ maxLen) (hF : Fmt w) (hN : Num w) :
    Calls Tryd.prog 6 #[.int .i64 n, .string more] w fun e w' => e = .returned (.bool true) ∧ Below w.heap.size w w' := by
  have hb := and62 n
  obtain ⟨z, hz⟩ : ∃ z : Int, z = n % 4611686018427387904 := ⟨_, rfl⟩
  rw [← hz] at hb
  have z0 : 0 ≤ z := by omega
  have z1 : z < 4611686018427387904 := by omega
  clear hz
  by_cases h50 : 50 < more.size
  · have g : decide ((50 : Int) < (more.size : Int)) = true := by simp; omega
    go_enter Tryd.func6, Tryd.ntmps6
    go_wp2_with (go_at_call 9; refine (fit_ok _ hF).mono ?_; rintro e w1 ⟨rfl, b1⟩)
    go_ret
    exact ⟨rfl, b1⟩
  have g : decide ((50 : Int) < (more.size : Int)) = false := by simp; omega
  have htime := fun (w : World) (h : Fmt w) => time_ok z z0 (by omega) w h
  have hT : timeL z.toNat = JM.timeL z.toNat := rfl
  obtain ⟨T, hTT⟩ : ∃ T, T = timeL z.toNat := ⟨_, rfl⟩
  obtain ⟨k1, k2, k3⟩ := JM.six (z.toNat % 1000000) (by omega)
  have hpos : 1 ≤ (Lib.decDigits (z.toNat / 1000000)).length := List.length_pos_iff.2 (JM.dec_ne _)
  have hdl : (Lib.decDigits (z.toNat / 1000000)).length ≤ 20 := decDigits_len _ (by omega)
  have hTl : T.length = (Lib.decDigits (z.toNat / 1000000)).length + 7 := by
    rw [hTT]; unfold timeL
    rw [List.length_append, List.length_append, k1]; rfl
  have hT46 : T.getD (T.length - 7) 0 = 46 := by
    rw [hTl, Nat.add_sub_cancel, hTT]; unfold timeL
    rw [List.append_assoc, List.getD_eq_getElem?_getD, List.getElem?_append_right (Nat.le_refl _), Nat.sub_self]
    rfl
  obtain ⟨S, hS⟩ : ∃ S, S = tx T := ⟨_, rfl⟩
  have hSz : S.size = T.length := by rw [hS, tx_size]
  have hSl : S.data.toList = T := by rw [hS, tx_list]
  have hix := index_at S .i64 ((S.size : Int) - 7) (T.length - 7) (by omega) (by omega)
  rw [hSl, hT46] at hix
  have htm := JM.utm_time z.toNat (by omega) more.data.toList
  rw [← hT, ← hTT] at htm
  have hcat : (S ++ more).data.toList = T ++ more.data.toList := by
    rw [hS]
    have := tx_add T more.data.toList
    rw [tx_of] at this
    rw [this, tx_list]
  have hunt := fun (w : World) (h : Num w) => untime_ok (S ++ more) (by rw [ByteArray.size_append]; omega) w h
  rw [hcat, htm, numV_some, tx_of] at hunt
  have hzz : ((z.toNat : Nat) : Int) = z := by omega
  rw [hzz] at hunt
  rw [← hTT, ← hS] at htime
  have s8 : decide ((8 : Int) ≤ (S.size : Int)) = true := by simp; omega
  have sz : S.size ≤ 100 := by omega
  have m50 : more.size ≤ 50 := by omega
  have sz7 : 8 ≤ S.size := by omega
  clear hT hTT hTl hT46 hS hSz hSl htm hcat hzz k1 k2 k3 hpos hdl h50 hm hn
  go_enter Tryd.func6, Tryd.ntmps6
  go_wp2_with (go_at_call 9; refine (fit_ok _ hF).mono ?_; rintro e w1 ⟨rfl, b1⟩; refine Hid.out ?_)
  have hF1 := hF.on b1
  refine Lib.hid ?_
  go_wp2_with (go_at_call 13; refine (htime _ hF1).mono ?_; rintro e w2 ⟨rfl, b2⟩; refine Hid.out ?_)
  have hN2 := hN.on (below_next b1 b2)
  refine Lib.hid ?_
  go_wp2_with (go_at_call 14; refine (hunt _ hN2).mono ?_; rintro e w3 ⟨rfl, b3⟩; refine Hid.out ?_)
  refine Lib.hid ?_
  go_wp2
  go_ret
  exact ⟨by simp, below_next (below_next b1 b2) b3⟩
end Go.Proofs.YtkoikbfcjfikhaaDoor.jsonTimes
