/-
  JsonUntimes' walk: any text begins with the time that is told, or with none.
-/
import Derived.Test.YtkoikbfcjfikhaaDoorJUntime
import Derived.Lib.ConvBytes
import Derived.Deep.CutRange
import Derived.Laws.DeepStrings4
set_option linter.unusedVariables false
namespace Go.Proofs.YtkoikbfcjfikhaaDoor.jsonUntimes
open Go.RowKit

set_option maxHeartbeats 4000000 in
set_option maxRecDepth 100000 in
theorem walk (s : ByteArray) (w : World) (hs : s.size ≤ maxLen) (hF : Fmt w) (hN : Num w) :
    Calls Tryd.prog 7 #[.string s] w fun e w' => e = .returned (.bool true) ∧ Below w.heap.size w w' := by
  by_cases h100 : 100 < s.size
  · have g : decide ((100 : Int) < (s.size : Int)) = true := by simp; omega
    go_enter Tryd.func7, Tryd.ntmps7
    go_wp2_with (go_at_call 9; refine (fit_ok _ hF).mono ?_; rintro e w1 ⟨rfl, b1⟩)
    go_ret
    exact ⟨rfl, b1⟩
  have g : decide ((100 : Int) < (s.size : Int)) = false := by simp; omega
  have h100' : s.size ≤ 100 := by omega
  have hunt := fun (w : World) (h : Num w) => untime_ok s (by omega) w h
  have HS := Lib.hid (Lib.size_eq s).symm
  cases hu : JM.utm s.data.toList with
  | some nr =>
    obtain ⟨n, r⟩ := nr
    obtain ⟨hback, hn63⟩ := JM.utm_back hu
    rw [hu, numV_some] at hunt
    have htime := fun (w : World) (h : Fmt w) => time_ok (n : Int) (by omega) (by omega) w h
    rw [Int.toNat_natCast] at htime
    have HB := Lib.hid (show timeL n ++ r = s.data.toList from hback)
    have hl : (timeL n).length + r.length ≤ 100 := by
      have := congrArg List.length hback
      rw [List.length_append, HS.out] at this
      have e : timeL n = JM.timeL n := rfl
      rw [e]; omega
    clear hu hback
    obtain ⟨z, hz⟩ : ∃ z : Int, z = n := ⟨_, rfl⟩
    rw [← hz] at hunt htime
    have gz : decide (0 ≤ z) = true := by simp; omega
    generalize hT : timeL n = T at *
    clear hz hn63 hT
    go_enter Tryd.func7, Tryd.ntmps7
    go_wp2_with (go_at_call 9; refine (fit_ok _ hF).mono ?_; rintro e w1 ⟨rfl, b1⟩; refine Hid.out ?_)
    have hN1 := hN.on b1
    refine Lib.hid ?_
    go_wp2_with (go_at_call 14; refine (hunt _ hN1).mono ?_; rintro e w2 ⟨rfl, b2⟩; refine Hid.out ?_)
    have hF2 := hF.on (below_next b1 b2)
    refine Lib.hid ?_
    go_wp2_with (go_at_call 13; refine (htime _ hF2).mono ?_; rintro e w3 ⟨rfl, b3⟩)
    go_ret
    refine ⟨?_, below_next (below_next b1 b2) b3⟩
    rw [tx_add, HB.out, tx_of]
    simp
  | none =>
    rw [hu, numV_none] at hunt
    have HU := Lib.hid hu
    clear hu
    obtain ⟨K, hK⟩ : ∃ K, K = JM.nd s.data.toList := ⟨_, rfl⟩
    have HK := Lib.hid hK
    have hKs : K ≤ s.size := by rw [hK, ← HS.out]; exact JM.nd_le _
    clear hK
    go_enter Tryd.func7, Tryd.ntmps7
    go_wp2_with (go_at_call 9; refine (fit_ok _ hF).mono ?_; rintro e w1 ⟨rfl, b1⟩; refine Hid.out ?_)
    have hN1 := hN.on b1
    refine Lib.hid ?_
    go_upto_region 9 with (go_at_call 14; refine (hunt _ hN1).mono ?_; rintro e w2 ⟨rfl, b2⟩)
    go_loopw [6] (fun k wr => wr = w2 ∧ ∃ j : Nat, j ≤ K ∧ k = .int .i64 j) (fun k _ => K - (intOf k).toNat)
    case atStart => exact ⟨rfl, 0, Nat.zero_le _, rfl⟩
    case round =>
      obtain ⟨rfl, j, hj, rfl⟩ := hrel
      go_upto_region 9 with fail
      go_cut [46] from 31 to 48 (fun o wc => o = .bool (decide (j < K)) ∧ wc = wr)
      case first =>
        by_cases hjs : j < s.size
        · have gj : decide ((j : Int) < (s.size : Int)) = true := by simp; omega
          have hix := index_at s .i64 j j rfl hjs
          obtain ⟨c, hcd⟩ : ∃ c : Int, c = (s.data.toList.getD j 0).toNat := ⟨_, rfl⟩
          rw [← hcd] at hix
          by_cases hlt : j < K
          · have hdg := (JM.isD_iff _).1 (JM.nd_in s.data.toList j (by rw [← HK.out]; exact hlt))
            have g1 : decide (48 ≤ c) = true := by simp; omega
            have g2 : decide (c ≤ 57) = true := by simp; omega
            clear hcd hdg
            go_wp2
            go_meet
            case rel => exact ⟨by simp [hlt], rfl⟩
          · obtain rfl : j = K := by omega
            have hdg : ¬ (48 ≤ c ∧ c ≤ 57) := by
              have h1 := JM.nd_out s.data.toList (by rw [← HK.out, HS.out]; exact hjs)
              rw [← HK.out] at h1
              intro h2
              rw [(JM.isD_iff _).2 (by omega)] at h1
              cases h1
            by_cases h48 : 48 ≤ c
            · have g1 : decide (48 ≤ c) = true := by simp; omega
              have g2 : decide (c ≤ 57) = false := by simp; omega
              clear hcd hdg h48
              go_wp2
              go_meet
              case rel => exact ⟨by simp, rfl⟩
            · have g1 : decide (48 ≤ c) = false := by simp; omega
              clear hcd hdg h48
              go_wp2
              go_meet
              case rel => exact ⟨by simp, rfl⟩
        · obtain rfl : j = K := by omega
          have gj : decide ((j : Int) < (s.size : Int)) = false := by simp; omega
          go_wp2
          go_meet
          case rel => exact ⟨by simp, rfl⟩
      case rest =>
        obtain ⟨rfl, rfl⟩ := hcut
        by_cases hlt : j < K
        · have g1 : decide (j < K) = true := by simpa using hlt
          go_wp2
          go_roundw
          case rel => exact ⟨by first | rfl | trivial, j + 1, hlt, by go_num⟩
          case measure => simp [intOf]; omega
        · have g1 : decide (j < K) = false := by simpa using hlt
          obtain rfl : j = K := by omega
          clear g1 hlt hj
          rename World => v1
          go_upto_region 11 with fail
          go_cut [76] from 9 (fun o wd => ∃ b : Bool, o = .bool b ∧ wd = v1 ∧ (b = false → j ≠ 0 ∧ j ≤ 12 ∧ ¬ (1 < j ∧ s.data.toList.getD 0 0 = 48) ∧ j + 7 ≤ s.size ∧ s.data.toList.getD j 0 = 46))
          case first =>
            obtain ⟨c0, hc0⟩ : ∃ c : Int, c = (s.data.toList.getD 0 0).toNat := ⟨_, rfl⟩
            obtain ⟨cj, hcj⟩ : ∃ c : Int, c = (s.data.toList.getD j 0).toNat := ⟨_, rfl⟩
            have HC0 := Lib.hid hc0
            have HCJ := Lib.hid hcj
            clear hc0 hcj
            by_cases k0 : j = 0
            · have g0 : ((j : Int) == 0) = true := by simp; omega
              have g0' : decide (j = 0) = true := by simpa using k0
              have g0'' : (j == 0) = true := by simpa using k0
              clear k0
              go_wp2
              go_meet
              case rel => exact ⟨true, rfl, rfl, fun h => by cases h⟩
            have g0 : ((j : Int) == 0) = false := by simp; omega
            have g0' : decide (j = 0) = false := by simpa using k0
            have g0'' : (j == 0) = false := by simpa using k0
            by_cases k12 : 12 < j
            · have g12 : decide ((12 : Int) < (j : Int)) = true := by simp; omega
              go_wp2
              go_meet
              case rel => exact ⟨true, rfl, rfl, fun h => by cases h⟩
            have g12 : decide ((12 : Int) < (j : Int)) = false := by simp; omega
            by_cases k1 : 1 < j
            · have g1 : decide ((1 : Int) < (j : Int)) = true := by simp; omega
              have hix0 : ∀ w, (Instr.index 9 (.string s) (.int .i64 0)).run Tryd.prog w = .ok (.int .u8 c0) w := fun w => by rw [HC0.out]; exact index_at s .i64 0 0 rfl (by omega) w
              by_cases k48 : c0 = 48
              · have g48 : (c0 == 48) = true := by simpa using k48
                clear k48
                go_wp2
                go_meet
                case rel => exact ⟨true, rfl, rfl, fun h => by cases h⟩
              have g48 : (c0 == 48) = false := by simpa using k48
              have HN0 := Lib.hid (show ¬ (1 < j ∧ s.data.toList.getD 0 0 = 48) from fun h => k48 (by rw [HC0.out, h.2]; rfl))
              clear k48
              by_cases k7 : s.size < j + 7
              · have g7 : decide ((s.size : Int) < (j : Int) + 7) = true := by simp; omega
                clear HC0
                go_wp2
                go_meet
                case rel => exact ⟨true, rfl, rfl, fun h => by cases h⟩
              · have g7 : decide ((s.size : Int) < (j : Int) + 7) = false := by simp; omega
                have hixj : ∀ w, (Instr.index 9 (.string s) (.int .i64 j)).run Tryd.prog w = .ok (.int .u8 cj) w := fun w => by rw [HCJ.out]; exact index_at s .i64 j j rfl (by omega) w
                by_cases k46 : cj = 46
                · have g46 : (cj == 46) = true := by simpa using k46
                  have HB46 := Lib.hid (show (cj != 46) = false by simp [k46])
                  have HG := Lib.hid (show j ≠ 0 ∧ j ≤ 12 ∧ ¬ (1 < j ∧ s.data.toList.getD 0 0 = 48) ∧ j + 7 ≤ s.size ∧ s.data.toList.getD j 0 = 46 from ⟨by omega, by omega, HN0.out, by omega, by apply UInt8.toNat_inj.1; show _ = 46; have := HCJ.out; omega⟩)
                  clear k46
                  go_wp2
                  go_meet
                  case rel => exact ⟨false, by rw [HB46.out], rfl, fun _ => HG.out⟩
                · have g46 : (cj == 46) = false := by simpa using k46
                  have HB46 := Lib.hid (show (cj != 46) = true by simpa using k46)
                  clear k46
                  go_wp2
                  go_meet
                  case rel => exact ⟨true, by rw [HB46.out], rfl, fun h => by cases h⟩
            · have g1 : decide ((1 : Int) < (j : Int)) = false := by simp; omega
              have HN0 := Lib.hid (show ¬ (1 < j ∧ s.data.toList.getD 0 0 = 48) from fun h => by omega)
              by_cases k7 : s.size < j + 7
              · have g7 : decide ((s.size : Int) < (j : Int) + 7) = true := by simp; omega
                clear HC0
                go_wp2
                go_meet
                case rel => exact ⟨true, rfl, rfl, fun h => by cases h⟩
              · have g7 : decide ((s.size : Int) < (j : Int) + 7) = false := by simp; omega
                have hixj : ∀ w, (Instr.index 9 (.string s) (.int .i64 j)).run Tryd.prog w = .ok (.int .u8 cj) w := fun w => by rw [HCJ.out]; exact index_at s .i64 j j rfl (by omega) w
                by_cases k46 : cj = 46
                · have g46 : (cj == 46) = true := by simpa using k46
                  have HB46 := Lib.hid (show (cj != 46) = false by simp [k46])
                  have HG := Lib.hid (show j ≠ 0 ∧ j ≤ 12 ∧ ¬ (1 < j ∧ s.data.toList.getD 0 0 = 48) ∧ j + 7 ≤ s.size ∧ s.data.toList.getD j 0 = 46 from ⟨by omega, by omega, HN0.out, by omega, by apply UInt8.toNat_inj.1; show _ = 46; have := HCJ.out; omega⟩)
                  clear k46
                  go_wp2
                  go_meet
                  case rel => exact ⟨false, by rw [HB46.out], rfl, fun _ => HG.out⟩
                · have g46 : (cj == 46) = false := by simpa using k46
                  have HB46 := Lib.hid (show (cj != 46) = true by simpa using k46)
                  clear k46
                  go_wp2
                  go_meet
                  case rel => exact ⟨true, by rw [HB46.out], rfl, fun h => by cases h⟩
          case rest =>
            obtain ⟨b, rfl, rfl, hgood⟩ := hcut
            rename World => v2
            cases b with
            | true =>
              clear hgood
              go_wp2
              go_ret
              exact ⟨by simp, below_next b1 b2⟩
            | false =>
              obtain ⟨q0, q12, q1, q7, q46⟩ := hgood rfl
              clear hgood
              have hsl : ∀ wx, (Instr.slice 9 (.string s) (some (.int .i64 ((j : Int) + 1))) (some (.int .i64 ((j : Int) + 7))) none).run Tryd.prog wx = .ok (.string (s.extract (j + 1) (j + 7))) wx := by
                intro wx
                rw [run_slice_string_if wx 9 s .i64 .i64 _ _ Tryd.underlying9, if_pos ⟨by omega, by omega⟩, if_pos ⟨by omega, by omega⟩, show ((j : Int) + 1).toNat = j + 1 by omega, show ((j : Int) + 7).toNat = j + 7 by omega]
              have hel : (s.extract (j + 1) (j + 7)).data.toList = (s.data.toList.drop (j + 1)).take 6 := by
                have := ByteArray.extract_mk s.data.toList (j + 1) (j + 7)
                rw [show (⟨s.data.toList.toArray⟩ : ByteArray) = s from tx_of s] at this
                rw [this, show j + 7 - (j + 1) = 6 by omega]
              have hez : (s.extract (j + 1) (j + 7)).size = 6 := by rw [Lib.size_eq, hel, List.length_take, List.length_drop, HS.out]; omega
              have hcv := Lib.run_convert_string_bytes (P := Tryd.prog) v2 9 29 5 (s.extract (j + 1) (j + 7)) Tryd.underlying9 Tryd.underlying29 Tryd.underlying5
              rw [hez] at hcv
              have bW := Lib.bytesWorld_below v2 5 (s.extract (j + 1) (j + 7))
              have hcell : ∀ i, i < 6 → (Lib.bytesWorld v2 5 (s.extract (j + 1) (j + 7))).cell? ⟨v2.heap.size, i, none⟩ = some (.int .u8 (s.data.toList.getD (j + 1 + i) 0).toNat) := by
                intro i hi
                rw [Lib.bytesWorld_cell _ _ _ i (by rw [hez]; exact hi), hel]
                have : ((s.data.toList.drop (j + 1)).take 6).getD i 0 = s.data.toList.getD (j + 1 + i) 0 := by rw [List.getD_eq_getElem?_getD, List.getElem?_take, if_pos hi, List.getElem?_drop, ← List.getD_eq_getElem?_getD]
                rw [this]
              generalize grownCap v2 6 0 5 = cap at *
              generalize Lib.bytesWorld v2 5 (s.extract (j + 1) (j + 7)) = W at *
              generalize s.extract (j + 1) (j + 7) = E at *
              have HEZ := Lib.hid hez
              have HG := Lib.hid (And.intro q0 (And.intro q12 (And.intro q1 q46)))
              clear hez hel q0 q12 q1 q46
              have bel := below_next (below_next b1 b2) bW
              go_wp2
              go_loop [91] (fun i => ∃ k : Nat, k ≤ 6 ∧ i = .int .i64 k ∧ ∀ m, m < k → JM.isD (s.data.toList.getD (j + 1 + m) 0) = true) (fun i => 6 - (intOf i).toNat)
              case atStart => exact ⟨0, by omega, rfl, fun m hm => by omega⟩
              case round =>
                obtain ⟨k, hk, rfl, hpre⟩ := hrel
                by_cases hlt : k < 6
                · have gk : decide ((k : Int) < 6) = true := by simp; omega
                  have hc1 := hcell k hlt
                  obtain ⟨c, hcd⟩ : ∃ c : Int, c = (s.data.toList.getD (j + 1 + k) 0).toNat := ⟨_, rfl⟩
                  rw [← hcd] at hc1
                  clear hcell
                  by_cases h48 : c < 48
                  · have g1 : decide (c < 48) = true := by simpa using h48
                    clear hcd h48
                    go_wp2
                    go_ret
                    exact ⟨by simp, bel⟩
                  have g1 : decide (c < 48) = false := by simpa using h48
                  by_cases h57 : 57 < c
                  · have g2 : decide (57 < c) = true := by simpa using h57
                    clear hcd h48 h57
                    go_wp2
                    go_ret
                    exact ⟨by simp, bel⟩
                  have g2 : decide (57 < c) = false := by simpa using h57
                  have HP := Lib.hid (show ∀ m, m < k + 1 → JM.isD (s.data.toList.getD (j + 1 + m) 0) = true from fun m hm => by
                    by_cases e : m = k
                    · rw [e, JM.isD_iff]; omega
                    · exact hpre m (by omega))
                  clear hcd h48 h57 hpre
                  go_wp2
                  go_round
                  case rel => exact ⟨k + 1, hlt, by go_num, HP.out⟩
                  case measure => simp [intOf]; omega
                · exfalso
                  obtain rfl : k = 6 := by omega
                  obtain ⟨q0, q12, q1, q46⟩ := HG.out
                  have hKK := HK.out
                  subst hKK
                  exact JM.utm_none HU.out q0 q12 q1 q46 hpre
end Go.Proofs.YtkoikbfcjfikhaaDoor.jsonUntimes
