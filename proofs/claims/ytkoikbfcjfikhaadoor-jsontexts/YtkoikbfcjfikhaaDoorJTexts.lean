/-
  JsonTexts' walk: texts come back from their quotes, and what is behind them is told.
-/
import Derived.Test.YtkoikbfcjfikhaaDoorJAny
set_option linter.unusedVariables false
namespace Go.Proofs.YtkoikbfcjfikhaaDoor.jsonTexts
open Go.RowKit

theorem quote_byte (l : List UInt8) : ∀ b ∈ JM.quote l, 32 ≤ b.toNat ∧ b.toNat ≠ 127 := by
  intro b hb
  unfold JM.quote at hb
  rcases List.mem_cons.1 hb with rfl | hb
  · decide
  · rcases List.mem_append.1 hb with hb | hb
    · obtain ⟨r, _, hr⟩ := List.mem_flatMap.1 hb
      exact JM.wr_byte r b hr
    · simp only [List.mem_singleton] at hb
      subst hb
      decide

set_option maxHeartbeats 4000000 in
set_option maxRecDepth 100000 in
theorem walk (s more : ByteArray) (w : World) (hs : s.size ≤ maxLen) (hm : more.size ≤ maxLen) (hF : Fmt w) (hN : Num w) (hU : Utf w) :
    Calls Tryd.prog 3 #[.string s, .string more] w fun e w' => e = .returned (.bool true) ∧ Below w.heap.size w w' := by
  obtain ⟨l, rfl⟩ : ∃ l, s = tx l := ⟨s.data.toList, (tx_of s).symm⟩
  obtain ⟨M, rfl⟩ : ∃ M, more = tx M := ⟨more.data.toList, (tx_of more).symm⟩
  rw [tx_size] at hs hm
  by_cases h300 : 300 < l.length
  · have g : decide ((300 : Int) < (l.length : Int)) = true := by simp; omega
    go_enter Tryd.func3, Tryd.ntmps3
    go_wp2_with (go_at_call 9; refine (fit_ok _ hF).mono ?_; rintro e w1 ⟨rfl, b1⟩)
    go_ret
    exact ⟨rfl, b1⟩
  have g : decide ((300 : Int) < (l.length : Int)) = false := by simp; omega
  by_cases m300 : 300 < M.length
  · have g2 : decide ((300 : Int) < (M.length : Int)) = true := by simp; omega
    go_enter Tryd.func3, Tryd.ntmps3
    go_wp2_with (go_at_call 9; refine (fit_ok _ hF).mono ?_; rintro e w1 ⟨rfl, b1⟩)
    go_ret
    exact ⟨rfl, b1⟩
  have g2 : decide ((300 : Int) < (M.length : Int)) = false := by simp; omega
  have hql := JM.quote_len l
  have hqb := quote_byte l
  have hq := fun w h => quote_ok (tx l) (by rw [tx_size]; omega) w h
  rw [tx_list] at hq
  have hcat : tx (JM.quote l) ++ tx M = tx (JM.quote l ++ M) := tx_add _ _
  have hunq := fun w a b c => unquote_ok (JM.quote l ++ M) (by rw [List.length_append]; omega) w a b c
  rw [JM.unq_quote l M, unV_some] at hunq
  have hwh : (JM.runes l).flatMap JM.enc = JM.whole l := rfl
  rw [hwh] at hunq
  have hwl : (JM.whole l).length ≤ 1200 := by
    have h1 := JM.flat_len JM.enc 4 (JM.runes l) (fun r => (JM.enc_len r).2)
    have h2 := JM.runes_len l
    rw [← hwh]; omega
  have hw := fun w => whole_ok l (by omega) w
  have hqq : JM.quote (JM.whole l) = JM.quote l := by unfold JM.quote; rw [JM.runes_whole]
  have hq3 := fun w h => quote_ok (tx (JM.whole l)) (by rw [tx_size]; omega) w h
  rw [tx_list, hqq] at hq3
  have hq2 : (JM.quote l).length ≤ 2000 := by omega
  have hm2 : M.length ≤ 300 := by omega
  clear hqq hwh hql
  generalize JM.quote l = Q at *
  generalize JM.whole l = T at *
  generalize Q ++ M = C at *
  clear h300 m300
  go_enter Tryd.func3, Tryd.ntmps3
  go_wp2_with (go_at_call 9; refine (fit_ok _ hF).mono ?_; rintro e w1 ⟨rfl, b1⟩; refine Hid.out ?_)
  have hF1 := hF.on b1
  refine Lib.hid ?_
  go_wp2_with (go_at_call 10; refine (hq _ hF1).mono ?_; rintro e w2 ⟨rfl, b2⟩; refine Hid.out ?_)
  have b12 := below_next b1 b2
  have hF2 := hF.on b12
  have hN2 := hN.on b12
  have hU2 := hU.on b12
  refine Lib.hid ?_
  go_wp2_with (go_at_call 11; refine (hunq _ hF2 hN2 hU2).mono ?_; rintro e w3 ⟨rfl, b3⟩; refine Hid.out ?_)
  have b13 := below_next b12 b3
  refine Lib.hid ?_
  go_wp2_with (go_at_call 12; refine (hw _).mono ?_; rintro e w4 ⟨rfl, b4⟩; refine Hid.out ?_)
  have b14 := below_next b13 b4
  have hF4 := hF.on b14
  refine Lib.hid ?_
  go_wp2_with (go_at_call 10; refine (hq3 _ hF4).mono ?_; rintro e w5 ⟨rfl, b5⟩; refine Hid.out ?_)
  have b15 := below_next b14 b5
  refine Lib.hid ?_
  clear hq hq3 hw hunq hcat
  go_wp2
  go_loop [51] (fun i => ∃ k : Nat, k ≤ Q.length ∧ i = .int .i64 k) (fun i => Q.length - (intOf i).toNat)
  case atStart => exact ⟨0, Nat.zero_le _, rfl⟩
  case round =>
    obtain ⟨k, hk, rfl⟩ := hrel
    by_cases hlt : k < Q.length
    · have gk : decide ((k : Int) < (Q.length : Int)) = true := by simp; omega
      have hix : ∀ w, (Instr.index 9 (.string (tx Q)) (.int .i64 k)).run Tryd.prog w = .ok (.int .u8 ((Q.getD k 0).toNat : Nat)) w := fun w => by
        have := index_at (tx Q) .i64 k k rfl (by rw [tx_size]; exact hlt) w
        rw [tx_list] at this
        exact this
      have hb := hqb (Q.getD k 0) (by rw [List.getD_eq_getElem?_getD, List.getElem?_eq_getElem hlt]; exact List.getElem_mem hlt)
      obtain ⟨c, hc⟩ : ∃ c : Int, c = (Q.getD k 0).toNat := ⟨_, rfl⟩
      rw [← hc] at hix
      have g3 : decide (c < 32) = false := by simp; omega
      have g4 : (c == 127) = false := by simp; omega
      clear hb hc hqb
      go_wp2
      go_round
      case rel => exact ⟨k + 1, hlt, by go_num⟩
      case measure => simp [intOf]; omega
    · have gk : decide ((k : Int) < (Q.length : Int)) = false := by simp; omega
      go_wp2
      go_ret
      exact ⟨rfl, b15⟩
end Go.Proofs.YtkoikbfcjfikhaaDoor.jsonTexts
