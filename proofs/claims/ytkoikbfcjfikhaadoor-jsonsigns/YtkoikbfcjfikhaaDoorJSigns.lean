/-
  JsonSigns' walk: each rune is written in just one way.
-/
import Derived.Test.YtkoikbfcjfikhaaDoorJTime
import Derived.Test.YtkoikbfcjfikhaaDoorJRunes
set_option linter.unusedVariables false
namespace Go.Proofs.YtkoikbfcjfikhaaDoor.jsonSigns
open Go.RowKit

set_option maxHeartbeats 4000000 in
set_option maxRecDepth 100000 in
theorem walk (s : ByteArray) (w : World) (hs : s.size ≤ maxLen) (hF : Fmt w) :
    Calls Tryd.prog 5 #[.string s] w fun e w' => e = .returned (.bool true) ∧ Below w.heap.size w w' := by
  go_enter Tryd.func5, Tryd.ntmps5
  go_wp2_with (go_at_call 9; refine (fit_ok _ hF).mono ?_; rintro e w1 ⟨rfl, b1⟩; refine Hid.out ?_)
  by_cases h300 : 300 < s.size
  · have g : decide ((300 : Int) < (s.size : Int)) = true := by simp; omega
    refine Lib.hid ?_
    go_wp2
    go_ret
    exact ⟨rfl, b1⟩
  have g : decide ((300 : Int) < (s.size : Int)) = false := by simp; omega
  obtain ⟨cap, W, hcv, bW, hWz, hRuns, hcap⟩ := run_runes w1 s (by omega)
  have HZ := Lib.hid hWz
  have hF1 := hF.on b1
  have hrl := JM.runes_len s.data.toList
  have hgood := JM.runes_good s.data.toList
  have HQ := Lib.hid (show JM.quote s.data.toList = 34 :: ((JM.runes s.data.toList).flatMap JM.wr ++ [34]) from rfl)
  have hn300 : (JM.runes s.data.toList).length ≤ 300 := by rw [← Lib.size_eq] at hrl; omega
  generalize hrs : JM.runes s.data.toList = rs at *
  clear hrs hWz hrl
  refine Lib.hid ?_
  go_wp2
  go_loopw [3, 15] (fun u i wr => ∃ k : Nat, k ≤ rs.length ∧ i = .int .i64 k ∧ u = .string (tx (34 :: (rs.take k).flatMap JM.wr)) ∧ Below W.heap.size W wr) (fun _ i _ => rs.length - (intOf i).toNat)
  case atStart => exact ⟨0, by omega, rfl, rfl, Below.refl _ _⟩
  case round =>
    obtain ⟨k, hk, rfl, rfl, bw⟩ := hrel
    obtain ⟨acc, hacc⟩ : ∃ acc, acc = 34 :: (rs.take k).flatMap JM.wr := ⟨_, rfl⟩
    have hal : acc.length ≤ 2000 := by
      have h1 := JM.flat_len JM.wr 6 (rs.take k) JM.wr_len
      rw [hacc, List.length_cons]
      have h2 : (rs.take k).length ≤ 300 := by simp; omega
      omega
    rw [← hacc]
    have HC := Lib.hid hacc
    clear hacc
    by_cases hlt : k < rs.length
    · have gk : decide ((k : Int) < (rs.length : Int)) = true := by simp; omega
      obtain ⟨r, hr⟩ : ∃ r, rs[k]? = some r := ⟨rs[k], List.getElem?_eq_getElem hlt⟩
      have hcell : wr.cell? ⟨w1.heap.size, k, none⟩ = some (.int .i32 r) := by
        have h1 := hRuns k r hr
        have e0 : (⟨w1.heap.size, 0, none⟩ : Addr).add k = ⟨w1.heap.size, k, none⟩ := by simp [Addr.add]; exact fun h => h.symm
        rw [e0] at h1
        rw [bw.cell (p := ⟨w1.heap.size, k, none⟩) (by show w1.heap.size < _; have := HZ.out; omega)]
        exact h1
      have hr1 : r ≤ 1114111 := good_le (hgood r (List.mem_of_getElem? hr))
      have fin : ∀ x : ByteArray, x = tx (acc ++ JM.wr r) → ∀ w', Below W.heap.size W w' → (∃ k' : Nat, k' ≤ rs.length ∧ Value.int .i64 ((k : Int) + 1) = .int .i64 k' ∧ Value.string x = .string (tx (34 :: (rs.take k').flatMap JM.wr)) ∧ Below W.heap.size W w') := by
        intro x hx w' hb
        refine ⟨k + 1, hlt, rfl, ?_, hb⟩
        rw [hx, HC.out, List.take_add_one, hr]
        simp
      have FIN := Lib.hid fin
      clear hr hRuns fin
      have bwz := bw.size
      obtain ⟨z, hz⟩ : ∃ z : Int, z = r := ⟨_, rfl⟩
      rw [← hz] at hcell
      have hone := run_one wr r z hz hr1
      have hel := (JM.enc_len r).2
      obtain ⟨en, hen⟩ : ∃ en, en = JM.enc r := ⟨_, rfl⟩
      rw [← hen] at hone hel
      have HE := Lib.hid hen
      clear hen
      by_cases c0 : r = 34
      · have e1 : (z == 34) = true := by simp; omega
        have HW := Lib.hid (show JM.wr r = 92 :: en by rw [HE.out]; unfold JM.wr; rw [if_pos (.inl c0)])
        clear hz c0
        go_wp2
        go_roundw
        case rel =>
          refine FIN.out _ ?_ _ (bw.alloc bwz _)
          rw [HW.out]
          rw [show (⟨#[92]⟩ : ByteArray) = tx [92] by rfl, tx_add, tx_add]
          rfl
        case measure => simp [intOf]; omega
      have n1 : (z == 34) = false := by simp; omega
      by_cases c00 : r = 92
      · have e1 : (z == 92) = true := by simp; omega
        have HW := Lib.hid (show JM.wr r = 92 :: en by rw [HE.out]; unfold JM.wr; rw [if_pos (.inr c00)])
        clear hz c0 c00
        go_wp2
        go_roundw
        case rel =>
          refine FIN.out _ ?_ _ (bw.alloc bwz _)
          rw [HW.out]
          rw [show (⟨#[92]⟩ : ByteArray) = tx [92] by rfl, tx_add, tx_add]
          rfl
        case measure => simp [intOf]; omega
      have c1 : ¬ (r = 34 ∨ r = 92) := by omega
      have n2 : (z == 92) = false := by simp; omega
      by_cases c3 : r = 10
      · have e1 : (z == 10) = true := by simp; omega
        have HW := Lib.hid (show JM.wr r = [92, 110] by rw [c3]; decide)
        clear hz c0 c00 c1 c3 hone
        go_wp2
        go_roundw
        case rel =>
          refine FIN.out _ ?_ _ bw
          rw [HW.out]
          exact tx_add _ _
        case measure => simp [intOf]; omega
      have n3 : (z == 10) = false := by simp; omega
      by_cases c4 : r = 13
      · have e1 : (z == 13) = true := by simp; omega
        have HW := Lib.hid (show JM.wr r = [92, 114] by rw [c4]; decide)
        clear hz c0 c00 c1 c3 c4 hone
        go_wp2
        go_roundw
        case rel =>
          refine FIN.out _ ?_ _ bw
          rw [HW.out]
          exact tx_add _ _
        case measure => simp [intOf]; omega
      have n4 : (z == 13) = false := by simp; omega
      by_cases c5 : r < 32 ∨ r = 127
      · have HW := Lib.hid (show JM.wr r = [92, 117, 48, 48, JM.hexd (r / 16), JM.hexd (r % 16)] by unfold JM.wr; rw [if_neg c1, if_neg c3, if_neg c4, if_pos c5])
        obtain ⟨y0, h0⟩ : ∃ y0 : Int, y0 = ((r % 16 : Nat) : Int) := ⟨_, rfl⟩
        obtain ⟨y1, h1⟩ : ∃ y1 : Int, y1 = ((r / 16 : Nat) : Int) := ⟨_, rfl⟩
        have z0 : 0 ≤ z := by omega
        have q1 : z.tdiv 16 = y1 := by rw [Int.tdiv_eq_ediv_of_nonneg z0]; omega
        have q0 : z.tmod 16 = y0 := by rw [Int.tmod_eq_emod_of_nonneg z0]; omega
        have p0 : 0 ≤ y0 := by omega
        have p1 : y0 ≤ 15 := by omega
        have p2 : 0 ≤ y1 := by omega
        have p3 : y1 ≤ 7 := by omega
        have w0 : IntKind.u8.wrap (48 + y0) = 48 + y0 := by rw [IntKind.wrap_u8]; omega
        have w2 : IntKind.u8.wrap (48 + y1) = 48 + y1 := by rw [IntKind.wrap_u8]; omega
        have w3 : IntKind.u8.wrap (97 + y0 - 10) = 97 + y0 - 10 := by rw [IntKind.wrap_u8]; omega
        have k1 : ((JM.hexd (r / 16)).toNat : Int) = 48 + y1 := by rw [JM.hexd_byte (by omega), if_pos (by omega)]; omega
        by_cases d9 : r % 16 < 10
        · have t0 := run_two wr (JM.hexd (r / 16)) (JM.hexd (r % 16)) (48 + y1) (48 + y0) k1.symm (by rw [JM.hexd_byte (by omega), if_pos d9]; omega)
          have g9 : decide (9 < y0) = false := by simp; omega
          have n6 : decide (z < 32) = true := by simp; omega
          generalize JM.hexd (r / 16) = A1 at *
          generalize JM.hexd (r % 16) = A0 at *
          clear hz c0 c00 c1 c3 c4 c5 hone h0 h1 k1 d9
          go_wp2
          go_roundw
          case rel =>
            refine FIN.out _ ?_ _ (bw.alloc bwz _)
            rw [HW.out]
            rw [show (⟨#[92, 117, 48, 48]⟩ : ByteArray) = tx [92, 117, 48, 48] by rfl, tx_add, tx_add]
            rfl
          case measure => simp [intOf]; omega
        · have t0 := run_two wr (JM.hexd (r / 16)) (JM.hexd (r % 16)) (48 + y1) (97 + y0 - 10) k1.symm (by rw [JM.hexd_byte (by omega), if_neg d9]; omega)
          have g9 : decide (9 < y0) = true := by simp; omega
          generalize JM.hexd (r / 16) = A1 at *
          generalize JM.hexd (r % 16) = A0 at *
          by_cases h32 : z < 32
          · have n6 : decide (z < 32) = true := by simp; omega
            clear h32
            clear hz c0 c00 c1 c3 c4 c5 hone h0 h1 k1 d9
            go_wp2
            go_roundw
            case rel =>
              refine FIN.out _ ?_ _ (bw.alloc bwz _)
              rw [HW.out]
              rw [show (⟨#[92, 117, 48, 48]⟩ : ByteArray) = tx [92, 117, 48, 48] by rfl, tx_add, tx_add]
              rfl
            case measure => simp [intOf]; omega
          · have n6 : decide (z < 32) = false := by simp; omega
            have n7 : (z == 127) = true := by simp; omega
            clear h32
            clear hz c0 c00 c1 c3 c4 c5 hone h0 h1 k1 d9
            go_wp2
            go_roundw
            case rel =>
              refine FIN.out _ ?_ _ (bw.alloc bwz _)
              rw [HW.out]
              rw [show (⟨#[92, 117, 48, 48]⟩ : ByteArray) = tx [92, 117, 48, 48] by rfl, tx_add, tx_add]
              rfl
            case measure => simp [intOf]; omega
      · have n5 : decide (z < 32) = false := by simp; omega
        have n6 : (z == 127) = false := by simp; omega
        have HW := Lib.hid (show JM.wr r = en by rw [HE.out]; unfold JM.wr; rw [if_neg c1, if_neg c3, if_neg c4, if_neg c5])
        clear hz c0 c00 c1 c3 c4 c5
        go_wp2
        go_roundw
        case rel =>
          refine FIN.out _ ?_ _ (bw.alloc bwz _)
          rw [HW.out]
          exact tx_add _ _
        case measure => simp [intOf]; omega
    · have gk : decide ((k : Int) < (rs.length : Int)) = false := by simp; omega
      obtain rfl : k = rs.length := by omega
      have bel := below_next b1 (below_next bW bw)
      have hF2 := hF.on bel
      go_wp2_with (go_at_call 10; refine (quote_ok s (by omega) _ hF2).mono ?_; rintro e w2 ⟨rfl, b2⟩; refine Hid.out ?_)
      refine Lib.hid ?_
      go_wp2
      go_ret
      refine ⟨?_, below_next bel b2⟩
      rw [HQ.out, HC.out, List.take_length]
      rw [show (⟨#[34]⟩ : ByteArray) = tx [34] by rfl, tx_add]
      simp
end Go.Proofs.YtkoikbfcjfikhaaDoor.jsonSigns
