/-
  Layer 12 (event): may they be a list? The program's answer.
-/
import Derived.Test.YtciogdhapogolaaDoorERight
import Derived.Test.YtciogdhapogolaaDoorEWd
namespace Go.Proofs.YtciogdhapogolaaDoor
open Go.RowKit Go.Lib EM
set_option maxRecDepth 100000

set_option maxHeartbeats 1000000 in
theorem list_ok (w : World) (l : List Ev) (A : Option Addr) (c B : Nat) (hr : evE.Row w B A l) (hB : B ≤ w.heap.size) (hl : l.length ≤ 1000000) :
    Calls Tryd.prog 20 #[.slice A l.length c] w fun e w' => e = .returned (.bool (listB 0 l)) ∧ Below w.heap.size w w' := by
  have HR := Lib.hid hr
  clear hr
  generalize hR : listB 0 l = R
  have HRL := Lib.hid hR
  clear hR
  go_enter Tryd.func20, Tryd.ntmps20
  go_wp2
  go_loopw [3, 8] (fun f i wr => ∃ (k : Nat) (F : Int), k ≤ l.length ∧ i = .int .i64 (k : Int) ∧ f = .int .i64 F ∧ Below w.heap.size w wr ∧ listB F (l.drop k) = R) (fun _ i _ => l.length - (RowKit.intOf i).toNat)
  case atStart => exact ⟨0, 0, Nat.zero_le _, rfl, rfl, Below.refl _ _, HRL.out⟩
  case round =>
    obtain ⟨k, F, hk, rfl, rfl, hb, hli⟩ := hrel
    have HB := Lib.hid hb
    have HLI := Lib.hid hli
    have hz := hb.size
    clear hb hli
    by_cases hlt : k < l.length
    · have g1 : decide ((k : Int) < (l.length : Int)) = true := by simp; omega
      have gn : decide (k < l.length) = true := by simp; omega
      obtain ⟨b, off, rfl, hbl, c0, c1, c2, c3, c4⟩ := ev_at (HR.out.below (HB.out.mono hB)) hlt
      have HDR := Lib.hid (show l.drop k = l[k] :: l.drop (k + 1) from List.drop_eq_getElem_cons hlt)
      rw [HDR.out] at HLI
      generalize l[k] = y at *
      have HRT := Lib.hid (fun v => right_ok v y)
      have hli := HLI.out
      simp only [listB] at hli
      generalize right y = rt at *
      obtain ⟨t, kk, d, x, z⟩ := y
      simp only [evV] at *
      obtain ⟨w1, hw1⟩ : ∃ w1, w1 = wr.alloc (.cells #[.int .i64 t, .int .i64 kk, .string d, .int .i64 x, .int .i64 z] 27) := ⟨_, rfl⟩
      have hb1 : Below wr.heap.size wr w1 := by rw [hw1]; exact (Below.refl _ _).alloc (Nat.le_refl _) _
      have hc1 : EvAt w1 wr.heap.size ⟨t, kk, d, x, z⟩ := by rw [hw1]; exact EvAt.new wr ⟨t, kk, d, x, z⟩
      have W1 := Lib.hid hw1
      have HB1 := Lib.hid hb1
      have HC1 := Lib.hid hc1
      have hz1 := hb1.size
      have HLJ := Lib.hid hli
      clear hw1 hb1 hc1 hli HLI HDR
      go_wp2_with fail
      rw [← W1.out]
      refine (HRT.out w1).mono ?_
      rintro e w2 ⟨rfl, hb2⟩
      obtain ⟨e0, e1, e2, e3, e4⟩ := (HC1.out.dead hb2).cells
      have HB2 := Lib.hid (HB.out.trans ((HB1.out.trans (hb2.mono HB1.out.size)).mono hz))
      clear hb2
      cases rt with
      | false =>
        have hR : R = false := by have := HLJ.out; simpa using this.symm
        subst hR
        go_wp2_with fail
        go_ret
        exact ⟨rfl, HB2.out⟩
      | true =>
        by_cases hf : t < F
        · have g2 : decide (t < F) = true := by simpa
          have hR : R = false := by have := HLJ.out; rw [decide_eq_false (show ¬ F ≤ t by omega)] at this; simpa using this.symm
          subst hR
          go_wp2_with fail
          go_ret
          exact ⟨rfl, HB2.out⟩
        · have g2 : decide (t < F) = false := by simpa using hf
          have HN := Lib.hid (show listB t (l.drop (k + 1)) = R by have := HLJ.out; rw [decide_eq_true (show F ≤ t by omega)] at this; simpa using this)
          go_wp2_with fail
          go_roundw
          case rel => exact ⟨k + 1, t, by omega, by simp, rfl, HB2.out, HN.out⟩
          case measure => simp [RowKit.intOf]; omega
    · have g1 : decide ((k : Int) < (l.length : Int)) = false := by simp; omega
      have gn : decide (k < l.length) = false := by simp; omega
      have hR : R = true := by have := HLI.out; rw [List.drop_of_length_le (by omega)] at this; exact this.symm
      subst hR
      go_wp2_with fail
      go_ret
      exact ⟨rfl, HB.out⟩
end Go.Proofs.YtciogdhapogolaaDoor
