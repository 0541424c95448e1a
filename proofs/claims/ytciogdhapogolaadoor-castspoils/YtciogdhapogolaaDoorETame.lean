/-
  Layer 12's laws: Tame.
-/
import Derived.Test.YtciogdhapogolaaDoorEWd
import Derived.Test.YtciogdhapogolaaDoorVApp
namespace Go.Proofs.YtciogdhapogolaaDoor
open Go.RowKit Go.Lib EM

theorem i64_and3 (n : Int) : bits .and .i64 n 3 = n % 4 := by
  have h127 : (BitVec.ofInt 64 3).toNat = 2 ^ 2 - 1 := by decide
  have key : (BitVec.ofInt 64 n &&& BitVec.ofInt 64 3).toNat = (n % ((2 ^ 64 : Nat) : Int)).toNat % 2 ^ 2 := by
    rw [BitVec.toNat_and, BitVec.toNat_ofInt, h127, Nat.and_two_pow_sub_one_eq_mod]
  show IntKind.i64.wrap ((BitVec.ofInt 64 n &&& BitVec.ofInt 64 3).toNat : Nat) = n % 4
  rw [key, IntKind.wrap_i64]
  omega
theorem i64_and127 (n : Int) : bits .and .i64 n 127 = n % 128 := by
  have h127 : (BitVec.ofInt 64 127).toNat = 2 ^ 7 - 1 := by decide
  have key : (BitVec.ofInt 64 n &&& BitVec.ofInt 64 127).toNat = (n % ((2 ^ 64 : Nat) : Int)).toNat % 2 ^ 7 := by
    rw [BitVec.toNat_and, BitVec.toNat_ofInt, h127, Nat.and_two_pow_sub_one_eq_mod]
  show IntKind.i64.wrap ((BitVec.ofInt 64 n &&& BitVec.ofInt 64 127).toNat : Nat) = n % 128
  rw [key, IntKind.wrap_i64]
  omega

set_option maxRecDepth 100000 in
set_option maxHeartbeats 2000000 in
theorem tame_ok (w : World) (l : List Ev) (A : Option Addr) (c B : Nat) (hr : evE.Row w B A l) (hB : B ≤ w.heap.size) (hl : l.length ≤ 1000) :
    Calls Tryd.prog 9 #[.slice A l.length c] w (EvsPost w (tameL 0 l)) := by
  have HR := Lib.hid hr
  clear hr
  generalize hQ : tameL 0 l = Q
  have HQ := Lib.hid hQ
  clear hQ
  go_enter Tryd.func9, Tryd.ntmps9
  go_wp2
  go_loopw [3, 4, 5] (fun v t i wr => ∃ (k : Nat) (T : Int) (L : List Ev), k ≤ l.length ∧ i = .int .i64 (k : Int) ∧ t = .int .i64 T ∧ 0 ≤ T ∧ T ≤ 65536 * k ∧ Below w.heap.size w wr ∧ evE.Own wr w.heap.size v L ∧ L.length = k ∧ L ++ tameL T (l.drop k) = Q) (fun _ _ i _ => l.length - (RowKit.intOf i).toNat)
  case atStart => exact ⟨0, 0, [], Nat.zero_le _, rfl, rfl, Int.le_refl _, by simp, Below.refl _ _, El.Own.nil _ _, rfl, HQ.out⟩
  case round =>
    obtain ⟨k, T, L, hk, rfl, rfl, hT0, hT1, hb, ho, hLk, hLQ⟩ := hrel
    have HB := Lib.hid hb
    have HO := Lib.hid ho
    have HLQ := Lib.hid hLQ
    have HLK := Lib.hid hLk
    have hz := hb.size
    have hT1' : T ≤ 65536000 := by omega
    clear hb ho hLQ hLk
    by_cases hlt : k < l.length
    · have g1 : decide ((k : Int) < (l.length : Int)) = true := by simp; omega
      have gn : decide (k < l.length) = true := by simp; omega
      obtain ⟨b, off, rfl, hbl, c0, c1, c2, c3, c4⟩ := ev_at (HR.out.below (HB.out.mono hB)) hlt
      have HDR := Lib.hid (show l.drop k = l[k] :: l.drop (k + 1) from List.drop_eq_getElem_cons hlt)
      rw [HDR.out] at HLQ
      have hLQ := HLQ.out
      simp only [tameL] at hLQ
      have HLJ := Lib.hid hLQ
      clear hLQ HLQ HDR
      generalize l[k] = y at *
      generalize hye : tameE T y = ye at HLJ
      have HYE := Lib.hid hye
      clear hye
      obtain ⟨t, kk, d, x, z⟩ := y
      simp only at c0 c1 c2 c3 c4 HLJ
      obtain ⟨w1, hw1⟩ : ∃ w1, w1 = wr.alloc (.cells #[.int .i64 t, .int .i64 kk, .string d, .int .i64 x, .int .i64 z] 27) := ⟨_, rfl⟩
      have hb1 : Below wr.heap.size wr w1 := by rw [hw1]; exact (Below.refl _ _).alloc (Nat.le_refl _) _
      have hc1 : EvAt w1 wr.heap.size ⟨t, kk, d, x, z⟩ := by rw [hw1]; exact EvAt.new wr ⟨t, kk, d, x, z⟩
      have W1 := Lib.hid hw1
      have HB1 := Lib.hid hb1
      have HC1 := Lib.hid hc1
      have hz1 := hb1.size
      have a3 := i64_and3 kk
      have a65 := i64_and65535 t
      have a127 := i64_and127 x
      have b127 := i64_and127 z
      generalize hm3 : kk % 4 = m3 at *
      generalize hm65 : t % 65536 = m65 at *
      generalize hmx : x % 128 = mx at *
      generalize hmz : z % 128 = mz at *
      have hb3 : 0 ≤ m3 ∧ m3 ≤ 3 := by omega
      have hb65 : 0 ≤ m65 ∧ m65 ≤ 65535 := by omega
      have hbx : 0 ≤ mx ∧ mx ≤ 127 := by omega
      have hbz : 0 ≤ mz ∧ mz ≤ 127 := by omega
      have HM := Lib.hid (And.intro hm3 (And.intro hm65 (And.intro hmx hmz)))
      clear hw1 hb1 hc1 hm3 hm65 hmx hmz
      go_upto_region 7 with fail
      rw [← W1.out]
      obtain ⟨e0, e1, e2, e3, e4⟩ := HC1.out.cells
      have f0 := HC1.out.thaw 0
      have f1 := HC1.out.thaw 1
      simp only at e0 e1 e2 e3 e4
      clear c0 c1 c2 c3 c4
      go_upto_region 8 with fail
      have hc2 := HC1.out.set1 m3
      have hb2 := HB1.out.setCell (p := ⟨wr.heap.size, 1, none⟩) (Nat.le_refl _) (.int .i64 m3)
      simp only at hc2
      clear e0 e1 e2 e3 e4 f0 f1
      generalize w1.setCell ⟨wr.heap.size, 1, none⟩ (.int .i64 m3) = w2 at *
      obtain ⟨e0, e1, e2, e3, e4⟩ := hc2.cells
      have f0 := hc2.thaw 0
      simp only at e0 e1 e2 e3 e4
      have HC2 := Lib.hid hc2
      have HB2 := Lib.hid hb2
      clear hc2 hb2
      go_upto_region 9 with fail
      have hc3 := HC2.out.set0 (T + m65)
      have hb3' := HB2.out.setCell (p := ⟨wr.heap.size, 0, none⟩) (Nat.le_refl _) (.int .i64 (T + m65))
      simp only at hc3
      clear e0 e1 e2 e3 e4 f0
      generalize w2.setCell ⟨wr.heap.size, 0, none⟩ (.int .i64 (T + m65)) = w3 at *
      obtain ⟨e0, e1, e2, e3, e4⟩ := hc3.cells
      have f2 := hc3.thaw 2
      simp only at e0 e1 e2 e3 e4
      have HC3 := Lib.hid hc3
      have HB3 := Lib.hid hb3'
      clear hc3 hb3'
      generalize hdd : (if 400 < d.size then d.extract 0 400 else d) = dd
      have HDD := Lib.hid hdd
      clear hdd
      go_upto_if 32 with fail
      go_cut [] from 7 to 56 (fun wc => EvAt wc wr.heap.size ⟨T + m65, m3, dd, x, z⟩ ∧ Below wr.heap.size wr wc)
      case first =>
        by_cases hd : 400 < d.size
        · have g4 : decide ((400 : Int) < (d.size : Int)) = true := by simp; omega
          have ed : dd = d.extract 0 400 := by rw [← HDD.out, if_pos hd]
          go_wp2_with fail
          go_meet
          case rel => rw [ed]; exact ⟨HC3.out.set2 _, HB3.out.setCell (p := ⟨wr.heap.size, 2, none⟩) (Nat.le_refl _) _⟩
        · have g4 : decide ((400 : Int) < (d.size : Int)) = false := by simp; omega
          have ed : dd = d := by rw [← HDD.out, if_neg hd]
          go_wp2_with fail
          go_meet
          case rel => rw [ed]; exact ⟨HC3.out, HB3.out⟩
      case rest =>
        obtain ⟨hcx, hbx'⟩ := hcut
        obtain ⟨w4, hw4⟩ : ∃ w4, w4 = wc := ⟨_, rfl⟩
        rw [← hw4] at hcx hbx' ⊢
        clear hw4 wc e0 e1 e2 e3 e4 f2
        have HC4 := Lib.hid hcx
        have HB4 := Lib.hid hbx'
        obtain ⟨e0, e1, e2, e3, e4⟩ := hcx.cells
        have f2 := hcx.thaw 2
        have f3 := hcx.thaw 3
        have f4 := hcx.thaw 4
        simp only at e0 e1 e2 e3 e4
        clear hcx hbx'
        go_upto_if 39 with fail
        go_cut [] from 7 to 56 (fun wc => EvAt wc wr.heap.size ye ∧ Below wr.heap.size wr wc)
        case first =>
          by_cases hk2 : m3 = 2
          · have g5 : (m3 == 2) = true := beq_iff_eq.2 hk2
            have hy : ye = ⟨T + m65, m3, ByteArray.empty, mx + 1, mz + 1⟩ := by
              obtain ⟨h1, h2, h3, h4⟩ := HM.out
              rw [← HYE.out]; unfold tameE; simp only [h1, h2, h3, h4, if_pos hk2]; rw [hk2]
            go_wp2_with fail
            go_meet
            case rel =>
              rw [hy]
              exact ⟨((HC4.out.set2 ByteArray.empty).set3 (mx + 1)).set4 (mz + 1), (((HB4.out.setCell (p := ⟨wr.heap.size, 2, none⟩) (Nat.le_refl _) _).setCell (p := ⟨wr.heap.size, 3, none⟩) (Nat.le_refl _) _).setCell (p := ⟨wr.heap.size, 4, none⟩) (Nat.le_refl _) _)⟩
          · have g5 : (m3 == 2) = false := beq_eq_false_iff_ne.2 hk2
            have hy : ye = ⟨T + m65, m3, dd, 0, 0⟩ := by
              obtain ⟨h1, h2, h3, h4⟩ := HM.out
              rw [← HYE.out, ← HDD.out]; unfold tameE; simp only [h1, h2, if_neg hk2]
            go_wp2_with fail
            go_meet
            case rel =>
              rw [hy]
              exact ⟨(HC4.out.set3 0).set4 0, ((HB4.out.setCell (p := ⟨wr.heap.size, 3, none⟩) (Nat.le_refl _) _).setCell (p := ⟨wr.heap.size, 4, none⟩) (Nat.le_refl _) _)⟩
        case rest =>
          obtain ⟨hcy, hby⟩ := hcut
          obtain ⟨w5, hw5⟩ : ∃ w5, w5 = wc := ⟨_, rfl⟩
          rw [← hw5] at hcy hby ⊢
          clear hw5 wc e0 e1 e2 e3 e4 f2 f3 f4
          obtain ⟨yt, yk, yd, yx, yz⟩ := ye
          obtain ⟨e0, e1, e2, e3, e4⟩ := hcy.cells
          simp only at e0 e1 e2 e3 e4
          have HOW := Lib.hid (HO.out.below hby)
          have HBW := Lib.hid (HB.out.trans (hby.mono hz))
          have hzw := hby.size
          have hlm : L.length ≤ 1000 := by rw [HLK.out]; omega
          clear hcy hby
          go_wp2_with (at_builtin; refine evE.wp_append1 rfl (.tmp 53) (.tmp 55) rfl w.heap.size _ L rfl HOW.out ⟨yt, yk, yd, yx, yz⟩ #[.int .i64 yt, .int .i64 yk, .string yd, .int .i64 yx, .int .i64 yz] 27 rfl rfl ?c1 ?c2 (by omega) ?_)
          case c1 => simp only [evE]; omega
          case c2 => unfold maxLen; omega
          intro v1 y1 ho1 hg1
          have HO1 := Lib.hid ho1
          have HB1' := Lib.hid (HBW.out.trans (HOW.out.grow_below hg1 (by omega)))
          clear ho1 hg1
          go_wp2_with fail
          go_roundw
          case rel => exact ⟨k + 1, T + m65, L ++ [⟨yt, yk, yd, yx, yz⟩], by omega, by simp, rfl, by omega, by omega, HB1'.out, HO1.out, by rw [List.length_append, HLK.out]; rfl, by rw [List.append_assoc]; exact HLJ.out⟩
          case measure => simp [RowKit.intOf]; omega
    · have g1 : decide ((k : Int) < (l.length : Int)) = false := by simp; omega
      have gn : decide (k < l.length) = false := by simp; omega
      have hLe : L = Q := by have := HLQ.out; rw [List.drop_of_length_le (by omega)] at this; simpa [tameL] using this
      subst hLe
      go_wp2_with fail
      go_ret
      exact ⟨_, rfl, HO.out, HB.out⟩
end Go.Proofs.YtciogdhapogolaaDoor
