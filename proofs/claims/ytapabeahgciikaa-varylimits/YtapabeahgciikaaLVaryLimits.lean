/-
  VaryLimits: for every uint64 n, every int limit and every text s the law answers true: a number is read just where it is below the limit, a text where it has no more bytes than may be. No condition.
-/
import Derived.Test.YtapabeahgciikaaVRead
import Derived.ProofKit
import Derived.OpenShut
import Derived.ShutString
namespace Go.Proofs.Ytapabeahgciikaa.varyLimits
open Go.ChangeShapes Go.WideShapes Go.ChangeAt Go.RowKit
open Go.ChangeMaps (open_string shut_string)

theorem str_nil : str [] = ByteArray.empty := rfl

set_option maxRecDepth 100000 in
set_option maxHeartbeats 1000000 in
theorem overFits (a0 : Int) (limit : Int) (s : ByteArray) (w : World) (h0 : 0 ≤ a0 ∧ a0 ≤ 18446744073709551615) (hlim : -9223372036854775808 ≤ limit ∧ limit ≤ 9223372036854775807) (hs : s.size ≤ 300) (h1 : 9223372036854775808 ≤ a0) (h4 : 0 ≤ limit) (h5 : (s.size : Int) ≤ limit) :
    Calls Try.prog 7 #[.int .u64 a0, .int .i64 limit, .string s] w fun e w' => e = .returned (.bool true) ∧ Below w.heap.size w w' := by
    have hn : a0.toNat < 18446744073709551616 := by omega
    have hN : numOf (VM.enc a0.toNat) false (lim limit) = (0, [], true) := by
      rw [← List.append_nil (VM.enc a0.toNat), numOf_enc a0.toNat [] false _ hn, if_pos]
      unfold lim; split <;> omega
    have hT : textOf (VM.enc s.size ++ sb s) false limit.toNat = (sb s, [], false) := by
      have := textOf_enc (sb s) [] false limit.toNat (by rw [sb_len]; omega)
      rw [sb_len, List.append_nil, if_neg (by omega)] at this
      exact this
    have hlb : ∀ x ∈ VM.enc s.size ++ sb s, x < 256 := fun x hx => (List.mem_append.1 hx).elim (VM.enc_byte _ x) (sb_byte s x)
    have hel := VM.enc_len64 hn
    have hel2 : (VM.enc s.size ++ sb s).length ≤ 310 := by
      have := VM.enc_len64 (n := s.size) (by omega)
      rw [List.length_append, sb_len]; omega
    generalize hL5 : VM.enc s.size ++ sb s = L5 at *
    have HN := Lib.hid hN; have HT := Lib.hid hT; have HL5 := Lib.hid hL5; have HLB := Lib.hid hlb
    clear hN hT hL5 hlb
    have hd0 : decide ((300 : Int) < (s.size : Int)) = false := by simp; omega
    clear hn
    have hd1 : decide ((s.size : Int) ≤ limit) = true := by simp; omega
    go_enter Try.func7, Try.ntmps7
    go_wp2_with fail
    refine (fit_any _).mono ?_
    rintro e w1 ⟨rfl, hb⟩
    have HB := Lib.hid hb; clear hb
    go_wp2_with fail
    refine (put_int w1 a0 h0.1 h0.2).mono ?_
    rintro e w2 ⟨A, c, rfl, hlc, hcm, hA, hr, hb⟩
    have HB2 := Lib.hid (HB.out.trans (hb.mono HB.out.size))
    have HR := Lib.hid hr; have HA := Lib.hid hA
    clear hr hA hb hcm
    go_wp2_with fail
    refine (of_any w2 A (VM.enc a0.toNat) c _ HR.out HA.out (by omega) (VM.enc_byte a0.toNat)).mono ?_
    rintro e w3 ⟨g, rfl, hg, hrd, hb⟩
    have HB3 := Lib.hid (HB2.out.trans (hb.mono HB2.out.size))
    have HRD := Lib.hid hrd; have HG := Lib.hid hg
    clear hrd hb hg
    go_wp2_with fail
    refine (num_any w3 g (VM.enc a0.toNat) false limit hlim.2 HRD.out).mono ?_
    rintro e w4 ⟨rfl, hrd, hon⟩
    rw [HN.out] at hrd ⊢
    dsimp only at hrd ⊢
    have HB4 := Lib.hid (HB3.out.trans (only_below hon (Nat.le_trans HB2.out.size HG.out) HB3.out.size))
    have HRD4 := Lib.hid hrd
    clear hrd hon
    go_wp2_with fail
    refine (good_any w4 g [] _ HRD4.out).mono ?_
    rintro e w5 ⟨rfl, rfl⟩
    go_wp2_with fail
    refine (done_any w4 g [] _ HRD4.out).mono ?_
    rintro e w5 ⟨rfl, rfl⟩
    go_wp2_with fail
    refine (putText_any _ [] _ w4 w4.heap.size (by first | omega | decide) (by simp) (Own.nil _ _) (Nat.le_refl _)).mono ?_
    rintro e w5 ⟨v, rfl, ho, hb⟩
    obtain ⟨A5, c5, hv5, _, _, hA5, hr5⟩ := ho.form
    rw [hv5]
    rw [List.nil_append, HL5.out] at hr5 ⊢
    have HB5 := Lib.hid (HB4.out.trans (hb.mono HB4.out.size))
    have HR5 := Lib.hid hr5; have HA5 := Lib.hid hA5
    clear ho hv5 hA5 hr5 hb
    go_wp2_with fail
    refine (of_any w5 A5 L5 c5 _ HR5.out HA5.out (by omega) HLB.out).mono ?_
    rintro e w6 ⟨g2, rfl, hg, hrd, hb⟩
    have HB6 := Lib.hid (HB5.out.trans (hb.mono HB5.out.size))
    have HRD6 := Lib.hid hrd; have HG6 := Lib.hid hg
    clear hrd hb hg
    go_wp2_with fail
    refine (text_any w6 g2 _ false limit hlim.2 HRD6.out).mono ?_
    rintro e w7 ⟨rfl, hrd, hon⟩
    rw [HT.out] at hrd ⊢
    dsimp only at hrd ⊢
    rw [str_sb]
    have HB7 := Lib.hid (HB6.out.trans (only_below hon (Nat.le_trans HB5.out.size HG6.out) HB6.out.size))
    have HRD7 := Lib.hid hrd
    clear hrd hon
    go_wp2_with fail
    refine (good_any w7 g2 [] _ HRD7.out).mono ?_
    rintro e w8 ⟨rfl, rfl⟩
    go_wp2_with fail
    refine (done_any w7 g2 [] _ HRD7.out).mono ?_
    rintro e w8 ⟨rfl, rfl⟩
    go_wp2
    go_ret
    exact ⟨rfl, HB7.out⟩



set_option maxRecDepth 100000 in
set_option maxHeartbeats 1000000 in
theorem overLong (a0 : Int) (limit : Int) (s : ByteArray) (w : World) (h0 : 0 ≤ a0 ∧ a0 ≤ 18446744073709551615) (hlim : -9223372036854775808 ≤ limit ∧ limit ≤ 9223372036854775807) (hs : s.size ≤ 300) (h1 : 9223372036854775808 ≤ a0) (h4 : 0 ≤ limit) (h5 : limit < (s.size : Int)) :
    Calls Try.prog 7 #[.int .u64 a0, .int .i64 limit, .string s] w fun e w' => e = .returned (.bool true) ∧ Below w.heap.size w w' := by
    have hn : a0.toNat < 18446744073709551616 := by omega
    have hN : numOf (VM.enc a0.toNat) false (lim limit) = (0, [], true) := by
      rw [← List.append_nil (VM.enc a0.toNat), numOf_enc a0.toNat [] false _ hn, if_pos]
      unfold lim; split <;> omega
    have hT : textOf (VM.enc s.size ++ sb s) false limit.toNat = ([], [], true) := by
      have := textOf_enc (sb s) [] false limit.toNat (by rw [sb_len]; omega)
      rw [sb_len, List.append_nil, if_pos (by omega)] at this
      exact this
    have hlb : ∀ x ∈ VM.enc s.size ++ sb s, x < 256 := fun x hx => (List.mem_append.1 hx).elim (VM.enc_byte _ x) (sb_byte s x)
    have hel := VM.enc_len64 hn
    have hel2 : (VM.enc s.size ++ sb s).length ≤ 310 := by
      have := VM.enc_len64 (n := s.size) (by omega)
      rw [List.length_append, sb_len]; omega
    generalize hL5 : VM.enc s.size ++ sb s = L5 at *
    have HN := Lib.hid hN; have HT := Lib.hid hT; have HL5 := Lib.hid hL5; have HLB := Lib.hid hlb
    clear hN hT hL5 hlb
    have hd0 : decide ((300 : Int) < (s.size : Int)) = false := by simp; omega
    clear hn
    have hd1 : decide ((s.size : Int) ≤ limit) = false := by simp; omega
    go_enter Try.func7, Try.ntmps7
    go_wp2_with fail
    refine (fit_any _).mono ?_
    rintro e w1 ⟨rfl, hb⟩
    have HB := Lib.hid hb; clear hb
    go_wp2_with fail
    refine (put_int w1 a0 h0.1 h0.2).mono ?_
    rintro e w2 ⟨A, c, rfl, hlc, hcm, hA, hr, hb⟩
    have HB2 := Lib.hid (HB.out.trans (hb.mono HB.out.size))
    have HR := Lib.hid hr; have HA := Lib.hid hA
    clear hr hA hb hcm
    go_wp2_with fail
    refine (of_any w2 A (VM.enc a0.toNat) c _ HR.out HA.out (by omega) (VM.enc_byte a0.toNat)).mono ?_
    rintro e w3 ⟨g, rfl, hg, hrd, hb⟩
    have HB3 := Lib.hid (HB2.out.trans (hb.mono HB2.out.size))
    have HRD := Lib.hid hrd; have HG := Lib.hid hg
    clear hrd hb hg
    go_wp2_with fail
    refine (num_any w3 g (VM.enc a0.toNat) false limit hlim.2 HRD.out).mono ?_
    rintro e w4 ⟨rfl, hrd, hon⟩
    rw [HN.out] at hrd ⊢
    dsimp only at hrd ⊢
    have HB4 := Lib.hid (HB3.out.trans (only_below hon (Nat.le_trans HB2.out.size HG.out) HB3.out.size))
    have HRD4 := Lib.hid hrd
    clear hrd hon
    go_wp2_with fail
    refine (good_any w4 g [] _ HRD4.out).mono ?_
    rintro e w5 ⟨rfl, rfl⟩
    go_wp2_with fail
    refine (done_any w4 g [] _ HRD4.out).mono ?_
    rintro e w5 ⟨rfl, rfl⟩
    go_wp2_with fail
    refine (putText_any _ [] _ w4 w4.heap.size (by first | omega | decide) (by simp) (Own.nil _ _) (Nat.le_refl _)).mono ?_
    rintro e w5 ⟨v, rfl, ho, hb⟩
    obtain ⟨A5, c5, hv5, _, _, hA5, hr5⟩ := ho.form
    rw [hv5]
    rw [List.nil_append, HL5.out] at hr5 ⊢
    have HB5 := Lib.hid (HB4.out.trans (hb.mono HB4.out.size))
    have HR5 := Lib.hid hr5; have HA5 := Lib.hid hA5
    clear ho hv5 hA5 hr5 hb
    go_wp2_with fail
    refine (of_any w5 A5 L5 c5 _ HR5.out HA5.out (by omega) HLB.out).mono ?_
    rintro e w6 ⟨g2, rfl, hg, hrd, hb⟩
    have HB6 := Lib.hid (HB5.out.trans (hb.mono HB5.out.size))
    have HRD6 := Lib.hid hrd; have HG6 := Lib.hid hg
    clear hrd hb hg
    go_wp2_with fail
    refine (text_any w6 g2 _ false limit hlim.2 HRD6.out).mono ?_
    rintro e w7 ⟨rfl, hrd, hon⟩
    rw [HT.out] at hrd ⊢
    dsimp only at hrd ⊢
    rw [str_nil]
    have HB7 := Lib.hid (HB6.out.trans (only_below hon (Nat.le_trans HB5.out.size HG6.out) HB6.out.size))
    have HRD7 := Lib.hid hrd
    clear hrd hon
    go_wp2_with fail
    refine (good_any w7 g2 [] _ HRD7.out).mono ?_
    rintro e w8 ⟨rfl, rfl⟩
    go_wp2_with fail
    refine (done_any w7 g2 [] _ HRD7.out).mono ?_
    rintro e w8 ⟨rfl, rfl⟩
    go_wp2
    go_ret
    exact ⟨rfl, HB7.out⟩



set_option maxRecDepth 100000 in
set_option maxHeartbeats 1000000 in
theorem overFitsLow (a0 : Int) (limit : Int) (s : ByteArray) (w : World) (h0 : 0 ≤ a0 ∧ a0 ≤ 18446744073709551615) (hlim : -9223372036854775808 ≤ limit ∧ limit ≤ 9223372036854775807) (hs : s.size ≤ 300) (h1 : 9223372036854775808 ≤ a0) (h4 : limit < 0) (h5 : (s.size : Int) ≤ 0) :
    Calls Try.prog 7 #[.int .u64 a0, .int .i64 limit, .string s] w fun e w' => e = .returned (.bool true) ∧ Below w.heap.size w w' := by
    have hn : a0.toNat < 18446744073709551616 := by omega
    have hN : numOf (VM.enc a0.toNat) false (lim limit) = (0, [], true) := by
      rw [← List.append_nil (VM.enc a0.toNat), numOf_enc a0.toNat [] false _ hn, if_pos]
      unfold lim; split <;> omega
    have hT : textOf (VM.enc s.size ++ sb s) false limit.toNat = (sb s, [], false) := by
      have := textOf_enc (sb s) [] false limit.toNat (by rw [sb_len]; omega)
      rw [sb_len, List.append_nil, if_neg (by omega)] at this
      exact this
    have hlb : ∀ x ∈ VM.enc s.size ++ sb s, x < 256 := fun x hx => (List.mem_append.1 hx).elim (VM.enc_byte _ x) (sb_byte s x)
    have hel := VM.enc_len64 hn
    have hel2 : (VM.enc s.size ++ sb s).length ≤ 310 := by
      have := VM.enc_len64 (n := s.size) (by omega)
      rw [List.length_append, sb_len]; omega
    generalize hL5 : VM.enc s.size ++ sb s = L5 at *
    have HN := Lib.hid hN; have HT := Lib.hid hT; have HL5 := Lib.hid hL5; have HLB := Lib.hid hlb
    clear hN hT hL5 hlb
    have hd0 : decide ((300 : Int) < (s.size : Int)) = false := by simp; omega
    clear hn
    obtain rfl : s = ByteArray.empty := ByteArray.size_eq_zero_iff.1 (by omega)
    go_enter Try.func7, Try.ntmps7
    go_wp2_with fail
    refine (fit_any _).mono ?_
    rintro e w1 ⟨rfl, hb⟩
    have HB := Lib.hid hb; clear hb
    go_wp2_with fail
    refine (put_int w1 a0 h0.1 h0.2).mono ?_
    rintro e w2 ⟨A, c, rfl, hlc, hcm, hA, hr, hb⟩
    have HB2 := Lib.hid (HB.out.trans (hb.mono HB.out.size))
    have HR := Lib.hid hr; have HA := Lib.hid hA
    clear hr hA hb hcm
    go_wp2_with fail
    refine (of_any w2 A (VM.enc a0.toNat) c _ HR.out HA.out (by omega) (VM.enc_byte a0.toNat)).mono ?_
    rintro e w3 ⟨g, rfl, hg, hrd, hb⟩
    have HB3 := Lib.hid (HB2.out.trans (hb.mono HB2.out.size))
    have HRD := Lib.hid hrd; have HG := Lib.hid hg
    clear hrd hb hg
    go_wp2_with fail
    refine (num_any w3 g (VM.enc a0.toNat) false limit hlim.2 HRD.out).mono ?_
    rintro e w4 ⟨rfl, hrd, hon⟩
    rw [HN.out] at hrd ⊢
    dsimp only at hrd ⊢
    have HB4 := Lib.hid (HB3.out.trans (only_below hon (Nat.le_trans HB2.out.size HG.out) HB3.out.size))
    have HRD4 := Lib.hid hrd
    clear hrd hon
    go_wp2_with fail
    refine (good_any w4 g [] _ HRD4.out).mono ?_
    rintro e w5 ⟨rfl, rfl⟩
    go_wp2_with fail
    refine (done_any w4 g [] _ HRD4.out).mono ?_
    rintro e w5 ⟨rfl, rfl⟩
    go_wp2_with fail
    refine (putText_any _ [] _ w4 w4.heap.size (by first | omega | decide) (by simp) (Own.nil _ _) (Nat.le_refl _)).mono ?_
    rintro e w5 ⟨v, rfl, ho, hb⟩
    obtain ⟨A5, c5, hv5, _, _, hA5, hr5⟩ := ho.form
    rw [hv5]
    rw [List.nil_append, HL5.out] at hr5 ⊢
    have HB5 := Lib.hid (HB4.out.trans (hb.mono HB4.out.size))
    have HR5 := Lib.hid hr5; have HA5 := Lib.hid hA5
    clear ho hv5 hA5 hr5 hb
    go_wp2_with fail
    refine (of_any w5 A5 L5 c5 _ HR5.out HA5.out (by omega) HLB.out).mono ?_
    rintro e w6 ⟨g2, rfl, hg, hrd, hb⟩
    have HB6 := Lib.hid (HB5.out.trans (hb.mono HB5.out.size))
    have HRD6 := Lib.hid hrd; have HG6 := Lib.hid hg
    clear hrd hb hg
    go_wp2_with fail
    refine (text_any w6 g2 _ false limit hlim.2 HRD6.out).mono ?_
    rintro e w7 ⟨rfl, hrd, hon⟩
    rw [HT.out] at hrd ⊢
    dsimp only at hrd ⊢
    rw [str_sb]
    have HB7 := Lib.hid (HB6.out.trans (only_below hon (Nat.le_trans HB5.out.size HG6.out) HB6.out.size))
    have HRD7 := Lib.hid hrd
    clear hrd hon
    go_wp2_with fail
    refine (good_any w7 g2 [] _ HRD7.out).mono ?_
    rintro e w8 ⟨rfl, rfl⟩
    go_wp2_with fail
    refine (done_any w7 g2 [] _ HRD7.out).mono ?_
    rintro e w8 ⟨rfl, rfl⟩
    go_wp2
    go_ret
    exact ⟨rfl, HB7.out⟩



set_option maxRecDepth 100000 in
set_option maxHeartbeats 1000000 in
theorem overLongLow (a0 : Int) (limit : Int) (s : ByteArray) (w : World) (h0 : 0 ≤ a0 ∧ a0 ≤ 18446744073709551615) (hlim : -9223372036854775808 ≤ limit ∧ limit ≤ 9223372036854775807) (hs : s.size ≤ 300) (h1 : 9223372036854775808 ≤ a0) (h4 : limit < 0) (h5 : 0 < (s.size : Int)) :
    Calls Try.prog 7 #[.int .u64 a0, .int .i64 limit, .string s] w fun e w' => e = .returned (.bool true) ∧ Below w.heap.size w w' := by
    have hn : a0.toNat < 18446744073709551616 := by omega
    have hN : numOf (VM.enc a0.toNat) false (lim limit) = (0, [], true) := by
      rw [← List.append_nil (VM.enc a0.toNat), numOf_enc a0.toNat [] false _ hn, if_pos]
      unfold lim; split <;> omega
    have hT : textOf (VM.enc s.size ++ sb s) false limit.toNat = ([], [], true) := by
      have := textOf_enc (sb s) [] false limit.toNat (by rw [sb_len]; omega)
      rw [sb_len, List.append_nil, if_pos (by omega)] at this
      exact this
    have hlb : ∀ x ∈ VM.enc s.size ++ sb s, x < 256 := fun x hx => (List.mem_append.1 hx).elim (VM.enc_byte _ x) (sb_byte s x)
    have hel := VM.enc_len64 hn
    have hel2 : (VM.enc s.size ++ sb s).length ≤ 310 := by
      have := VM.enc_len64 (n := s.size) (by omega)
      rw [List.length_append, sb_len]; omega
    generalize hL5 : VM.enc s.size ++ sb s = L5 at *
    have HN := Lib.hid hN; have HT := Lib.hid hT; have HL5 := Lib.hid hL5; have HLB := Lib.hid hlb
    clear hN hT hL5 hlb
    have hd0 : decide ((300 : Int) < (s.size : Int)) = false := by simp; omega
    clear hn
    have hne : ¬ s = ByteArray.empty := by rintro rfl; exact absurd h5 (by decide)
    have hd1 : decide (s = ByteArray.empty) = false := by simp [hne]
    go_enter Try.func7, Try.ntmps7
    go_wp2_with fail
    refine (fit_any _).mono ?_
    rintro e w1 ⟨rfl, hb⟩
    have HB := Lib.hid hb; clear hb
    go_wp2_with fail
    refine (put_int w1 a0 h0.1 h0.2).mono ?_
    rintro e w2 ⟨A, c, rfl, hlc, hcm, hA, hr, hb⟩
    have HB2 := Lib.hid (HB.out.trans (hb.mono HB.out.size))
    have HR := Lib.hid hr; have HA := Lib.hid hA
    clear hr hA hb hcm
    go_wp2_with fail
    refine (of_any w2 A (VM.enc a0.toNat) c _ HR.out HA.out (by omega) (VM.enc_byte a0.toNat)).mono ?_
    rintro e w3 ⟨g, rfl, hg, hrd, hb⟩
    have HB3 := Lib.hid (HB2.out.trans (hb.mono HB2.out.size))
    have HRD := Lib.hid hrd; have HG := Lib.hid hg
    clear hrd hb hg
    go_wp2_with fail
    refine (num_any w3 g (VM.enc a0.toNat) false limit hlim.2 HRD.out).mono ?_
    rintro e w4 ⟨rfl, hrd, hon⟩
    rw [HN.out] at hrd ⊢
    dsimp only at hrd ⊢
    have HB4 := Lib.hid (HB3.out.trans (only_below hon (Nat.le_trans HB2.out.size HG.out) HB3.out.size))
    have HRD4 := Lib.hid hrd
    clear hrd hon
    go_wp2_with fail
    refine (good_any w4 g [] _ HRD4.out).mono ?_
    rintro e w5 ⟨rfl, rfl⟩
    go_wp2_with fail
    refine (done_any w4 g [] _ HRD4.out).mono ?_
    rintro e w5 ⟨rfl, rfl⟩
    go_wp2_with fail
    refine (putText_any _ [] _ w4 w4.heap.size (by first | omega | decide) (by simp) (Own.nil _ _) (Nat.le_refl _)).mono ?_
    rintro e w5 ⟨v, rfl, ho, hb⟩
    obtain ⟨A5, c5, hv5, _, _, hA5, hr5⟩ := ho.form
    rw [hv5]
    rw [List.nil_append, HL5.out] at hr5 ⊢
    have HB5 := Lib.hid (HB4.out.trans (hb.mono HB4.out.size))
    have HR5 := Lib.hid hr5; have HA5 := Lib.hid hA5
    clear ho hv5 hA5 hr5 hb
    go_wp2_with fail
    refine (of_any w5 A5 L5 c5 _ HR5.out HA5.out (by omega) HLB.out).mono ?_
    rintro e w6 ⟨g2, rfl, hg, hrd, hb⟩
    have HB6 := Lib.hid (HB5.out.trans (hb.mono HB5.out.size))
    have HRD6 := Lib.hid hrd; have HG6 := Lib.hid hg
    clear hrd hb hg
    go_wp2_with fail
    refine (text_any w6 g2 _ false limit hlim.2 HRD6.out).mono ?_
    rintro e w7 ⟨rfl, hrd, hon⟩
    rw [HT.out] at hrd ⊢
    dsimp only at hrd ⊢
    rw [str_nil]
    have HB7 := Lib.hid (HB6.out.trans (only_below hon (Nat.le_trans HB5.out.size HG6.out) HB6.out.size))
    have HRD7 := Lib.hid hrd
    clear hrd hon
    go_wp2_with fail
    refine (good_any w7 g2 [] _ HRD7.out).mono ?_
    rintro e w8 ⟨rfl, rfl⟩
    go_wp2_with fail
    refine (done_any w7 g2 [] _ HRD7.out).mono ?_
    rintro e w8 ⟨rfl, rfl⟩
    go_wp2
    go_ret
    exact ⟨rfl, HB7.out⟩



set_option maxRecDepth 100000 in
set_option maxHeartbeats 1000000 in
theorem freeFits (a0 : Int) (limit : Int) (s : ByteArray) (w : World) (h0 : 0 ≤ a0 ∧ a0 ≤ 18446744073709551615) (hlim : -9223372036854775808 ≤ limit ∧ limit ≤ 9223372036854775807) (hs : s.size ≤ 300) (h1 : a0 < 9223372036854775808) (h2 : limit ≤ 0) (h4 : 0 ≤ limit) (h5 : (s.size : Int) ≤ limit) :
    Calls Try.prog 7 #[.int .u64 a0, .int .i64 limit, .string s] w fun e w' => e = .returned (.bool true) ∧ Below w.heap.size w w' := by
    have hn : a0.toNat < 18446744073709551616 := by omega
    have hN : numOf (VM.enc a0.toNat) false (lim limit) = (a0.toNat, [], false) := by
      rw [← List.append_nil (VM.enc a0.toNat), numOf_enc a0.toNat [] false _ hn, if_neg]
      unfold lim; split <;> omega
    have hT : textOf (VM.enc s.size ++ sb s) false limit.toNat = (sb s, [], false) := by
      have := textOf_enc (sb s) [] false limit.toNat (by rw [sb_len]; omega)
      rw [sb_len, List.append_nil, if_neg (by omega)] at this
      exact this
    have hlb : ∀ x ∈ VM.enc s.size ++ sb s, x < 256 := fun x hx => (List.mem_append.1 hx).elim (VM.enc_byte _ x) (sb_byte s x)
    have hel := VM.enc_len64 hn
    have hel2 : (VM.enc s.size ++ sb s).length ≤ 310 := by
      have := VM.enc_len64 (n := s.size) (by omega)
      rw [List.length_append, sb_len]; omega
    generalize hL5 : VM.enc s.size ++ sb s = L5 at *
    have HN := Lib.hid hN; have HT := Lib.hid hT; have HL5 := Lib.hid hL5; have HLB := Lib.hid hlb
    clear hN hT hL5 hlb
    have hd0 : decide ((300 : Int) < (s.size : Int)) = false := by simp; omega
    clear hn
    have hd1 : decide ((s.size : Int) ≤ limit) = true := by simp; omega
    go_enter Try.func7, Try.ntmps7
    go_wp2_with fail
    refine (fit_any _).mono ?_
    rintro e w1 ⟨rfl, hb⟩
    have HB := Lib.hid hb; clear hb
    go_wp2_with fail
    refine (put_int w1 a0 h0.1 h0.2).mono ?_
    rintro e w2 ⟨A, c, rfl, hlc, hcm, hA, hr, hb⟩
    have HB2 := Lib.hid (HB.out.trans (hb.mono HB.out.size))
    have HR := Lib.hid hr; have HA := Lib.hid hA
    clear hr hA hb hcm
    go_wp2_with fail
    refine (of_any w2 A (VM.enc a0.toNat) c _ HR.out HA.out (by omega) (VM.enc_byte a0.toNat)).mono ?_
    rintro e w3 ⟨g, rfl, hg, hrd, hb⟩
    have HB3 := Lib.hid (HB2.out.trans (hb.mono HB2.out.size))
    have HRD := Lib.hid hrd; have HG := Lib.hid hg
    clear hrd hb hg
    go_wp2_with fail
    refine (num_any w3 g (VM.enc a0.toNat) false limit hlim.2 HRD.out).mono ?_
    rintro e w4 ⟨rfl, hrd, hon⟩
    rw [HN.out] at hrd ⊢
    dsimp only at hrd ⊢
    rw [Int.toNat_of_nonneg h0.1]
    have HB4 := Lib.hid (HB3.out.trans (only_below hon (Nat.le_trans HB2.out.size HG.out) HB3.out.size))
    have HRD4 := Lib.hid hrd
    clear hrd hon
    go_wp2_with fail
    refine (good_any w4 g [] _ HRD4.out).mono ?_
    rintro e w5 ⟨rfl, rfl⟩
    go_wp2_with fail
    refine (done_any w4 g [] _ HRD4.out).mono ?_
    rintro e w5 ⟨rfl, rfl⟩
    go_wp2_with fail
    refine (putText_any _ [] _ w4 w4.heap.size (by first | omega | decide) (by simp) (Own.nil _ _) (Nat.le_refl _)).mono ?_
    rintro e w5 ⟨v, rfl, ho, hb⟩
    obtain ⟨A5, c5, hv5, _, _, hA5, hr5⟩ := ho.form
    rw [hv5]
    rw [List.nil_append, HL5.out] at hr5 ⊢
    have HB5 := Lib.hid (HB4.out.trans (hb.mono HB4.out.size))
    have HR5 := Lib.hid hr5; have HA5 := Lib.hid hA5
    clear ho hv5 hA5 hr5 hb
    go_wp2_with fail
    refine (of_any w5 A5 L5 c5 _ HR5.out HA5.out (by omega) HLB.out).mono ?_
    rintro e w6 ⟨g2, rfl, hg, hrd, hb⟩
    have HB6 := Lib.hid (HB5.out.trans (hb.mono HB5.out.size))
    have HRD6 := Lib.hid hrd; have HG6 := Lib.hid hg
    clear hrd hb hg
    go_wp2_with fail
    refine (text_any w6 g2 _ false limit hlim.2 HRD6.out).mono ?_
    rintro e w7 ⟨rfl, hrd, hon⟩
    rw [HT.out] at hrd ⊢
    dsimp only at hrd ⊢
    rw [str_sb]
    have HB7 := Lib.hid (HB6.out.trans (only_below hon (Nat.le_trans HB5.out.size HG6.out) HB6.out.size))
    have HRD7 := Lib.hid hrd
    clear hrd hon
    go_wp2_with fail
    refine (good_any w7 g2 [] _ HRD7.out).mono ?_
    rintro e w8 ⟨rfl, rfl⟩
    go_wp2_with fail
    refine (done_any w7 g2 [] _ HRD7.out).mono ?_
    rintro e w8 ⟨rfl, rfl⟩
    go_wp2
    go_ret
    exact ⟨rfl, HB7.out⟩



set_option maxRecDepth 100000 in
set_option maxHeartbeats 1000000 in
theorem freeLong (a0 : Int) (limit : Int) (s : ByteArray) (w : World) (h0 : 0 ≤ a0 ∧ a0 ≤ 18446744073709551615) (hlim : -9223372036854775808 ≤ limit ∧ limit ≤ 9223372036854775807) (hs : s.size ≤ 300) (h1 : a0 < 9223372036854775808) (h2 : limit ≤ 0) (h4 : 0 ≤ limit) (h5 : limit < (s.size : Int)) :
    Calls Try.prog 7 #[.int .u64 a0, .int .i64 limit, .string s] w fun e w' => e = .returned (.bool true) ∧ Below w.heap.size w w' := by
    have hn : a0.toNat < 18446744073709551616 := by omega
    have hN : numOf (VM.enc a0.toNat) false (lim limit) = (a0.toNat, [], false) := by
      rw [← List.append_nil (VM.enc a0.toNat), numOf_enc a0.toNat [] false _ hn, if_neg]
      unfold lim; split <;> omega
    have hT : textOf (VM.enc s.size ++ sb s) false limit.toNat = ([], [], true) := by
      have := textOf_enc (sb s) [] false limit.toNat (by rw [sb_len]; omega)
      rw [sb_len, List.append_nil, if_pos (by omega)] at this
      exact this
    have hlb : ∀ x ∈ VM.enc s.size ++ sb s, x < 256 := fun x hx => (List.mem_append.1 hx).elim (VM.enc_byte _ x) (sb_byte s x)
    have hel := VM.enc_len64 hn
    have hel2 : (VM.enc s.size ++ sb s).length ≤ 310 := by
      have := VM.enc_len64 (n := s.size) (by omega)
      rw [List.length_append, sb_len]; omega
    generalize hL5 : VM.enc s.size ++ sb s = L5 at *
    have HN := Lib.hid hN; have HT := Lib.hid hT; have HL5 := Lib.hid hL5; have HLB := Lib.hid hlb
    clear hN hT hL5 hlb
    have hd0 : decide ((300 : Int) < (s.size : Int)) = false := by simp; omega
    clear hn
    have hd1 : decide ((s.size : Int) ≤ limit) = false := by simp; omega
    go_enter Try.func7, Try.ntmps7
    go_wp2_with fail
    refine (fit_any _).mono ?_
    rintro e w1 ⟨rfl, hb⟩
    have HB := Lib.hid hb; clear hb
    go_wp2_with fail
    refine (put_int w1 a0 h0.1 h0.2).mono ?_
    rintro e w2 ⟨A, c, rfl, hlc, hcm, hA, hr, hb⟩
    have HB2 := Lib.hid (HB.out.trans (hb.mono HB.out.size))
    have HR := Lib.hid hr; have HA := Lib.hid hA
    clear hr hA hb hcm
    go_wp2_with fail
    refine (of_any w2 A (VM.enc a0.toNat) c _ HR.out HA.out (by omega) (VM.enc_byte a0.toNat)).mono ?_
    rintro e w3 ⟨g, rfl, hg, hrd, hb⟩
    have HB3 := Lib.hid (HB2.out.trans (hb.mono HB2.out.size))
    have HRD := Lib.hid hrd; have HG := Lib.hid hg
    clear hrd hb hg
    go_wp2_with fail
    refine (num_any w3 g (VM.enc a0.toNat) false limit hlim.2 HRD.out).mono ?_
    rintro e w4 ⟨rfl, hrd, hon⟩
    rw [HN.out] at hrd ⊢
    dsimp only at hrd ⊢
    rw [Int.toNat_of_nonneg h0.1]
    have HB4 := Lib.hid (HB3.out.trans (only_below hon (Nat.le_trans HB2.out.size HG.out) HB3.out.size))
    have HRD4 := Lib.hid hrd
    clear hrd hon
    go_wp2_with fail
    refine (good_any w4 g [] _ HRD4.out).mono ?_
    rintro e w5 ⟨rfl, rfl⟩
    go_wp2_with fail
    refine (done_any w4 g [] _ HRD4.out).mono ?_
    rintro e w5 ⟨rfl, rfl⟩
    go_wp2_with fail
    refine (putText_any _ [] _ w4 w4.heap.size (by first | omega | decide) (by simp) (Own.nil _ _) (Nat.le_refl _)).mono ?_
    rintro e w5 ⟨v, rfl, ho, hb⟩
    obtain ⟨A5, c5, hv5, _, _, hA5, hr5⟩ := ho.form
    rw [hv5]
    rw [List.nil_append, HL5.out] at hr5 ⊢
    have HB5 := Lib.hid (HB4.out.trans (hb.mono HB4.out.size))
    have HR5 := Lib.hid hr5; have HA5 := Lib.hid hA5
    clear ho hv5 hA5 hr5 hb
    go_wp2_with fail
    refine (of_any w5 A5 L5 c5 _ HR5.out HA5.out (by omega) HLB.out).mono ?_
    rintro e w6 ⟨g2, rfl, hg, hrd, hb⟩
    have HB6 := Lib.hid (HB5.out.trans (hb.mono HB5.out.size))
    have HRD6 := Lib.hid hrd; have HG6 := Lib.hid hg
    clear hrd hb hg
    go_wp2_with fail
    refine (text_any w6 g2 _ false limit hlim.2 HRD6.out).mono ?_
    rintro e w7 ⟨rfl, hrd, hon⟩
    rw [HT.out] at hrd ⊢
    dsimp only at hrd ⊢
    rw [str_nil]
    have HB7 := Lib.hid (HB6.out.trans (only_below hon (Nat.le_trans HB5.out.size HG6.out) HB6.out.size))
    have HRD7 := Lib.hid hrd
    clear hrd hon
    go_wp2_with fail
    refine (good_any w7 g2 [] _ HRD7.out).mono ?_
    rintro e w8 ⟨rfl, rfl⟩
    go_wp2_with fail
    refine (done_any w7 g2 [] _ HRD7.out).mono ?_
    rintro e w8 ⟨rfl, rfl⟩
    go_wp2
    go_ret
    exact ⟨rfl, HB7.out⟩



set_option maxRecDepth 100000 in
set_option maxHeartbeats 1000000 in
theorem freeFitsLow (a0 : Int) (limit : Int) (s : ByteArray) (w : World) (h0 : 0 ≤ a0 ∧ a0 ≤ 18446744073709551615) (hlim : -9223372036854775808 ≤ limit ∧ limit ≤ 9223372036854775807) (hs : s.size ≤ 300) (h1 : a0 < 9223372036854775808) (h2 : limit ≤ 0) (h4 : limit < 0) (h5 : (s.size : Int) ≤ 0) :
    Calls Try.prog 7 #[.int .u64 a0, .int .i64 limit, .string s] w fun e w' => e = .returned (.bool true) ∧ Below w.heap.size w w' := by
    have hn : a0.toNat < 18446744073709551616 := by omega
    have hN : numOf (VM.enc a0.toNat) false (lim limit) = (a0.toNat, [], false) := by
      rw [← List.append_nil (VM.enc a0.toNat), numOf_enc a0.toNat [] false _ hn, if_neg]
      unfold lim; split <;> omega
    have hT : textOf (VM.enc s.size ++ sb s) false limit.toNat = (sb s, [], false) := by
      have := textOf_enc (sb s) [] false limit.toNat (by rw [sb_len]; omega)
      rw [sb_len, List.append_nil, if_neg (by omega)] at this
      exact this
    have hlb : ∀ x ∈ VM.enc s.size ++ sb s, x < 256 := fun x hx => (List.mem_append.1 hx).elim (VM.enc_byte _ x) (sb_byte s x)
    have hel := VM.enc_len64 hn
    have hel2 : (VM.enc s.size ++ sb s).length ≤ 310 := by
      have := VM.enc_len64 (n := s.size) (by omega)
      rw [List.length_append, sb_len]; omega
    generalize hL5 : VM.enc s.size ++ sb s = L5 at *
    have HN := Lib.hid hN; have HT := Lib.hid hT; have HL5 := Lib.hid hL5; have HLB := Lib.hid hlb
    clear hN hT hL5 hlb
    have hd0 : decide ((300 : Int) < (s.size : Int)) = false := by simp; omega
    clear hn
    obtain rfl : s = ByteArray.empty := ByteArray.size_eq_zero_iff.1 (by omega)
    go_enter Try.func7, Try.ntmps7
    go_wp2_with fail
    refine (fit_any _).mono ?_
    rintro e w1 ⟨rfl, hb⟩
    have HB := Lib.hid hb; clear hb
    go_wp2_with fail
    refine (put_int w1 a0 h0.1 h0.2).mono ?_
    rintro e w2 ⟨A, c, rfl, hlc, hcm, hA, hr, hb⟩
    have HB2 := Lib.hid (HB.out.trans (hb.mono HB.out.size))
    have HR := Lib.hid hr; have HA := Lib.hid hA
    clear hr hA hb hcm
    go_wp2_with fail
    refine (of_any w2 A (VM.enc a0.toNat) c _ HR.out HA.out (by omega) (VM.enc_byte a0.toNat)).mono ?_
    rintro e w3 ⟨g, rfl, hg, hrd, hb⟩
    have HB3 := Lib.hid (HB2.out.trans (hb.mono HB2.out.size))
    have HRD := Lib.hid hrd; have HG := Lib.hid hg
    clear hrd hb hg
    go_wp2_with fail
    refine (num_any w3 g (VM.enc a0.toNat) false limit hlim.2 HRD.out).mono ?_
    rintro e w4 ⟨rfl, hrd, hon⟩
    rw [HN.out] at hrd ⊢
    dsimp only at hrd ⊢
    rw [Int.toNat_of_nonneg h0.1]
    have HB4 := Lib.hid (HB3.out.trans (only_below hon (Nat.le_trans HB2.out.size HG.out) HB3.out.size))
    have HRD4 := Lib.hid hrd
    clear hrd hon
    go_wp2_with fail
    refine (good_any w4 g [] _ HRD4.out).mono ?_
    rintro e w5 ⟨rfl, rfl⟩
    go_wp2_with fail
    refine (done_any w4 g [] _ HRD4.out).mono ?_
    rintro e w5 ⟨rfl, rfl⟩
    go_wp2_with fail
    refine (putText_any _ [] _ w4 w4.heap.size (by first | omega | decide) (by simp) (Own.nil _ _) (Nat.le_refl _)).mono ?_
    rintro e w5 ⟨v, rfl, ho, hb⟩
    obtain ⟨A5, c5, hv5, _, _, hA5, hr5⟩ := ho.form
    rw [hv5]
    rw [List.nil_append, HL5.out] at hr5 ⊢
    have HB5 := Lib.hid (HB4.out.trans (hb.mono HB4.out.size))
    have HR5 := Lib.hid hr5; have HA5 := Lib.hid hA5
    clear ho hv5 hA5 hr5 hb
    go_wp2_with fail
    refine (of_any w5 A5 L5 c5 _ HR5.out HA5.out (by omega) HLB.out).mono ?_
    rintro e w6 ⟨g2, rfl, hg, hrd, hb⟩
    have HB6 := Lib.hid (HB5.out.trans (hb.mono HB5.out.size))
    have HRD6 := Lib.hid hrd; have HG6 := Lib.hid hg
    clear hrd hb hg
    go_wp2_with fail
    refine (text_any w6 g2 _ false limit hlim.2 HRD6.out).mono ?_
    rintro e w7 ⟨rfl, hrd, hon⟩
    rw [HT.out] at hrd ⊢
    dsimp only at hrd ⊢
    rw [str_sb]
    have HB7 := Lib.hid (HB6.out.trans (only_below hon (Nat.le_trans HB5.out.size HG6.out) HB6.out.size))
    have HRD7 := Lib.hid hrd
    clear hrd hon
    go_wp2_with fail
    refine (good_any w7 g2 [] _ HRD7.out).mono ?_
    rintro e w8 ⟨rfl, rfl⟩
    go_wp2_with fail
    refine (done_any w7 g2 [] _ HRD7.out).mono ?_
    rintro e w8 ⟨rfl, rfl⟩
    go_wp2
    go_ret
    exact ⟨rfl, HB7.out⟩



set_option maxRecDepth 100000 in
set_option maxHeartbeats 1000000 in
theorem freeLongLow (a0 : Int) (limit : Int) (s : ByteArray) (w : World) (h0 : 0 ≤ a0 ∧ a0 ≤ 18446744073709551615) (hlim : -9223372036854775808 ≤ limit ∧ limit ≤ 9223372036854775807) (hs : s.size ≤ 300) (h1 : a0 < 9223372036854775808) (h2 : limit ≤ 0) (h4 : limit < 0) (h5 : 0 < (s.size : Int)) :
    Calls Try.prog 7 #[.int .u64 a0, .int .i64 limit, .string s] w fun e w' => e = .returned (.bool true) ∧ Below w.heap.size w w' := by
    have hn : a0.toNat < 18446744073709551616 := by omega
    have hN : numOf (VM.enc a0.toNat) false (lim limit) = (a0.toNat, [], false) := by
      rw [← List.append_nil (VM.enc a0.toNat), numOf_enc a0.toNat [] false _ hn, if_neg]
      unfold lim; split <;> omega
    have hT : textOf (VM.enc s.size ++ sb s) false limit.toNat = ([], [], true) := by
      have := textOf_enc (sb s) [] false limit.toNat (by rw [sb_len]; omega)
      rw [sb_len, List.append_nil, if_pos (by omega)] at this
      exact this
    have hlb : ∀ x ∈ VM.enc s.size ++ sb s, x < 256 := fun x hx => (List.mem_append.1 hx).elim (VM.enc_byte _ x) (sb_byte s x)
    have hel := VM.enc_len64 hn
    have hel2 : (VM.enc s.size ++ sb s).length ≤ 310 := by
      have := VM.enc_len64 (n := s.size) (by omega)
      rw [List.length_append, sb_len]; omega
    generalize hL5 : VM.enc s.size ++ sb s = L5 at *
    have HN := Lib.hid hN; have HT := Lib.hid hT; have HL5 := Lib.hid hL5; have HLB := Lib.hid hlb
    clear hN hT hL5 hlb
    have hd0 : decide ((300 : Int) < (s.size : Int)) = false := by simp; omega
    clear hn
    have hne : ¬ s = ByteArray.empty := by rintro rfl; exact absurd h5 (by decide)
    have hd1 : decide (s = ByteArray.empty) = false := by simp [hne]
    go_enter Try.func7, Try.ntmps7
    go_wp2_with fail
    refine (fit_any _).mono ?_
    rintro e w1 ⟨rfl, hb⟩
    have HB := Lib.hid hb; clear hb
    go_wp2_with fail
    refine (put_int w1 a0 h0.1 h0.2).mono ?_
    rintro e w2 ⟨A, c, rfl, hlc, hcm, hA, hr, hb⟩
    have HB2 := Lib.hid (HB.out.trans (hb.mono HB.out.size))
    have HR := Lib.hid hr; have HA := Lib.hid hA
    clear hr hA hb hcm
    go_wp2_with fail
    refine (of_any w2 A (VM.enc a0.toNat) c _ HR.out HA.out (by omega) (VM.enc_byte a0.toNat)).mono ?_
    rintro e w3 ⟨g, rfl, hg, hrd, hb⟩
    have HB3 := Lib.hid (HB2.out.trans (hb.mono HB2.out.size))
    have HRD := Lib.hid hrd; have HG := Lib.hid hg
    clear hrd hb hg
    go_wp2_with fail
    refine (num_any w3 g (VM.enc a0.toNat) false limit hlim.2 HRD.out).mono ?_
    rintro e w4 ⟨rfl, hrd, hon⟩
    rw [HN.out] at hrd ⊢
    dsimp only at hrd ⊢
    rw [Int.toNat_of_nonneg h0.1]
    have HB4 := Lib.hid (HB3.out.trans (only_below hon (Nat.le_trans HB2.out.size HG.out) HB3.out.size))
    have HRD4 := Lib.hid hrd
    clear hrd hon
    go_wp2_with fail
    refine (good_any w4 g [] _ HRD4.out).mono ?_
    rintro e w5 ⟨rfl, rfl⟩
    go_wp2_with fail
    refine (done_any w4 g [] _ HRD4.out).mono ?_
    rintro e w5 ⟨rfl, rfl⟩
    go_wp2_with fail
    refine (putText_any _ [] _ w4 w4.heap.size (by first | omega | decide) (by simp) (Own.nil _ _) (Nat.le_refl _)).mono ?_
    rintro e w5 ⟨v, rfl, ho, hb⟩
    obtain ⟨A5, c5, hv5, _, _, hA5, hr5⟩ := ho.form
    rw [hv5]
    rw [List.nil_append, HL5.out] at hr5 ⊢
    have HB5 := Lib.hid (HB4.out.trans (hb.mono HB4.out.size))
    have HR5 := Lib.hid hr5; have HA5 := Lib.hid hA5
    clear ho hv5 hA5 hr5 hb
    go_wp2_with fail
    refine (of_any w5 A5 L5 c5 _ HR5.out HA5.out (by omega) HLB.out).mono ?_
    rintro e w6 ⟨g2, rfl, hg, hrd, hb⟩
    have HB6 := Lib.hid (HB5.out.trans (hb.mono HB5.out.size))
    have HRD6 := Lib.hid hrd; have HG6 := Lib.hid hg
    clear hrd hb hg
    go_wp2_with fail
    refine (text_any w6 g2 _ false limit hlim.2 HRD6.out).mono ?_
    rintro e w7 ⟨rfl, hrd, hon⟩
    rw [HT.out] at hrd ⊢
    dsimp only at hrd ⊢
    rw [str_nil]
    have HB7 := Lib.hid (HB6.out.trans (only_below hon (Nat.le_trans HB5.out.size HG6.out) HB6.out.size))
    have HRD7 := Lib.hid hrd
    clear hrd hon
    go_wp2_with fail
    refine (good_any w7 g2 [] _ HRD7.out).mono ?_
    rintro e w8 ⟨rfl, rfl⟩
    go_wp2_with fail
    refine (done_any w7 g2 [] _ HRD7.out).mono ?_
    rintro e w8 ⟨rfl, rfl⟩
    go_wp2
    go_ret
    exact ⟨rfl, HB7.out⟩



set_option maxRecDepth 100000 in
set_option maxHeartbeats 1000000 in
theorem fineFits (a0 : Int) (limit : Int) (s : ByteArray) (w : World) (h0 : 0 ≤ a0 ∧ a0 ≤ 18446744073709551615) (hlim : -9223372036854775808 ≤ limit ∧ limit ≤ 9223372036854775807) (hs : s.size ≤ 300) (h1 : a0 < 9223372036854775808) (h2 : 0 < limit) (h3 : a0 < limit) (h5 : (s.size : Int) ≤ limit) :
    Calls Try.prog 7 #[.int .u64 a0, .int .i64 limit, .string s] w fun e w' => e = .returned (.bool true) ∧ Below w.heap.size w w' := by
    have hn : a0.toNat < 18446744073709551616 := by omega
    have hN : numOf (VM.enc a0.toNat) false (lim limit) = (a0.toNat, [], false) := by
      rw [← List.append_nil (VM.enc a0.toNat), numOf_enc a0.toNat [] false _ hn, if_neg]
      unfold lim; split <;> omega
    have hT : textOf (VM.enc s.size ++ sb s) false limit.toNat = (sb s, [], false) := by
      have := textOf_enc (sb s) [] false limit.toNat (by rw [sb_len]; omega)
      rw [sb_len, List.append_nil, if_neg (by omega)] at this
      exact this
    have hlb : ∀ x ∈ VM.enc s.size ++ sb s, x < 256 := fun x hx => (List.mem_append.1 hx).elim (VM.enc_byte _ x) (sb_byte s x)
    have hel := VM.enc_len64 hn
    have hel2 : (VM.enc s.size ++ sb s).length ≤ 310 := by
      have := VM.enc_len64 (n := s.size) (by omega)
      rw [List.length_append, sb_len]; omega
    generalize hL5 : VM.enc s.size ++ sb s = L5 at *
    have HN := Lib.hid hN; have HT := Lib.hid hT; have HL5 := Lib.hid hL5; have HLB := Lib.hid hlb
    clear hN hT hL5 hlb
    have hd0 : decide ((300 : Int) < (s.size : Int)) = false := by simp; omega
    clear hn
    have hd1 : decide ((s.size : Int) ≤ limit) = true := by simp; omega
    go_enter Try.func7, Try.ntmps7
    go_wp2_with fail
    refine (fit_any _).mono ?_
    rintro e w1 ⟨rfl, hb⟩
    have HB := Lib.hid hb; clear hb
    go_wp2_with fail
    refine (put_int w1 a0 h0.1 h0.2).mono ?_
    rintro e w2 ⟨A, c, rfl, hlc, hcm, hA, hr, hb⟩
    have HB2 := Lib.hid (HB.out.trans (hb.mono HB.out.size))
    have HR := Lib.hid hr; have HA := Lib.hid hA
    clear hr hA hb hcm
    go_wp2_with fail
    refine (of_any w2 A (VM.enc a0.toNat) c _ HR.out HA.out (by omega) (VM.enc_byte a0.toNat)).mono ?_
    rintro e w3 ⟨g, rfl, hg, hrd, hb⟩
    have HB3 := Lib.hid (HB2.out.trans (hb.mono HB2.out.size))
    have HRD := Lib.hid hrd; have HG := Lib.hid hg
    clear hrd hb hg
    go_wp2_with fail
    refine (num_any w3 g (VM.enc a0.toNat) false limit hlim.2 HRD.out).mono ?_
    rintro e w4 ⟨rfl, hrd, hon⟩
    rw [HN.out] at hrd ⊢
    dsimp only at hrd ⊢
    rw [Int.toNat_of_nonneg h0.1]
    have HB4 := Lib.hid (HB3.out.trans (only_below hon (Nat.le_trans HB2.out.size HG.out) HB3.out.size))
    have HRD4 := Lib.hid hrd
    clear hrd hon
    go_wp2_with fail
    refine (good_any w4 g [] _ HRD4.out).mono ?_
    rintro e w5 ⟨rfl, rfl⟩
    go_wp2_with fail
    refine (done_any w4 g [] _ HRD4.out).mono ?_
    rintro e w5 ⟨rfl, rfl⟩
    go_wp2_with fail
    refine (putText_any _ [] _ w4 w4.heap.size (by first | omega | decide) (by simp) (Own.nil _ _) (Nat.le_refl _)).mono ?_
    rintro e w5 ⟨v, rfl, ho, hb⟩
    obtain ⟨A5, c5, hv5, _, _, hA5, hr5⟩ := ho.form
    rw [hv5]
    rw [List.nil_append, HL5.out] at hr5 ⊢
    have HB5 := Lib.hid (HB4.out.trans (hb.mono HB4.out.size))
    have HR5 := Lib.hid hr5; have HA5 := Lib.hid hA5
    clear ho hv5 hA5 hr5 hb
    go_wp2_with fail
    refine (of_any w5 A5 L5 c5 _ HR5.out HA5.out (by omega) HLB.out).mono ?_
    rintro e w6 ⟨g2, rfl, hg, hrd, hb⟩
    have HB6 := Lib.hid (HB5.out.trans (hb.mono HB5.out.size))
    have HRD6 := Lib.hid hrd; have HG6 := Lib.hid hg
    clear hrd hb hg
    go_wp2_with fail
    refine (text_any w6 g2 _ false limit hlim.2 HRD6.out).mono ?_
    rintro e w7 ⟨rfl, hrd, hon⟩
    rw [HT.out] at hrd ⊢
    dsimp only at hrd ⊢
    rw [str_sb]
    have HB7 := Lib.hid (HB6.out.trans (only_below hon (Nat.le_trans HB5.out.size HG6.out) HB6.out.size))
    have HRD7 := Lib.hid hrd
    clear hrd hon
    go_wp2_with fail
    refine (good_any w7 g2 [] _ HRD7.out).mono ?_
    rintro e w8 ⟨rfl, rfl⟩
    go_wp2_with fail
    refine (done_any w7 g2 [] _ HRD7.out).mono ?_
    rintro e w8 ⟨rfl, rfl⟩
    go_wp2
    go_ret
    exact ⟨rfl, HB7.out⟩



set_option maxRecDepth 100000 in
set_option maxHeartbeats 1000000 in
theorem fineLong (a0 : Int) (limit : Int) (s : ByteArray) (w : World) (h0 : 0 ≤ a0 ∧ a0 ≤ 18446744073709551615) (hlim : -9223372036854775808 ≤ limit ∧ limit ≤ 9223372036854775807) (hs : s.size ≤ 300) (h1 : a0 < 9223372036854775808) (h2 : 0 < limit) (h3 : a0 < limit) (h5 : limit < (s.size : Int)) :
    Calls Try.prog 7 #[.int .u64 a0, .int .i64 limit, .string s] w fun e w' => e = .returned (.bool true) ∧ Below w.heap.size w w' := by
    have hn : a0.toNat < 18446744073709551616 := by omega
    have hN : numOf (VM.enc a0.toNat) false (lim limit) = (a0.toNat, [], false) := by
      rw [← List.append_nil (VM.enc a0.toNat), numOf_enc a0.toNat [] false _ hn, if_neg]
      unfold lim; split <;> omega
    have hT : textOf (VM.enc s.size ++ sb s) false limit.toNat = ([], [], true) := by
      have := textOf_enc (sb s) [] false limit.toNat (by rw [sb_len]; omega)
      rw [sb_len, List.append_nil, if_pos (by omega)] at this
      exact this
    have hlb : ∀ x ∈ VM.enc s.size ++ sb s, x < 256 := fun x hx => (List.mem_append.1 hx).elim (VM.enc_byte _ x) (sb_byte s x)
    have hel := VM.enc_len64 hn
    have hel2 : (VM.enc s.size ++ sb s).length ≤ 310 := by
      have := VM.enc_len64 (n := s.size) (by omega)
      rw [List.length_append, sb_len]; omega
    generalize hL5 : VM.enc s.size ++ sb s = L5 at *
    have HN := Lib.hid hN; have HT := Lib.hid hT; have HL5 := Lib.hid hL5; have HLB := Lib.hid hlb
    clear hN hT hL5 hlb
    have hd0 : decide ((300 : Int) < (s.size : Int)) = false := by simp; omega
    clear hn
    have hd1 : decide ((s.size : Int) ≤ limit) = false := by simp; omega
    go_enter Try.func7, Try.ntmps7
    go_wp2_with fail
    refine (fit_any _).mono ?_
    rintro e w1 ⟨rfl, hb⟩
    have HB := Lib.hid hb; clear hb
    go_wp2_with fail
    refine (put_int w1 a0 h0.1 h0.2).mono ?_
    rintro e w2 ⟨A, c, rfl, hlc, hcm, hA, hr, hb⟩
    have HB2 := Lib.hid (HB.out.trans (hb.mono HB.out.size))
    have HR := Lib.hid hr; have HA := Lib.hid hA
    clear hr hA hb hcm
    go_wp2_with fail
    refine (of_any w2 A (VM.enc a0.toNat) c _ HR.out HA.out (by omega) (VM.enc_byte a0.toNat)).mono ?_
    rintro e w3 ⟨g, rfl, hg, hrd, hb⟩
    have HB3 := Lib.hid (HB2.out.trans (hb.mono HB2.out.size))
    have HRD := Lib.hid hrd; have HG := Lib.hid hg
    clear hrd hb hg
    go_wp2_with fail
    refine (num_any w3 g (VM.enc a0.toNat) false limit hlim.2 HRD.out).mono ?_
    rintro e w4 ⟨rfl, hrd, hon⟩
    rw [HN.out] at hrd ⊢
    dsimp only at hrd ⊢
    rw [Int.toNat_of_nonneg h0.1]
    have HB4 := Lib.hid (HB3.out.trans (only_below hon (Nat.le_trans HB2.out.size HG.out) HB3.out.size))
    have HRD4 := Lib.hid hrd
    clear hrd hon
    go_wp2_with fail
    refine (good_any w4 g [] _ HRD4.out).mono ?_
    rintro e w5 ⟨rfl, rfl⟩
    go_wp2_with fail
    refine (done_any w4 g [] _ HRD4.out).mono ?_
    rintro e w5 ⟨rfl, rfl⟩
    go_wp2_with fail
    refine (putText_any _ [] _ w4 w4.heap.size (by first | omega | decide) (by simp) (Own.nil _ _) (Nat.le_refl _)).mono ?_
    rintro e w5 ⟨v, rfl, ho, hb⟩
    obtain ⟨A5, c5, hv5, _, _, hA5, hr5⟩ := ho.form
    rw [hv5]
    rw [List.nil_append, HL5.out] at hr5 ⊢
    have HB5 := Lib.hid (HB4.out.trans (hb.mono HB4.out.size))
    have HR5 := Lib.hid hr5; have HA5 := Lib.hid hA5
    clear ho hv5 hA5 hr5 hb
    go_wp2_with fail
    refine (of_any w5 A5 L5 c5 _ HR5.out HA5.out (by omega) HLB.out).mono ?_
    rintro e w6 ⟨g2, rfl, hg, hrd, hb⟩
    have HB6 := Lib.hid (HB5.out.trans (hb.mono HB5.out.size))
    have HRD6 := Lib.hid hrd; have HG6 := Lib.hid hg
    clear hrd hb hg
    go_wp2_with fail
    refine (text_any w6 g2 _ false limit hlim.2 HRD6.out).mono ?_
    rintro e w7 ⟨rfl, hrd, hon⟩
    rw [HT.out] at hrd ⊢
    dsimp only at hrd ⊢
    rw [str_nil]
    have HB7 := Lib.hid (HB6.out.trans (only_below hon (Nat.le_trans HB5.out.size HG6.out) HB6.out.size))
    have HRD7 := Lib.hid hrd
    clear hrd hon
    go_wp2_with fail
    refine (good_any w7 g2 [] _ HRD7.out).mono ?_
    rintro e w8 ⟨rfl, rfl⟩
    go_wp2_with fail
    refine (done_any w7 g2 [] _ HRD7.out).mono ?_
    rintro e w8 ⟨rfl, rfl⟩
    go_wp2
    go_ret
    exact ⟨rfl, HB7.out⟩



set_option maxRecDepth 100000 in
set_option maxHeartbeats 1000000 in
theorem greatFits (a0 : Int) (limit : Int) (s : ByteArray) (w : World) (h0 : 0 ≤ a0 ∧ a0 ≤ 18446744073709551615) (hlim : -9223372036854775808 ≤ limit ∧ limit ≤ 9223372036854775807) (hs : s.size ≤ 300) (h1 : a0 < 9223372036854775808) (h2 : 0 < limit) (h3 : limit ≤ a0) (h5 : (s.size : Int) ≤ limit) :
    Calls Try.prog 7 #[.int .u64 a0, .int .i64 limit, .string s] w fun e w' => e = .returned (.bool true) ∧ Below w.heap.size w w' := by
    have hn : a0.toNat < 18446744073709551616 := by omega
    have hN : numOf (VM.enc a0.toNat) false (lim limit) = (0, [], true) := by
      rw [← List.append_nil (VM.enc a0.toNat), numOf_enc a0.toNat [] false _ hn, if_pos]
      unfold lim; split <;> omega
    have hT : textOf (VM.enc s.size ++ sb s) false limit.toNat = (sb s, [], false) := by
      have := textOf_enc (sb s) [] false limit.toNat (by rw [sb_len]; omega)
      rw [sb_len, List.append_nil, if_neg (by omega)] at this
      exact this
    have hlb : ∀ x ∈ VM.enc s.size ++ sb s, x < 256 := fun x hx => (List.mem_append.1 hx).elim (VM.enc_byte _ x) (sb_byte s x)
    have hel := VM.enc_len64 hn
    have hel2 : (VM.enc s.size ++ sb s).length ≤ 310 := by
      have := VM.enc_len64 (n := s.size) (by omega)
      rw [List.length_append, sb_len]; omega
    generalize hL5 : VM.enc s.size ++ sb s = L5 at *
    have HN := Lib.hid hN; have HT := Lib.hid hT; have HL5 := Lib.hid hL5; have HLB := Lib.hid hlb
    clear hN hT hL5 hlb
    have hd0 : decide ((300 : Int) < (s.size : Int)) = false := by simp; omega
    clear hn
    have hd1 : decide ((s.size : Int) ≤ limit) = true := by simp; omega
    go_enter Try.func7, Try.ntmps7
    go_wp2_with fail
    refine (fit_any _).mono ?_
    rintro e w1 ⟨rfl, hb⟩
    have HB := Lib.hid hb; clear hb
    go_wp2_with fail
    refine (put_int w1 a0 h0.1 h0.2).mono ?_
    rintro e w2 ⟨A, c, rfl, hlc, hcm, hA, hr, hb⟩
    have HB2 := Lib.hid (HB.out.trans (hb.mono HB.out.size))
    have HR := Lib.hid hr; have HA := Lib.hid hA
    clear hr hA hb hcm
    go_wp2_with fail
    refine (of_any w2 A (VM.enc a0.toNat) c _ HR.out HA.out (by omega) (VM.enc_byte a0.toNat)).mono ?_
    rintro e w3 ⟨g, rfl, hg, hrd, hb⟩
    have HB3 := Lib.hid (HB2.out.trans (hb.mono HB2.out.size))
    have HRD := Lib.hid hrd; have HG := Lib.hid hg
    clear hrd hb hg
    go_wp2_with fail
    refine (num_any w3 g (VM.enc a0.toNat) false limit hlim.2 HRD.out).mono ?_
    rintro e w4 ⟨rfl, hrd, hon⟩
    rw [HN.out] at hrd ⊢
    dsimp only at hrd ⊢
    have HB4 := Lib.hid (HB3.out.trans (only_below hon (Nat.le_trans HB2.out.size HG.out) HB3.out.size))
    have HRD4 := Lib.hid hrd
    clear hrd hon
    go_wp2_with fail
    refine (good_any w4 g [] _ HRD4.out).mono ?_
    rintro e w5 ⟨rfl, rfl⟩
    go_wp2_with fail
    refine (done_any w4 g [] _ HRD4.out).mono ?_
    rintro e w5 ⟨rfl, rfl⟩
    go_wp2_with fail
    refine (putText_any _ [] _ w4 w4.heap.size (by first | omega | decide) (by simp) (Own.nil _ _) (Nat.le_refl _)).mono ?_
    rintro e w5 ⟨v, rfl, ho, hb⟩
    obtain ⟨A5, c5, hv5, _, _, hA5, hr5⟩ := ho.form
    rw [hv5]
    rw [List.nil_append, HL5.out] at hr5 ⊢
    have HB5 := Lib.hid (HB4.out.trans (hb.mono HB4.out.size))
    have HR5 := Lib.hid hr5; have HA5 := Lib.hid hA5
    clear ho hv5 hA5 hr5 hb
    go_wp2_with fail
    refine (of_any w5 A5 L5 c5 _ HR5.out HA5.out (by omega) HLB.out).mono ?_
    rintro e w6 ⟨g2, rfl, hg, hrd, hb⟩
    have HB6 := Lib.hid (HB5.out.trans (hb.mono HB5.out.size))
    have HRD6 := Lib.hid hrd; have HG6 := Lib.hid hg
    clear hrd hb hg
    go_wp2_with fail
    refine (text_any w6 g2 _ false limit hlim.2 HRD6.out).mono ?_
    rintro e w7 ⟨rfl, hrd, hon⟩
    rw [HT.out] at hrd ⊢
    dsimp only at hrd ⊢
    rw [str_sb]
    have HB7 := Lib.hid (HB6.out.trans (only_below hon (Nat.le_trans HB5.out.size HG6.out) HB6.out.size))
    have HRD7 := Lib.hid hrd
    clear hrd hon
    go_wp2_with fail
    refine (good_any w7 g2 [] _ HRD7.out).mono ?_
    rintro e w8 ⟨rfl, rfl⟩
    go_wp2_with fail
    refine (done_any w7 g2 [] _ HRD7.out).mono ?_
    rintro e w8 ⟨rfl, rfl⟩
    go_wp2
    go_ret
    exact ⟨rfl, HB7.out⟩



set_option maxRecDepth 100000 in
set_option maxHeartbeats 1000000 in
theorem greatLong (a0 : Int) (limit : Int) (s : ByteArray) (w : World) (h0 : 0 ≤ a0 ∧ a0 ≤ 18446744073709551615) (hlim : -9223372036854775808 ≤ limit ∧ limit ≤ 9223372036854775807) (hs : s.size ≤ 300) (h1 : a0 < 9223372036854775808) (h2 : 0 < limit) (h3 : limit ≤ a0) (h5 : limit < (s.size : Int)) :
    Calls Try.prog 7 #[.int .u64 a0, .int .i64 limit, .string s] w fun e w' => e = .returned (.bool true) ∧ Below w.heap.size w w' := by
    have hn : a0.toNat < 18446744073709551616 := by omega
    have hN : numOf (VM.enc a0.toNat) false (lim limit) = (0, [], true) := by
      rw [← List.append_nil (VM.enc a0.toNat), numOf_enc a0.toNat [] false _ hn, if_pos]
      unfold lim; split <;> omega
    have hT : textOf (VM.enc s.size ++ sb s) false limit.toNat = ([], [], true) := by
      have := textOf_enc (sb s) [] false limit.toNat (by rw [sb_len]; omega)
      rw [sb_len, List.append_nil, if_pos (by omega)] at this
      exact this
    have hlb : ∀ x ∈ VM.enc s.size ++ sb s, x < 256 := fun x hx => (List.mem_append.1 hx).elim (VM.enc_byte _ x) (sb_byte s x)
    have hel := VM.enc_len64 hn
    have hel2 : (VM.enc s.size ++ sb s).length ≤ 310 := by
      have := VM.enc_len64 (n := s.size) (by omega)
      rw [List.length_append, sb_len]; omega
    generalize hL5 : VM.enc s.size ++ sb s = L5 at *
    have HN := Lib.hid hN; have HT := Lib.hid hT; have HL5 := Lib.hid hL5; have HLB := Lib.hid hlb
    clear hN hT hL5 hlb
    have hd0 : decide ((300 : Int) < (s.size : Int)) = false := by simp; omega
    clear hn
    have hd1 : decide ((s.size : Int) ≤ limit) = false := by simp; omega
    go_enter Try.func7, Try.ntmps7
    go_wp2_with fail
    refine (fit_any _).mono ?_
    rintro e w1 ⟨rfl, hb⟩
    have HB := Lib.hid hb; clear hb
    go_wp2_with fail
    refine (put_int w1 a0 h0.1 h0.2).mono ?_
    rintro e w2 ⟨A, c, rfl, hlc, hcm, hA, hr, hb⟩
    have HB2 := Lib.hid (HB.out.trans (hb.mono HB.out.size))
    have HR := Lib.hid hr; have HA := Lib.hid hA
    clear hr hA hb hcm
    go_wp2_with fail
    refine (of_any w2 A (VM.enc a0.toNat) c _ HR.out HA.out (by omega) (VM.enc_byte a0.toNat)).mono ?_
    rintro e w3 ⟨g, rfl, hg, hrd, hb⟩
    have HB3 := Lib.hid (HB2.out.trans (hb.mono HB2.out.size))
    have HRD := Lib.hid hrd; have HG := Lib.hid hg
    clear hrd hb hg
    go_wp2_with fail
    refine (num_any w3 g (VM.enc a0.toNat) false limit hlim.2 HRD.out).mono ?_
    rintro e w4 ⟨rfl, hrd, hon⟩
    rw [HN.out] at hrd ⊢
    dsimp only at hrd ⊢
    have HB4 := Lib.hid (HB3.out.trans (only_below hon (Nat.le_trans HB2.out.size HG.out) HB3.out.size))
    have HRD4 := Lib.hid hrd
    clear hrd hon
    go_wp2_with fail
    refine (good_any w4 g [] _ HRD4.out).mono ?_
    rintro e w5 ⟨rfl, rfl⟩
    go_wp2_with fail
    refine (done_any w4 g [] _ HRD4.out).mono ?_
    rintro e w5 ⟨rfl, rfl⟩
    go_wp2_with fail
    refine (putText_any _ [] _ w4 w4.heap.size (by first | omega | decide) (by simp) (Own.nil _ _) (Nat.le_refl _)).mono ?_
    rintro e w5 ⟨v, rfl, ho, hb⟩
    obtain ⟨A5, c5, hv5, _, _, hA5, hr5⟩ := ho.form
    rw [hv5]
    rw [List.nil_append, HL5.out] at hr5 ⊢
    have HB5 := Lib.hid (HB4.out.trans (hb.mono HB4.out.size))
    have HR5 := Lib.hid hr5; have HA5 := Lib.hid hA5
    clear ho hv5 hA5 hr5 hb
    go_wp2_with fail
    refine (of_any w5 A5 L5 c5 _ HR5.out HA5.out (by omega) HLB.out).mono ?_
    rintro e w6 ⟨g2, rfl, hg, hrd, hb⟩
    have HB6 := Lib.hid (HB5.out.trans (hb.mono HB5.out.size))
    have HRD6 := Lib.hid hrd; have HG6 := Lib.hid hg
    clear hrd hb hg
    go_wp2_with fail
    refine (text_any w6 g2 _ false limit hlim.2 HRD6.out).mono ?_
    rintro e w7 ⟨rfl, hrd, hon⟩
    rw [HT.out] at hrd ⊢
    dsimp only at hrd ⊢
    rw [str_nil]
    have HB7 := Lib.hid (HB6.out.trans (only_below hon (Nat.le_trans HB5.out.size HG6.out) HB6.out.size))
    have HRD7 := Lib.hid hrd
    clear hrd hon
    go_wp2_with fail
    refine (good_any w7 g2 [] _ HRD7.out).mono ?_
    rintro e w8 ⟨rfl, rfl⟩
    go_wp2_with fail
    refine (done_any w7 g2 [] _ HRD7.out).mono ?_
    rintro e w8 ⟨rfl, rfl⟩
    go_wp2
    go_ret
    exact ⟨rfl, HB7.out⟩



set_option maxRecDepth 100000 in
theorem long (a0 : Int) (limit : Int) (s : ByteArray) (w : World) (hs : 300 < s.size) (hm : s.size ≤ 9223372036854775807) :
    Calls Try.prog 7 #[.int .u64 a0, .int .i64 limit, .string s] w fun e w' => e = .returned (.bool true) ∧ Below w.heap.size w w' := by
  have hd : decide ((300 : Int) < (s.size : Int)) = true := by simp; omega
  go_enter Try.func7, Try.ntmps7
  go_wp2_with fail
  refine (fit_any _).mono ?_
  rintro e w1 ⟨rfl, hb⟩
  have HB := Lib.hid hb; clear hb
  go_wp2
  go_ret
  exact ⟨rfl, HB.out⟩

theorem walk (a0 a1 : Int) (a2 : ByteArray) (w : World) (w0 : (Lit.int .u64 a0).wf = true) (w1 : (Lit.int .i64 a1).wf = true) (w2 : a2.size ≤ maxLen) :
    Calls Try.prog 7 #[.int .u64 a0, .int .i64 a1, .string a2] w fun e w' => e = .returned (.bool true) ∧ Below w.heap.size w w' := by
  have h0 := bounds_u64 w0
  have h1 := bounds_i64 w1
  by_cases hs : a2.size ≤ 300
  · by_cases hn : 9223372036854775808 ≤ a0
    · by_cases hl : 0 ≤ a1
      · by_cases hf : (a2.size : Int) ≤ a1
        · exact overFits a0 a1 a2 w h0 h1 hs hn hl hf
        · exact overLong a0 a1 a2 w h0 h1 hs hn hl (by omega)
      · by_cases hf : (a2.size : Int) ≤ 0
        · exact overFitsLow a0 a1 a2 w h0 h1 hs hn (by omega) hf
        · exact overLongLow a0 a1 a2 w h0 h1 hs hn (by omega) (by omega)
    · by_cases hz : a1 ≤ 0
      · by_cases hl : 0 ≤ a1
        · by_cases hf : (a2.size : Int) ≤ a1
          · exact freeFits a0 a1 a2 w h0 h1 hs (by omega) hz hl hf
          · exact freeLong a0 a1 a2 w h0 h1 hs (by omega) hz hl (by omega)
        · by_cases hf : (a2.size : Int) ≤ 0
          · exact freeFitsLow a0 a1 a2 w h0 h1 hs (by omega) hz (by omega) hf
          · exact freeLongLow a0 a1 a2 w h0 h1 hs (by omega) hz (by omega) (by omega)
      · by_cases hb : a0 < a1
        · by_cases hf : (a2.size : Int) ≤ a1
          · exact fineFits a0 a1 a2 w h0 h1 hs (by omega) (by omega) hb hf
          · exact fineLong a0 a1 a2 w h0 h1 hs (by omega) (by omega) hb (by omega)
        · by_cases hf : (a2.size : Int) ≤ a1
          · exact greatFits a0 a1 a2 w h0 h1 hs (by omega) (by omega) (by omega) hf
          · exact greatLong a0 a1 a2 w h0 h1 hs (by omega) (by omega) (by omega) (by omega)
  · exact long a0 a1 a2 w (by omega) (by unfold maxLen at w2; omega)

theorem own : ownKnob Try.prog.godebug = none := by kernel_rfl
theorem laidOut : laidOutB Try.prog = true := by kernel_rfl

set_option maxRecDepth 100000 in
theorem lifted (os : Os) (started : os.Started) (H : Type) (enc : TypeId × Value → H) :
    ReturnsInHanded {} Try.checked os 7 .any (Rows.varyLimitsSpec.pre6 enc Try.prog Try.f7 Rows.varyLimitsRow.domain false) (Rows.varyLimitsSpec.post enc Try.prog Try.f7 false true false false) := by
  refine returnsInHanded_of_change (C := Try.checked) own started (by kernel_rfl) Try.func7
    (ChangeSpec.witness6 (enc := enc) (C := Try.checked) false ⟨#[], #[.int .u64 0, .int .i64 0, .string ByteArray.empty], []⟩ 8 (by kernel_rfl) (by kernel_rfl) (by kernel_rfl) (by kernel_rfl)) ?_
  intro W base args ds gs before hval0 hW hcnd _
  have hval : ∀ (j : Nat) t v, Try.f7.params[j]? = some t → args[j]? = some v → Value.okWide Try.prog W .any base t v := hval0
  have hW' := hW
  obtain ⟨p, q, hA0, hV, rfl, hfz, hnd⟩ := hW
  have hA : DataW.TrodAll enc Try.prog W 0 (fun _ => true) true Try.f7.params.toList args.toList ds p := hA0
  rw [Try.params7] at hA hval
  obtain ⟨v0, vs0, d0, ds0, p0, q0, hargs, rfl, rfl, h0, r0⟩ := trodAll_cons hA
  obtain ⟨v1, vs1, d1, ds1, p1, q1, rfl, rfl, rfl, h1, r1⟩ := trodAll_cons r0
  obtain ⟨v2, vs2, d2, ds2, p2, q2, rfl, rfl, rfl, h2, r2⟩ := trodAll_cons r1
  obtain ⟨rfl, rfl, rfl⟩ := trodAll_nil r2
  obtain rfl : args = #[v0, v1, v2] := by cases args; simp_all
  obtain ⟨rfl, rfl⟩ := trodVars_none hV
  obtain ⟨a0, rfl, rfl, rfl, w0⟩ := open_int Try.underlying26 (hval 0 26 v0 rfl rfl) h0
  obtain ⟨a1, rfl, rfl, rfl, w1⟩ := open_int Try.underlying3 (hval 1 3 v1 rfl rfl) h1
  obtain ⟨a2, rfl, rfl, rfl, w2⟩ := open_string Try.underlying9 (hval 2 9 v2 rfl rfl) h2
  clear hA0 hval0
  refine (walk a0 a1 a2 W w0 w1 w2).mono fun e W' ⟨he, bel⟩ => ?_
  subst he
  exact ⟨_, rfl, _, _, _, [], _, [], hW', trodAll_mk1 (shut_bool Try.underlying4 _), (trodAll_cons_mk (shut_int Try.underlying26 w0) (trodAll_cons_mk (shut_int Try.underlying3 w1) (trodAll_cons_mk (shut_string Try.underlying9 w2) trodAll_mk0))), rfl, bel.frame _, fun h => by cases h⟩

theorem over : Rows.varyLimitsRow.holds Try.pinned (OpenSpec.ofChange Rows.varyLimitsSpec) :=
  OpenClaim.holds_of_wide 7 Try.f7 rfl rfl rfl rfl rfl rfl rfl ⟨rfl, rfl, rfl, rfl, rfl⟩ rfl rfl rfl rfl rfl (by kernel_rfl) Try.func7 (by kernel_rfl)
    (of_decide_eq_true (by kernel_rfl)) (by unfold Func.isWrapper; first | (rw [if_pos (by decide +kernel)]; kernel_rfl) | (rw [if_neg (by decide +kernel)]; exact ⟨rfl, rfl⟩))
    (fun os started H enc _ => lifted os started H enc)

end Go.Proofs.Ytapabeahgciikaa.varyLimits
namespace Go.Proofs.Ytapabeahgciikaa
theorem varyLimits_holds : Rows.VaryLimitsSaid := varyLimits.over
end Go.Proofs.Ytapabeahgciikaa
