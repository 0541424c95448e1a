/-
  CrcSums: for all bytes the law answers true: the sum is that of the remainder, bit by bit. No condition.
-/
import Derived.Test.YtfndbgdamplelaaCFit
import Derived.ProofKit
import Derived.OpenShut
namespace Go.Proofs.Ytfndbgdamplelaa.crcSums
open Go.ChangeShapes Go.WideShapes Go.ChangeAt Go.RowKit

theorem unlike64 (R x k : Nat) (hR : R < 4294967296) (hx : x < 256) :
    bits .xor .u64 (bits .and .u64 (R : Int) 1) (IntKind.u64.wrap (bits .and .u8 ((x : Int) / 2 ^ k) 1)) = ((((R ^^^ (x / 2 ^ k)) % 2 : Nat)) : Int) := by
  have h2 : x / 2 ^ k ≤ x := Nat.div_le_self _ _
  have h1 : ((x : Int) / 2 ^ k) = ((x / 2 ^ k : Nat) : Int) := by push_cast; rfl
  rw [h1, show (1 : Int) = ((1 : Nat) : Int) from rfl, u64_and_nat _ _ (by omega) (by omega), u8_and_nat _ _ (by omega) (by omega), nat_mask1, nat_mask1, show IntKind.u64.wrap ((x / 2 ^ k % 2 : Nat) : Int) = ((x / 2 ^ k % 2 : Nat) : Int) from IntWalk.u64_in _ ⟨by omega, by omega⟩, u64_xor_nat _ _ (by omega) (by omega)]
  congr 1
  have h : ∀ a : Nat, a % 2 = (a.testBit 0).toNat := fun a => by rw [Nat.testBit_zero]; by_cases h : a % 2 = 1 <;> simp [h]; omega
  rw [h R, h (x / 2 ^ k), h (R ^^^ x / 2 ^ k), Nat.testBit_xor]
  cases R.testBit 0 <;> cases (x / 2 ^ k).testBit 0 <;> rfl
theorem half_xor64 (R : Nat) (hR : R < 4294967296) : bits .xor .u64 ((R : Int) / 2) 3988292384 = ((R / 2 ^^^ 3988292384 : Nat) : Int) := by
  rw [show ((R : Int) / 2) = ((R / 2 : Nat) : Int) from by omega, show (3988292384 : Int) = ((3988292384 : Nat) : Int) from rfl, u64_xor_nat _ _ (by omega) (by omega)]
theorem turn64 (R : Nat) (hR : R < 4294967296) : bits .xor .u64 (R : Int) 4294967295 = ((R ^^^ 4294967295 : Nat) : Int) := by
  rw [show (4294967295 : Int) = ((4294967295 : Nat) : Int) from rfl, u64_xor_nat _ _ (by omega) (by omega)]

set_option maxRecDepth 100000 in
set_option maxHeartbeats 1000000 in
theorem small (A : Option Addr) (c : Nat) (l : List Nat) (w : World) (hl : ∀ n ∈ l, n < 256) (hm : l.length ≤ 500) (hr : Row w w.heap.size .u8 A l) :
    Calls Try.prog 4 #[.slice A l.length c] w fun e w' => e = .returned (.bool true) ∧ Below w.heap.size w w' := by
  have hd : decide ((500 : Int) < (l.length : Int)) = false := by simp; omega
  have HL := Lib.hid hl; clear hl
  go_enter Try.func4, Try.ntmps4
  go_wp2_with fail
  refine (fit_any _).mono ?_
  rintro e w1 ⟨rfl, hb⟩
  have hr1 := hr.below hb
  have HB := Lib.hid hb; clear hb hr
  go_wp2
  go_loop [3, 15] (fun q i => ∃ k R : Nat, k ≤ l.length ∧ i = .int .i64 k ∧ q = .int .u64 R ∧ R < 4294967296 ∧ CM.reg 4294967295 l = CM.reg R (l.drop k)) (fun _ i => l.length - (intOf i).toNat)
  case atStart => exact ⟨0, 4294967295, by omega, rfl, rfl, by omega, rfl⟩
  case round =>
    obtain ⟨k, R, hk, rfl, rfl, hR, hrel⟩ := hrel
    by_cases hlt : k < l.length
    · obtain ⟨b, off, rfl, _, hcell⟩ := hr1.at_ hlt
      have hgk : l.getD k 0 = l[k] := by simp [hlt]
      have hcb : l.getD k 0 < 256 := by rw [hgk]; exact HL.out _ (List.getElem_mem _)
      have hsp : l.drop k = l.getD k 0 :: l.drop (k + 1) := by rw [List.drop_eq_getElem_cons hlt, hgk]
      rw [hsp, CM.reg_cons] at hrel
      clear hgk hsp hr1
      generalize l.getD k 0 = x at *
      have HD := Lib.hid hrel; clear hrel
      go_wp2
      go_loop [3, 19] (fun q i => ∃ j S : Nat, j ≤ 8 ∧ i = .int .i64 j ∧ q = .int .u64 S ∧ S < 4294967296 ∧ CM.byte R x = CM.sh (8 - j) S (x / 2 ^ j)) (fun _ i => 8 - (intOf i).toNat)
      case atStart => exact ⟨0, R, by omega, rfl, rfl, hR, by simp; rw [CM.sh_eq 8 R x (by omega)]; rfl⟩
      case round =>
        obtain ⟨j, S, hj, rfl, rfl, hS, hrel⟩ := hrel
        by_cases hjt : j < 8
        · have hb := unlike64 S x j hS hcb
          rw [sh_step j S x hjt] at hrel
          by_cases hu : (S ^^^ (x / 2 ^ j)) % 2 = 1
          · rw [if_pos hu] at hrel
            rw [hu] at hb
            have HX := Lib.hid (half_xor64 S hS)
            have HD2 := Lib.hid hrel; clear hrel
            have HLX : Hid (S / 2 ^^^ 3988292384 < 4294967296) := Nat.xor_lt_two_pow (n := 32) (by show _ < 4294967296; omega) (by decide)
            clear hu
            go_wp2
            go_round
            case rel => exact ⟨j + 1, S / 2 ^^^ 3988292384, by omega, by go_num, by rw [HX.out], HLX.out, HD2.out⟩
            case measure => simp [intOf]; omega
          · rw [if_neg hu, Nat.xor_zero] at hrel
            rw [show (S ^^^ (x / 2 ^ j)) % 2 = 0 from by omega] at hb
            have HD2 := Lib.hid hrel; clear hrel
            clear hu
            go_wp2
            go_round
            case rel => exact ⟨j + 1, S / 2, by omega, by go_num, by go_num, by omega, HD2.out⟩
            case measure => simp [intOf]; omega
        · obtain rfl : j = 8 := by omega
          have hS2 : CM.byte R x = S := hrel
          have HS := Lib.hid hS2
          clear hrel hS2
          go_wp2
          go_round
          case rel => exact ⟨k + 1, S, by omega, by go_num, rfl, hS, by rw [← HS.out]; exact HD.out⟩
          case measure => simp [intOf]; omega
    · rw [List.drop_eq_nil_of_le (by omega), CM.reg_nil] at hrel
      have HD := Lib.hid hrel; clear hrel
      have hs : CM.sum l = R ^^^ 4294967295 := by unfold CM.sum; rw [HD.out]
      have HS := Lib.hid hs
      have ht := turn64 R hR
      have hxl : R ^^^ 4294967295 < 4294967296 := Nat.xor_lt_two_pow (n := 32) hR (by decide)
      clear hs
      go_wp2_with fail
      refine (sum_any A c l _ w.heap.size (by unfold maxLen; omega) hr1 HL.out).mono ?_
      rintro e w2 ⟨rfl, rfl⟩
      rw [HS.out]
      generalize R ^^^ 4294967295 = q at *
      go_wp2
      go_ret
      exact ⟨rfl, HB.out⟩

theorem walk (a0 : Option Addr) (len0 cap0 : Nat) (z0 : List Int) (w : World) (w0 : IsRow .u8 w a0 len0 cap0 z0) :
    Calls Try.prog 4 #[.slice a0 len0 cap0] w fun e w' => e = .returned (.bool true) ∧ Below w.heap.size w w' := by
  obtain ⟨l, rfl, hm, hc, _, hr, hl⟩ := came w0 top_u8
  by_cases h : l.length ≤ 500
  · exact small a0 cap0 l w hl h hr
  · unfold maxLen at hm
    clear w0 hr
    have hd : decide ((500 : Int) < (l.length : Int)) = true := by simp; omega
    go_enter Try.func4, Try.ntmps4
    go_wp2_with fail
    refine (fit_any _).mono ?_
    rintro e w1 ⟨rfl, hb⟩
    have HB := Lib.hid hb; clear hb
    go_wp2
    go_ret
    exact ⟨rfl, HB.out⟩

theorem own : ownKnob Try.prog.godebug = none := by kernel_rfl
theorem laidOut : laidOutB Try.prog = true := by kernel_rfl

set_option maxRecDepth 100000 in
theorem lifted (os : Os) (started : os.Started) (H : Type) (enc : TypeId × Value → H) :
    ReturnsInHanded {} Try.checked os 4 .any (Rows.crcSumsSpec.pre6 enc Try.prog Try.f4 Rows.crcSumsRow.domain false) (Rows.crcSumsSpec.post enc Try.prog Try.f4 false true false false) := by
  refine returnsInHanded_of_change (C := Try.checked) own started (by kernel_rfl) Try.func4
    (ChangeSpec.witness6 (enc := enc) (C := Try.checked) false ⟨#[], #[.slice none 0 0], []⟩ 8 (by kernel_rfl) (by kernel_rfl) (by kernel_rfl) (by kernel_rfl)) ?_
  intro W base args ds gs before hval0 hW hcnd _
  have hval : ∀ (j : Nat) t v, Try.f4.params[j]? = some t → args[j]? = some v → Value.okWide Try.prog W .any base t v := hval0
  have hW' := hW
  obtain ⟨p, q, hA0, hV, rfl, hfz, hnd⟩ := hW
  have hA : DataW.TrodAll enc Try.prog W 0 (fun _ => true) true Try.f4.params.toList args.toList ds p := hA0
  rw [Try.params4] at hA hval
  obtain ⟨v0, vs0, d0, ds0, p0, q0, hargs, rfl, rfl, h0, r0⟩ := trodAll_cons hA
  obtain ⟨rfl, rfl, rfl⟩ := trodAll_nil r0
  obtain rfl : args = #[v0] := by cases args; simp_all
  obtain ⟨rfl, rfl⟩ := trodVars_none hV
  obtain ⟨a0, len0, cap0, rfl⟩ := okWide_slice Try.underlying23 (hval 0 23 v0 rfl rfl)
  have k0 := h0
  have lt0 : ∀ x ∈ p0, x.block < W.heap.size := by obtain ⟨m, hm⟩ := k0; exact DataW.trod_lt m _ _ _ hm
  obtain ⟨z0, w0⟩ : ∃ zs, IsRow .u8 W a0 len0 cap0 zs := by
    obtain ⟨fuel, hf⟩ := h0
    rcases open_ints Try.underlying23 Try.underlying5 (by kernel_rfl) hf with ⟨hcs, _⟩ | ⟨x, l, c, zs, hcs, _, hl, hm, hz, _, hcell, hwz⟩
    · simp [Value.cells] at hcs
      obtain ⟨rfl, rfl, rfl⟩ := hcs
      exact ⟨[], .inl ⟨rfl, rfl, rfl, rfl⟩⟩
    · simp [Value.cells] at hcs
      obtain ⟨rfl, rfl, rfl⟩ := hcs
      exact ⟨zs, .inr ⟨_, rfl, hl, hm, by simpa using hz, hcell, hwz⟩⟩
  clear hA0 hval0
  refine (walk a0 len0 cap0 z0 W w0).mono fun e W' ⟨he, bel⟩ => ?_
  subst he
  exact ⟨_, rfl, _, _, _, [], _, [], hW', trodAll_mk1 (shut_bool Try.underlying4 _), (trodAll_cons_mk (Below.trod laidOut (by kernel_rfl) (of_decide_eq_true (by kernel_rfl)) k0 bel lt0) trodAll_mk0), rfl, bel.frame _, fun h => by cases h⟩

theorem over : Rows.crcSumsRow.holds Try.pinned (OpenSpec.ofChange Rows.crcSumsSpec) :=
  OpenClaim.holds_of_wide 4 Try.f4 rfl rfl rfl rfl rfl rfl rfl ⟨rfl, rfl, rfl, rfl, rfl⟩ rfl rfl rfl rfl rfl (by kernel_rfl) Try.func4 (by kernel_rfl)
    (of_decide_eq_true (by kernel_rfl)) (by unfold Func.isWrapper; first | (rw [if_pos (by decide +kernel)]; kernel_rfl) | (rw [if_neg (by decide +kernel)]; exact ⟨rfl, rfl⟩))
    (fun os started H enc _ => lifted os started H enc)

end Go.Proofs.Ytfndbgdamplelaa.crcSums
namespace Go.Proofs.Ytfndbgdamplelaa
theorem crcSums_holds : Rows.CrcSumsSaid := crcSums.over
end Go.Proofs.Ytfndbgdamplelaa
