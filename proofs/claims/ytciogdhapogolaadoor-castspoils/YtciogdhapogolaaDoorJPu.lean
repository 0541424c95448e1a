/-
  Layer 3 (json): the number of base 16 that up to four bytes are.
-/
import Derived.Test.YtciogdhapogolaaDoorJNum
import Derived.Lib.ConvBytes
set_option linter.unusedVariables false
namespace Go.Proofs.YtciogdhapogolaaDoor
open Go.RowKit

/-- What the library's inner ParseUint answers. -/
def puV : Option Nat → Value
  | some n => .tuple #[.int .u64 n, .nilIface]
  | none => .tuple #[.int .u64 0, .iface 81 (.int .i64 2)]
theorem puV_some (n : Nat) : puV (some n) = .tuple #[.int .u64 n, .nilIface] := rfl
theorem puV_none : puV none = .tuple #[.int .u64 0, .iface 81 (.int .i64 2)] := rfl
theorem or32 (b : UInt8) : bits .or .u8 (b.toNat : Int) 32 = ((b.toNat ||| 32 : Nat) : Int) := by
  have := u8_or_nat b.toNat 32 b.toNat_lt (by omega)
  exact this
theorem or32_lt (b : UInt8) : b.toNat ||| 32 < 256 := by
  have := b.toNat_lt
  exact Nat.or_lt_two_pow (n := 8) (by omega) (by omega)

theorem hex_cons (acc : Nat) (b : UInt8) (r : List UInt8) (d : Nat) (h : JM.hexv b = some d) : JM.hexFrom acc (b :: r) = JM.hexFrom (acc * 16 + d) r := by
  show (match JM.hexv b with | some d => JM.hexFrom (acc * 16 + d) r | none => none) = _
  rw [h]
theorem hex_bad (acc : Nat) (b : UInt8) (r : List UInt8) (h : JM.hexv b = none) : JM.hexFrom acc (b :: r) = none := by
  show (match JM.hexv b with | some d => JM.hexFrom (acc * 16 + d) r | none => none) = _
  rw [h]
theorem drop_at (t : List UInt8) (i : Nat) (h : i < t.length) : t.drop i = t.getD i 0 :: t.drop (i + 1) := by
  rw [List.drop_eq_getElem_cons h, List.getD_eq_getElem?_getD, List.getElem?_eq_getElem h]
  rfl

set_option maxHeartbeats 4000000 in
set_option maxRecDepth 100000 in
theorem pu_ok (t : List UInt8) (ht : t.length ≤ 4) (w : World) :
    Calls Tryd.prog 65 #[.string (tx t), .int .i64 16, .int .i64 16] w fun e w' => e = .returned (puV (JM.hexNum t)) ∧ Below w.heap.size w w' := by
  by_cases h0 : t = []
  · subst h0
    have hn : JM.hexNum [] = none := rfl
    rw [hn, puV_none]
    go_enter Tryd.func65, Tryd.ntmps65
    go_wp2
    go_ret2
    exact ⟨rfl, Below.refl _ _⟩
  have hn : JM.hexNum t = JM.hexFrom 0 t := by unfold JM.hexNum; rw [if_neg h0]
  rw [hn]
  have g0 : (t == []) = false := by simpa using h0
  have hcv := Lib.run_convert_string_bytes (P := Tryd.prog) w 9 37 5 (tx t) Tryd.underlying9 Tryd.underlying37 Tryd.underlying5
  rw [tx_size] at hcv
  have bW := Lib.bytesWorld_below w 5 (tx t)
  have hcell : ∀ i, i < t.length → (Lib.bytesWorld w 5 (tx t)).cell? ⟨w.heap.size, i, none⟩ = some (.int .u8 (t.getD i 0).toNat) := by
    intro i hi
    rw [Lib.bytesWorld_cell _ _ _ i (by rw [tx_size]; exact hi), tx_list]
  generalize grownCap w t.length 0 5 = cap at *
  generalize Lib.bytesWorld w 5 (tx t) = W at *
  obtain ⟨R, hR⟩ : ∃ R, R = JM.hexFrom 0 t := ⟨_, rfl⟩
  rw [← hR]
  have HR := Lib.hid hR
  clear hR hn
  go_enter Tryd.func65, Tryd.ntmps65
  go_wp2
  go_loop [12, 13, 101] (fun u x i => ∃ (k : Nat) (y : Int), k ≤ t.length ∧ i = .int .i64 k ∧ x = .int .u64 y ∧ u = .bool false ∧ 0 ≤ y ∧ JM.hexFrom y.toNat (t.drop k) = R ∧ y.toNat < 16 ^ k) (fun _ _ i => t.length - (intOf i).toNat)
  case atStart => exact ⟨0, 0, Nat.zero_le _, rfl, rfl, rfl, Int.le_refl _, HR.out.symm, by decide⟩
  case round =>
    obtain ⟨k, x, hk, rfl, rfl, rfl, hx0, hrun, hpw⟩ := hrel
    by_cases hlt : k < t.length
    · have gk : decide ((k : Int) < (t.length : Int)) = true := by simp; omega
      have hc1 := hcell k hlt
      have hdr := drop_at t k hlt
      have hx16 : x < 4096 := by
        have : 16 ^ k ≤ 16 ^ 3 := Nat.pow_le_pow_right (by omega) (by omega)
        omega
      generalize t.getD k 0 = b at *
      obtain ⟨c, hcd⟩ : ∃ c : Int, c = b.toNat := ⟨_, rfl⟩
      have hlow := or32 b
      have hl256 := or32_lt b
      have hb256 := b.toNat_lt
      rw [← hcd] at hc1 hlow
      obtain ⟨y, hy⟩ : ∃ y : Int, y = ((b.toNat ||| 32 : Nat) : Int) := ⟨_, rfl⟩
      rw [← hy] at hlow
      clear hcell
      by_cases hdig : 48 ≤ b.toNat ∧ b.toNat ≤ 57
      · obtain ⟨dn, hdn⟩ : ∃ dn, dn = b.toNat - 48 := ⟨_, rfl⟩
        have hv : JM.hexv b = some dn := by unfold JM.hexv; rw [if_pos hdig, hdn]
        obtain ⟨d, hd⟩ : ∃ d : Int, d = c - 48 := ⟨_, rfl⟩
        have a1 : (c == 95) = false := by simp; omega
        have a2 : decide (48 ≤ c) = true := by simp; omega
        have a3 : decide (c ≤ 57) = true := by simp; omega
        have a4 : IntKind.u8.wrap (c - 48) = d := by rw [IntKind.wrap_u8]; omega
        have m1 : decide (1152921504606846976 ≤ x) = false := by simp; omega
        have m2 : IntKind.u64.wrap (x * 16) = x * 16 := by rw [IntKind.wrap_u64]; omega
        have m3 : IntKind.u64.wrap (x * 16 + d) = x * 16 + d := by rw [IntKind.wrap_u64]; omega
        have m4 : decide (x * 16 + d < x * 16) = false := by simp; omega
        have m5 : decide (65535 < x * 16 + d) = false := by simp; omega
        have m6 : decide (16 ≤ d) = false := by simp; omega
        have m7 : IntKind.u64.wrap d = d := by rw [IntKind.wrap_u64]; omega
        have HREL := Lib.hid (show JM.hexFrom (x * 16 + d).toNat (t.drop (k + 1)) = R ∧ (x * 16 + d).toNat < 16 ^ (k + 1) by
          rw [← hrun, hdr, hex_cons _ _ _ _ hv, show (x * 16 + d).toNat = x.toNat * 16 + dn by omega, Nat.pow_succ]
          exact ⟨rfl, by omega⟩)
        have HNX := Lib.hid (show 0 ≤ x * 16 + d by omega)
        clear hdig hdn hd hy hl256 hb256 hlow
        clear hrun hdr hv hx16 hcd hpw
        go_wp2_with (go_at_call 76; refine (Tryd.internal_strconv_lower _ _).mono ?_; rintro e w' ⟨rfl, rfl⟩)
        go_round
        case rel => exact ⟨k + 1, x * 16 + d, hlt, by go_num, rfl, rfl, HNX.out, HREL.out.1, HREL.out.2⟩
        case measure => simp [intOf]; omega
      have hsm : b.toNat < 64 → b.toNat ||| 32 < 64 := fun h => Nat.or_lt_two_pow (n := 6) (by omega) (by omega)
      have h95 : b.toNat = 95 → b.toNat ||| 32 = 127 := fun h => by rw [h]; decide
      by_cases hlet : 97 ≤ b.toNat ||| 32 ∧ b.toNat ||| 32 ≤ 122
      · have hc57 : 57 < b.toNat := by
          by_cases h : b.toNat < 64
          · have := hsm h; omega
          · omega
        have a1 : (c == 95) = false := by
          simp only [beq_eq_false_iff_ne, ne_eq]
          intro h
          have := h95 (by omega)
          omega
        have a2 : decide (48 ≤ c) = true := by simp; omega
        have a3 : decide (c ≤ 57) = false := by simp; omega
        have a4 : decide (97 ≤ y) = true := by simp; omega
        have a5 : decide (y ≤ 122) = true := by simp; omega
        obtain ⟨d, hd⟩ : ∃ d : Int, d = y - 97 + 10 := ⟨_, rfl⟩
        have a6 : IntKind.u8.wrap (y - 97) = y - 97 := by rw [IntKind.wrap_u8]; omega
        have a7 : IntKind.u8.wrap (y - 97 + 10) = d := by rw [IntKind.wrap_u8]; omega
        by_cases h16 : (b.toNat ||| 32) - 87 < 16
        · obtain ⟨dn, hdn⟩ : ∃ dn, dn = (b.toNat ||| 32) - 87 := ⟨_, rfl⟩
          have hv : JM.hexv b = some dn := by unfold JM.hexv; rw [if_neg hdig, if_pos hlet, if_pos h16, hdn]
          have m1 : decide (1152921504606846976 ≤ x) = false := by simp; omega
          have m2 : IntKind.u64.wrap (x * 16) = x * 16 := by rw [IntKind.wrap_u64]; omega
          have m3 : IntKind.u64.wrap (x * 16 + d) = x * 16 + d := by rw [IntKind.wrap_u64]; omega
          have m4 : decide (x * 16 + d < x * 16) = false := by simp; omega
          have m5 : decide (65535 < x * 16 + d) = false := by simp; omega
          have m6 : decide (16 ≤ d) = false := by simp; omega
          have m7 : IntKind.u64.wrap d = d := by rw [IntKind.wrap_u64]; omega
          have HREL := Lib.hid (show JM.hexFrom (x * 16 + d).toNat (t.drop (k + 1)) = R ∧ (x * 16 + d).toNat < 16 ^ (k + 1) by
            rw [← hrun, hdr, hex_cons _ _ _ _ hv, show (x * 16 + d).toNat = x.toNat * 16 + dn by omega, Nat.pow_succ]
            exact ⟨rfl, by omega⟩)
          have HNX := Lib.hid (show 0 ≤ x * 16 + d by omega)
          clear hrun hdr hv hx16 hcd hpw hdig hy hl256 hb256 hsm h95 hlet hc57 hd h16 hdn
          go_wp2_with (go_at_call 76; refine (Tryd.internal_strconv_lower _ _).mono ?_; rintro e w' ⟨rfl, rfl⟩)
          go_round
          case rel => exact ⟨k + 1, x * 16 + d, hlt, by go_num, rfl, rfl, HNX.out, HREL.out.1, HREL.out.2⟩
          case measure => simp [intOf]; omega
        · have hv : JM.hexv b = none := by unfold JM.hexv; rw [if_neg hdig, if_pos hlet, if_neg h16]
          have m6 : decide (16 ≤ d) = true := by simp; omega
          have HREL := Lib.hid (show R = none by rw [← hrun, hdr]; exact hex_bad _ _ _ hv)
          clear hrun hdr hv hx16 hcd hpw hdig hy hl256 hb256 hsm h95 hlet hc57 hd h16
          go_wp2_with (go_at_call 76; refine (Tryd.internal_strconv_lower _ _).mono ?_; rintro e w' ⟨rfl, rfl⟩)
          go_ret2
          refine ⟨?_, bW⟩
          rw [HREL.out]
          rfl
      have hv : JM.hexv b = none := by unfold JM.hexv; rw [if_neg hdig, if_neg hlet]
      have HREL := Lib.hid (show R = none by rw [← hrun, hdr]; exact hex_bad _ _ _ hv)
      by_cases o1 : b.toNat < 48
      · have a1 : (c == 95) = false := by simp; omega
        have a2 : decide (48 ≤ c) = false := by simp; omega
        have a4 : decide (97 ≤ y) = false := by have := hsm (by omega); simp; omega
        clear hrun hdr hv hx16 hcd hpw hdig hy hl256 hb256 hsm h95 hlet o1
        go_wp2_with (go_at_call 76; refine (Tryd.internal_strconv_lower _ _).mono ?_; rintro e w' ⟨rfl, rfl⟩)
        go_ret2
        refine ⟨?_, bW⟩
        rw [HREL.out]
        rfl
      have a2 : decide (48 ≤ c) = true := by simp; omega
      have a3 : decide (c ≤ 57) = false := by simp; omega
      by_cases o2 : b.toNat = 95
      · have a1 : (c == 95) = true := by simp; omega
        have a4 : decide (97 ≤ y) = true := by have := h95 o2; simp; omega
        have a5 : decide (y ≤ 122) = false := by have := h95 o2; simp; omega
        clear hrun hdr hv hx16 hcd hpw hdig hy hl256 hb256 hsm h95 hlet o1 o2
        go_wp2_with (go_at_call 76; refine (Tryd.internal_strconv_lower _ _).mono ?_; rintro e w' ⟨rfl, rfl⟩)
        go_ret2
        refine ⟨?_, bW⟩
        rw [HREL.out]
        rfl
      have a1 : (c == 95) = false := by simp; omega
      by_cases o3 : 97 ≤ b.toNat ||| 32
      · have a4 : decide (97 ≤ y) = true := by simp; omega
        have a5 : decide (y ≤ 122) = false := by simp; omega
        clear hrun hdr hv hx16 hcd hpw hdig hy hl256 hb256 hsm h95 hlet o1 o2 o3
        go_wp2_with (go_at_call 76; refine (Tryd.internal_strconv_lower _ _).mono ?_; rintro e w' ⟨rfl, rfl⟩)
        go_ret2
        refine ⟨?_, bW⟩
        rw [HREL.out]
        rfl
      · have a4 : decide (97 ≤ y) = false := by simp; omega
        clear hrun hdr hv hx16 hcd hpw hdig hy hl256 hb256 hsm h95 hlet o1 o2 o3
        go_wp2_with (go_at_call 76; refine (Tryd.internal_strconv_lower _ _).mono ?_; rintro e w' ⟨rfl, rfl⟩)
        go_ret2
        refine ⟨?_, bW⟩
        rw [HREL.out]
        rfl
    · obtain rfl : k = t.length := by omega
      have gk : decide ((t.length : Int) < (t.length : Int)) = false := by simp
      have HREL := Lib.hid (show R = some x.toNat by rw [← hrun, List.drop_length]; rfl)
      have HX := Lib.hid hx0
      clear hrun hpw hcell hlt
      go_wp2
      go_ret2
      refine ⟨?_, bW⟩
      rw [HREL.out, puV_some, Int.toNat_of_nonneg HX.out]
      rfl
end Go.Proofs.YtciogdhapogolaaDoor
