/-
  JsonNumbers' walk: whole numbers are read as far as their digits go.
-/
import Derived.Test.YtkoikbfcjfikhaaDoorJNum
import Derived.Lib.ConvBytes
import Derived.Deep.CutRange
set_option linter.unusedVariables false
namespace Go.Proofs.YtkoikbfcjfikhaaDoor.jsonNumbers
open Go.RowKit

/-- How far the law's own loop over the digits has come. -/
def St (l : List UInt8) (o0 : Bool) (i : Nat) (x : Int) (o : Bool) : Prop :=
  (o = true → o0 = true ∧ x = (JM.vl 0 (l.take i) : Nat) ∧ JM.vl 0 (l.take i) < 9223372036854775808) ∧ (o = false → o0 = false ∨ 9223372036854775808 ≤ JM.vl 0 (l.take i))
theorem vl_next {l : List UInt8} {i : Nat} (h : i < l.length) : JM.vl 0 (l.take (i + 1)) = JM.vl 0 (l.take i) * 10 + ((l.getD i 0).toNat - 48) := by
  rw [List.take_add_one, List.getElem?_eq_getElem h, Option.toList_some, JM.vl_snoc, List.getD_eq_getElem?_getD, List.getElem?_eq_getElem h]
  rfl
theorem St.start (l : List UInt8) (o0 : Bool) : St l o0 0 0 o0 := by
  refine ⟨fun h => ⟨h, ?_, ?_⟩, fun h => .inl h⟩
  · rw [List.take_zero, JM.vl_nil]; rfl
  · rw [List.take_zero, JM.vl_nil]; omega
theorem St.false_next {l : List UInt8} {o0 : Bool} {i : Nat} {x y : Int} (hi : i < l.length) (h : St l o0 i x false) : St l o0 (i + 1) y false := by
  refine ⟨(fun c => by cases c), fun _ => ?_⟩
  rcases h.2 rfl with h1 | h1
  · exact .inl h1
  · right; rw [vl_next hi]; omega
theorem ok0_iff {l : List UInt8} {o0 : Bool} {j : Nat} (ho : o0 = (decide (0 < j) && (decide (j = 1) || !decide (l.getD 0 0 = 48)))) : o0 = true ↔ j ≠ 0 ∧ ¬ (1 < j ∧ l.getD 0 0 = 48) := by
  rw [ho]
  simp only [Bool.and_eq_true, Bool.or_eq_true, decide_eq_true_eq, Bool.not_eq_true', decide_eq_false_iff_not]
  constructor
  · rintro ⟨h1, h2⟩
    exact ⟨by omega, fun h => h2.elim (fun e => by omega) (fun e => e h.2)⟩
  · rintro ⟨h1, h2⟩
    refine ⟨by omega, ?_⟩
    by_cases e : j = 1
    · exact .inl e
    · exact .inr fun h => h2 ⟨by omega, h⟩
theorem St.yes {l : List UInt8} {o0 : Bool} {j : Nat} {x : Int} (hj : j = JM.nd l) (ho : o0 = (decide (0 < j) && (decide (j = 1) || !decide (l.getD 0 0 = 48)))) (h : St l o0 j x true) :
    ∃ v : Nat, JM.num l = some (v, l.drop j) ∧ x = v := by
  obtain ⟨h1, h2, h3⟩ := h.1 rfl
  obtain ⟨k1, k2⟩ := (ok0_iff ho).1 h1
  refine ⟨_, ?_, h2⟩
  unfold JM.num
  rw [← hj, if_neg k1, if_neg k2, if_pos h3]
theorem St.no {l : List UInt8} {o0 : Bool} {j : Nat} {x : Int} (hj : j = JM.nd l) (ho : o0 = (decide (0 < j) && (decide (j = 1) || !decide (l.getD 0 0 = 48)))) (h : St l o0 j x false) : JM.num l = none := by
  unfold JM.num
  rw [← hj]
  by_cases k1 : j = 0
  · rw [if_pos k1]
  rw [if_neg k1]
  by_cases k2 : 1 < j ∧ l.getD 0 0 = 48
  · rw [if_pos k2]
  rw [if_neg k2]
  rcases h.2 rfl with h1 | h1
  · rw [(ok0_iff ho).2 ⟨k1, k2⟩] at h1; cases h1
  · rw [if_neg (by omega)]

set_option maxHeartbeats 4000000 in
set_option maxRecDepth 100000 in
theorem walk (s : ByteArray) (w : World) (hs : s.size ≤ maxLen) (hF : Fmt w) (hN : Num w) :
    Calls Tryd.prog 8 #[.string s] w fun e w' => e = .returned (.bool true) ∧ Below w.heap.size w w' := by
  go_enter Tryd.func8, Tryd.ntmps8
  go_wp2_with (go_at_call 9; refine (fit_ok _ hF).mono ?_; rintro e w1 ⟨rfl, b1⟩; refine Hid.out ?_)
  by_cases h100 : 100 < s.size
  · have g : decide ((100 : Int) < (s.size : Int)) = true := by simp; omega
    refine Lib.hid ?_
    go_wp2
    go_ret
    exact ⟨rfl, b1⟩
  have g : decide ((100 : Int) < (s.size : Int)) = false := by simp; omega
  have HS := Lib.hid (Lib.size_eq s).symm
  obtain ⟨K, hK⟩ : ∃ K, K = JM.nd s.data.toList := ⟨_, rfl⟩
  have HK := Lib.hid hK
  have hKs : K ≤ s.size := by rw [hK, ← HS.out]; exact JM.nd_le _
  clear hK
  refine Lib.hid ?_
  go_upto_region 6 with fail
  go_loopw [3] (fun k wr => wr = w1 ∧ ∃ j : Nat, j ≤ K ∧ k = .int .i64 j) (fun k _ => K - (intOf k).toNat)
  case atStart => exact ⟨rfl, 0, Nat.zero_le _, rfl⟩
  case round =>
    obtain ⟨rfl, j, hj, rfl⟩ := hrel
    go_upto_region 6 with fail
    go_cut [32] from 17 to 34 (fun o wc => o = .bool (decide (j < K)) ∧ wc = wr)
    case first =>
      by_cases hjs : j < s.size
      · have gj : decide ((j : Int) < (s.size : Int)) = true := by simp; omega
        have hix := index_at s .i64 j j rfl hjs
        obtain ⟨c, hcd⟩ : ∃ c : Int, c = (s.data.toList.getD j 0).toNat := ⟨_, rfl⟩
        rw [← hcd] at hix
        by_cases hlt : j < K
        · have hdg := (JM.isD_iff _).1 (JM.nd_in s.data.toList j (by rw [← HK.out]; exact hlt))
          have g1 : decide (48 ≤ c) = true := by simp; omega
          have g2 : decide (c ≤ 57) = true := by simp; omega
          clear hcd hdg
          go_wp2
          go_meet
          case rel => exact ⟨by simp [hlt], rfl⟩
        · obtain rfl : j = K := by omega
          have hdg : ¬ (48 ≤ c ∧ c ≤ 57) := by
            have h1 := JM.nd_out s.data.toList (by rw [← HK.out, HS.out]; exact hjs)
            rw [← HK.out] at h1
            intro h2
            rw [(JM.isD_iff _).2 (by omega)] at h1
            cases h1
          by_cases h48 : 48 ≤ c
          · have g1 : decide (48 ≤ c) = true := by simp; omega
            have g2 : decide (c ≤ 57) = false := by simp; omega
            clear hcd hdg h48
            go_wp2
            go_meet
            case rel => exact ⟨by simp, rfl⟩
          · have g1 : decide (48 ≤ c) = false := by simp; omega
            clear hcd hdg h48
            go_wp2
            go_meet
            case rel => exact ⟨by simp, rfl⟩
      · obtain rfl : j = K := by omega
        have gj : decide ((j : Int) < (s.size : Int)) = false := by simp; omega
        go_wp2
        go_meet
        case rel => exact ⟨by simp, rfl⟩
    case rest =>
      obtain ⟨rfl, rfl⟩ := hcut
      by_cases hlt : j < K
      · have g1 : decide (j < K) = true := by simpa using hlt
        go_wp2
        go_roundw
        case rel => exact ⟨by first | rfl | trivial, j + 1, hlt, by go_num⟩
        case measure => simp [intOf]; omega
      · have g1 : decide (j < K) = false := by simpa using hlt
        obtain rfl : j = K := by omega
        clear g1 hlt hj
        rename World => v1
        obtain ⟨o0, ho0⟩ : ∃ o0 : Bool, o0 = (decide (0 < j) && (decide (j = 1) || !decide (s.data.toList.getD 0 0 = 48))) := ⟨_, rfl⟩
        have HO := Lib.hid ho0
        clear ho0
        go_upto_region 8 with fail
        go_cut [4, 5] from 12 (fun x o wd => x = .int .i64 0 ∧ o = .bool o0 ∧ ∃ n, wd = v1.drewN n)
        case first =>
          by_cases k0 : 0 < j
          · have g1 : decide (0 < j) = true := by simpa using k0
            by_cases k1 : j = 1
            · have g2 : ((j : Int) == 1) = true := by simp; omega
              have e0 : o0 = true := by rw [HO.out]; simp [k1]
              have HE := Lib.hid e0
              clear k0 k1 e0
              go_quiet (fail)
              go_wp2
              go_meet
              case rel => exact ⟨rfl, by rw [HE.out], _, rfl⟩
            · have g2 : ((j : Int) == 1) = false := by simp; omega
              have hix := index_at s .i64 0 0 rfl (by omega)
              obtain ⟨c, hcd⟩ : ∃ c : Int, c = (s.data.toList.getD 0 0).toNat := ⟨_, rfl⟩
              have hix' : ∀ w, (Instr.index 9 (.string s) (.int .i64 0)).run Tryd.prog w = .ok (.int .u8 c) w := fun w => by rw [hcd]; exact hix w
              have e0 : (!(c == 48)) = o0 := by
                rw [HO.out, hcd]
                have e1 : decide (s.data.toList.getD 0 0 = 48) = ((((s.data.toList.getD 0 0).toNat : Nat) : Int) == 48) := by
                  rw [Bool.eq_iff_iff]
                  simp only [decide_eq_true_eq, beq_iff_eq]
                  exact ⟨fun h => by rw [h]; rfl, fun h => by apply UInt8.toNat_inj.1; show _ = 48; omega⟩
                rw [e1, decide_eq_true k0, decide_eq_false k1]
                rfl
              have HE := Lib.hid e0
              clear hix hcd k0 k1 e0
              go_quiet (fail)
              go_wp2
              go_meet
              case rel => exact ⟨rfl, by rw [← HE.out]; rfl, _, rfl⟩
          · have g1 : decide (0 < j) = false := by simpa using k0
            have e0 : o0 = false := by rw [HO.out]; simp [k0]
            have HE := Lib.hid e0
            clear k0 e0
            go_quiet (fail)
            go_wp2
            go_meet
            case rel => exact ⟨rfl, by rw [HE.out], _, rfl⟩
        case rest =>
          obtain ⟨rfl, rfl, n, hwd⟩ := hcut
          rename World => wd
          have bd : Below w.heap.size w wd := by rw [hwd]; exact b1.trans (below_drewN _ _ _)
          have HWD := Lib.hid hwd
          clear hwd
          have hez : (s.extract 0 j).size = j := by rw [Lib.size_eq, cut_to, List.length_take, HS.out]; omega
          have hcv := Lib.run_convert_string_bytes (P := Tryd.prog) wd 9 29 5 (s.extract 0 j) Tryd.underlying9 Tryd.underlying29 Tryd.underlying5
          rw [hez] at hcv
          have bW := Lib.bytesWorld_below wd 5 (s.extract 0 j)
          have hcell : ∀ i, i < j → (Lib.bytesWorld wd 5 (s.extract 0 j)).cell? ⟨wd.heap.size, i, none⟩ = some (.int .u8 (s.data.toList.getD i 0).toNat) := by
            intro i hi
            rw [Lib.bytesWorld_cell _ _ _ i (by rw [hez]; exact hi), cut_to]
            have : (s.data.toList.take j).getD i 0 = s.data.toList.getD i 0 := by rw [List.getD_eq_getElem?_getD, List.getElem?_take, if_pos hi, ← List.getD_eq_getElem?_getD]
            rw [this]
          generalize grownCap wd j 0 5 = cap at *
          generalize Lib.bytesWorld wd 5 (s.extract 0 j) = W at *
          have bel := below_next bd bW
          have hF2 := hF.on bel
          have hN2 := hN.on bel
          have HEZ := Lib.hid hez
          clear hez
          go_wp2
          go_loop [4, 5, 51] (fun x o i => ∃ (k : Nat) (y : Int) (p : Bool), k ≤ j ∧ i = .int .i64 k ∧ x = .int .i64 y ∧ o = .bool p ∧ St s.data.toList o0 k y p) (fun _ _ i => j - (intOf i).toNat)
          case atStart => exact ⟨0, 0, o0, Nat.zero_le _, rfl, rfl, rfl, St.start _ _⟩
          case round =>
            obtain ⟨k, y, p, hk, rfl, rfl, rfl, hst⟩ := hrel
            by_cases hlt : k < j
            · have gk : decide ((k : Int) < (j : Int)) = true := by simp; omega
              have hc1 := hcell k hlt
              have hdg := (JM.isD_iff _).1 (JM.nd_in s.data.toList k (by rw [← HK.out]; exact hlt))
              have hkl : k < s.data.toList.length := by rw [HS.out]; omega
              have hvn := vl_next hkl
              obtain ⟨c, hcd⟩ : ∃ c : Int, c = (s.data.toList.getD k 0).toNat := ⟨_, rfl⟩
              rw [← hcd] at hc1
              obtain ⟨d, hd⟩ : ∃ d : Int, d = c - 48 := ⟨_, rfl⟩
              have w1 : IntKind.u8.wrap (c - 48) = d := by rw [IntKind.wrap_u8]; omega
              have d0 : 0 ≤ d := by omega
              have d1 : d ≤ 9 := by omega
              have hvd : (JM.vl 0 (s.data.toList.take (k + 1)) : Int) = (JM.vl 0 (s.data.toList.take k) : Int) * 10 + d := by rw [hvn]; omega
              clear hcell
              cases p with
              | false =>
                have hst2 := fun z : Int => St.false_next (y := z) hkl hst
                have HST := Lib.hid hst2
                clear hst hst2 hcd hd hdg hvn hvd hkl
                go_wp2
                go_round
                case rel => exact ⟨k + 1, _, false, hlt, by go_num, rfl, rfl, HST.out _⟩
                case measure => simp [intOf]; omega
              | true =>
                obtain ⟨s1, s2, s3⟩ := hst.1 rfl
                have y0 : 0 ≤ y := by omega
                have y1 : y ≤ 9223372036854775807 := by omega
                obtain ⟨q, hq⟩ : ∃ q : Int, q = (9223372036854775807 - d) / 10 := ⟨_, rfl⟩
                have t1 : (9223372036854775807 - d).tdiv 10 = q := by rw [Int.tdiv_eq_ediv_of_nonneg (by omega), hq]
                have q0 : 0 ≤ q := by omega
                have q1 : q ≤ 922337203685477580 := by omega
                by_cases hqy : q < y
                · have g1 : decide (q < y) = true := by simpa using hqy
                  have HST := Lib.hid (show ∀ z : Int, St s.data.toList o0 (k + 1) z false from fun z => ⟨(fun c => by cases c), fun _ => .inr (by omega)⟩)
                  clear hst hcd hd hdg hvn hvd hkl s1 s2 s3 hq hqy
                  go_wp2
                  go_round
                  case rel => exact ⟨k + 1, _, false, hlt, by go_num, rfl, rfl, HST.out _⟩
                  case measure => simp [intOf]; omega
                · have g1 : decide (q < y) = false := by simpa using hqy
                  have HST := Lib.hid (show St s.data.toList o0 (k + 1) (10 * y + d) true from ⟨fun _ => ⟨s1, by omega, by omega⟩, fun c => by cases c⟩)
                  have m1 : 10 * y ≤ 9223372036854775807 := by omega
                  have m2 : 10 * y + d ≤ 9223372036854775807 := by omega
                  have m3 : 0 ≤ 10 * y := by omega
                  have m4 : 0 ≤ 10 * y + d := by omega
                  clear hst hcd hd hdg hvn hvd hkl s1 s2 s3 hq hqy
                  go_wp2
                  go_round
                  case rel => exact ⟨k + 1, _, true, hlt, by go_num, rfl, rfl, HST.out⟩
                  case measure => simp [intOf]; omega
            · obtain rfl : k = j := by omega
              have gk : decide ((k : Int) < (k : Int)) = false := by simp
              clear hcell hlt
              cases p with
              | true =>
                obtain ⟨v, hnum, hyv⟩ := St.yes HK.out HO.out hst
                have hsl : ∀ wx, (Instr.slice 9 (.string s) (some (.int .i64 k)) none none).run Tryd.prog wx = .ok (.string (tx (s.data.toList.drop k))) wx := by
                  intro wx
                  rw [run_slice_string_from_if wx 9 s .i64 k Tryd.underlying9, if_pos ⟨by omega, by omega⟩, Int.toNat_natCast, cut_from]
                have HNUM := Lib.hid hnum
                have HYV := Lib.hid hyv
                clear hnum hyv hst
                generalize hrest : s.data.toList.drop k = rest at *
                go_wp2_with (go_at_call 15; refine (number_ok s (by omega) _ hN2).mono ?_; rintro e w2 ⟨rfl, b2⟩; rw [HNUM.out, numV_some, ← HYV.out]; refine Hid.out ?_)
                refine Lib.hid ?_
                go_wp2
                go_ret
                exact ⟨by simp, below_next bel b2⟩
              | false =>
                have hnum := St.no HK.out HO.out hst
                have HNUM := Lib.hid hnum
                clear hnum hst
                go_wp2_with (go_at_call 15; refine (number_ok s (by omega) _ hN2).mono ?_; rintro e w2 ⟨rfl, b2⟩; rw [HNUM.out, numV_none]; refine Hid.out ?_)
                refine Lib.hid ?_
                go_wp2
                go_ret
                exact ⟨by simp, below_next bel b2⟩
end Go.Proofs.YtkoikbfcjfikhaaDoor.jsonNumbers
