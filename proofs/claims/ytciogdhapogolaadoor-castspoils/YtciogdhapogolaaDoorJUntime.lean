/-
  Layer 3 (json): Untime.
-/
import Derived.Test.YtciogdhapogolaaDoorJNum
import Derived.Test.YtciogdhapogolaaDoorJTimeM
set_option linter.unusedVariables false
namespace Go.Proofs.YtciogdhapogolaaDoor
open Go.RowKit

theorem cut_yes (l p : List UInt8) (h : p <+: l) (w : World) :
    Calls Tryd.prog 29 #[.string (tx l), .string (tx p)] w fun e w' => e = .returned (.tuple #[.string (tx (l.drop p.length)), .bool true]) ∧ w' = w := by
  refine (Tryd.strings_CutPrefix (tx l) (tx p) w).mono ?_
  rintro e w' ⟨rfl, rfl⟩
  have hp : Lib.hasPrefix l p = true := List.isPrefixOf_iff_prefix.2 h
  refine ⟨?_, rfl⟩
  unfold Lib.trimPrefix
  rw [tx_list, tx_list, hp]
  rfl
theorem cut_no (l p : List UInt8) (h : ¬ p <+: l) (w : World) :
    Calls Tryd.prog 29 #[.string (tx l), .string (tx p)] w fun e w' => e = .returned (.tuple #[.string (tx l), .bool false]) ∧ w' = w := by
  refine (Tryd.strings_CutPrefix (tx l) (tx p) w).mono ?_
  rintro e w' ⟨rfl, rfl⟩
  have hp : Lib.hasPrefix l p = false := by
    cases hc : Lib.hasPrefix l p with
    | false => rfl
    | true => exact absurd (List.isPrefixOf_iff_prefix.1 hc) h
  refine ⟨?_, rfl⟩
  unfold Lib.trimPrefix
  rw [tx_list, tx_list, hp]
  rfl
theorem dot_iff (r : List UInt8) : [46] <+: r ↔ r.getD 0 0 = 46 := by
  cases r with
  | nil => simp
  | cons b t => simp [List.cons_prefix_cons, eq_comm]

set_option maxHeartbeats 2000000 in
set_option maxRecDepth 100000 in
theorem untime_ok (s : ByteArray) (hs : s.size ≤ 1000000) (w : World) (hN : Num w) :
    Calls Tryd.prog 33 #[.string s] w fun e w' => e = .returned (numV (JM.utm s.data.toList)) ∧ Below w.heap.size w w' := by
  have hc := number_ok s hs w hN
  have hsz : s.data.toList.length ≤ 1000000 := by rw [← Lib.size_eq]; exact hs
  generalize s.data.toList = l at *
  cases hnum : JM.num l with
  | none =>
    have hu : JM.utm l = none := by unfold JM.utm; rw [hnum]
    rw [hu]
    rw [hnum, numV_none] at hc
    clear hnum hu
    go_enter Tryd.func33, Tryd.ntmps33
    go_wp2_with (go_at_call 18; refine hc.mono ?_; rintro e w1 ⟨rfl, b1⟩)
    go_ret3
    exact ⟨rfl, b1⟩
  | some qr =>
    obtain ⟨q, r⟩ := qr
    have hback := JM.num_back hnum
    have hq63 := JM.num_lt hnum
    have hrl : r.length ≤ 1000000 := by rw [← hback, List.length_append] at hsz; omega
    have hu : JM.utm l = if 4611686018427 < q then none else if r.getD 0 0 ≠ 46 then none else if JM.nd (r.drop 1) < 6 then none else some (q * 1000000 + JM.vl 0 ((r.drop 1).take 6), (r.drop 1).drop 6) := by
      unfold JM.utm; rw [hnum]
    rw [hu]
    rw [hnum, numV_some] at hc
    clear hnum hu hback hsz
    obtain ⟨z, hz⟩ : ∃ z : Int, z = q := ⟨_, rfl⟩
    rw [← hz] at hc
    by_cases c1 : 4611686018427 < q
    · rw [if_pos c1]
      have g1 : decide (4611686018427 < z) = true := by simp; omega
      clear hz c1 hq63
      go_enter Tryd.func33, Tryd.ntmps33
      go_wp2_with (go_at_call 18; refine hc.mono ?_; rintro e w1 ⟨rfl, b1⟩)
      go_ret3
      exact ⟨rfl, b1⟩
    rw [if_neg c1]
    have g1 : decide (4611686018427 < z) = false := by simp; omega
    by_cases c2 : r.getD 0 0 = 46
    · rw [if_neg (by simpa using c2)]
      have hcut := cut_yes r [46] ((dot_iff r).2 c2)
      simp only [List.length_singleton] at hcut
      have htl : (r.drop 1).length ≤ 1000000 := by rw [List.length_drop]; omega
      clear c2
      generalize r.drop 1 = t at *
      have htz : (tx t).size ≤ 1000000 := by rw [tx_size]; exact htl
      have hcnt := count_ok (tx t) htz
      rw [tx_list] at hcnt
      obtain ⟨N, hNN⟩ : ∃ N, N = JM.nd t := ⟨_, rfl⟩
      rw [← hNN] at hcnt
      by_cases c3 : JM.nd t < 6
      · rw [if_pos c3]
        have g2 : decide ((N : Int) < 6) = true := by simp; omega
        clear hz c1 hq63 c3 hNN
        go_enter Tryd.func33, Tryd.ntmps33
        go_wp2_with (first
          | (go_at_call 18; refine hc.mono ?_; rintro e w1 ⟨rfl, b1⟩)
          | (go_at_call 29; refine (hcut _).mono ?_; rintro e w2 ⟨rfl, rfl⟩)
          | (go_at_call 31; refine (hcnt _).mono ?_; rintro e w3 ⟨rfl, b3⟩))
        go_ret3
        exact ⟨rfl, jbelow_next b1 b3⟩
      · rw [if_neg c3]
        have g2 : decide ((N : Int) < 6) = false := by simp; omega
        have hle := JM.nd_le t
        have h6 : (t.take 6).length = 6 := by rw [List.length_take]; omega
        have hd6 : ∀ b ∈ t.take 6, JM.isD b = true := fun b hb => by
          refine JM.nd_take_all (l := t) b ?_
          have : t.take 6 = (t.take (JM.nd t)).take 6 := by rw [List.take_take, Nat.min_eq_left (by omega)]
          rw [this] at hb
          exact List.mem_of_mem_take hb
        have hv6 := JM.vl_lt _ hd6
        rw [h6] at hv6
        have hat := JM.atoi_digits (t.take 6) (fun e => by rw [e] at h6; cases h6) hd6
        rw [if_pos (by omega)] at hat
        generalize hv : JM.vl 0 (t.take 6) = v at *
        have hsl : ∀ wx, (Instr.slice 9 (.string (tx t)) none (some (.int .i64 6)) none).run Tryd.prog wx = .ok (.string (tx (t.take 6))) wx := by
          intro wx
          rw [run_slice_string_to_if wx 9 (tx t) .i64 6 Tryd.underlying9, if_pos ⟨by omega, by rw [tx_size]; omega⟩]
          have : (tx t).extract 0 6 = tx (t.take 6) := by rw [← tx_of ((tx t).extract 0 6), cut_to, tx_list]
          rw [show (6 : Int).toNat = 6 from rfl, this]
        have hsf : ∀ wx, (Instr.slice 9 (.string (tx t)) (some (.int .i64 6)) none none).run Tryd.prog wx = .ok (.string (tx (t.drop 6))) wx := by
          intro wx
          rw [run_slice_string_from_if wx 9 (tx t) .i64 6 Tryd.underlying9, if_pos ⟨by omega, by rw [tx_size]; omega⟩, show (6 : Int).toNat = 6 from rfl, cut_from, tx_list]
        have hao := atoi_some (tx (t.take 6)) (by rw [tx_size, h6]; omega) v (by rw [tx_list]; exact hat)
        obtain ⟨y, hy⟩ : ∃ y : Int, y = v := ⟨_, rfl⟩
        rw [← hy] at hao
        have HZ := Lib.hid (show ((q * 1000000 + v : Nat) : Int) = z * 1000000 + y by omega)
        rw [numV_some]
        have z0 : 0 ≤ z := by omega
        have z1 : z ≤ 4611686018427 := by omega
        have y0 : 0 ≤ y := by omega
        have y1 : y < 1000000 := by omega
        generalize t.take 6 = t6 at *
        generalize t.drop 6 = t7 at *
        rw [HZ.out]
        clear hz c1 hq63 c3 hNN hat hv hy hle hd6 hv6 h6
        go_enter Tryd.func33, Tryd.ntmps33
        go_wp2_with (first
          | (go_at_call 18; refine hc.mono ?_; rintro e w1 ⟨rfl, b1⟩)
          | (go_at_call 29; refine (hcut _).mono ?_; rintro e w2 ⟨rfl, rfl⟩)
          | (go_at_call 31; refine (hcnt _).mono ?_; rintro e w3 ⟨rfl, b3⟩)
          | (go_at_call 32; refine (hao _).mono ?_; rintro e w4 ⟨rfl, b4⟩))
        go_quiet (fail)
        go_wp2
        go_ret3
        exact ⟨rfl, (jbelow_next (jbelow_next b1 b3) b4).trans (jbelow_drewN _ _ _)⟩
    · rw [if_pos c2]
      have hcut := cut_no r [46] (fun h => c2 ((dot_iff r).1 h))
      clear hz c1 hq63 c2
      go_enter Tryd.func33, Tryd.ntmps33
      go_wp2_with (first
        | (go_at_call 18; refine hc.mono ?_; rintro e w1 ⟨rfl, b1⟩)
        | (go_at_call 29; refine (hcut _).mono ?_; rintro e w2 ⟨rfl, rfl⟩))
      go_ret3
      exact ⟨rfl, b1⟩
end Go.Proofs.YtciogdhapogolaaDoor
