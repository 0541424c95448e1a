/-
  Layer 3 (json): countDigits, Number.
-/
import Derived.Test.YtciogdhapogolaaDoorJTime
import Derived.Test.YtciogdhapogolaaDoorJNumM
import Derived.Deep.QuietTactic
import Derived.BigQuiet
set_option linter.unusedVariables false
namespace Go.Proofs.YtciogdhapogolaaDoor
open Go.RowKit

theorem decode_digit (l : List UInt8) (hne : l ≠ []) (h : JM.isD (l.getD 0 0) = true) : ∃ r : Nat, Lib.decodeL l = (r, 1) ∧ 48 ≤ r ∧ r ≤ 57 := by
  have hb := (JM.isD_iff _).1 h
  refine ⟨(l.getD 0 0).toNat, ?_, hb.1, hb.2⟩
  rw [Lib.decodeL_N]
  unfold Lib.decodeN
  rw [if_pos (by omega)]
theorem decode_other (l : List UInt8) (hne : l ≠ []) (h : JM.isD (l.getD 0 0) = false) : (Lib.decodeL l).1 < 48 ∨ 57 < (Lib.decodeL l).1 := by
  have hb : ¬ (48 ≤ (l.getD 0 0).toNat ∧ (l.getD 0 0).toNat ≤ 57) := fun c => by rw [(JM.isD_iff _).2 c] at h; cases h
  rw [Lib.decodeL_N]
  rcases Lib.decodeN_shape l.length (l.getD 0 0).toNat (l.getD 1 0).toNat (l.getD 2 0).toNat (l.getD 3 0).toNat with ⟨c, e⟩ | ⟨c1, c2, c3, cv, e⟩ | ⟨c1, c2, c3, c4, cv, cs, e⟩ | ⟨c1, c2, c3, c4, c5, cv, cw, e⟩ | e
  all_goals (rw [e]; dsimp only; omega)

set_option maxHeartbeats 2000000 in
set_option maxRecDepth 100000 in
theorem count_ok (s : ByteArray) (hs : s.size ≤ 1000000) (w : World) :
    Calls Tryd.prog 31 #[.string s] w fun e w' => e = .returned (.int .i64 (JM.nd s.data.toList)) ∧ Below w.heap.size w w' := by
  have HS := Lib.hid (Lib.size_eq s).symm
  obtain ⟨N, hN⟩ : ∃ N, N = JM.nd s.data.toList := ⟨_, rfl⟩
  rw [← hN]
  have HN := Lib.hid hN
  have hNs : N ≤ s.size := by rw [hN, ← HS.out]; exact JM.nd_le _
  clear hN
  go_enter Tryd.func31, Tryd.ntmps31
  go_wp2
  obtain ⟨k, hk⟩ : ∃ k, k = w.heap.size := ⟨_, rfl⟩
  rw [← hk]
  have HK := Lib.hid hk
  clear hk
  go_loopw [] (fun wr => ∃ pos : Nat, wr.heap[k]? = some (.stringIter s pos) ∧ Below k w wr ∧ pos ≤ N) (fun wr => s.size - wr.iterPos k)
  case atStart =>
    refine ⟨0, ?_, ?_, Nat.zero_le _⟩
    · rw [HK.out]; exact World.iter_heap w s 0
    · rw [HK.out]; exact (Below.refl _ w).alloc (Nat.le_refl _) _
  case round =>
    obtain ⟨pos, hit, hbw, hpn⟩ := hrel
    by_cases hp : pos < s.size
    · obtain ⟨r, n, hd⟩ : ∃ r n, Utf8.decode s pos = (r, n) := ⟨_, _, rfl⟩
      have hnx : ∀ ty, (Instr.next (.pointer (some ⟨k, 0, none⟩)) true ty).run Tryd.prog wr = .ok (.tuple #[.bool true, .int .i64 pos, .int .i32 r]) (wr.iterAt k s (pos + n)) := fun ty => by
        have := Lib.run_next_any_at (P := Tryd.prog) wr k s pos ty hit hp
        rw [hd] at this
        exact this
      have hdl : Lib.decodeL (s.data.toList.drop pos) = (r, n) := (Lib.decodeL_drop s pos).trans hd
      have hne : s.data.toList.drop pos ≠ [] := drop_ne (by rw [HS.out]; exact hp)
      have hg0 : (s.data.toList.drop pos).getD 0 0 = s.data.toList.getD pos 0 := by rw [Lib.getD_dropU]; rfl
      have hit2 := Lib.iterAt_heap wr k s pos (pos + n) hit
      have hbw2 := Lib.below_iterAt hbw (k := k) (Nat.le_refl _) s (pos + n)
      obtain ⟨z, hz⟩ : ∃ z : Int, z = r := ⟨_, rfl⟩
      rw [← hz] at hnx
      by_cases hlt : pos < N
      · have hdg : JM.isD ((s.data.toList.drop pos).getD 0 0) = true := by rw [hg0]; exact JM.nd_in _ _ (by rw [← HN.out]; exact hlt)
        obtain ⟨r', e, h1, h2⟩ := decode_digit _ hne hdg
        rw [hdl] at e
        cases e
        have g1 : decide (z < 48) = false := by simp; omega
        have g2 : decide (57 < z) = false := by simp; omega
        clear hz hd hdl hdg hg0 h1 h2
        generalize hW : wr.iterAt k s (pos + 1) = W at *
        have HW := Lib.hid hW
        clear hW
        go_wp2
        go_roundw
        case rel => exact ⟨pos + 1, hit2, hbw2, hlt⟩
        case measure =>
          simp only [World.iterPos, hit2, hit]
          omega
      · obtain rfl : pos = N := by omega
        have hdg : JM.isD ((s.data.toList.drop pos).getD 0 0) = false := by rw [hg0]; have := JM.nd_out s.data.toList (by rw [← HN.out, HS.out]; exact hp); rwa [← HN.out] at this
        have hoth := decode_other _ hne hdg
        rw [hdl] at hoth
        simp only at hoth
        rcases hoth with h1 | h1
        · have g1 : decide (z < 48) = true := by simp; omega
          clear hz hd hdl hdg hg0 h1
          generalize hW : wr.iterAt k s (pos + n) = W at *
          have HW := Lib.hid hW
          clear hW
          go_wp2
          go_ret
          exact ⟨rfl, by rw [HK.out] at hbw2; exact hbw2⟩
        · have g1 : decide (z < 48) = false := by simp; omega
          have g2 : decide (57 < z) = true := by simp; omega
          clear hz hd hdl hdg hg0 h1
          generalize hW : wr.iterAt k s (pos + n) = W at *
          have HW := Lib.hid hW
          clear hW
          go_wp2
          go_ret
          exact ⟨rfl, by rw [HK.out] at hbw2; exact hbw2⟩
    · have hnx : ∀ ty, (Instr.next (.pointer (some ⟨k, 0, none⟩)) true ty).run Tryd.prog wr = _ := fun ty => Lib.run_next_end_at wr k s pos ty hit hp
      go_wp2
      go_ret
      refine ⟨?_, by rw [HK.out] at hbw; exact hbw⟩
      have : s.size = N := by omega
      rw [this]
      rfl

/-- What Number answers. -/
def numV : Option (Nat × List UInt8) → Value
  | some (n, r) => .tuple #[.int .i64 n, .string (tx r), .bool true]
  | none => .tuple #[.int .i64 0, .string ⟨#[]⟩, .bool false]

theorem numV_some (n : Nat) (r : List UInt8) : numV (some (n, r)) = .tuple #[.int .i64 n, .string (tx r), .bool true] := rfl
theorem numV_none : numV none = .tuple #[.int .i64 0, .string ⟨#[]⟩, .bool false] := rfl

theorem index_at (s : ByteArray) (k : IntKind) (z : Int) (j : Nat) (hz : z = j) (hj : j < s.size) (w : World) : (Instr.index 9 (.string s) (.int k z)).run Tryd.prog w = .ok (.int .u8 (s.data.toList.getD j 0).toNat) w := by
  subst hz
  rw [run_index_string w 9 s k j Tryd.underlying9, dif_pos ⟨by omega, by omega⟩]
  have : s[((j : Int)).toNat]'(by simpa using hj) = s.data.toList.getD j 0 := by
    show s.data[((j : Int)).toNat]'_ = _
    rw [List.getD_eq_getElem?_getD, Array.getElem?_toList, Array.getElem?_eq_getElem (by exact hj)]
    simp
  rw [this]
theorem cut_to (s : ByteArray) (n : Nat) : (s.extract 0 n).data.toList = s.data.toList.take n := by
  have := ByteArray.extract_mk s.data.toList 0 n
  rw [show (⟨s.data.toList.toArray⟩ : ByteArray) = s from tx_of s] at this
  rw [this]
  simp
theorem cut_from (s : ByteArray) (n : Nat) : s.extract n s.size = tx (s.data.toList.drop n) := by
  have := ByteArray.extract_mk s.data.toList n s.size
  rw [show (⟨s.data.toList.toArray⟩ : ByteArray) = s from tx_of s] at this
  rw [this, List.take_of_length_le (by rw [List.length_drop, ← Lib.size_eq]; omega)]

theorem jbelow_drewN (B : Nat) (w : World) (n : Nat) : Below B w (w.drewN n) := ⟨rfl, rfl, rfl, Nat.le_refl _, fun _ _ => rfl⟩

/-- How Atoi ends where it tells no number: whatever the error. -/
theorem atoi_none (s : ByteArray) (hs : s.size ≤ 1000000) (h : ∀ v, Lib.atoiAll s.data.toList ≠ .ok v) (w : World) (hN : Num w) :
    Calls Tryd.prog 32 #[.string s] w fun e w' => (∃ n q, e = .returned (.tuple #[.int .i64 n, .iface 84 q])) ∧ Below w.heap.size w w' := by
  obtain ⟨⟨tp, p, h1⟩, ⟨tq, q, h2⟩⟩ := hN
  rcases hc : Lib.atoiAll s.data.toList with v | _ | _
  · exact absurd hc (h v)
  · refine Calls.mono (Any.strconv_Atoi_syntax_var Tryd.laysC172 s (by omega) hc tp p w h1) ?_
    rintro e w' ⟨N, rfl, -, -, b⟩
    exact ⟨⟨_, _, rfl⟩, b⟩
  · refine Calls.mono (Any.strconv_Atoi_range_var Tryd.laysC172 s (by omega) hc tq q w h2) ?_
    rintro e w' ⟨N, rfl, -, -, b⟩
    exact ⟨⟨_, _, rfl⟩, b⟩
theorem atoi_some (s : ByteArray) (hs : s.size ≤ 1000000) (v : Int) (h : Lib.atoiAll s.data.toList = .ok v) (w : World) :
    Calls Tryd.prog 32 #[.string s] w fun e w' => e = .returned (.tuple #[.int .i64 v, .nilIface]) ∧ Below w.heap.size w w' := by
  refine (Tryd.strconv_Atoi_ok s (by omega) v h w).mono ?_
  rintro e w' ⟨rfl, h⟩
  refine ⟨rfl, ?_⟩
  rcases h with rfl | ⟨t, rfl⟩
  · exact Below.refl _ _
  · exact Lib.bytesWorld_below w _ t

set_option maxHeartbeats 2000000 in
set_option maxRecDepth 100000 in
theorem number_ok (s : ByteArray) (hs : s.size ≤ 1000000) (w : World) (hN : Num w) :
    Calls Tryd.prog 18 #[.string s] w fun e w' => e = .returned (numV (JM.num s.data.toList)) ∧ Below w.heap.size w w' := by
  have HS := Lib.hid (Lib.size_eq s).symm
  have hnle := JM.nd_le s.data.toList
  have hall := @JM.nd_take_all s.data.toList
  obtain ⟨N, hNN⟩ : ∃ N, N = JM.nd s.data.toList := ⟨_, rfl⟩
  have HNN := Lib.hid hNN
  rw [HS.out, ← hNN] at hnle
  rw [← hNN] at hall
  clear hNN
  have hcut := cut_to s N
  have hcz : (s.extract 0 N).size ≤ 1000000 := by rw [Lib.size_eq, hcut, List.length_take, HS.out]; omega
  have hc := count_ok s hs
  by_cases c0 : N = 0
  · have hat : ∀ v, Lib.atoiAll (s.extract 0 N).data.toList ≠ .ok v := fun v h => by rw [hcut, c0, List.take_zero] at h; cases h
    have hnum : JM.num s.data.toList = none := by unfold JM.num; rw [← HNN.out, if_pos c0]
    rw [hnum]
    have g1 : decide ((1 : Int) < (N : Int)) = false := by simp; omega
    clear hcut hall hnum c0
    go_enter Tryd.func18, Tryd.ntmps18
    go_wp2_with (go_at_call 31; refine (hc _).mono ?_; rintro e w1 ⟨rfl, b1⟩; rw [← HNN.out]; refine Hid.out ?_)
    have hN1 := hN.on b1
    refine Lib.hid ?_
    go_wp2_with (go_at_call 32; refine (atoi_none _ hcz hat _ hN1).mono ?_; rintro e w2 ⟨⟨n, q, rfl⟩, b2⟩)
    go_ret3
    exact ⟨rfl, jbelow_next b1 b2⟩
  have hs0 : 0 < s.size := by omega
  have hix := index_at s .i64 0 0 rfl hs0
  obtain ⟨c, hcd⟩ : ∃ c : Int, c = (s.data.toList.getD 0 0).toNat := ⟨_, rfl⟩
  have hix' : ∀ w, (Instr.index 9 (.string s) (.int .i64 0)).run Tryd.prog w = .ok (.int .u8 c) w := fun w => by rw [hcd]; exact hix w
  clear hix
  by_cases c1 : 1 < N ∧ s.data.toList.getD 0 0 = 48
  · have hnum : JM.num s.data.toList = none := by unfold JM.num; rw [← HNN.out, if_neg c0, if_pos c1]
    rw [hnum]
    have g1 : decide ((1 : Int) < (N : Int)) = true := by simp; omega
    have g2 : (c == 48) = true := by rw [hcd, c1.2]; rfl
    clear hcut hall hnum hcd c1
    go_enter Tryd.func18, Tryd.ntmps18
    go_wp2_with (go_at_call 31; refine (hc _).mono ?_; rintro e w1 ⟨rfl, b1⟩; rw [← HNN.out]; refine Hid.out ?_)
    refine Lib.hid ?_
    go_wp2
    go_ret3
    exact ⟨rfl, b1⟩
  have ht0 : s.data.toList.take N ≠ [] := by intro e; have := congrArg List.length e; rw [List.length_take, HS.out, List.length_nil] at this; omega
  have hat := JM.atoi_digits _ ht0 hall
  rw [← hcut] at hat
  rw [hcut] at hat
  have hgg : 1 < N → (c == 48) = false := fun h => by
    by_cases h2 : c = 48
    · exact absurd ⟨h, by rw [hcd] at h2; apply UInt8.toNat_inj.1; show _ = 48; omega⟩ c1
    · simpa using h2
  have hsl : ∀ wx, (Instr.slice 9 (.string s) (some (.int .i64 N)) none none).run Tryd.prog wx = .ok (.string (tx (s.data.toList.drop N))) wx := by
    intro wx
    rw [run_slice_string_from_if wx 9 s .i64 N Tryd.underlying9, if_pos ⟨by omega, by omega⟩, Int.toNat_natCast, cut_from]
  by_cases hv : JM.vl 0 (s.data.toList.take N) < 9223372036854775808
  · rw [if_pos hv] at hat
    have hnum : JM.num s.data.toList = some (JM.vl 0 (s.data.toList.take N), s.data.toList.drop N) := by unfold JM.num; rw [← HNN.out, if_neg c0, if_neg c1, if_pos hv]
    rw [hnum]
    generalize JM.vl 0 (s.data.toList.take N) = v at *
    generalize s.data.toList.drop N = rest at *
    rw [← hcut] at hat
    by_cases h1 : 1 < N
    · have g1 : decide ((1 : Int) < (N : Int)) = true := by simp; omega
      have g2 := hgg h1
      clear hcut hall hnum hcd c1 hgg h1 hv
      go_enter Tryd.func18, Tryd.ntmps18
      go_wp2_with (go_at_call 31; refine (hc _).mono ?_; rintro e w1 ⟨rfl, b1⟩; rw [← HNN.out]; refine Hid.out ?_)
      refine Lib.hid ?_
      go_wp2_with (go_at_call 32; refine (atoi_some _ hcz _ hat _).mono ?_; rintro e w2 ⟨rfl, b2⟩)
      go_quiet (fail)
      go_wp2
      go_ret3
      exact ⟨rfl, (jbelow_next b1 b2).trans (jbelow_drewN _ _ _)⟩
    · have g1 : decide ((1 : Int) < (N : Int)) = false := by simp; omega
      clear hcut hall hnum hcd c1 hgg h1 hv
      go_enter Tryd.func18, Tryd.ntmps18
      go_wp2_with (go_at_call 31; refine (hc _).mono ?_; rintro e w1 ⟨rfl, b1⟩; rw [← HNN.out]; refine Hid.out ?_)
      refine Lib.hid ?_
      go_wp2_with (go_at_call 32; refine (atoi_some _ hcz _ hat _).mono ?_; rintro e w2 ⟨rfl, b2⟩)
      go_quiet (fail)
      go_wp2
      go_ret3
      exact ⟨rfl, (jbelow_next b1 b2).trans (jbelow_drewN _ _ _)⟩
  · rw [if_neg hv] at hat
    have hnum : JM.num s.data.toList = none := by unfold JM.num; rw [← HNN.out, if_neg c0, if_neg c1, if_neg hv]
    rw [hnum]
    rw [← hcut] at hat
    have hat2 : ∀ v, Lib.atoiAll (s.extract 0 N).data.toList ≠ .ok v := fun v h => by rw [hat] at h; cases h
    by_cases h1 : 1 < N
    · have g1 : decide ((1 : Int) < (N : Int)) = true := by simp; omega
      have g2 := hgg h1
      clear hcut hall hnum hcd c1 hgg h1 hv hsl hat
      go_enter Tryd.func18, Tryd.ntmps18
      go_wp2_with (go_at_call 31; refine (hc _).mono ?_; rintro e w1 ⟨rfl, b1⟩; rw [← HNN.out]; refine Hid.out ?_)
      have hN1 := hN.on b1
      refine Lib.hid ?_
      go_wp2_with (go_at_call 32; refine (atoi_none _ hcz hat2 _ hN1).mono ?_; rintro e w2 ⟨⟨n, q, rfl⟩, b2⟩)
      go_ret3
      exact ⟨rfl, jbelow_next b1 b2⟩
    · have g1 : decide ((1 : Int) < (N : Int)) = false := by simp; omega
      clear hcut hall hnum hcd c1 hgg h1 hv hsl hat
      go_enter Tryd.func18, Tryd.ntmps18
      go_wp2_with (go_at_call 31; refine (hc _).mono ?_; rintro e w1 ⟨rfl, b1⟩; rw [← HNN.out]; refine Hid.out ?_)
      have hN1 := hN.on b1
      refine Lib.hid ?_
      go_wp2_with (go_at_call 32; refine (atoi_none _ hcz hat2 _ hN1).mono ?_; rintro e w2 ⟨⟨n, q, rfl⟩, b2⟩)
      go_ret3
      exact ⟨rfl, jbelow_next b1 b2⟩
end Go.Proofs.YtciogdhapogolaaDoor
