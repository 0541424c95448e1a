/-
  Layer 3 (json): what a text between quotes means by its beginning.
-/
import Derived.Test.YtciogdhapogolaaDoorJPu
set_option linter.unusedVariables false
namespace Go.Proofs.YtciogdhapogolaaDoor
open Go.RowKit

set_option maxHeartbeats 2000000 in
set_option maxRecDepth 100000 in
theorem parse_some (t : List UInt8) (ht : t.length ≤ 4) (n : Nat) (h : JM.hexNum t = some n) (w : World) :
    Calls Tryd.prog 69 #[.string (tx t), .int .i64 16, .int .i64 16] w fun e w' => e = .returned (.tuple #[.int .u64 n, .nilIface]) ∧ Below w.heap.size w w' := by
  have hp := pu_ok t ht w
  rw [h, puV_some] at hp
  clear h
  go_enter Tryd.func69, Tryd.ntmps69
  go_wp2_with (go_at_call 65; refine hp.mono ?_; rintro e w1 ⟨rfl, b1⟩)
  go_ret2
  exact ⟨rfl, b1⟩
set_option maxHeartbeats 2000000 in
set_option maxRecDepth 100000 in
theorem parse_none (t : List UInt8) (ht : t.length ≤ 4) (h : JM.hexNum t = none) (w : World) (hN : Num w) :
    Calls Tryd.prog 69 #[.string (tx t), .int .i64 16, .int .i64 16] w fun e w' => (∃ n q, e = .returned (.tuple #[.int .u64 n, .iface 84 q])) ∧ Below w.heap.size w w' := by
  have hp := pu_ok t ht w
  rw [h, puV_none] at hp
  clear h
  go_enter Tryd.func69, Tryd.ntmps69
  go_wp2_with (go_at_call 65; refine hp.mono ?_; rintro e w1 ⟨rfl, b1⟩; refine Hid.out ?_)
  obtain ⟨⟨tp, p, h1⟩, -⟩ := hN.on b1
  have hv : w1.cell? ⟨1, 0, none⟩ = some (.iface tp p) := by have h0 := World.var?_cell (g := 1) (by kernel_rfl) h1 0; simpa using h0
  clear h1
  have HV := Lib.hid hv
  clear hv
  refine Lib.hid ?_
  go_wp2_with (go_at_call 45; refine (Tryd.strconv_toError_syntax _ (tx t) 16 16 _ _ (by rw [tx_size]; omega) HV.out (.inr ⟨_, _, rfl⟩)).mono ?_; rintro e w2 ⟨N, rfl, -, -, b2⟩)
  go_ret2
  exact ⟨⟨_, _, rfl⟩, jbelow_next b1 b2⟩

set_option maxHeartbeats 2000000 in
set_option maxRecDepth 100000 in
theorem sign_ok (l : List UInt8) (hl : l.length ≤ 1000000) (w : World) (hN : Num w) :
    Calls Tryd.prog 59 #[.string (tx l)] w fun e w' => e = .returned (.int .i32 (JM.sgn l)) ∧ Below w.heap.size w w' := by
  have htl : (l.take 4).length ≤ 4 := by rw [List.length_take]; omega
  have hex : (tx l).extract 0 (min (4 : Int) (l.length : Int)).toNat = tx (l.take 4) := by
    rw [← tx_of ((tx l).extract 0 (min (4 : Int) (l.length : Int)).toNat), cut_to, tx_list]
    congr 1
    by_cases h : l.length ≤ 4
    · rw [show (min (4 : Int) (l.length : Int)).toNat = l.length by omega, List.take_length, List.take_of_length_le h]
    · rw [show (min (4 : Int) (l.length : Int)).toNat = 4 by omega]
  cases hx : JM.hexNum (l.take 4) with
  | some n =>
    have hs : JM.sgn l = n := by unfold JM.sgn; rw [hx]; rfl
    have hle := JM.sgn_le l
    rw [hs] at hle ⊢
    have hp := fun w => parse_some (l.take 4) htl n hx w
    obtain ⟨z, hz⟩ : ∃ z : Int, z = n := ⟨_, rfl⟩
    rw [← hz] at hp ⊢
    have a1 : IntKind.i32.wrap z = z := by rw [IntKind.wrap_i32]; omega
    clear hs hx hz hle
    generalize l.take 4 = t at *
    go_enter Tryd.func59, Tryd.ntmps59
    go_wp2_with (go_at_call 69; refine (hp _).mono ?_; rintro e w1 ⟨rfl, b1⟩)
    go_ret
    exact ⟨rfl, b1⟩
  | none =>
    have hs : JM.sgn l = 65533 := by unfold JM.sgn; rw [hx]; rfl
    rw [hs]
    have hp := fun w h => parse_none (l.take 4) htl hx w h
    clear hs hx
    generalize l.take 4 = t at *
    go_enter Tryd.func59, Tryd.ntmps59
    go_wp2_with (go_at_call 69; refine (hp _ hN).mono ?_; rintro e w1 ⟨⟨n, q, rfl⟩, b1⟩)
    go_ret
    exact ⟨rfl, b1⟩

theorem decode_ok (l : List UInt8) (hne : l ≠ []) (w : World) (hU : Utf w) :
    Calls Tryd.prog 58 #[.string (tx l)] w fun e w' => e = .returned (.tuple #[.int .i32 ((Lib.decodeL l).1 : Nat), .int .i64 ((Lib.decodeL l).2 : Nat)]) ∧ Below w.heap.size w w' := by
  refine (Tryd.utf8_DecodeRuneInString (tx l) w hU.tabs).mono ?_
  rintro e w' ⟨rfl, b⟩
  have hz : (tx l).size ≠ 0 := by rw [tx_size]; exact fun h => hne (List.length_eq_zero_iff.1 h)
  have hd : Lib.decodeGo (tx l) = Utf8.decode (tx l) 0 := by unfold Lib.decodeGo; rw [if_neg hz]
  refine ⟨?_, b⟩
  rw [hd]
  rfl

set_option maxHeartbeats 2000000 in
set_option maxRecDepth 100000 in
theorem meant_ok (l : List UInt8) (hne : l ≠ []) (hl : l.length ≤ 1000000) (w : World) (hN : Num w) (hU : Utf w) :
    Calls Tryd.prog 46 #[.string (tx l)] w fun e w' => e = .returned (.int .i32 (JM.meant l)) ∧ Below w.heap.size w w' := by
  have hdec := decode_ok l hne w hU
  obtain ⟨r, hr⟩ : ∃ r, r = (Lib.decodeL l).1 := ⟨_, rfl⟩
  obtain ⟨n, hn⟩ : ∃ n, n = (Lib.decodeL l).2 := ⟨_, rfl⟩
  rw [← hr, ← hn] at hdec
  obtain ⟨z, hz⟩ : ∃ z : Int, z = r := ⟨_, rfl⟩
  rw [← hz] at hdec
  by_cases c1 : r = 92
  · have g1 : (z == 92) = true := by simp; omega
    have g1' : (z != 92) = false := by simp; omega
    by_cases c2 : l.length < 2
    · have hm : JM.meant l = r := by unfold JM.meant; rw [← hr, if_pos (.inr c2)]
      rw [hm, ← hz]
      have g2 : decide ((l.length : Int) < 2) = true := by simp; omega
      clear hm hz hr hn c1
      go_enter Tryd.func46, Tryd.ntmps46
      go_wp2_with (go_at_call 58; refine hdec.mono ?_; rintro e w1 ⟨rfl, b1⟩)
      go_ret
      exact ⟨rfl, b1⟩
    have g2 : decide ((l.length : Int) < 2) = false := by simp; omega
    have hix : ∀ w, (Instr.index 9 (.string (tx l)) (.int .i64 1)).run Tryd.prog w = .ok (.int .u8 ((l.getD 1 0).toNat : Nat)) w := fun w => by
      have := index_at (tx l) .i64 1 1 rfl (by rw [tx_size]; omega) w
      rw [tx_list] at this
      exact this
    have hmm : JM.meant l = if l.getD 1 0 = 110 then 10 else if l.getD 1 0 = 114 then 13 else if l.getD 1 0 = 117 then JM.sgn (l.drop 2) else (l.getD 1 0).toNat := by
      unfold JM.meant
      rw [← hr, if_neg (fun h => h.elim (fun h => h c1) c2)]
    rw [hmm]
    have hb256 := (l.getD 1 0).toNat_lt
    generalize l.getD 1 0 = b at *
    obtain ⟨c, hc⟩ : ∃ c : Int, c = b.toNat := ⟨_, rfl⟩
    rw [← hc] at hix
    have hbn : ∀ k : UInt8, b = k ↔ b.toNat = k.toNat := fun k => UInt8.toNat_inj.symm
    by_cases d1 : b = 110
    · rw [if_pos d1]
      have g3 : (c == 110) = true := by rw [hc, d1]; rfl
      clear hmm hz hr hn c1 hc d1 hbn
      go_enter Tryd.func46, Tryd.ntmps46
      go_wp2_with (go_at_call 58; refine hdec.mono ?_; rintro e w1 ⟨rfl, b1⟩)
      go_ret
      exact ⟨rfl, b1⟩
    rw [if_neg d1]
    have g3 : (c == 110) = false := by
      rw [hbn] at d1; have e : (110 : UInt8).toNat = 110 := rfl
      simp; omega
    by_cases d2 : b = 114
    · rw [if_pos d2]
      have g4 : (c == 114) = true := by rw [hc, d2]; rfl
      clear hmm hz hr hn c1 hc d1 d2 hbn
      go_enter Tryd.func46, Tryd.ntmps46
      go_wp2_with (go_at_call 58; refine hdec.mono ?_; rintro e w1 ⟨rfl, b1⟩)
      go_ret
      exact ⟨rfl, b1⟩
    rw [if_neg d2]
    have g4 : (c == 114) = false := by
      rw [hbn] at d2; have e : (114 : UInt8).toNat = 114 := rfl
      simp; omega
    by_cases d3 : b = 117
    · rw [if_pos d3]
      have g5 : (c == 117) = true := by rw [hc, d3]; rfl
      have hsl : ∀ wx, (Instr.slice 9 (.string (tx l)) (some (.int .i64 2)) none none).run Tryd.prog wx = .ok (.string (tx (l.drop 2))) wx := by
        intro wx
        rw [run_slice_string_from_if wx 9 (tx l) .i64 2 Tryd.underlying9, if_pos ⟨by omega, by rw [tx_size]; omega⟩, show (2 : Int).toNat = 2 from rfl, cut_from, tx_list]
      have hsg := fun w h => sign_ok (l.drop 2) (by rw [List.length_drop]; omega) w h
      obtain ⟨q, hq⟩ : ∃ q : Int, q = (JM.sgn (l.drop 2) : Nat) := ⟨_, rfl⟩
      rw [← hq] at hsg ⊢
      clear hmm hz hr hn c1 hc d1 d2 d3 hbn hq
      generalize l.drop 2 = t at *
      go_enter Tryd.func46, Tryd.ntmps46
      go_wp2_with (go_at_call 58; refine hdec.mono ?_; rintro e w1 ⟨rfl, b1⟩; refine Hid.out ?_)
      have hN1 := hN.on b1
      refine Lib.hid ?_
      go_wp2_with (go_at_call 59; refine (hsg _ hN1).mono ?_; rintro e w2 ⟨rfl, b2⟩)
      go_ret
      exact ⟨rfl, jbelow_next b1 b2⟩
    · rw [if_neg d3]
      have g5 : (c == 117) = false := by
        rw [hbn] at d3; have e : (117 : UInt8).toNat = 117 := rfl
        simp; omega
      rw [← hc]
      have a1 : IntKind.i32.wrap c = c := by rw [IntKind.wrap_i32]; omega
      clear hmm hz hr hn c1 hc d1 d2 d3 hbn
      go_enter Tryd.func46, Tryd.ntmps46
      go_wp2_with (go_at_call 58; refine hdec.mono ?_; rintro e w1 ⟨rfl, b1⟩)
      go_ret
      exact ⟨rfl, b1⟩
  · have hm : JM.meant l = r := by unfold JM.meant; rw [← hr, if_pos (.inl c1)]
    rw [hm, ← hz]
    have g1 : (z == 92) = false := by simp; omega
    have g1' : (z != 92) = true := by simp; omega
    clear hm hz hr hn c1
    go_enter Tryd.func46, Tryd.ntmps46
    go_wp2_with (go_at_call 58; refine hdec.mono ?_; rintro e w1 ⟨rfl, b1⟩)
    go_ret
    exact ⟨rfl, b1⟩
end Go.Proofs.YtciogdhapogolaaDoor
