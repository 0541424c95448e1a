/-
  Layer 2 (crc): what Frame answers, behind bytes that the call's own row holds.
-/
import Derived.Test.YtfndbgdamplelaaCSum
import Derived.Test.YtfndbgdamplelaaVApp

namespace Go.Proofs.Ytfndbgdamplelaa
open Go.RowKit

set_option maxRecDepth 100000 in
set_option maxHeartbeats 1000000 in
theorem frame_grow (v : Value) (xs : List Nat) (A : Option Addr) (c : Nat) (l : List Nat) (w : World) (base : Nat) (hl : ∀ n ∈ l, n < 256) (hm : l.length ≤ 10000000) (hx : xs.length ≤ 100000000)
    (hr : Row w w.heap.size .u8 A l) (hA : A = none → c = 0) (hown : Own w base v xs) (hbase : base ≤ w.heap.size) :
    Calls Try.prog 10 #[v, .slice A l.length c] w fun e w' => ∃ v', e = .returned v' ∧ Own w' base v' (xs ++ CM.frame l) ∧ Grow w w' v v' := by
  have HF : Hid (CM.frame l = VM.enc l.length ++ l ++ CM.le4 (CM.sum (VM.enc l.length ++ l))) := rfl
  have h10 := VM.enc_len64 (n := l.length) (by omega)
  have hby : ∀ c ∈ VM.enc l.length ++ l, c < 256 := fun c hc => (List.mem_append.1 hc).elim (VM.enc_byte _ c) (hl c)
  have hsl := CM.sum_lt hby
  have HR := Lib.hid hr; have HA := Lib.hid hA; have HO := Lib.hid hown; have HBY := Lib.hid hby
  clear hr hA hown hl hby
  go_enter Try.func10, Try.ntmps10
  go_wp2_with fail
  refine (put_fresh (.slice none 0 0) [] (l.length : Int) w w.heap.size (by omega) (by omega) (by simp) (Own.nil _ _) (Nat.le_refl _)).mono ?_
  rintro e w1 ⟨v1, rfl, ho1, hb1⟩
  rw [Int.toNat_natCast, List.nil_append] at ho1
  have HO1 := Lib.hid ho1; have HB1 := Lib.hid hb1
  have hz1 := hb1.size
  clear ho1 hb1
  go_wp2_with (at_builtin; refine wpList_append_g rfl (.tmp 11) (.tmp 12) rfl w.heap.size _ (VM.enc l.length) rfl HO1.out A l _ c w.heap.size rfl rfl (HR.out.below HB1.out) HA.out ?c1 hz1 ?_)
  case c1 => omega
  intro v2 w2 ho2 hg2
  generalize hh : VM.enc l.length ++ l = h at *
  have hhl : h.length ≤ 10000010 := by rw [← hh, List.length_append]; omega
  have hb2 : Below w.heap.size w w2 := HB1.out.trans (hg2.below HO1.out hz1)
  obtain ⟨A2, c2, hv2, hc2, hcm2, hA2, hr2⟩ := ho2.form
  have hz2 := hb2.size
  have HO2 := Lib.hid ho2; have HB2 := Lib.hid hb2; have HR2 := Lib.hid hr2
  clear ho2 hg2 hb2 hr2 hA2 hh
  rw [hv2] at HO2 ⊢
  clear hv2
  go_wp2_with fail
  refine (sum_any A2 c2 h _ _ (by unfold maxLen; omega) HR2.out HBY.out).mono ?_
  rintro e w3 ⟨rfl, rfl⟩
  generalize CM.sum h = s at *
  go_wp2_with (at_builtin; refine wpList_append_g rfl (.tmp 16) (.tmp 28) rfl w.heap.size _ h rfl (HO2.out.alloc _) (some ⟨w2.heap.size, 0, none⟩) (CM.le4 s) 4 4 (w2.heap.size + 1) rfl rfl ?d1 ?d2 ?d3 ?d4 ?_)
  case d1 => exact row_new4 w2 _ _ _ _ _ _ _ _ _ _ rfl (by omega) (by omega) (by omega) (by omega)
  case d2 => simp
  case d3 => rw [CM.le4_len]; omega
  case d4 => simp; omega
  intro v3 w3 ho3 hg3
  rw [← HF.out] at ho3
  have hb3 : Below w.heap.size w w3 := (HB2.out.alloc hz2 _).trans (hg3.below (l := h) (HO2.out.alloc _) (by simp; omega))
  obtain ⟨A3, c3, hv3, hc3, hcm3, hA3, hr3⟩ := ho3.form
  have hz3 := hb3.size
  have hfl := CM.frame_len l
  have HO3 := Lib.hid ho3; have HB3 := Lib.hid hb3; have HR3 := Lib.hid hr3; have HFL := Lib.hid hfl
  clear ho3 hg3 hb3 hr3 hfl
  rw [hv3]
  clear hv3
  have HOV := Lib.hid (HO.out.below HB3.out)
  go_wp2_with (at_builtin; refine wpList_append_g rfl (.tmp 30) (.tmp 31) rfl base _ xs rfl HOV.out A3 (CM.frame l) _ c3 w3.heap.size rfl rfl HR3.out hA3 ?e1 ?e2 ?_)
  case e1 => rw [HFL.out]; omega
  case e2 => omega
  intro v4 w4 ho4 hg4
  have HO4 := Lib.hid ho4; have HG4 := Lib.hid hg4
  clear ho4 hg4
  go_wp2
  go_ret
  exact ⟨v4, rfl, HO4.out, Grow.of_below HB3.out HG4.out⟩
end Go.Proofs.Ytfndbgdamplelaa
