/-
  Layer 3 (json): Quote, and how a rune stands between the quotes.
-/
import Derived.Test.YtciogdhapogolaaDoorJFmt
set_option linter.unusedVariables false
namespace Go.Proofs.YtciogdhapogolaaDoor
open Go.RowKit

abbrev tx (l : List UInt8) : ByteArray := ⟨l.toArray⟩
theorem tx_list (l : List UInt8) : (tx l).data.toList = l := by simp
theorem tx_size (l : List UInt8) : (tx l).size = l.length := by show l.toArray.size = _; simp
theorem tx_of (s : ByteArray) : tx s.data.toList = s := by cases s; simp

theorem encode_enc (r : Nat) (hr : r ≤ 1114111) : Utf8.encode (r : Int) = tx (JM.enc r) := by
  unfold Utf8.encode
  rw [validRune_eq]
  by_cases hg : JM.good r
  · have hv : validRune (r : Int) = true := by unfold validRune; simp; unfold JM.good at hg; omega
    rw [if_pos hv]
    simp only [Int.toNat_natCast]
    by_cases h1 : r < 128
    · rw [if_pos h1, JM.enc_one h1]
    rw [if_neg h1]
    by_cases h2 : r < 2048
    · rw [if_pos h2, JM.enc_two (by omega) h2]
    rw [if_neg h2]
    by_cases h3 : r < 65536
    · rw [if_pos h3, JM.enc_three (by omega) h3 hg]
    rw [if_neg h3, JM.enc_four (by omega) hr]
  · have hb : 55296 ≤ r ∧ r ≤ 57343 := by unfold JM.good at hg; omega
    have hv : ¬ validRune (r : Int) = true := by unfold validRune; simp; omega
    rw [if_neg hv]
    unfold JM.enc Lib.encodeRune
    rw [Lib.encodeRuneZ_bad (by omega)]
    decide +kernel

theorem tx_add (a b : List UInt8) : tx a ++ tx b = tx (a ++ b) := ByteArray.mk_append_mk a b

set_option maxHeartbeats 1000000 in
set_option maxRecDepth 100000 in
theorem written_ok (r : Nat) (hr : r ≤ 1114111) (w : World) (hF : Fmt w) :
    Calls Tryd.prog 42 #[.int .i32 r] w fun e w' => e = .returned (.string (tx (JM.wr r))) ∧ Below w.heap.size w w' := by
  by_cases c1 : r = 34
  · subst c1
    go_enter Tryd.func42, Tryd.ntmps42
    go_wp2
    go_ret
    exact ⟨by kernel_rfl, Below.refl _ _⟩
  by_cases c2 : r = 92
  · subst c2
    go_enter Tryd.func42, Tryd.ntmps42
    go_wp2
    go_ret
    exact ⟨by kernel_rfl, Below.refl _ _⟩
  by_cases c3 : r = 10
  · subst c3
    go_enter Tryd.func42, Tryd.ntmps42
    go_wp2
    go_ret
    exact ⟨by kernel_rfl, Below.refl _ _⟩
  by_cases c4 : r = 13
  · subst c4
    go_enter Tryd.func42, Tryd.ntmps42
    go_wp2
    go_ret
    exact ⟨by kernel_rfl, Below.refl _ _⟩
  obtain ⟨z, hz⟩ : ∃ z : Int, z = r := ⟨_, rfl⟩
  rw [← hz]
  have n1 : (z == 34) = false := by simp; omega
  have n2 : (z == 92) = false := by simp; omega
  have n3 : (z == 10) = false := by simp; omega
  have n4 : (z == 13) = false := by simp; omega
  have h0 : 0 ≤ z := by omega
  by_cases c5 : r < 32 ∨ r = 127
  · have hw : JM.wr r = [92, 117, 48, 48, JM.hexd (r / 16), JM.hexd (r % 16)] := by
      unfold JM.wr
      rw [if_neg (by omega), if_neg c3, if_neg c4, if_pos c5]
    rw [hw]
    have h1 : z ≤ 127 := by omega
    have HU := Lib.hid (show z + 256 = 256 + 16 * ((r / 16 : Nat) : Int) + ((r % 16 : Nat) : Int) by omega)
    have k0 : r % 16 < 16 := by omega
    have k1 : r / 16 < 16 := by omega
    generalize r % 16 = d0 at *
    generalize r / 16 = d1 at *
    clear hw
    rcases c5 with c5 | c5
    · have n5 : decide (z < 32) = true := by simp; omega
      clear hz c1 c2 c3 c4 c5 hr
      go_enter Tryd.func42, Tryd.ntmps42
      go_wp2_with (go_at_call 51; refine (format16 _ d0 d1 k0 k1 HU.out _ hF).mono ?_; rintro e w' ⟨rfl, hb⟩)
      go_ret
      exact ⟨rfl, hb⟩
    · have n5 : decide (z < 32) = false := by simp; omega
      have n6 : (z == 127) = true := by simp; omega
      clear hz c1 c2 c3 c4 c5 hr
      go_enter Tryd.func42, Tryd.ntmps42
      go_wp2_with (go_at_call 51; refine (format16 _ d0 d1 k0 k1 HU.out _ hF).mono ?_; rintro e w' ⟨rfl, hb⟩)
      go_ret
      exact ⟨rfl, hb⟩
  · have hw : JM.wr r = JM.enc r := by
      unfold JM.wr
      rw [if_neg (by omega), if_neg c3, if_neg c4, if_neg c5]
    rw [hw]
    have henc := encode_enc r hr
    rw [← hz] at henc
    have n5 : decide (z < 32) = false := by simp; omega
    have n6 : (z == 127) = false := by simp; omega
    clear hw hz c1 c2 c3 c4 c5 hr
    go_enter Tryd.func42, Tryd.ntmps42
    go_wp2
    go_ret
    exact ⟨rfl, Below.refl _ _⟩

/-! ### things of the call's own, behind a call that makes things anew -/
theorem grown_of {w w' : World} (h : Below w.heap.size w w') : w.grownBy w' none := ⟨h.os, h.tape, h.output, h.size, fun k hk _ => h.block k hk⟩
theorem atF_on {T e : TypeId} {B b : Nat} {p : Value} {bs : List Value} {w w' : World} (h : Lib.BuilderAtF T e B b p bs w) (k : Below w.heap.size w w') : Lib.BuilderAtF T e B b p bs w' := by
  have hlt := h.lt
  obtain ⟨hB, v, hb, hown, hne⟩ := h
  exact ⟨hB, v, (k.block b hlt).trans hb, hown.kept (grown_of k) (by cases hv : v.ownBlock <;> simp), hne⟩
theorem bld_on {B b : Nat} {l : List UInt8} {w w' : World} (h : Bld B b l w) (k : Below w.heap.size w w') : Bld B b l w' := h.elim (fun x => .inl (atF_on x k)) (fun x => .inr (atF_on x k))
theorem iter_on {w w' : World} {k : Nat} {s : ByteArray} {pos : Nat} (h : w.heap[k]? = some (.stringIter s pos)) (b : Below w.heap.size w w') : w'.heap[k]? = some (.stringIter s pos) :=
  (b.block k (Array.getElem?_eq_some_iff.1 h).1).trans h
theorem bld_ne {B b : Nat} {l : List UInt8} {w : World} (h : Bld B b l w) {k : Nat} {s : ByteArray} {pos : Nat} (hk : w.heap[k]? = some (.stringIter s pos)) : k ≠ b := by
  rintro rfl
  rcases h with ⟨_, v, hb, _⟩ | ⟨_, v, hb, _⟩ <;> (rw [hk] at hb; cases hb)
theorem width_pos (s : ByteArray) (pos : Nat) : 1 ≤ (Utf8.decode s pos).2 := by rw [← Lib.decodeL_drop]; exact Lib.decodeL_width _
theorem drop_ne {l : List UInt8} {p : Nat} (h : p < l.length) : l.drop p ≠ [] := by intro e; have := congrArg List.length e; simp at this; omega

set_option maxHeartbeats 4000000 in
set_option maxRecDepth 100000 in
theorem quote_ok (s : ByteArray) (hs : s.size ≤ 1000000) (w : World) (hF : Fmt w) :
    Calls Tryd.prog 25 #[.string s] w fun e w' => e = .returned (.string (tx (JM.quote s.data.toList))) ∧ Below w.heap.size w w' := by
  have hsz : s.data.toList.length = s.size := (Lib.size_eq s).symm
  have HS := Lib.hid hsz
  clear hsz
  have hb0 : Bld w.heap.size w.heap.size [] (w.alloc (.cells #[.pointer none, .slice none 0 0] 50)) := Lib.IsBuilderF.of (Lib.fresh_isBuilder 50 5 w)
  have bel0 : Below w.heap.size w (w.alloc (.cells #[.pointer none, .slice none 0 0] 50)) := (Below.refl _ w).alloc (Nat.le_refl _) _
  go_enter Tryd.func25, Tryd.ntmps25
  go_wp2_with (go_at_call 41; refine (writeByte w.heap.size w.heap.size [] 34 34 (by decide) _ hb0 (by simp) (by simp)).mono ?_; rintro e w1 ⟨rfl, hb1, bel1, -⟩; refine Hid.out ?_)
  have bel := bel0.trans bel1
  clear bel0 bel1 hb0
  have hk1 := bel.size
  refine Lib.hid ?_
  go_wp2
  obtain ⟨k, hk⟩ : ∃ k, k = w1.heap.size := ⟨_, rfl⟩
  rw [← hk]
  have HK := Lib.hid hk
  have hk2 : w.heap.size ≤ k := by omega
  clear hk
  go_loopw [] (fun wr => ∃ (pos : Nat) (rs : List Nat), Bld w.heap.size w.heap.size (34 :: rs.flatMap JM.wr) wr ∧ wr.heap[k]? = some (.stringIter s pos) ∧ Below w.heap.size w wr ∧ JM.runes s.data.toList = rs ++ JM.runes (s.data.toList.drop pos) ∧ rs.length ≤ pos ∧ pos ≤ s.size) (fun wr => s.size - wr.iterPos k)
  case atStart =>
    refine ⟨0, [], bld_on hb1 ((Below.refl _ _).alloc (Nat.le_refl _) _), ?_, bel.alloc hk1 _, by simp, by simp, by simp⟩
    rw [HK.out]
    exact World.iter_heap w1 s 0
  case round =>
    obtain ⟨pos, rs, hI, hit, hbw, hru, hrl, hps⟩ := hrel
    have HR := Lib.hid hru
    clear hru
    have hne := bld_ne hI hit
    have hkz : k < wr.heap.size := (Array.getElem?_eq_some_iff.1 hit).1
    by_cases hp : pos < s.size
    · obtain ⟨r, n, hd⟩ : ∃ r n, Utf8.decode s pos = (r, n) := ⟨_, _, rfl⟩
      have hnx : ∀ ty, (Instr.next (.pointer (some ⟨k, 0, none⟩)) true ty).run Tryd.prog wr = .ok (.tuple #[.bool true, .int .i64 pos, .int .i32 r]) (wr.iterAt k s (pos + n)) := fun ty => by
        have := Lib.run_next_any_at (P := Tryd.prog) wr k s pos ty hit hp
        rw [hd] at this
        exact this
      have hn1 := width_pos s pos
      have hdl : Lib.decodeL (s.data.toList.drop pos) = (r, n) := (Lib.decodeL_drop s pos).trans hd
      have hr1 : r ≤ 1114111 := by have := Lib.decodeL_rune (s.data.toList.drop pos); rw [hdl] at this; exact this
      have hn2 : pos + n ≤ s.size := by
        have := Lib.decodeL_le (s.data.toList.drop pos) (drop_ne (by rw [HS.out]; exact hp))
        rw [hdl, List.length_drop, HS.out] at this
        simp at this
        omega
      rw [hd] at hn1
      simp only at hn1
      have hru2 : JM.runes (s.data.toList.drop pos) = r :: JM.runes (s.data.toList.drop (pos + n)) := by
        rw [JM.runes_step (drop_ne (by rw [HS.out]; exact hp)), hdl, List.drop_drop]
      have HR2 := Lib.hid hru2
      clear hru2 hdl hd
      have hI2 := hI.iterAt hit (pos + n)
      have hit2 := Lib.iterAt_heap wr k s pos (pos + n) hit
      have hbw2 := Lib.below_iterAt hbw (k := k) (by omega) s (pos + n)
      have hz2 : (wr.iterAt k s (pos + n)).heap.size = wr.heap.size := Lib.iterAt_size wr k s _
      have hF2 := hF.on hbw2
      have hwz := hbw.size
      generalize hW : wr.iterAt k s (pos + n) = W at *
      have HW := Lib.hid hW
      clear hW
      have hfl := JM.flat_len JM.wr 6 rs JM.wr_len
      go_wp2_with (go_at_call 42; refine (written_ok r hr1 _ hF2).mono ?_; rintro e w2 ⟨rfl, bel2⟩; refine Hid.out ?_)
      have hI3 := bld_on hI2 bel2
      have hit3 := iter_on hit2 bel2
      have hz3 := bel2.size
      refine Lib.hid ?_
      go_wp2_with (go_at_call 21; refine (writeString w.heap.size w.heap.size _ _ _ hI3 (by have := JM.wr_len r; rw [tx_size]; simp only [List.length_cons]; omega) (by omega)).mono ?_; rintro e w3 ⟨rfl, hI4, bel3, kept3⟩)
      go_roundw
      case rel =>
        refine ⟨pos + n, rs ++ [r], ?_, kept3.iter hit3 hne, (below_at hbw2 (by omega) bel2).trans bel3, ?_, by simp; omega, hn2⟩
        · simpa using hI4
        · rw [HR.out, HR2.out]; simp
      case measure =>
        simp only [World.iterPos, kept3.iter hit3 hne, hit]
        omega
    · have hnx : ∀ ty, (Instr.next (.pointer (some ⟨k, 0, none⟩)) true ty).run Tryd.prog wr = _ := fun ty => Lib.run_next_end_at wr k s pos ty hit hp
      have hwz := hbw.size
      have hfl := JM.flat_len JM.wr 6 rs JM.wr_len
      go_wp2_with (go_at_call 41; refine (writeByte w.heap.size w.heap.size _ 34 34 (by decide) _ hI (by simp only [List.length_cons]; omega) (by omega)).mono ?_; rintro e w2 ⟨rfl, hI2, bel2, -⟩; refine Hid.out ?_)
      have hz2 := bel2.size
      refine Lib.hid ?_
      go_wp2_with (go_at_call 27; refine (Tryd.Builder_String_any_k w.heap.size w.heap.size _ _ hI2 (by omega)).mono ?_; rintro e w3 ⟨rfl, -, bel3, -⟩)
      go_ret
      refine ⟨?_, (hbw.trans bel2).trans bel3⟩
      have hd0 : s.data.toList.drop pos = [] := List.drop_eq_nil_of_le (by rw [HS.out]; omega)
      have h1 := HR.out
      rw [hd0, JM.runes_nil, List.append_nil] at h1
      unfold JM.quote
      rw [h1]
      rfl
end Go.Proofs.YtciogdhapogolaaDoor
