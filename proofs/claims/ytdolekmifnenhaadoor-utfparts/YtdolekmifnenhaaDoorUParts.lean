/-
  UtfParts' walk: however bytes are parted, the same runes are told, and the same bytes are under way.
-/
import Derived.Test.YtdolekmifnenhaaDoorUEq
import Derived.Deep.Cut
namespace Go.Proofs.YtdolekmifnenhaaDoor.utfParts
open Go.RowKit

/-- A text's beginning, and its end. -/
def headOf (s : ByteArray) (k : Nat) : ByteArray := s.extract 0 k
def tailOf (s : ByteArray) (k : Nat) : ByteArray := s.extract k s.size
theorem head_bytes (s : ByteArray) (k : Nat) : bytesOf (headOf s k) = (bytesOf s).take k := by unfold bytesOf headOf; simp
theorem tail_bytes (s : ByteArray) (k : Nat) : bytesOf (tailOf s k) = (bytesOf s).drop k := by
  unfold bytesOf tailOf
  rw [ByteArray.data_extract, Array.toList_extract, List.extract_eq_take_drop, List.take_of_length_le]
  rw [List.length_drop, Lib.size_eq s]
  omega
theorem head_size (s : ByteArray) (k : Nat) : (headOf s k).size ≤ s.size := by rw [← bytes_len, head_bytes, List.length_take, bytes_len]; omega
theorem tail_size (s : ByteArray) (k : Nat) : (tailOf s k).size ≤ s.size := by rw [← bytes_len, tail_bytes, List.length_drop, bytes_len]; omega
theorem run_head_of (s : ByteArray) (k : Nat) (h : k ≤ s.size) (w : World) : (Instr.slice 9 (.string s) none (some (.int .i64 (k : Int))) none).run Tryd.prog w = .ok (.string (headOf s k)) w := by
  rw [run_slice_string_to_if (P := Tryd.prog) (w := w) 9 s .i64 (k : Int) Tryd.underlying9, if_pos ⟨by omega, by omega⟩]
  rfl
theorem run_tail_of (s : ByteArray) (k : Nat) (h : k ≤ s.size) (w : World) : (Instr.slice 9 (.string s) (some (.int .i64 (k : Int))) none none).run Tryd.prog w = .ok (.string (tailOf s k)) w := by
  rw [run_slice_string_from_if (P := Tryd.prog) (w := w) 9 s .i64 (k : Int) Tryd.underlying9, if_pos ⟨by omega, by omega⟩]
  rfl

set_option maxRecDepth 100000 in
set_option maxHeartbeats 1000000 in
theorem walk (s : ByteArray) (z : Int) (w : World) (hs : s.size ≤ maxLen) (_hz : (Lit.int .i64 z).wf = true) (hT : Utf w) :
    Calls Tryd.prog 5 #[.string s, .int .i64 z] w fun e w' => e = .returned (.bool true) ∧ Below w.heap.size w w' := by
  have HT := Lib.hid hT
  clear hT
  unfold maxLen at hs
  by_cases h5 : 500 < s.size
  · have g : decide ((500 : Int) < (s.size : Int)) = true := by simp; omega
    go_enter Tryd.func5, Tryd.ntmps5
    go_wp2_with (go_at_call 7; refine (fit_ok _ HT.out).mono ?_; rintro e w1 ⟨rfl, b1⟩)
    go_ret
    exact ⟨rfl, b1⟩
  · have g : decide ((500 : Int) < (s.size : Int)) = false := by simp; omega
    obtain ⟨q, hq, hqe⟩ := low16 z
    obtain ⟨t, ht, hte⟩ : ∃ t : Nat, t ≤ s.size ∧ (q : Int) % ((s.size : Int) + 1) = (t : Int) := ⟨q % (s.size + 1), by have := Nat.mod_lt q (show 0 < s.size + 1 by omega); omega, by push_cast; rfl⟩
    go_enter Tryd.func5, Tryd.ntmps5
    go_wp2_with fail
    refine (fit_ok _ HT.out).mono ?_
    rintro e w1 ⟨rfl, b1⟩
    have HB1 := Lib.hid b1
    clear b1
    have HT1 := Lib.hid (HT.out.on HB1.out HT.out.room)
    go_wp2_with fail
    rw [hte]
    clear hte hqe
    have hz0 : (.agg #[.int .u8 0, .int .u8 0, .int .u8 0, .int .i64 0] : Value) = holdV (nat8 []) := rfl
    have hh := run_head_of s t ht
    have htl := run_tail_of s t ht
    have hhs := head_size s t; have hts := tail_size s t
    obtain ⟨S1, hS1⟩ : ∃ S1, S1 = headOf s t := ⟨_, rfl⟩
    obtain ⟨S2, hS2⟩ : ∃ S2, S2 = tailOf s t := ⟨_, rfl⟩
    have hb1 : bytesOf S1 = (bytesOf s).take t := by rw [hS1]; exact head_bytes s t
    have hb2 : bytesOf S2 = (bytesOf s).drop t := by rw [hS2]; exact tail_bytes s t
    rw [← hS1] at hh hhs
    rw [← hS2] at htl hts
    have hfa := UM.feeds_app (bytesOf S1) (bytesOf S2) []
    have hcat : bytesOf S1 ++ bytesOf S2 = bytesOf s := by rw [hb1, hb2, List.take_append_drop]
    rw [hcat] at hfa
    have hall := UM.feeds_all (bytesOf s)
    have hl1 := UM.feeds_left (bytesOf S1) [] UM.full_nil
    have hl0 := UM.feeds_left (bytesOf s) [] UM.full_nil
    have hcn := UM.feeds_count (bytesOf s) []
    rw [bytes_len] at hcn
    have f0 := fun w h => lfeed_ok w h [] UM.full_nil s (by omega)
    have f1 := fun w h => lfeed_ok w h [] UM.full_nil S1 (by omega)
    have f2 := fun w h => lfeed_ok w h _ hl1 S2 (by omega)
    have f3 := fun w => flush1_ok w _ (UM.full_long hl0)
    have f4 := fun w h => all_ok w h s (by omega)
    obtain ⟨L, hL⟩ : ∃ L, L = (UM.feeds [] (bytesOf s)).1 := ⟨_, rfl⟩
    obtain ⟨U, hU⟩ : ∃ U, U = (UM.feeds [] (bytesOf s)).2 := ⟨_, rfl⟩
    obtain ⟨L1, hL1⟩ : ∃ L, L = (UM.feeds [] (bytesOf S1)).1 := ⟨_, rfl⟩
    obtain ⟨U1, hU1⟩ : ∃ U, U = (UM.feeds [] (bytesOf S1)).2 := ⟨_, rfl⟩
    obtain ⟨L2, hL2⟩ : ∃ L, L = (UM.feeds (UM.feeds [] (bytesOf S1)).2 (bytesOf S2)).1 := ⟨_, rfl⟩
    have hLL : L = L1 ++ L2 := by rw [hL, hL1, hL2, hfa]
    have hUU : (UM.feeds (UM.feeds [] (bytesOf S1)).2 (bytesOf S2)).2 = U := by rw [hU, hfa]
    rw [hUU, ← hL2, ← hU1] at f2
    rw [← hL1, ← hU1] at f1
    rw [← hL, ← hU] at f0 hall hcn
    rw [← hU] at f3
    rw [hall] at f4
    have hU3 : U.length ≤ 3 := by rw [hU]; exact UM.full_long hl0
    have hLa : L1.length ≤ L.length := by rw [hLL, List.length_append]; omega
    have hLb : L2.length ≤ L.length := by rw [hLL, List.length_append]; omega
    obtain ⟨x, y, zz, n, hd⟩ : ∃ (x y z : Nat) (n : Int), holdV (nat8 U) = decV x y z n := ⟨_, _, _, _, rfl⟩
    obtain ⟨x1, y1, z1, n1, hd1⟩ : ∃ (x y z : Nat) (n : Int), holdV (nat8 U1) = decV x y z n := ⟨_, _, _, _, rfl⟩
    rw [hd] at f0 f2 f3
    rw [hd1] at f1 f2
    rw [List.length_nil, Nat.zero_add] at hcn
    have F0 := Lib.hid f0; have F1 := Lib.hid f1; have F2 := Lib.hid f2; have F3 := Lib.hid f3; have F4 := Lib.hid f4
    have HLL := Lib.hid hLL; have HZ0 := Lib.hid hz0
    clear f0 f1 f2 f3 f4 hLL hz0 hd hd1 hUU hL hU hL1 hU1 hL2 hfa hcat hall hl1 hl0 hb1 hb2 hS1 hS2
    rw [HZ0.out]
    refine (F0.out w1 HT1.out).mono ?_
    rintro e w2 ⟨v2, rfl, ho2, hb2⟩
    have HO2 := Lib.hid ho2; have HB2 := Lib.hid hb2
    have HT2 := Lib.hid (HT1.out.on hb2 HT1.out.room)
    clear ho2 hb2
    unfold decV
    have hz0 : (.agg #[.int .u8 0, .int .u8 0, .int .u8 0, .int .i64 0] : Value) = holdV (nat8 []) := rfl
    obtain ⟨W3, hW3⟩ : ∃ W3, W3 = w2.alloc (.cells #[.int .u8 (x : Int), .int .u8 (y : Int), .int .u8 (zz : Int), .int .i64 n] 29) := ⟨_, rfl⟩
    have hd3 : W3.heap[w2.heap.size]? = some (.cells #[.int .u8 (x : Int), .int .u8 (y : Int), .int .u8 (zz : Int), .int .i64 n] 29) := by rw [hW3]; exact (MapKept.heap_alloc w2 _).1
    have hb3 : Below w2.heap.size w2 W3 := by rw [hW3]; exact (Below.refl _ _).alloc (Nat.le_refl _) _
    have hs3 : w2.heap.size + 1 ≤ W3.heap.size := by rw [hW3]; simp
    have HW3 := Lib.hid hW3; have HD3 := Lib.hid hd3; have HB3 := Lib.hid hb3
    have HT3 := Lib.hid (HT2.out.on hb3 HT2.out.room)
    have HZ1 := Lib.hid hz0
    clear hW3 hd3 hb3 hz0
    go_wp2_with fail
    rw [← HW3.out, HZ1.out]
    refine (F1.out W3 HT3.out).mono ?_
    rintro e w4 ⟨v4, rfl, ho4, hb4⟩
    have HO4 := Lib.hid ho4; have HB4 := Lib.hid hb4
    have HT4 := Lib.hid (HT3.out.on hb4 HT3.out.room)
    have hs4 := hb4.size
    clear ho4 hb4
    unfold decV
    obtain ⟨W5, hW5⟩ : ∃ W5, W5 = w4.alloc (.cells #[.int .u8 (x1 : Int), .int .u8 (y1 : Int), .int .u8 (z1 : Int), .int .i64 n1] 29) := ⟨_, rfl⟩
    have hd5 : W5.heap[w4.heap.size]? = some (.cells #[.int .u8 (x1 : Int), .int .u8 (y1 : Int), .int .u8 (z1 : Int), .int .i64 n1] 29) := by rw [hW5]; exact (MapKept.heap_alloc w4 _).1
    have hb5 : Below w4.heap.size w4 W5 := by rw [hW5]; exact (Below.refl _ _).alloc (Nat.le_refl _) _
    have hs5 : w4.heap.size + 1 ≤ W5.heap.size := by rw [hW5]; simp
    have HW5 := Lib.hid hW5; have HD5 := Lib.hid hd5; have HB5 := Lib.hid hb5
    have HT5 := Lib.hid ((HT4.out.on hb5 HT4.out.room).on ((Below.refl _ W5).drew) (HT4.out.on hb5 HT4.out.room).room)
    clear hW5 hd5 hb5
    go_wp2
    rw [← HW5.out]
    have q0 : W5.cell? ⟨w4.heap.size, 0, none⟩ = some (.int .u8 (x1 : Int)) := by simp only [World.cell?, HD5.out]; rfl
    have q1 : W5.cell? ⟨w4.heap.size, 1, none⟩ = some (.int .u8 (y1 : Int)) := by simp only [World.cell?, HD5.out]; rfl
    have q2 : W5.cell? ⟨w4.heap.size, 2, none⟩ = some (.int .u8 (z1 : Int)) := by simp only [World.cell?, HD5.out]; rfl
    have q3 : W5.cell? ⟨w4.heap.size, 3, none⟩ = some (.int .i64 n1) := by simp only [World.cell?, HD5.out]; rfl
    refine wp_region_noPanic ?_
    refine wp_region_held_drew (S := fun _ => True) (by kernel_rfl) trivial (fun hHeld => ?_)
    refine wpAnyH_take (i := 1) (v := ?va1) rfl (by kernel_rfl) (by kernel_rfl) (by kernel_rfl) (fun _ _ _ h => h) (Or.inl ⟨by rfl, ?ha1⟩) (by assumption) ?_
    case ha1 => intro w hSw; (try dsimp only at hSw); go_simp; try with_reducible rfl
    simp only [List.getElem_toArray, List.getElem_cons_succ, List.getElem_cons_zero, Act.put, List.setIfInBounds_toArray, List.set_cons_zero, List.set_cons_succ]
    refine wpAnyH_take (i := 2) (v := ?va2) rfl (by kernel_rfl) (by kernel_rfl) (by kernel_rfl) (fun _ _ _ h => h) (Or.inl ⟨by rfl, ?ha2⟩) (by assumption) ?_
    case ha2 => intro w hSw; (try dsimp only at hSw); go_simp; try with_reducible rfl
    simp only [List.getElem_toArray, List.getElem_cons_succ, List.getElem_cons_zero, Act.put, List.setIfInBounds_toArray, List.set_cons_zero, List.set_cons_succ]
    refine wpAnyH_take (i := 3) (v := ?va3) rfl (by kernel_rfl) (by kernel_rfl) (by kernel_rfl) (fun _ _ _ h => h) (Or.inl ⟨by rfl, ?ha3⟩) (by assumption) ?_
    case ha3 => intro w hSw; (try dsimp only at hSw); go_simp; try with_reducible rfl
    simp only [List.getElem_toArray, List.getElem_cons_succ, List.getElem_cons_zero, Act.put, List.setIfInBounds_toArray, List.set_cons_zero, List.set_cons_succ]
    refine wpAnyH_ready (rs := [0]) (by kernel_rfl) (by simp) ?_
    refine AllReadyH.cons rfl (fun K hK => ?_) AllReadyH.nil
    go_simp
    refine hK.out _ _ ?_ (fun hHeld => ?_)
    · trivial
    clear hK K
    refine wpAnyH_ready (rs := [4]) (by kernel_rfl) (by simp) ?_
    refine AllReadyH.cons rfl (fun K hK => ?_) AllReadyH.nil
    go_simp
    refine (F2.out W5.drew HT5.out).mono ?_
    rintro e w6 ⟨v6, rfl, ho6, hb6⟩
    have hb56 : Below W5.heap.size W5 w6 := ((Below.refl _ W5).drew).trans hb6
    have hd6 := (hb56.block w4.heap.size (by omega)).trans HD5.out
    obtain ⟨w7, hw7⟩ : ∃ w7, w7 = ((((w6.setCell ⟨w4.heap.size, 0, none⟩ (.int .u8 (x : Int))).setCell ⟨w4.heap.size, 1, none⟩ (.int .u8 (y : Int))).setCell ⟨w4.heap.size, 2, none⟩ (.int .u8 (zz : Int))).setCell ⟨w4.heap.size, 3, none⟩ (.int .i64 n)) := ⟨_, rfl⟩
    have hoth : ∀ k, k ≠ w4.heap.size → w7.heap[k]? = w6.heap[k]? := fun k hk => by
      rw [hw7, Below.heap_setCell _ _ _ _ (by simpa using hk), Below.heap_setCell _ _ _ _ (by simpa using hk), Below.heap_setCell _ _ _ _ (by simpa using hk), Below.heap_setCell _ _ _ _ (by simpa using hk)]
    have hd7 : w7.heap[w4.heap.size]? = some (.cells #[.int .u8 (x : Int), .int .u8 (y : Int), .int .u8 (zz : Int), .int .i64 n] 29) := by rw [hw7]; exact dec_set hd6
    have hb47 : Below w4.heap.size w4 w7 := by
      rw [hw7]
      exact ((((HB5.out.trans (hb56.mono (by omega))).setCell (by simp) _).setCell (by simp) _).setCell (by simp) _).setCell (by simp) _
    have hs7 : w7.heap.size = w6.heap.size := by rw [hw7]; simp
    have ho7 : OwnR w7 W5.heap.size v6 L2 := ho6.keep fun k hk => hoth k (by have := (ho6.lt k hk).1; have h3 : W5.heap.size ≤ k := this; omega)
    have c0 : w6.cell? ⟨w4.heap.size, 0, none⟩ = some (.int .u8 (x1 : Int)) := by simp only [World.cell?, hd6]; rfl
    have c1 : w6.cell? ⟨w4.heap.size, 1, none⟩ = some (.int .u8 (y1 : Int)) := by simp only [World.cell?, hd6]; rfl
    have c2 : w6.cell? ⟨w4.heap.size, 2, none⟩ = some (.int .u8 (z1 : Int)) := by simp only [World.cell?, hd6]; rfl
    have c3 : w6.cell? ⟨w4.heap.size, 3, none⟩ = some (.int .i64 n1) := by simp only [World.cell?, hd6]; rfl
    have g0 : w6.frozen? ⟨w4.heap.size, 0, none⟩ = false := by simp only [World.frozen?, hd6]; rfl
    have g1 : w6.frozen? ⟨w4.heap.size, 1, none⟩ = false := by simp only [World.frozen?, hd6]; rfl
    have g2 : w6.frozen? ⟨w4.heap.size, 2, none⟩ = false := by simp only [World.frozen?, hd6]; rfl
    have g3 : w6.frozen? ⟨w4.heap.size, 3, none⟩ = false := by simp only [World.frozen?, hd6]; rfl
    have hs6 : W5.heap.size ≤ w6.heap.size := hb56.size
    have HW7 := Lib.hid hw7; have HD7 := Lib.hid hd7; have HB47 := Lib.hid hb47; have HO7 := Lib.hid ho7
    clear ho6 hb6 hb56 hd6 hoth hd7 hb47 ho7 q0 q1 q2 q3 hw7
    unfold decV
    dsimp only
    refine hK.out _ _ ?_ (fun hHeld => ?_)
    · trivial
    clear hK K
    refine wpAnyH_take (i := 5) (v := ?vb5) rfl (by kernel_rfl) (by kernel_rfl) (by kernel_rfl) (fun _ _ _ h => h) (Or.inl ⟨by rfl, ?hb5⟩) (by assumption) ?_
    case hb5 => intro w hSw; (try dsimp only at hSw); go_simp; try with_reducible rfl
    simp only [List.getElem_toArray, List.getElem_cons_succ, List.getElem_cons_zero, Act.put, List.setIfInBounds_toArray, List.set_cons_zero, List.set_cons_succ]
    refine wpAnyH_take (i := 6) (v := ?vb6) rfl (by kernel_rfl) (by kernel_rfl) (by kernel_rfl) (fun _ _ _ h => h) (Or.inl ⟨by rfl, ?hb6⟩) (by assumption) ?_
    case hb6 => intro w hSw; (try dsimp only at hSw); go_simp; try with_reducible rfl
    simp only [List.getElem_toArray, List.getElem_cons_succ, List.getElem_cons_zero, Act.put, List.setIfInBounds_toArray, List.set_cons_zero, List.set_cons_succ]
    refine wpAnyH_take (i := 7) (v := ?vb7) rfl (by kernel_rfl) (by kernel_rfl) (by kernel_rfl) (fun _ _ _ h => h) (Or.inl ⟨by rfl, ?hb7⟩) (by assumption) ?_
    case hb7 => intro w hSw; (try dsimp only at hSw); go_simp; try with_reducible rfl
    simp only [List.getElem_toArray, List.getElem_cons_succ, List.getElem_cons_zero, Act.put, List.setIfInBounds_toArray, List.set_cons_zero, List.set_cons_succ]
    refine wpAnyH_ready (rs := [8]) (by kernel_rfl) (by simp) ?_
    refine AllReadyH.cons rfl (fun K hK => ?_) AllReadyH.nil
    go_simp
    rw [← HW7.out]
    refine hK.out _ _ ?_ (fun hHeld => ?_)
    · trivial
    clear hK K
    refine wpAnyH_take (i := 9) (v := ?vc9) rfl (by kernel_rfl) (by kernel_rfl) (by kernel_rfl) (fun _ _ _ h => h) (Or.inl ⟨by rfl, ?hc9⟩) (by assumption) ?_
    case hc9 => intro w hSw; (try dsimp only at hSw); go_simp; try with_reducible rfl
    simp only [List.getElem_toArray, List.getElem_cons_succ, List.getElem_cons_zero, Act.put, List.setIfInBounds_toArray, List.set_cons_zero, List.set_cons_succ]
    refine wpAnyH_done (by kernel_rfl) ?_ _
    refine NoPanic.normal ?_
    clear hHeld c0 c1 c2 c3 g0 g1 g2 g3
    have hd27 : w7.heap[w2.heap.size]? = some (.cells #[.int .u8 (x : Int), .int .u8 (y : Int), .int .u8 (zz : Int), .int .i64 n] 29) := (HB47.out.block _ (by omega)).trans ((HB4.out.block _ (by omega)).trans HD3.out)
    have d0 : w7.cell? ⟨w2.heap.size, 0, none⟩ = some (.int .u8 (x : Int)) := by simp only [World.cell?, hd27]; rfl
    have d1 : w7.cell? ⟨w2.heap.size, 1, none⟩ = some (.int .u8 (y : Int)) := by simp only [World.cell?, hd27]; rfl
    have d2 : w7.cell? ⟨w2.heap.size, 2, none⟩ = some (.int .u8 (zz : Int)) := by simp only [World.cell?, hd27]; rfl
    have d3 : w7.cell? ⟨w2.heap.size, 3, none⟩ = some (.int .i64 n) := by simp only [World.cell?, hd27]; rfl
    have HD27 := Lib.hid hd27
    clear hd27
    go_wp2_with fail
    refine (F3.out w7).mono ?_
    rintro e w8 ⟨v8, rfl, ho8, hb8⟩
    have HO8 := Lib.hid ho8; have HB8 := Lib.hid hb8
    have hs8 := hb8.size
    clear ho8 hb8 d0 d1 d2 d3
    rw [show holdV [] = (.agg #[.int .u8 0, .int .u8 0, .int .u8 0, .int .i64 0] : Value) from rfl]
    obtain ⟨W9, hW9⟩ : ∃ W9, W9 = w8.alloc (.cells #[.int .u8 0, .int .u8 0, .int .u8 0, .int .i64 0] 29) := ⟨_, rfl⟩
    have hb89 : Below w8.heap.size w8 W9 := by rw [hW9]; exact (Below.refl _ _).alloc (Nat.le_refl _) _
    have hb79 : Below w7.heap.size w7 W9 := HB8.out.trans (hb89.mono hs8)
    have hs9 := hb89.size
    have ho8 : OwnR W9 w7.heap.size v8 (List.replicate U.length 65533) := HO8.out.below hb89
    have ho6 : OwnR W9 W5.heap.size v6 L2 := HO7.out.below hb79
    have hb49 : Below w4.heap.size w4 W9 := HB47.out.trans (hb79.mono (by omega))
    have ho4 : OwnR W9 W3.heap.size v4 L1 := HO4.out.below hb49
    have hb29 : Below w2.heap.size w2 W9 := (HB3.out.trans (HB4.out.mono (by omega))).trans (hb49.mono (by omega))
    have ho2 : OwnR W9 w1.heap.size v2 L := HO2.out.below hb29
    have hd29 : W9.heap[w2.heap.size]? = some (.cells #[.int .u8 (x : Int), .int .u8 (y : Int), .int .u8 (zz : Int), .int .i64 n] 29) := (hb79.block _ (by omega)).trans HD27.out
    have hd49 : W9.heap[w4.heap.size]? = some (.cells #[.int .u8 (x : Int), .int .u8 (y : Int), .int .u8 (zz : Int), .int .i64 n] 29) := (hb79.block _ (by omega)).trans HD7.out
    have d0 : W9.cell? ⟨w2.heap.size, 0, none⟩ = some (.int .u8 (x : Int)) := by simp only [World.cell?, hd29]; rfl
    have d1 : W9.cell? ⟨w2.heap.size, 1, none⟩ = some (.int .u8 (y : Int)) := by simp only [World.cell?, hd29]; rfl
    have d2 : W9.cell? ⟨w2.heap.size, 2, none⟩ = some (.int .u8 (zz : Int)) := by simp only [World.cell?, hd29]; rfl
    have d3 : W9.cell? ⟨w2.heap.size, 3, none⟩ = some (.int .i64 n) := by simp only [World.cell?, hd29]; rfl
    have e0 : W9.cell? ⟨w4.heap.size, 0, none⟩ = some (.int .u8 (x : Int)) := by simp only [World.cell?, hd49]; rfl
    have e1 : W9.cell? ⟨w4.heap.size, 1, none⟩ = some (.int .u8 (y : Int)) := by simp only [World.cell?, hd49]; rfl
    have e2 : W9.cell? ⟨w4.heap.size, 2, none⟩ = some (.int .u8 (zz : Int)) := by simp only [World.cell?, hd49]; rfl
    have e3 : W9.cell? ⟨w4.heap.size, 3, none⟩ = some (.int .i64 n) := by simp only [World.cell?, hd49]; rfl
    have hb19 : Below w1.heap.size w1 W9 := HB2.out.trans (hb29.mono HB2.out.size)
    have hw12 := HB2.out.size
    obtain ⟨A6, k6, hv6, _, _, hn6, hr6⟩ := ho6.form
    have HO8C := Lib.hid ho8; have HO4C := Lib.hid ho4; have HO2C := Lib.hid ho2; have HR6 := Lib.hid hr6; have HN6 := Lib.hid hn6; have HB19 := Lib.hid hb19
    have HW9 := Lib.hid hW9
    clear hW9 hb89 hb79 ho8 ho6 hb49 ho4 hb29 ho2 hd29 hd49 hb19 hr6 hn6
    subst hv6
    go_upto_region 10 with fail
    rw [← HW9.out]
    have heq := run_eq3 W9 x y zz x y zz
    rw [show decide ((x : Int) = x ∧ (y : Int) = y ∧ (zz : Int) = zz) = true from decide_eq_true ⟨rfl, rfl, rfl⟩] at heq
    go_wp2_with (at_builtin; refine wpList_append_rg (by rfl) _ _ rfl W3.heap.size _ L1 rfl HO4C.out A6 L2 _ _ _ rfl rfl HR6.out HN6.out (by omega) (by omega) ?_)
    intro v10 w10 ho10 hg10
    have hb10 : Below W3.heap.size W9 w10 := HO4C.out.grow_below hg10 (by omega)
    have ho2b : OwnR w10 w1.heap.size v2 L := HO2C.out.keep fun k hk => hb10.block k (by have := (HO2.out.lt k hk).2; omega)
    have ho8b : OwnR w10 w7.heap.size v8 (List.replicate U.length 65533) := HO8C.out.keep fun k hk => hg10.grown.block k (HO8C.out.lt k hk).2 (fun e => by have h1 := (HO4.out.lt k e.symm).2; have h2 := (HO8C.out.lt k hk).1; omega)
    rw [← HLL.out] at ho10
    obtain ⟨A2, k2, hv2, _, _, _, hr2⟩ := ho2b.form
    obtain ⟨A10, k10, hv10, _, _, _, hr10⟩ := ho10.form
    have HSM := Lib.hid (same_ok w10 L (by omega) A2 A10 k2 k10 _ _ hr2 hr10)
    have HO2B := Lib.hid ho2b; have HO8B := Lib.hid ho8b
    have HB10 := Lib.hid (HB19.out.trans (hb10.mono (by omega)))
    have hs10 := hb10.size
    clear ho10 hg10 hb10 ho2b ho8b hr2 hr10 d0 d1 d2 d3 e0 e1 e2 e3 heq
    subst hv2 hv10
    go_wp2_with fail
    refine HSM.out.mono ?_
    rintro e w11 ⟨rfl, hb11⟩
    obtain ⟨A8, k8, hv8, _, _, hn8, hr8⟩ := (HO8B.out.below hb11).form
    have HO2D := Lib.hid (HO2B.out.below hb11); have HR8 := Lib.hid hr8; have HN8 := Lib.hid hn8
    have HB11 := Lib.hid (HB10.out.trans (hb11.mono (by omega)))
    have hs11 := hb11.size
    have hRn : (List.replicate U.length 65533).length ≤ 3 := by rw [List.length_replicate]; exact hU3
    obtain ⟨R, hR⟩ : ∃ R, R = List.replicate U.length 65533 := ⟨_, rfl⟩
    rw [← hR] at hv8 hRn HR8 F4
    clear hb11 hn8 hr8 hR HO8B
    subst hv8
    go_wp2_with (at_builtin; refine wpList_append_rg (by rfl) _ _ rfl w1.heap.size _ L rfl HO2D.out A8 R _ _ _ rfl rfl HR8.out HN8.out (by omega) (by omega) ?_)
    intro v12 w12 ho12 hg12
    have hb12 : Below w1.heap.size w11 w12 := HO2D.out.grow_below hg12 (by omega)
    have hb1c : Below w1.heap.size w1 w12 := HB11.out.trans hb12
    have HT12 := Lib.hid (HT1.out.on hb1c HT1.out.room)
    have HO12 := Lib.hid ho12; have HB12 := Lib.hid hb1c
    have hs12 := hb1c.size
    clear ho12 hg12 hb12 hb1c
    go_wp2_with fail
    refine (F4.out w12 HT12.out).mono ?_
    rintro e w13 ⟨v13, rfl, ho13, hb13⟩
    obtain ⟨A12, k12, hv12, _, _, _, hr12⟩ := (HO12.out.below hb13).form
    obtain ⟨A13, k13, hv13, _, _, _, hr13⟩ := ho13.form
    have HSN := Lib.hid (same_ok w13 (L ++ R) (by rw [List.length_append]; omega) A12 A13 k12 k13 _ _ hr12 hr13)
    have HB13 := Lib.hid (HB12.out.trans (hb13.mono hs12))
    clear ho13 hb13 hr12 hr13
    subst hv12 hv13
    generalize (L ++ R).length = N at *
    go_wp2_with fail
    refine HSN.out.mono ?_
    rintro e w14 ⟨rfl, hb14⟩
    have HB14 := Lib.hid (HB13.out.trans (hb14.mono HB13.out.size))
    clear hb14
    go_wp2
    go_ret
    exact ⟨rfl, HB1.out.trans (HB14.out.mono HB1.out.size)⟩
end Go.Proofs.YtdolekmifnenhaaDoor.utfParts
