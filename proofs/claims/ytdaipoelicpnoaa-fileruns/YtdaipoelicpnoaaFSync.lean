/-
  Layer 4 (file): Sync.
-/
import Derived.Test.YtdaipoelicpnoaaFPut
namespace Go.Proofs.Ytdaipoelicpnoaa
open Go.RowKit Go.Maps FM

set_option maxRecDepth 100000 in
set_option maxHeartbeats 1000000 in
theorem sync_ok (w : World) (S : Nat → Prop) (sb : Nat) (s : St) (n : ByteArray) (hn : n.size ≤ maxLen) (h : Sto w S sb s) (hN : s.fs.length ≤ 1000000) (hu : used s ≤ 1000000000) :
    Calls Try.prog 17 #[.pointer (some ⟨sb, 0, none⟩), .string n] w (After w S sb (sync s n.data.toList)) := by
  obtain ⟨mb, L, h, hS, hM, hold, hlt⟩ := h
  obtain ⟨r, hr⟩ : ∃ r, r = sync s n.data.toList := ⟨_, rfl⟩
  rw [← hr]
  have hcl := change_le s _ (missing_le s n.data.toList)
  have HM := Lib.hid (missing_ok w sb mb L s n hn h)
  have HS := Lib.hid h; have HL := Lib.hid hold; have HT := Lib.hid hlt
  clear h hold hlt
  unfold sync at hr
  by_cases hc : (change s (missing s n.data.toList)).1 = 0
  · rw [doing_ok hc] at hr
    have HR := Lib.hid hr; have HC := Lib.hid hc
    clear hr hc hcl
    go_enter Try.func17, Try.ntmps17
    go_wp2_with fail
    refine HM.out.mono ?_
    rintro e w1 ⟨rfl, hb⟩
    have HB := Lib.hid hb; clear hb
    go_wp2_with fail
    refine (change_ok w1 sb mb L s _ (missing_le _ _) (HS.out.below HB.out)).mono ?_
    rintro e w2 ⟨rfl, h2, hf2, hz2⟩
    rw [HC.out]
    have c0 := h2.cell0
    obtain ⟨A, c, hl, hl2, ho, hx, hnone⟩ := h2.at_ n hn
    have hfile := h2.file n.data.toList
    have hfi := fileIn_of h2 n.data.toList
    have hlen := h2.len
    unfold used at hfile
    rw [change_fs] at hfile hlen
    obtain ⟨f, hf⟩ : ∃ f, f = fileIn L n.data.toList := ⟨_, rfl⟩
    rw [← hf] at hl ho hx hfile hfi
    obtain ⟨hfs, hfm, hfu⟩ := hfile
    have hfl : f.data.length ≤ 1000000000 := Nat.le_trans hfu hu
    have hLl : L.length ≤ 1000000 := by omega
    obtain ⟨w4, hrun, h4, hg4, hz4⟩ := ((h2.below ((Below.refl _ _).alloc (Nat.le_refl _) (.cells #[.slice A f.data.length c, .int .i64 (f.data.length : Int)] 67))).below (below_drew _)).store n hn A c ⟨f.data, f.data.length⟩
      (((ho.below ((Below.refl _ _).alloc (Nat.le_refl _) _))).below (below_drew _)) (h2.apart_at hx hnone _ _) (Nat.le_refl _) hfm hLl
    have hsb := World.block_lt_of_cell? w2 _ c0
    have H2 := Lib.hid h2; have HF := Lib.hid hf2; have HO := Lib.hid ho; have HX := Lib.hid hx; have HFI := Lib.hid hfi; have H4 := Lib.hid h4; have HG4 := Lib.hid hg4; have HZ2 := Lib.hid hz2; have HZ4 := Lib.hid hz4; have HNO := Lib.hid hnone
    clear h2 hf2 ho hx hfi h4 hg4 hz2 hz4 hnone hf hl2
    have hmb : mb ≠ w2.heap.size := by have := H2.out.map.lt; omega
    have s0 : (w2.alloc (.cells #[.slice A f.data.length c, .int .i64 (f.data.length : Int)] 67)).drew.cell? ⟨sb, 0, none⟩ = some (.map (some mb)) ∧ (w2.alloc (.cells #[.slice A f.data.length c, .int .i64 (f.data.length : Int)] 67)).drew.cell? ⟨w2.heap.size, 0, none⟩ = some (.slice A f.data.length c) ∧
        (w2.alloc (.cells #[.slice A f.data.length c, .int .i64 (f.data.length : Int)] 67)).drew.cell? ⟨w2.heap.size, 1, none⟩ = some (.int .i64 (f.data.length : Int)) :=
      ⟨(((Below.refl _ w2).alloc (Nat.le_refl _) _).cell hsb).trans c0, by simp, by simp⟩
    have s4 : w4.cell? ⟨sb, 0, none⟩ = some (.map (some mb)) ∧ w4.cell? ⟨w2.heap.size, 0, none⟩ = some (.slice A f.data.length c) ∧ w4.cell? ⟨w2.heap.size, 1, none⟩ = some (.int .i64 (f.data.length : Int)) := by
      refine ⟨H4.out.cell0, ?_, ?_⟩
      · exact (World.cell?_of_block (a := ⟨w2.heap.size, 0, none⟩) (HG4.out.block w2.heap.size (by simp) (by simpa using fun e => hmb e.symm))).trans s0.2.1
      · exact (World.cell?_of_block (a := ⟨w2.heap.size, 1, none⟩) (HG4.out.block w2.heap.size (by simp) (by simpa using fun e => hmb e.symm))).trans s0.2.2
    go_wp2
    refine wp_region_noPanic ?_
    refine wp_region_held_drew (S := fun w' => w'.cell? ⟨sb, 0, none⟩ = some (.map (some mb)) ∧ w'.cell? ⟨w2.heap.size, 0, none⟩ = some (.slice A f.data.length c) ∧ w'.cell? ⟨w2.heap.size, 1, none⟩ = some (.int .i64 (f.data.length : Int))) (by kernel_rfl) s0 (fun hHeld => ?_)
    refine wpAnyH_take (i := 0) (v := ?va0) rfl (by kernel_rfl) (by kernel_rfl) (by kernel_rfl) (fun _ _ _ h => h) (Or.inl ⟨by rfl, ?ha0⟩) (by assumption) ?_
    case ha0 => intro w hSw; (try dsimp only at hSw); go_simp; try with_reducible rfl
    simp only [List.getElem_toArray, List.getElem_cons_zero, Act.put, List.setIfInBounds_toArray, List.set_cons_zero, List.set_cons_succ]
    refine wpAnyH_take (i := 1) (v := ?va1) rfl (by kernel_rfl) (by kernel_rfl) (by kernel_rfl) (fun _ _ _ h => h) (Or.inl ⟨by rfl, ?ha1⟩) (by assumption) ?_
    case ha1 => intro w hSw; (try dsimp only at hSw); go_simp; try with_reducible rfl
    simp only [List.getElem_toArray, List.getElem_cons_succ, List.getElem_cons_zero, Act.put, List.setIfInBounds_toArray, List.set_cons_zero, List.set_cons_succ]
    refine wpAnyH_take (i := 2) (v := ?va2) rfl (by kernel_rfl) (by kernel_rfl) (by kernel_rfl) (fun _ _ _ h => h) (Or.inl ⟨by rfl, ?ha2⟩) (by assumption) ?_
    case ha2 => intro w hSw; (try dsimp only at hSw); go_simp; try with_reducible rfl
    simp only [List.getElem_toArray, List.getElem_cons_succ, List.getElem_cons_zero, Act.put, List.setIfInBounds_toArray, List.set_cons_zero, List.set_cons_succ]
    refine wpAnyH_take (i := 3) (v := ?va3) rfl (by kernel_rfl) (by kernel_rfl) (by kernel_rfl) (fun _ _ _ h => h) (Or.inl ⟨by rfl, ?ha3⟩) (by assumption) ?_
    case ha3 => intro w hSw; (try dsimp only at hSw); go_simp; try with_reducible rfl
    simp only [List.getElem_toArray, List.getElem_cons_succ, List.getElem_cons_zero, Act.put, List.setIfInBounds_toArray, List.set_cons_zero, List.set_cons_succ]
    refine wpAnyH_take (i := 4) (v := ?va4) rfl (by kernel_rfl) (by kernel_rfl) (by kernel_rfl) (fun _ _ _ h => h) (Or.inl ⟨by rfl, ?ha4⟩) (by assumption) ?_
    case ha4 => intro w hSw; (try dsimp only at hSw); go_simp; try with_reducible rfl
    simp only [List.getElem_toArray, List.getElem_cons_succ, List.getElem_cons_zero, Act.put, List.setIfInBounds_toArray, List.set_cons_zero, List.set_cons_succ]
    refine wpAnyH_take (i := 5) (v := ?va5) rfl (by kernel_rfl) (by kernel_rfl) (by kernel_rfl) (fun _ _ _ h => h) (Or.inl ⟨by rfl, ?ha5⟩) (by assumption) ?_
    case ha5 => intro w hSw; (try dsimp only at hSw); go_simp; try with_reducible rfl
    simp only [List.getElem_toArray, List.getElem_cons_succ, List.getElem_cons_zero, Act.put, List.setIfInBounds_toArray, List.set_cons_zero, List.set_cons_succ]
    refine wpAnyH_ready (rs := [6]) (by kernel_rfl) (by simp) ?_
    refine AllReadyH.cons rfl (fun K hK => ?_) AllReadyH.nil
    go_simp
    refine hK.out _ _ ?_ (fun hHeld => ?_)
    · exact s4
    clear hK K
    refine wpAnyH_done (by kernel_rfl) ?_ _
    refine NoPanic.normal ?_
    clear hHeld s0 s4
    go_wp2
    go_ret
    rw [HR.out]
    have h5 := H4.out
    rw [HFI.out] at h5
    unfold fileOf at h5
    rw [change_fs] at h5
    have hfr : Fr S w w4 := (Fr.of_below HB.out).trans' ((fr_sb hS HF.out).trans' ((Fr.of_below ((Below.refl _ _).alloc (Nat.le_refl _) _)).trans' (Fr.trans' (Fr.of_below (below_drew _)) (Fr.grown HG4.out (fun k e => by injection e with e; subst e; exact hM)))))
    exact ⟨rfl, Sto.mk_after h5 hS hM (held_put HL.out fun k hk => .inl (held_at HL.out HX.out HNO.out _ _ k hk)) HT.out hfr.size, hfr⟩
  · rw [doing_err hc] at hr
    have d := ne_int hc
    have HR := Lib.hid hr
    clear hr hc
    go_enter Try.func17, Try.ntmps17
    go_wp2_with fail
    refine HM.out.mono ?_
    rintro e w1 ⟨rfl, hb⟩
    have HB := Lib.hid hb; clear hb
    go_wp2_with fail
    refine (change_ok w1 sb mb L s _ (missing_le _ _) (HS.out.below HB.out)).mono ?_
    rintro e w2 ⟨rfl, h2, hf2, hz2⟩
    have H2 := Lib.hid h2; have HF := Lib.hid hf2
    clear h2 hf2
    go_wp2
    go_ret
    rw [HR.out]
    have hfr : Fr S w w2 := (Fr.of_below HB.out).trans' ⟨HF.out.os, HF.out.tape, HF.out.output, HF.out.size, fun k hk hn => HF.out.block k hk (fun e => hn (by rw [e]; exact hS))⟩
    exact ⟨rfl, Sto.mk_after H2.out hS hM (fun p hp k hk => .inl (HL.out p hp k hk)) HT.out hfr.size, hfr⟩
end Go.Proofs.Ytdaipoelicpnoaa
