/-
  Layer 4 (file): Rename.
-/
import Derived.Test.YtdaipoelicpnoaaFPut
namespace Go.Proofs.Ytdaipoelicpnoaa
open Go.RowKit Go.Maps FM

theorem renameErr_le (s : St) (a b : Name) : renameErr s a b ≤ 100 := by
  unfold renameErr; split
  · exact missing_le _ _
  · simp

set_option maxRecDepth 100000 in
set_option maxHeartbeats 2000000 in
theorem rename_ok (w : World) (S : Nat → Prop) (sb : Nat) (s : St) (n t : ByteArray) (hn : n.size ≤ maxLen) (ht : t.size ≤ maxLen) (h : Sto w S sb s) (hN : s.fs.length ≤ 1000000) :
    Calls Try.prog 31 #[.pointer (some ⟨sb, 0, none⟩), .string n, .string t] w (After w S sb (rename s n.data.toList t.data.toList)) := by
  obtain ⟨mb, L, h, hS, hM, hold, hlt⟩ := h
  obtain ⟨r, hr⟩ : ∃ r, r = rename s n.data.toList t.data.toList := ⟨_, rfl⟩
  rw [← hr]
  have hcl := change_le s _ (renameErr_le s n.data.toList t.data.toList)
  have HM := Lib.hid (renameError_ok w sb mb L s n t hn ht h)
  have HS := Lib.hid h; have HL := Lib.hid hold; have HT := Lib.hid hlt
  clear h hold hlt
  have hkey := WideMaps.keyOf_string_mk (P := Try.prog) Try.underlying9 (show n.size ≤ maxLen from hn)
  unfold rename at hr
  by_cases hc : (change s (renameErr s n.data.toList t.data.toList)).1 = 0
  · rw [doing_ok hc] at hr
    have HR := Lib.hid hr; have HC := Lib.hid hc
    clear hr hc hcl
    go_enter Try.func31, Try.ntmps31
    go_wp2_with fail
    refine HM.out.mono ?_
    rintro e w1 ⟨rfl, hb⟩
    have HB := Lib.hid hb; clear hb
    go_wp2_with fail
    refine (change_ok w1 sb mb L s _ (renameErr_le _ _ _) (HS.out.below HB.out)).mono ?_
    rintro e w2 ⟨rfl, h2, hf2, hz2⟩
    rw [HC.out]
    have c0 := h2.cell0
    obtain ⟨A, c, hl, hl2, ho, hx, hnone⟩ := h2.at_ n hn
    have hfile := h2.file n.data.toList
    have hfi := fileIn_of h2 n.data.toList
    have hlen := h2.len
    rw [change_fs] at hlen
    obtain ⟨f, hf⟩ : ∃ f, f = fileIn L n.data.toList := ⟨_, rfl⟩
    rw [← hf] at hl ho hx hfile hfi
    obtain ⟨hfs, hfm, _⟩ := hfile
    have hLl : L.length ≤ 1000000 := by omega
    have hsb := World.block_lt_of_cell? w2 _ c0
    have hmb := h2.map.lt
    have hw3 := h2.below ((Below.refl _ _).alloc (Nat.le_refl _) (.cells #[.slice A f.data.length c, .int .i64 (f.sure : Int)] 67))
    have c03 := hw3.cell0
    have ho3 := ho.below ((Below.refl _ w2).alloc (Nat.le_refl _) (.cells #[.slice A f.data.length c, .int .i64 (f.sure : Int)] 67))
    have H2 := Lib.hid h2; have HF := Lib.hid hf2; have HX := Lib.hid hx; have HFI := Lib.hid hfi; have HZ2 := Lib.hid hz2; have HNO := Lib.hid hnone; have HFM := Lib.hid hfm; have H3 := Lib.hid hw3; have HO := Lib.hid ho3; have HFS := Lib.hid hfs
    clear h2 hf2 ho hx hfi hz2 hnone hf hl2 hfm hw3 ho3 hfs
    go_wp2_with (at_delete; refine wpList_delete_own _ rfl _ _ 53 9 rfl 67 law9 Try.underlying53 _ mb _ _ rfl H3.out.map _ _ rfl hkey ?_; intro w4 hm4 ht4; refine Hid.out ?_)
    have h4 := H3.out.drop hm4 ht4
    have hg4 := ht4.grown
    have hz4 : w4.heap.size = w2.heap.size + 1 := by
      obtain ⟨_, _, _, _, _, e⟩ := ht4
      rw [e]; simp [ChangeMaps.setBlock]
    have k4 : w4.heap[w2.heap.size]? = some (.cells #[.slice A f.data.length c, .int .i64 (f.sure : Int)] 67) := (hg4.block w2.heap.size (by simp) (by simp; omega)).trans (MapKept.heap_alloc w2 _).1
    have ho4 : Own w4 0 (.slice A f.data.length c) f.data := HO.out.grown hg4 (.inr fun e => by
      obtain ⟨cur, hcc⟩ := HO.out.notCells e
      obtain ⟨es, cl, hbm, _⟩ := H3.out.map
      rw [hbm] at hcc; cases hcc)
    have hap4 : ∀ p ∈ del n.data.toList L, p.1 ≠ t.data.toList → p.2.1.ownBlock = none ∨ p.2.1.ownBlock ≠ (Value.slice A f.data.length c).ownBlock := fun p hp _ => H2.out.apart_at HX.out HNO.out _ _ p (mem_del.1 hp).1 (mem_del.1 hp).2
    obtain ⟨w6, hrun, h6, hg6, hz6⟩ := (h4.below (below_drew w4)).store t ht A c f (ho4.below (below_drew w4)) hap4 HFS.out HFM.out (Nat.le_trans (length_del_le _ _) hLl)
    have k5 := h4.cell0
    have s0 : w4.drew.cell? ⟨sb, 0, none⟩ = some (.map (some mb)) ∧ w4.drew.cell? ⟨w2.heap.size, 0, none⟩ = some (.slice A f.data.length c) ∧ w4.drew.cell? ⟨w2.heap.size, 1, none⟩ = some (.int .i64 (f.sure : Int)) := ⟨k5, by show w4.cell? _ = _; simp only [World.cell?, k4]; rfl, by show w4.cell? _ = _; simp only [World.cell?, k4]; rfl⟩
    have k6 : w6.heap[w2.heap.size]? = some (.cells #[.slice A f.data.length c, .int .i64 (f.sure : Int)] 67) := (hg6.block w2.heap.size (by simp; omega) (by simp; omega)).trans k4
    have s6 : w6.cell? ⟨sb, 0, none⟩ = some (.map (some mb)) ∧ w6.cell? ⟨w2.heap.size, 0, none⟩ = some (.slice A f.data.length c) ∧ w6.cell? ⟨w2.heap.size, 1, none⟩ = some (.int .i64 (f.sure : Int)) := ⟨h6.cell0, by simp only [World.cell?, k6]; rfl, by simp only [World.cell?, k6]; rfl⟩
    have hfr : Fr S w w6 := (Fr.of_below HB.out).trans' ((fr_sb hS HF.out).trans' ((Fr.of_below ((Below.refl _ _).alloc (Nat.le_refl _) _)).trans' ((Fr.turned ht4 hM).trans' (Fr.trans' (Fr.of_below (below_drew _)) (Fr.grown hg6 (fun k e => by injection e with e; subst e; exact hM))))))
    have H6 := Lib.hid h6; have HFR := Lib.hid hfr
    clear h4 hg4 hz4 k4 ho4 hap4 hg6 hz6 k6 hfr h6 hm4 ht4
    refine Lib.hid ?_
    go_wp2
    refine wp_region_noPanic ?_
    refine wp_region_held_drew (S := fun w' => w'.cell? ⟨sb, 0, none⟩ = some (.map (some mb)) ∧ w'.cell? ⟨w2.heap.size, 0, none⟩ = some (.slice A f.data.length c) ∧ w'.cell? ⟨w2.heap.size, 1, none⟩ = some (.int .i64 (f.sure : Int))) (by kernel_rfl) s0 (fun hHeld => ?_)
    refine wpAnyH_take (i := 0) (v := ?va0) rfl (by kernel_rfl) (by kernel_rfl) (by kernel_rfl) (fun _ _ _ h => h) (Or.inl ⟨by rfl, ?ha0⟩) (by assumption) ?_
    case ha0 => intro w hSw; (try dsimp only at hSw); go_simp; try with_reducible rfl
    simp only [List.getElem_toArray, List.getElem_cons_zero, Act.put, List.setIfInBounds_toArray, List.set_cons_zero, List.set_cons_succ]
    refine wpAnyH_take (i := 1) (v := ?va1) rfl (by kernel_rfl) (by kernel_rfl) (by kernel_rfl) (fun _ _ _ h => h) (Or.inl ⟨by rfl, ?ha1⟩) (by assumption) ?_
    case ha1 => intro w hSw; (try dsimp only at hSw); go_simp; try with_reducible rfl
    simp only [List.getElem_toArray, List.getElem_cons_succ, List.getElem_cons_zero, Act.put, List.setIfInBounds_toArray, List.set_cons_zero, List.set_cons_succ]
    refine wpAnyH_take (i := 2) (v := ?va2) rfl (by kernel_rfl) (by kernel_rfl) (by kernel_rfl) (fun _ _ _ h => h) (Or.inl ⟨by rfl, ?ha2⟩) (by assumption) ?_
    case ha2 => intro w hSw; (try dsimp only at hSw); go_simp; try with_reducible rfl
    simp only [List.getElem_toArray, List.getElem_cons_succ, List.getElem_cons_zero, Act.put, List.setIfInBounds_toArray, List.set_cons_zero, List.set_cons_succ]
    refine wpAnyH_take (i := 3) (v := ?va3) rfl (by kernel_rfl) (by kernel_rfl) (by kernel_rfl) (fun _ _ _ h => h) (Or.inl ⟨by rfl, ?ha3⟩) (by assumption) ?_
    case ha3 => intro w hSw; (try dsimp only at hSw); go_simp; try with_reducible rfl
    simp only [List.getElem_toArray, List.getElem_cons_succ, List.getElem_cons_zero, Act.put, List.setIfInBounds_toArray, List.set_cons_zero, List.set_cons_succ]
    refine wpAnyH_take (i := 4) (v := ?va4) rfl (by kernel_rfl) (by kernel_rfl) (by kernel_rfl) (fun _ _ _ h => h) (Or.inl ⟨by rfl, ?ha4⟩) (by assumption) ?_
    case ha4 => intro w hSw; (try dsimp only at hSw); go_simp; try with_reducible rfl
    simp only [List.getElem_toArray, List.getElem_cons_succ, List.getElem_cons_zero, Act.put, List.setIfInBounds_toArray, List.set_cons_zero, List.set_cons_succ]
    refine wpAnyH_take (i := 5) (v := ?va5) rfl (by kernel_rfl) (by kernel_rfl) (by kernel_rfl) (fun _ _ _ h => h) (Or.inl ⟨by rfl, ?ha5⟩) (by assumption) ?_
    case ha5 => intro w hSw; (try dsimp only at hSw); go_simp; try with_reducible rfl
    simp only [List.getElem_toArray, List.getElem_cons_succ, List.getElem_cons_zero, Act.put, List.setIfInBounds_toArray, List.set_cons_zero, List.set_cons_succ]
    refine wpAnyH_ready (rs := [6]) (by kernel_rfl) (by simp) ?_
    refine AllReadyH.cons rfl (fun K hK => ?_) AllReadyH.nil
    go_simp
    refine hK.out _ _ ?_ (fun hHeld => ?_)
    · exact s6
    clear hK K
    refine wpAnyH_done (by kernel_rfl) ?_ _
    refine NoPanic.normal ?_
    clear hHeld s0 s6
    go_wp2
    go_ret
    rw [HR.out]
    have h5 := H6.out
    rw [HFI.out] at h5
    unfold fileOf at h5
    rw [change_fs] at h5
    exact ⟨rfl, Sto.mk_after h5 hS hM (held_put (fun p hp => HL.out p (mem_del.1 hp).1) fun k hk => .inl (held_at HL.out HX.out HNO.out _ _ k hk)) HT.out HFR.out.size, HFR.out⟩
  · rw [doing_err hc] at hr
    have d := ne_int hc
    have HR := Lib.hid hr
    clear hr hc
    go_enter Try.func31, Try.ntmps31
    go_wp2_with fail
    refine HM.out.mono ?_
    rintro e w1 ⟨rfl, hb⟩
    have HB := Lib.hid hb; clear hb
    go_wp2_with fail
    refine (change_ok w1 sb mb L s _ (renameErr_le _ _ _) (HS.out.below HB.out)).mono ?_
    rintro e w2 ⟨rfl, h2, hf2, hz2⟩
    have H2 := Lib.hid h2; have HF := Lib.hid hf2
    clear h2 hf2
    go_wp2
    go_ret
    rw [HR.out]
    have hfr : Fr S w w2 := (Fr.of_below HB.out).trans' ⟨HF.out.os, HF.out.tape, HF.out.output, HF.out.size, fun k hk hn => HF.out.block k hk (fun e => hn (by rw [e]; exact hS))⟩
    exact ⟨rfl, Sto.mk_after H2.out hS hM (fun p hp k hk => .inl (HL.out p hp k hk)) HT.out hfr.size, hfr⟩
end Go.Proofs.Ytdaipoelicpnoaa
