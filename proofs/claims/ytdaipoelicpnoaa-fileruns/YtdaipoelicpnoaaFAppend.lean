/-
  Layer 4 (file): Append.
-/
import Derived.Test.YtdaipoelicpnoaaFPut
namespace Go.Proofs.Ytdaipoelicpnoaa
open Go.RowKit Go.Maps FM

theorem appendErr_le (s : St) (n : Name) (b : List Nat) : appendErr s n b ≤ 100 := by unfold appendErr; split <;> (try split) <;> simp

set_option maxRecDepth 100000 in
set_option maxHeartbeats 2000000 in
theorem append_ok (w : World) (S : Nat → Prop) (sb : Nat) (s : St) (n : ByteArray) (hn : n.size ≤ maxLen) (A2 : Option Addr) (l : List Nat) (c2 B : Nat) (h : Sto w S sb s) (hN : s.fs.length ≤ 1000000) (hu : used s ≤ 100000000) (hroom : used s ≤ s.quota)
    (hl : l.length ≤ 100000000) (hr2 : Row w B .u8 A2 l) (hB : B ≤ w.heap.size) (hA2 : A2 = none → c2 = 0) (hns : 0 < l.length → ∀ a, A2 = some a → a.block ≠ sb) (hsm : ∀ x ∈ l, x < 256) :
    Calls Try.prog 16 #[.pointer (some ⟨sb, 0, none⟩), .string n, .slice A2 l.length c2] w (After w S sb (append s n.data.toList l)) := by
  obtain ⟨mb, L, h, hS, hM, hold, hlt⟩ := h
  obtain ⟨r, hr⟩ : ∃ r, r = append s n.data.toList l := ⟨_, rfl⟩
  rw [← hr]
  have hcl := change_le s _ (appendErr_le s n.data.toList l)
  have HM := Lib.hid (appendError_ok w sb mb L s n hn A2 l c2 h (by omega) hroom)
  have HS := Lib.hid h; have HL := Lib.hid hold; have HT := Lib.hid hlt; have HR2 := Lib.hid hr2; have HNS := Lib.hid hns; have HSM := Lib.hid hsm
  clear h hold hlt hr2 hns hsm
  unfold append at hr
  by_cases hc : (change s (appendErr s n.data.toList l)).1 = 0
  · rw [doing_ok hc] at hr
    have HR := Lib.hid hr; have HC := Lib.hid hc
    clear hr hc hcl
    go_enter Try.func16, Try.ntmps16
    go_wp2_with fail
    refine HM.out.mono ?_
    rintro e w1 ⟨rfl, hb⟩
    have HB := Lib.hid hb; clear hb
    go_wp2_with fail
    refine (change_ok w1 sb mb L s _ (appendErr_le _ _ _) (HS.out.below HB.out)).mono ?_
    rintro e w2 ⟨rfl, h2, hf2, hz2⟩
    rw [HC.out]
    have c0 := h2.cell0
    obtain ⟨A, c, hl1, hl2, ho, hx, hnone⟩ := h2.at_ n hn
    have hfile := h2.file n.data.toList
    have hfi := fileIn_of h2 n.data.toList
    have hlen := h2.len
    unfold used at hfile
    rw [change_fs] at hfile hlen
    obtain ⟨f, hf⟩ : ∃ f, f = fileIn L n.data.toList := ⟨_, rfl⟩
    rw [← hf] at hl1 ho hx hfile hfi
    obtain ⟨hfs, hfm, hfu⟩ := hfile
    have hfl : f.data.length ≤ 100000000 := Nat.le_trans hfu hu
    have hLl : L.length ≤ 1000000 := by omega
    have hsb := World.block_lt_of_cell? w2 _ c0
    have hmb := h2.map.lt
    have hb1 := HB.out.size
    have hrow2 : Row (w2.alloc (.cells #[.slice A f.data.length c, .int .i64 (f.sure : Int)] 67)) B .u8 A2 l := fun hp => by
      obtain ⟨b, off, e, hbb, hcell⟩ := HR2.out hp
      refine ⟨b, off, e, hbb, fun j hj => ?_⟩
      have hne := HNS.out hp _ e
      rw [← hcell j hj]
      refine World.cell?_of_block (a := ⟨b, off + j, none⟩) ?_
      exact (Below.heap_alloc _ _ b (by omega)).trans ((hf2.block b (by omega) hne).trans (HB.out.block b (by omega)))
    have hoA : Own (w2.alloc (.cells #[.slice A f.data.length c, .int .i64 (f.sure : Int)] 67)) 0 (.slice A f.data.length c) f.data := ho.below ((Below.refl _ _).alloc (Nat.le_refl _) _)
    have hvlt : ∀ k, (Value.slice A f.data.length c).ownBlock = some k → k < w2.heap.size := fun k hk => (World.ownsRow.lt ho k hk).2
    have hvne : (Value.slice A f.data.length c).ownBlock ≠ some sb ∧ (Value.slice A f.data.length c).ownBlock ≠ some mb := by
      refine ⟨fun e => ?_, fun e => ?_⟩
      · obtain ⟨cur, hcc⟩ := ho.notCells e
        rw [h2.cells] at hcc; simp at hcc
      · obtain ⟨cur, hcc⟩ := ho.notCells e
        obtain ⟨es, cl, hbm, _⟩ := h2.map
        rw [hbm] at hcc; cases hcc
    have H2 := Lib.hid h2; have HF := Lib.hid hf2; have HO := Lib.hid hoA; have HX := Lib.hid hx; have HFI := Lib.hid hfi; have HZ2 := Lib.hid hz2; have HNO := Lib.hid hnone; have HRW := Lib.hid hrow2; have HFM := Lib.hid hfm; have HVL := Lib.hid hvlt; have HVN := Lib.hid hvne
    clear h2 hf2 ho hoA hx hfi hz2 hnone hf hl2 hrow2 hfm hvlt hvne
    go_wp2_with (at_builtin; refine wpList_append_g rfl _ _ rfl 0 _ f.data rfl HO.out A2 l l.length c2 B rfl rfl HRW.out hA2 (by omega) (Nat.zero_le _) ?_; intro v4 w4 ho4 hg4; refine Hid.out ?_)
    have hg4 : Grow (w2.alloc (.cells #[.slice A f.data.length c, .int .i64 (f.sure : Int)] 67)) w4 (.slice A f.data.length c) v4 := hg4
    obtain ⟨A4, c4, hv4, _, _, _, _⟩ := ho4.form
    subst hv4
    have hz4 := hg4.grown.size
    have hza : (w2.alloc (.cells #[.slice A f.data.length c, .int .i64 (f.sure : Int)] 67)).heap.size = w2.heap.size + 1 := by simp
    rw [hza] at hz4
    have hcf : w4.heap[w2.heap.size]? = some (.cells #[.slice A f.data.length c, .int .i64 (f.sure : Int)] 67) := (hg4.grown.block w2.heap.size (by omega) (fun e => by have := HVL.out _ e.symm; omega)).trans (MapKept.heap_alloc w2 _).1
    have k0 : w4.cell? ⟨w2.heap.size, 0, none⟩ = some (.slice A f.data.length c) := by simp [World.cell?, hcf]
    have k2 : w4.frozen? ⟨w2.heap.size, 0, none⟩ = false := by simp [World.frozen?, hcf]
    have hloc : ∀ k, (Value.slice A4 (f.data ++ l).length c4).ownBlock = some k → k = w2.heap.size → False := fun k hk e => by
      rcases hg4.place with e1 | e1
      · have := HVL.out k (by rw [← e1]; exact hk); omega
      · have := e1 k hk; omega
    have hblk : ∀ k, k < w2.heap.size → some k ≠ (Value.slice A f.data.length c).ownBlock → (w4.setCell ⟨w2.heap.size, 0, none⟩ (.slice A4 (f.data ++ l).length c4)).drew.heap[k]? = w2.heap[k]? := fun k hk hne =>
      (Below.heap_setCell _ _ _ _ (by simp; omega)).trans ((hg4.grown.block k (by omega) hne).trans (Below.heap_alloc _ _ k hk))
    have hN5 := H2.out.but (w' := (w4.setCell ⟨w2.heap.size, 0, none⟩ (.slice A4 (f.data ++ l).length c4)).drew) n.data.toList (Value.slice A f.data.length c).ownBlock hblk HVN.out.1 HVN.out.2 (H2.out.apart_at HX.out HNO.out _ _)
    have hO5 : Own (w4.setCell ⟨w2.heap.size, 0, none⟩ (.slice A4 (f.data ++ l).length c4)).drew 0 (.slice A4 (f.data ++ l).length c4) (f.data ++ l) := ho4.setOther fun k hk => Below.heap_setCell _ _ _ _ (by simp; exact fun e => hloc k hk e)
    have hap5 : ∀ p ∈ L, p.1 ≠ n.data.toList → p.2.1.ownBlock = none ∨ p.2.1.ownBlock ≠ (Value.slice A4 (f.data ++ l).length c4).ownBlock := fun p hp hne => by
      rcases hg4.place with e1 | e1
      · rw [e1]; exact H2.out.apart_at HX.out HNO.out _ _ p hp hne
      · rcases hpb : p.2.1.ownBlock with _ | b
        · exact .inl rfl
        · refine .inr fun e => ?_
          have h1 := H2.out.own_lt hp hpb
          have h2 := e1 b e.symm
          omega
    obtain ⟨w6, hrun, h6, hg6, hz6⟩ := hN5.store (n := n) hn A4 c4 ⟨f.data ++ l, f.sure⟩ hO5 hap5 (by simp; omega) (fun x hx => (List.mem_append.1 hx).elim (HFM.out x) (HSM.out x)) hLl
    have k3 : (w4.setCell ⟨w2.heap.size, 0, none⟩ (.slice A4 (f.data ++ l).length c4)).drew.cell? ⟨sb, 0, none⟩ = some (.map (some mb)) := by simp only [World.cell?, hN5.cells]; rfl
    have k4 : (w4.setCell ⟨w2.heap.size, 0, none⟩ (.slice A4 (f.data ++ l).length c4)).drew.heap[w2.heap.size]? = some (.cells #[.slice A4 (f.data ++ l).length c4, .int .i64 (f.sure : Int)] 67) :=
      (heap_setCell_same w4 w2.heap.size 0 _ _ _ hcf).trans (by simp)
    have s0 : (w4.setCell ⟨w2.heap.size, 0, none⟩ (.slice A4 (f.data ++ l).length c4)).drew.cell? ⟨sb, 0, none⟩ = some (.map (some mb)) ∧ (w4.setCell ⟨w2.heap.size, 0, none⟩ (.slice A4 (f.data ++ l).length c4)).drew.cell? ⟨w2.heap.size, 0, none⟩ = some (.slice A4 (f.data ++ l).length c4) ∧
        (w4.setCell ⟨w2.heap.size, 0, none⟩ (.slice A4 (f.data ++ l).length c4)).drew.cell? ⟨w2.heap.size, 1, none⟩ = some (.int .i64 (f.sure : Int)) := ⟨k3, by simp only [World.cell?, k4]; rfl, by simp only [World.cell?, k4]; rfl⟩
    have k6 : w6.heap[w2.heap.size]? = some (.cells #[.slice A4 (f.data ++ l).length c4, .int .i64 (f.sure : Int)] 67) := (hg6.block w2.heap.size (by simp; omega) (by simp; omega)).trans k4
    have s6 : w6.cell? ⟨sb, 0, none⟩ = some (.map (some mb)) ∧ w6.cell? ⟨w2.heap.size, 0, none⟩ = some (.slice A4 (f.data ++ l).length c4) ∧ w6.cell? ⟨w2.heap.size, 1, none⟩ = some (.int .i64 (f.sure : Int)) := ⟨h6.cell0, by simp only [World.cell?, k6]; rfl, by simp only [World.cell?, k6]; rfl⟩
    have hfr : Fr S w w6 := by
      have f1 : Fr S w w1 := Fr.of_below HB.out
      have f2 : Fr S w1 w2 := fr_sb hS HF.out
      refine (f1.trans' f2).trans' ⟨hg6.os.trans (hg4.grown.os), hg6.tape.trans hg4.grown.tape, hg6.output.trans hg4.grown.output, by simp at hz6; omega, fun k hk hn => ?_⟩
      have n1 : k ≠ mb := fun e => hn (by rw [e]; exact hM)
      have n2 : some k ≠ (Value.slice A f.data.length c).ownBlock := fun e => hn (held_at HL.out HX.out HNO.out _ _ k e.symm)
      exact (hg6.block k (by simp; omega) (by simpa using n1)).trans (hblk k hk n2)
    have hheld : ∀ k, (Value.slice A4 (f.data ++ l).length c4).ownBlock = some k → S k ∨ w.heap.size ≤ k := fun k hk => by
      rcases hg4.place with e1 | e1
      · exact .inl (held_at HL.out HX.out HNO.out _ _ k (by rw [← e1]; exact hk))
      · have h1 := e1 k hk
        have h2 := HZ2.out
        exact .inr (by omega)
    have H6 := Lib.hid h6; have HFR := Lib.hid hfr; have HHE := Lib.hid hheld
    clear hloc hblk hN5 hO5 hap5 k3 k4 k6 hg6 hz6 hfr hheld h6 hcf hg4 ho4 hza
    generalize hll : (f.data ++ l).length = m at *
    refine Lib.hid ?_
    go_wp2
    refine wp_region_noPanic ?_
    refine wp_region_held_drew (S := fun w' => w'.cell? ⟨sb, 0, none⟩ = some (.map (some mb)) ∧ w'.cell? ⟨w2.heap.size, 0, none⟩ = some (.slice A4 m c4) ∧ w'.cell? ⟨w2.heap.size, 1, none⟩ = some (.int .i64 (f.sure : Int))) (by kernel_rfl) s0 (fun hHeld => ?_)
    refine wpAnyH_take (i := 0) (v := ?va0) rfl (by kernel_rfl) (by kernel_rfl) (by kernel_rfl) (fun _ _ _ h => h) (Or.inl ⟨by rfl, ?ha0⟩) (by assumption) ?_
    case ha0 => intro w hSw; (try dsimp only at hSw); go_simp; try with_reducible rfl
    simp only [List.getElem_toArray, List.getElem_cons_zero, Act.put, List.setIfInBounds_toArray, List.set_cons_zero, List.set_cons_succ]
    refine wpAnyH_take (i := 1) (v := ?va1) rfl (by kernel_rfl) (by kernel_rfl) (by kernel_rfl) (fun _ _ _ h => h) (Or.inl ⟨by rfl, ?ha1⟩) (by assumption) ?_
    case ha1 => intro w hSw; (try dsimp only at hSw); go_simp; try with_reducible rfl
    simp only [List.getElem_toArray, List.getElem_cons_succ, List.getElem_cons_zero, Act.put, List.setIfInBounds_toArray, List.set_cons_zero, List.set_cons_succ]
    refine wpAnyH_take (i := 2) (v := ?va2) rfl (by kernel_rfl) (by kernel_rfl) (by kernel_rfl) (fun _ _ _ h => h) (Or.inl ⟨by rfl, ?ha2⟩) (by assumption) ?_
    case ha2 => intro w hSw; (try dsimp only at hSw); go_simp; try with_reducible rfl
    simp only [List.getElem_toArray, List.getElem_cons_succ, List.getElem_cons_zero, Act.put, List.setIfInBounds_toArray, List.set_cons_zero, List.set_cons_succ]
    refine wpAnyH_take (i := 3) (v := ?va3) rfl (by kernel_rfl) (by kernel_rfl) (by kernel_rfl) (fun _ _ _ h => h) (Or.inl ⟨by rfl, ?ha3⟩) (by assumption) ?_
    case ha3 => intro w hSw; (try dsimp only at hSw); go_simp; try with_reducible rfl
    simp only [List.getElem_toArray, List.getElem_cons_succ, List.getElem_cons_zero, Act.put, List.setIfInBounds_toArray, List.set_cons_zero, List.set_cons_succ]
    refine wpAnyH_take (i := 4) (v := ?va4) rfl (by kernel_rfl) (by kernel_rfl) (by kernel_rfl) (fun _ _ _ h => h) (Or.inl ⟨by rfl, ?ha4⟩) (by assumption) ?_
    case ha4 => intro w hSw; (try dsimp only at hSw); go_simp; try with_reducible rfl
    simp only [List.getElem_toArray, List.getElem_cons_succ, List.getElem_cons_zero, Act.put, List.setIfInBounds_toArray, List.set_cons_zero, List.set_cons_succ]
    refine wpAnyH_take (i := 5) (v := ?va5) rfl (by kernel_rfl) (by kernel_rfl) (by kernel_rfl) (fun _ _ _ h => h) (Or.inl ⟨by rfl, ?ha5⟩) (by assumption) ?_
    case ha5 => intro w hSw; (try dsimp only at hSw); go_simp; try with_reducible rfl
    simp only [List.getElem_toArray, List.getElem_cons_succ, List.getElem_cons_zero, Act.put, List.setIfInBounds_toArray, List.set_cons_zero, List.set_cons_succ]
    refine wpAnyH_ready (rs := [6]) (by kernel_rfl) (by simp) ?_
    refine AllReadyH.cons rfl (fun K hK => ?_) AllReadyH.nil
    go_simp
    refine hK.out _ _ ?_ (fun hHeld => ?_)
    · exact s6
    clear hK K
    refine wpAnyH_done (by kernel_rfl) ?_ _
    refine NoPanic.normal ?_
    clear hHeld s0 s6
    go_wp2
    go_ret
    rw [HR.out]
    have h5 := H6.out
    rw [HFI.out] at h5
    unfold fileOf at h5
    rw [change_fs] at h5
    exact ⟨rfl, Sto.mk_after h5 hS hM (held_put HL.out HHE.out) HT.out HFR.out.size, HFR.out⟩
  · rw [doing_err hc] at hr
    have d := ne_int hc
    have HR := Lib.hid hr
    clear hr hc
    go_enter Try.func16, Try.ntmps16
    go_wp2_with fail
    refine HM.out.mono ?_
    rintro e w1 ⟨rfl, hb⟩
    have HB := Lib.hid hb; clear hb
    go_wp2_with fail
    refine (change_ok w1 sb mb L s _ (appendErr_le _ _ _) (HS.out.below HB.out)).mono ?_
    rintro e w2 ⟨rfl, h2, hf2, hz2⟩
    have H2 := Lib.hid h2; have HF := Lib.hid hf2
    clear h2 hf2
    go_wp2
    go_ret
    rw [HR.out]
    have hfr : Fr S w w2 := (Fr.of_below HB.out).trans' ⟨HF.out.os, HF.out.tape, HF.out.output, HF.out.size, fun k hk hn => HF.out.block k hk (fun e => hn (by rw [e]; exact hS))⟩
    exact ⟨rfl, Sto.mk_after H2.out hS hM (fun p hp k hk => .inl (HL.out p hp k hk)) HT.out hfr.size, hfr⟩
end Go.Proofs.Ytdaipoelicpnoaa
