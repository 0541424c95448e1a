/-
  FileRuns: same: a store and its model.
-/
import Derived.Test.YtdaipoelicpnoaaFMAll
namespace Go.Proofs.Ytdaipoelicpnoaa
open Go.RowKit Go.Maps Go.Sort Go.Shelf FM

theorem file_at {s : St} (hr : Rise s.fs) {i : Nat} (hi : i < s.fs.length) : fileOf s (s.fs[i]).1 = (s.fs[i]).2 ∧ readV s (s.fs[i]).1 = (if s.down then ([], 8) else ((s.fs[i]).2.data, 0)) := by
  have hg := get_of_mem hr (n := (s.fs[i]).1) (a := (s.fs[i]).2) (List.getElem_mem hi)
  unfold readV fileOf
  rw [hg]
  exact ⟨rfl, rfl⟩

set_option maxRecDepth 100000 in
set_option maxHeartbeats 4000000 in
theorem same_up (w : World) (S T : Nat → Prop) (sb pb : Nat) (s : St) (h : Sto w S sb s) (hm : Mod w T pb s) (hl : s.fs.length ≤ 900) (hu : used s ≤ 900000) (hd : s.down = false) :
    Calls Try.prog 13 #[.pointer (some ⟨sb, 0, none⟩), .pointer (some ⟨pb, 0, none⟩)] w fun e w' => e = .returned (.bool true) ∧ Below w.heap.size w w' := by
  obtain ⟨v, hM, _, _, _⟩ := hm
  obtain ⟨A, c, hv, _, _, _, hcell⟩ := hM.own.form
  subst hv
  have HS := Lib.hid h; have HM := Lib.hid hM; have HC := Lib.hid hcell
  clear h hM hcell
  go_enter Try.func13, Try.ntmps13
  go_wp2_with fail
  refine (sto_names HS.out (by omega)).mono ?_
  rintro e w1 ⟨v5, rfl, hrow5, hb1⟩
  have hn5 : OwnC w1 w.heap.size 9 v5 ((s.fs.map Prod.fst).map encStr) := by unfold OwnC; rw [List.length_map, List.length_map]; exact hrow5
  obtain ⟨A5, c5, rfl, _, hcell5⟩ := hn5.form
  have hln : ((s.fs.map Prod.fst).map encStr).length = s.fs.length := by simp
  rw [hln] at hcell5
  rw [hln]
  have HB1 := Lib.hid hb1; have HC5 := Lib.hid hcell5; have HN5 := Lib.hid hn5
  have m0 := (HM.out.below hb1).cell0; have m3 := (HM.out.below hb1).cell3; rw [hd] at m3
  have HU := Lib.hid (sto_used (HS.out.below (hb1.trans (below_drew w1 |>.mono hb1.size))) (by omega))
  clear hrow5 hb1 hcell5 hn5 hln
  go_wp2
  refine wp_region_noPanic ?_
  refine wp_region_held_drew (S := fun w' => w'.cell? ⟨pb, 0, none⟩ = some (.slice A s.fs.length c) ∧ w'.cell? ⟨pb, 3, none⟩ = some (.bool false)) (by kernel_rfl) ⟨m0, m3⟩ (fun hHeld => ?_)
  refine wpAnyH_take (i := 0) (v := ?va0) rfl (by kernel_rfl) (by kernel_rfl) (by kernel_rfl) (fun _ _ _ h => h) (Or.inl ⟨by rfl, ?ha0⟩) (by assumption) ?_
  case ha0 => intro w hSw; (try dsimp only at hSw); go_simp; try with_reducible rfl
  simp only [List.getElem_toArray, List.getElem_cons_zero, Act.put, List.setIfInBounds_toArray, List.set_cons_zero, List.set_cons_succ]
  refine wpAnyH_take (i := 1) (v := ?va1) rfl (by kernel_rfl) (by kernel_rfl) (by kernel_rfl) (fun _ _ _ h => h) (Or.inl ⟨by rfl, ?ha1⟩) (by assumption) ?_
  case ha1 => intro w hSw; (try dsimp only at hSw); go_simp; try with_reducible rfl
  simp only [List.getElem_toArray, List.getElem_cons_succ, List.getElem_cons_zero, Act.put, List.setIfInBounds_toArray, List.set_cons_zero, List.set_cons_succ]
  refine wpAnyH_take (i := 2) (v := ?va2) rfl (by kernel_rfl) (by kernel_rfl) (by kernel_rfl) (fun _ _ _ h => h) (Or.inl ⟨by rfl, ?ha2⟩) (by assumption) ?_
  case ha2 => intro w hSw; (try dsimp only at hSw); go_simp; try with_reducible rfl
  simp only [List.getElem_toArray, List.getElem_cons_succ, List.getElem_cons_zero, Act.put, List.setIfInBounds_toArray, List.set_cons_zero, List.set_cons_succ]
  refine wpAnyH_take (i := 3) (v := ?va3) rfl (by kernel_rfl) (by kernel_rfl) (by kernel_rfl) (fun _ _ _ h => h) (Or.inl ⟨by rfl, ?ha3⟩) (by assumption) ?_
  case ha3 => intro w hSw; (try dsimp only at hSw); go_simp; try with_reducible rfl
  simp only [List.getElem_toArray, List.getElem_cons_succ, List.getElem_cons_zero, Act.put, List.setIfInBounds_toArray, List.set_cons_zero, List.set_cons_succ]
  refine wpAnyH_take (i := 4) (v := ?va4) rfl (by kernel_rfl) (by kernel_rfl) (by kernel_rfl) (fun _ _ _ h => h) (Or.inl ⟨by rfl, ?ha4⟩) (by assumption) ?_
  case ha4 => intro w hSw; (try dsimp only at hSw); go_simp; try with_reducible rfl
  simp only [List.getElem_toArray, List.getElem_cons_succ, List.getElem_cons_zero, Act.put, List.setIfInBounds_toArray, List.set_cons_zero, List.set_cons_succ]
  refine wpAnyH_take (i := 5) (v := ?va5) rfl (by kernel_rfl) (by kernel_rfl) (by kernel_rfl) (fun _ _ _ h => h) (Or.inl ⟨by rfl, ?ha5⟩) (by assumption) ?_
  case ha5 => intro w hSw; (try dsimp only at hSw); go_simp; try with_reducible rfl
  simp only [List.getElem_toArray, List.getElem_cons_succ, List.getElem_cons_zero, Act.put, List.setIfInBounds_toArray, List.set_cons_zero, List.set_cons_succ]
  refine wpAnyH_take (i := 6) (v := ?va6) rfl (by kernel_rfl) (by kernel_rfl) (by kernel_rfl) (fun _ _ _ h => h) (Or.inl ⟨by rfl, ?ha6⟩) (by assumption) ?_
  case ha6 => intro w hSw; (try dsimp only at hSw); go_simp; try with_reducible rfl
  simp only [List.getElem_toArray, List.getElem_cons_succ, List.getElem_cons_zero, Act.put, List.setIfInBounds_toArray, List.set_cons_zero, List.set_cons_succ]
  refine wpAnyH_take (i := 7) (v := ?va7) rfl (by kernel_rfl) (by kernel_rfl) (by kernel_rfl) (fun _ _ _ h => h) (Or.inl ⟨by rfl, ?ha7⟩) (by assumption) ?_
  case ha7 => intro w hSw; (try dsimp only at hSw); go_simp; try with_reducible rfl
  simp only [List.getElem_toArray, List.getElem_cons_succ, List.getElem_cons_zero, Act.put, List.setIfInBounds_toArray, List.set_cons_zero, List.set_cons_succ]
  refine wpAnyH_take (i := 8) (v := ?va8) rfl (by kernel_rfl) (by kernel_rfl) (by kernel_rfl) (fun _ _ _ h => h) (Or.inl ⟨by rfl, ?ha8⟩) (by assumption) ?_
  case ha8 => intro w hSw; (try dsimp only at hSw); go_simp; try with_reducible rfl
  simp only [List.getElem_toArray, List.getElem_cons_succ, List.getElem_cons_zero, Act.put, List.setIfInBounds_toArray, List.set_cons_zero, List.set_cons_succ]
  refine wpAnyH_take (i := 9) (v := ?va9) rfl (by kernel_rfl) (by kernel_rfl) (by kernel_rfl) (fun _ _ _ h => h) (Or.inl ⟨by rfl, ?ha9⟩) (by assumption) ?_
  case ha9 => intro w hSw; (try dsimp only at hSw); go_simp; try with_reducible rfl
  simp only [List.getElem_toArray, List.getElem_cons_succ, List.getElem_cons_zero, Act.put, List.setIfInBounds_toArray, List.set_cons_zero, List.set_cons_succ]
  refine wpAnyH_take (i := 11) (v := ?va11) rfl (by kernel_rfl) (by kernel_rfl) (by kernel_rfl) (fun _ _ _ h => h) (Or.inl ⟨by rfl, ?ha11⟩) (by assumption) ?_
  case ha11 => intro w hSw; (try dsimp only at hSw); go_simp; try with_reducible rfl
  simp only [List.getElem_toArray, List.getElem_cons_succ, List.getElem_cons_zero, Act.put, List.setIfInBounds_toArray, List.set_cons_zero, List.set_cons_succ]
  refine wpAnyH_ready (rs := [10]) (by kernel_rfl) (by simp) ?_
  refine AllReadyH.cons rfl (fun K hK => ?_) AllReadyH.nil
  go_simp
  refine HU.out.mono ?_
  rintro e w2 ⟨rfl, hb2⟩
  have hb02 : Below w.heap.size w w2 := HB1.out.trans ((Below.of_drew hb2).mono HB1.out.size)
  have HB2 := Lib.hid hb02
  have n0 := (HM.out.below hb02).cell0; have n3 := (HM.out.below hb02).cell3; rw [hd] at n3
  have HB12 := Lib.hid (Below.of_drew hb2)
  clear hb2 hb02
  dsimp only
  refine hK.out _ _ ?_ (fun hHeld => ?_)
  · exact ⟨n0, n3⟩
  clear hK K
  refine wpAnyH_ready (rs := [12]) (by kernel_rfl) (by simp) ?_
  refine AllReadyH.cons rfl (fun K hK => ?_) AllReadyH.nil
  go_simp
  refine (mused_ok w2 pb _ s (HM.out.below HB2.out) (by omega) (by omega)).mono ?_
  rintro e w3 ⟨rfl, hb3⟩
  have hb03 : Below w.heap.size w w3 := HB2.out.trans (hb3.mono HB2.out.size)
  have HB3 := Lib.hid hb03
  have p0 := (HM.out.below hb03).cell0; have p3 := (HM.out.below hb03).cell3; rw [hd] at p3
  have HB13 := Lib.hid (HB12.out.trans (hb3.mono HB12.out.size))
  clear hb3 hb03
  dsimp only
  refine hK.out _ _ ?_ (fun hHeld => ?_)
  · exact ⟨p0, p3⟩
  clear hK K
  refine wpAnyH_take (i := 13) (v := ?vb13) rfl (by kernel_rfl) (by kernel_rfl) (by kernel_rfl) (fun _ _ _ h => h) (Or.inl ⟨by rfl, ?hb13⟩) (by assumption) ?_
  case hb13 => intro w hSw; (try dsimp only at hSw); go_simp; try with_reducible rfl
  simp only [List.getElem_toArray, List.getElem_cons_succ, List.getElem_cons_zero, Act.put, List.setIfInBounds_toArray, List.set_cons_zero, List.set_cons_succ]
  refine wpAnyH_take (i := 14) (v := ?vb14) rfl (by kernel_rfl) (by kernel_rfl) (by kernel_rfl) (fun _ _ _ h => h) (Or.inl ⟨by rfl, ?hb14⟩) (by assumption) ?_
  case hb14 => intro w hSw; (try dsimp only at hSw); go_simp; try with_reducible rfl
  simp only [List.getElem_toArray, List.getElem_cons_succ, List.getElem_cons_zero, Act.put, List.setIfInBounds_toArray, List.set_cons_zero, List.set_cons_succ]
  refine wpAnyH_take (i := 15) (v := ?vb15) rfl (by kernel_rfl) (by kernel_rfl) (by kernel_rfl) (fun _ _ _ h => h) (Or.inl ⟨by rfl, ?hb15⟩) (by assumption) ?_
  case hb15 => intro w hSw; (try dsimp only at hSw); go_simp; try with_reducible rfl
  simp only [List.getElem_toArray, List.getElem_cons_succ, List.getElem_cons_zero, Act.put, List.setIfInBounds_toArray, List.set_cons_zero, List.set_cons_succ]
  refine wpAnyH_take (i := 16) (v := ?vb16) rfl (by kernel_rfl) (by kernel_rfl) (by kernel_rfl) (fun _ _ _ h => h) (Or.inl ⟨by rfl, ?hb16⟩) (by assumption) ?_
  case hb16 => intro w hSw; (try dsimp only at hSw); go_simp; try with_reducible rfl
  simp only [List.getElem_toArray, List.getElem_cons_succ, List.getElem_cons_zero, Act.put, List.setIfInBounds_toArray, List.set_cons_zero, List.set_cons_succ]
  refine wpAnyH_take (i := 18) (v := ?vb18) rfl (by kernel_rfl) (by kernel_rfl) (by kernel_rfl) (fun _ _ _ h => h) (Or.inl ⟨by rfl, ?hb18⟩) (by assumption) ?_
  case hb18 => intro w hSw; (try dsimp only at hSw); go_simp; try with_reducible rfl
  simp only [List.getElem_toArray, List.getElem_cons_succ, List.getElem_cons_zero, Act.put, List.setIfInBounds_toArray, List.set_cons_zero, List.set_cons_succ]
  refine wpAnyH_take (i := 19) (v := ?vb19) rfl (by kernel_rfl) (by kernel_rfl) (by kernel_rfl) (fun _ _ _ h => h) (Or.inl ⟨by rfl, ?hb19⟩) (by assumption) ?_
  case hb19 => intro w hSw; (try dsimp only at hSw); go_simp; try with_reducible rfl
  simp only [List.getElem_toArray, List.getElem_cons_succ, List.getElem_cons_zero, Act.put, List.setIfInBounds_toArray, List.set_cons_zero, List.set_cons_succ]
  refine wpAnyH_take (i := 20) (v := ?vb20) rfl (by kernel_rfl) (by kernel_rfl) (by kernel_rfl) (fun _ _ _ h => h) (Or.inl ⟨by rfl, ?hb20⟩) (by assumption) ?_
  case hb20 => intro w hSw; (try dsimp only at hSw); go_simp; try with_reducible rfl
  simp only [List.getElem_toArray, List.getElem_cons_succ, List.getElem_cons_zero, Act.put, List.setIfInBounds_toArray, List.set_cons_zero, List.set_cons_succ]
  refine wpAnyH_take (i := 21) (v := ?vb21) rfl (by kernel_rfl) (by kernel_rfl) (by kernel_rfl) (fun _ _ _ h => h) (Or.inl ⟨by rfl, ?hb21⟩) (by assumption) ?_
  case hb21 => intro w hSw; (try dsimp only at hSw); go_simp; try with_reducible rfl
  simp only [List.getElem_toArray, List.getElem_cons_succ, List.getElem_cons_zero, Act.put, List.setIfInBounds_toArray, List.set_cons_zero, List.set_cons_succ]
  refine wpAnyH_ready (rs := [17]) (by kernel_rfl) (by simp) ?_
  refine AllReadyH.cons rfl (fun K hK => ?_) AllReadyH.nil
  go_simp
  refine (sto_up (HS.out.below HB3.out)).mono ?_
  rintro e wy ⟨rfl, hwy⟩
  rw [hwy, hd, Bool.not_false]
  clear hwy wy
  dsimp only
  refine hK.out _ _ ?_ (fun hHeld => ?_)
  · exact ⟨p0, p3⟩
  clear hK K
  refine wpAnyH_take (i := 22) (v := ?vc22) rfl (by kernel_rfl) (by kernel_rfl) (by kernel_rfl) (fun _ _ _ h => h) (Or.inl ⟨by rfl, ?hc22⟩) (by assumption) ?_
  case hc22 => intro w hSw; (try dsimp only at hSw); go_simp; try with_reducible rfl
  simp only [List.getElem_toArray, List.getElem_cons_succ, List.getElem_cons_zero, Act.put, List.setIfInBounds_toArray, List.set_cons_zero, List.set_cons_succ]
  refine wpAnyH_take (i := 23) (v := ?vc23) rfl (by kernel_rfl) (by kernel_rfl) (by kernel_rfl) (fun _ _ _ h => h) (Or.inl ⟨by rfl, ?hc23⟩) (by assumption) ?_
  case hc23 => intro w hSw; (try dsimp only at hSw); go_simp; try with_reducible rfl
  simp only [List.getElem_toArray, List.getElem_cons_succ, List.getElem_cons_zero, Act.put, List.setIfInBounds_toArray, List.set_cons_zero, List.set_cons_succ]
  refine wpAnyH_done (by kernel_rfl) ?_ _
  refine NoPanic.normal ?_
  clear hHeld m0 m3 n0 n3
  go_wp2
  go_loopw [41] (fun u wr => ∃ j : Nat, j ≤ s.fs.length ∧ u = .int .i64 (j : Int) ∧ Below w3.heap.size w3 wr)
    (fun u _ => s.fs.length - (intOf u).toNat)
  case atStart => exact ⟨0, Nat.zero_le _, rfl, Below.refl _ _⟩
  case round =>
    obtain ⟨j, hj, rfl, hbr⟩ := hrel
    have HBR := Lib.hid hbr
    have hb0r : Below w.heap.size w wr := HB3.out.trans (hbr.mono HB3.out.size)
    have HB0 := Lib.hid hb0r
    clear hbr
    by_cases hlt : j < s.fs.length
    · obtain ⟨g, hA, hg, k1, k2, k3, _, _⟩ := HC.out j hlt
      subst hA
      obtain ⟨g5, hA5, hc5⟩ := HC5.out j hlt
      subst hA5
      have hb5 := HN5.out.lt g5 rfl
      obtain ⟨f, hf⟩ : ∃ f, f = (s.fs[j]).2 := ⟨_, rfl⟩
      obtain ⟨n, hn⟩ : ∃ n : ByteArray, n = nm (s.fs[j]).1 := ⟨_, rfl⟩
      have hnl : n.data.toList = (s.fs[j]).1 := by rw [hn]; rfl
      rw [← hn] at k1
      rw [← hf] at k2 k3
      have r1 := (hb0r.cell (p := ⟨g, j * 3, none⟩) hg).trans k1
      have r2 := (hb0r.cell (p := ⟨g, j * 3 + 1, none⟩) hg).trans k2
      have r3 := (hb0r.cell (p := ⟨g, j * 3 + 2, none⟩) hg).trans k3
      have hb1r : Below w1.heap.size w1 wr := HB13.out.trans (HBR.out.mono HB13.out.size)
      have r5 : wr.cell? ⟨g5, j, none⟩ = some (.string n) := by
        rw [hb1r.cell (p := ⟨g5, j, none⟩) hb5.2, hc5, hn]
        simp [hlt, encStr, nm]
      have hns : n.size ≤ maxLen := by
        have : n.size = n.data.toList.length := by simp
        rw [this, hnl]
        obtain ⟨mb, L, hB, _⟩ := HS.out
        have hmm : s.fs[j] ∈ mapV Prod.snd L := by rw [← hB.fs]; exact List.getElem_mem _
        obtain ⟨q, hq, e⟩ := List.mem_map.1 hmm
        rw [← e]
        exact hB.short q hq
      obtain ⟨hfo, hrd⟩ := file_at HS.out.rise hlt
      rw [← hnl, ← hf] at hfo hrd
      have hfs : (fileOf s n.data.toList).sure = f.sure := by rw [hfo]
      have HRD := Lib.hid hrd; have HFS := Lib.hid hfs
      have hba : Below wr.heap.size wr (wr.alloc (.cells #[.string n, .string (str f.data), .int .i64 (f.sure : Int)] 62)) := (Below.refl _ _).alloc (Nat.le_refl _) _
      have hbx := (MapKept.heap_alloc wr (.cells #[.string n, .string (str f.data), .int .i64 (f.sure : Int)] 62)).1
      obtain ⟨wa, hwa⟩ : ∃ wa, wa = wr.alloc (.cells #[.string n, .string (str f.data), .int .i64 (f.sure : Int)] 62) := ⟨_, rfl⟩
      have HWA := Lib.hid hwa
      rw [← hwa] at hba hbx
      have HBA := Lib.hid hba; have HBX := Lib.hid hbx
      have a5 : wa.cell? ⟨g5, j, none⟩ = some (.string n) := (hba.cell (World.block_lt_of_cell? wr _ r5)).trans r5
      have x0 : wa.cell? ⟨wr.heap.size, 0, none⟩ = some (.string n) := by simp only [World.cell?, hbx]; rfl
      have x1 : wa.cell? ⟨wr.heap.size, 1, none⟩ = some (.string (str f.data)) := by simp only [World.cell?, hbx]; rfl
      have x2 : wa.cell? ⟨wr.heap.size, 2, none⟩ = some (.int .i64 (f.sure : Int)) := by simp only [World.cell?, hbx]; rfl
      have HSA := Lib.hid (HS.out.below (hb0r.trans (hba.mono hb0r.size)))
      have hj9 : (j : Int) < (s.fs.length : Int) := by omega
      clear k1 k2 k3 hc5 hb5 hfo hrd hfs hf hn hnl hb1r hwa hba hbx hb0r
      go_upto_region 7 with fail
      rw [← HWA.out]
      clear r1 r2 r3 r5
      go_quiet (first | (go_at_call 14; refine Calls.quiet_of_same (sto_sure' (HSA.out.below (below_drewN (Below.refl _ _) _)) n hns HFS.out)))
      have hbq : Below wa.heap.size wa (wa.drewN nq) := below_drewN (Below.refl _ _) nq
      have HBQ := Lib.hid hbq
      have y0 : (wa.drewN nq).cell? ⟨wr.heap.size, 0, none⟩ = some (.string n) := (hbq.cell (World.block_lt_of_cell? wa _ x0)).trans x0
      clear hbq
      go_wp2_with fail
      refine (sto_read (HSA.out.below HBQ.out) n hns (by omega)).mono ?_
      rintro e w12 ⟨v12, rfl, ho12, hb12⟩
      have hbw : Below wa.heap.size wa w12 := HBQ.out.trans (hb12.mono HBQ.out.size)
      have z1 : w12.cell? ⟨wr.heap.size, 1, none⟩ = some (.string (str f.data)) := (hbw.cell (World.block_lt_of_cell? wa _ x1)).trans x1
      have hbr12 : Below wr.heap.size wr w12 := HBA.out.trans (hbw.mono HBA.out.size)
      have hm12 := (HM.out.below HB0.out).below hbr12
      have z3 := hm12.cell3; rw [hd] at z3
      have HBF := Lib.hid (HBR.out.trans (hbr12.mono HBR.out.size))
      clear hb12 hbw hbr12 hm12 y0 x0 x1 x2 a5
      have hrd' : readV s n.data.toList = (f.data, 0) := by rw [HRD.out, hd]; rfl
      rw [hrd'] at ho12 ⊢
      have ho13 : Own w12 (wa.drewN nq).heap.size v12 f.data := ho12
      obtain ⟨A12, c12, rfl, _, _, _, hr12⟩ := ho13.form
      have hs12 : (convert 31 9 (.slice A12 f.data.length c12)).run Try.prog w12 = .ok (.string (str f.data)) w12 := run_string A12 f.data c12 _ w12 hr12
      clear ho12 ho13 hr12
      clear hrd'
      go_wp2
      go_roundw
      case rel => exact ⟨j + 1, by omega, by go_num, HBF.out⟩
      case measure => simp [intOf]; omega
    · go_wp2
      go_ret
      exact ⟨rfl, HB0.out⟩

set_option maxRecDepth 100000 in
set_option maxHeartbeats 4000000 in
theorem same_dn (w : World) (S T : Nat → Prop) (sb pb : Nat) (s : St) (h : Sto w S sb s) (hm : Mod w T pb s) (hl : s.fs.length ≤ 900) (hu : used s ≤ 900000) (hd : s.down = true) :
    Calls Try.prog 13 #[.pointer (some ⟨sb, 0, none⟩), .pointer (some ⟨pb, 0, none⟩)] w fun e w' => e = .returned (.bool true) ∧ Below w.heap.size w w' := by
  obtain ⟨v, hM, _, _, _⟩ := hm
  obtain ⟨A, c, hv, _, _, _, hcell⟩ := hM.own.form
  subst hv
  have HS := Lib.hid h; have HM := Lib.hid hM; have HC := Lib.hid hcell
  clear h hM hcell
  go_enter Try.func13, Try.ntmps13
  go_wp2_with fail
  refine (sto_names HS.out (by omega)).mono ?_
  rintro e w1 ⟨v5, rfl, hrow5, hb1⟩
  have hn5 : OwnC w1 w.heap.size 9 v5 ((s.fs.map Prod.fst).map encStr) := by unfold OwnC; rw [List.length_map, List.length_map]; exact hrow5
  obtain ⟨A5, c5, rfl, _, hcell5⟩ := hn5.form
  have hln : ((s.fs.map Prod.fst).map encStr).length = s.fs.length := by simp
  rw [hln] at hcell5
  rw [hln]
  have HB1 := Lib.hid hb1; have HC5 := Lib.hid hcell5; have HN5 := Lib.hid hn5
  have m0 := (HM.out.below hb1).cell0; have m3 := (HM.out.below hb1).cell3; rw [hd] at m3
  have HU := Lib.hid (sto_used (HS.out.below (hb1.trans (below_drew w1 |>.mono hb1.size))) (by omega))
  clear hrow5 hb1 hcell5 hn5 hln
  go_wp2
  refine wp_region_noPanic ?_
  refine wp_region_held_drew (S := fun w' => w'.cell? ⟨pb, 0, none⟩ = some (.slice A s.fs.length c) ∧ w'.cell? ⟨pb, 3, none⟩ = some (.bool true)) (by kernel_rfl) ⟨m0, m3⟩ (fun hHeld => ?_)
  refine wpAnyH_take (i := 0) (v := ?va0) rfl (by kernel_rfl) (by kernel_rfl) (by kernel_rfl) (fun _ _ _ h => h) (Or.inl ⟨by rfl, ?ha0⟩) (by assumption) ?_
  case ha0 => intro w hSw; (try dsimp only at hSw); go_simp; try with_reducible rfl
  simp only [List.getElem_toArray, List.getElem_cons_zero, Act.put, List.setIfInBounds_toArray, List.set_cons_zero, List.set_cons_succ]
  refine wpAnyH_take (i := 1) (v := ?va1) rfl (by kernel_rfl) (by kernel_rfl) (by kernel_rfl) (fun _ _ _ h => h) (Or.inl ⟨by rfl, ?ha1⟩) (by assumption) ?_
  case ha1 => intro w hSw; (try dsimp only at hSw); go_simp; try with_reducible rfl
  simp only [List.getElem_toArray, List.getElem_cons_succ, List.getElem_cons_zero, Act.put, List.setIfInBounds_toArray, List.set_cons_zero, List.set_cons_succ]
  refine wpAnyH_take (i := 2) (v := ?va2) rfl (by kernel_rfl) (by kernel_rfl) (by kernel_rfl) (fun _ _ _ h => h) (Or.inl ⟨by rfl, ?ha2⟩) (by assumption) ?_
  case ha2 => intro w hSw; (try dsimp only at hSw); go_simp; try with_reducible rfl
  simp only [List.getElem_toArray, List.getElem_cons_succ, List.getElem_cons_zero, Act.put, List.setIfInBounds_toArray, List.set_cons_zero, List.set_cons_succ]
  refine wpAnyH_take (i := 3) (v := ?va3) rfl (by kernel_rfl) (by kernel_rfl) (by kernel_rfl) (fun _ _ _ h => h) (Or.inl ⟨by rfl, ?ha3⟩) (by assumption) ?_
  case ha3 => intro w hSw; (try dsimp only at hSw); go_simp; try with_reducible rfl
  simp only [List.getElem_toArray, List.getElem_cons_succ, List.getElem_cons_zero, Act.put, List.setIfInBounds_toArray, List.set_cons_zero, List.set_cons_succ]
  refine wpAnyH_take (i := 4) (v := ?va4) rfl (by kernel_rfl) (by kernel_rfl) (by kernel_rfl) (fun _ _ _ h => h) (Or.inl ⟨by rfl, ?ha4⟩) (by assumption) ?_
  case ha4 => intro w hSw; (try dsimp only at hSw); go_simp; try with_reducible rfl
  simp only [List.getElem_toArray, List.getElem_cons_succ, List.getElem_cons_zero, Act.put, List.setIfInBounds_toArray, List.set_cons_zero, List.set_cons_succ]
  refine wpAnyH_take (i := 5) (v := ?va5) rfl (by kernel_rfl) (by kernel_rfl) (by kernel_rfl) (fun _ _ _ h => h) (Or.inl ⟨by rfl, ?ha5⟩) (by assumption) ?_
  case ha5 => intro w hSw; (try dsimp only at hSw); go_simp; try with_reducible rfl
  simp only [List.getElem_toArray, List.getElem_cons_succ, List.getElem_cons_zero, Act.put, List.setIfInBounds_toArray, List.set_cons_zero, List.set_cons_succ]
  refine wpAnyH_take (i := 6) (v := ?va6) rfl (by kernel_rfl) (by kernel_rfl) (by kernel_rfl) (fun _ _ _ h => h) (Or.inl ⟨by rfl, ?ha6⟩) (by assumption) ?_
  case ha6 => intro w hSw; (try dsimp only at hSw); go_simp; try with_reducible rfl
  simp only [List.getElem_toArray, List.getElem_cons_succ, List.getElem_cons_zero, Act.put, List.setIfInBounds_toArray, List.set_cons_zero, List.set_cons_succ]
  refine wpAnyH_take (i := 7) (v := ?va7) rfl (by kernel_rfl) (by kernel_rfl) (by kernel_rfl) (fun _ _ _ h => h) (Or.inl ⟨by rfl, ?ha7⟩) (by assumption) ?_
  case ha7 => intro w hSw; (try dsimp only at hSw); go_simp; try with_reducible rfl
  simp only [List.getElem_toArray, List.getElem_cons_succ, List.getElem_cons_zero, Act.put, List.setIfInBounds_toArray, List.set_cons_zero, List.set_cons_succ]
  refine wpAnyH_take (i := 8) (v := ?va8) rfl (by kernel_rfl) (by kernel_rfl) (by kernel_rfl) (fun _ _ _ h => h) (Or.inl ⟨by rfl, ?ha8⟩) (by assumption) ?_
  case ha8 => intro w hSw; (try dsimp only at hSw); go_simp; try with_reducible rfl
  simp only [List.getElem_toArray, List.getElem_cons_succ, List.getElem_cons_zero, Act.put, List.setIfInBounds_toArray, List.set_cons_zero, List.set_cons_succ]
  refine wpAnyH_take (i := 9) (v := ?va9) rfl (by kernel_rfl) (by kernel_rfl) (by kernel_rfl) (fun _ _ _ h => h) (Or.inl ⟨by rfl, ?ha9⟩) (by assumption) ?_
  case ha9 => intro w hSw; (try dsimp only at hSw); go_simp; try with_reducible rfl
  simp only [List.getElem_toArray, List.getElem_cons_succ, List.getElem_cons_zero, Act.put, List.setIfInBounds_toArray, List.set_cons_zero, List.set_cons_succ]
  refine wpAnyH_take (i := 11) (v := ?va11) rfl (by kernel_rfl) (by kernel_rfl) (by kernel_rfl) (fun _ _ _ h => h) (Or.inl ⟨by rfl, ?ha11⟩) (by assumption) ?_
  case ha11 => intro w hSw; (try dsimp only at hSw); go_simp; try with_reducible rfl
  simp only [List.getElem_toArray, List.getElem_cons_succ, List.getElem_cons_zero, Act.put, List.setIfInBounds_toArray, List.set_cons_zero, List.set_cons_succ]
  refine wpAnyH_ready (rs := [10]) (by kernel_rfl) (by simp) ?_
  refine AllReadyH.cons rfl (fun K hK => ?_) AllReadyH.nil
  go_simp
  refine HU.out.mono ?_
  rintro e w2 ⟨rfl, hb2⟩
  have hb02 : Below w.heap.size w w2 := HB1.out.trans ((Below.of_drew hb2).mono HB1.out.size)
  have HB2 := Lib.hid hb02
  have n0 := (HM.out.below hb02).cell0; have n3 := (HM.out.below hb02).cell3; rw [hd] at n3
  have HB12 := Lib.hid (Below.of_drew hb2)
  clear hb2 hb02
  dsimp only
  refine hK.out _ _ ?_ (fun hHeld => ?_)
  · exact ⟨n0, n3⟩
  clear hK K
  refine wpAnyH_ready (rs := [12]) (by kernel_rfl) (by simp) ?_
  refine AllReadyH.cons rfl (fun K hK => ?_) AllReadyH.nil
  go_simp
  refine (mused_ok w2 pb _ s (HM.out.below HB2.out) (by omega) (by omega)).mono ?_
  rintro e w3 ⟨rfl, hb3⟩
  have hb03 : Below w.heap.size w w3 := HB2.out.trans (hb3.mono HB2.out.size)
  have HB3 := Lib.hid hb03
  have p0 := (HM.out.below hb03).cell0; have p3 := (HM.out.below hb03).cell3; rw [hd] at p3
  have HB13 := Lib.hid (HB12.out.trans (hb3.mono HB12.out.size))
  clear hb3 hb03
  dsimp only
  refine hK.out _ _ ?_ (fun hHeld => ?_)
  · exact ⟨p0, p3⟩
  clear hK K
  refine wpAnyH_take (i := 13) (v := ?vb13) rfl (by kernel_rfl) (by kernel_rfl) (by kernel_rfl) (fun _ _ _ h => h) (Or.inl ⟨by rfl, ?hb13⟩) (by assumption) ?_
  case hb13 => intro w hSw; (try dsimp only at hSw); go_simp; try with_reducible rfl
  simp only [List.getElem_toArray, List.getElem_cons_succ, List.getElem_cons_zero, Act.put, List.setIfInBounds_toArray, List.set_cons_zero, List.set_cons_succ]
  refine wpAnyH_take (i := 14) (v := ?vb14) rfl (by kernel_rfl) (by kernel_rfl) (by kernel_rfl) (fun _ _ _ h => h) (Or.inl ⟨by rfl, ?hb14⟩) (by assumption) ?_
  case hb14 => intro w hSw; (try dsimp only at hSw); go_simp; try with_reducible rfl
  simp only [List.getElem_toArray, List.getElem_cons_succ, List.getElem_cons_zero, Act.put, List.setIfInBounds_toArray, List.set_cons_zero, List.set_cons_succ]
  refine wpAnyH_take (i := 15) (v := ?vb15) rfl (by kernel_rfl) (by kernel_rfl) (by kernel_rfl) (fun _ _ _ h => h) (Or.inl ⟨by rfl, ?hb15⟩) (by assumption) ?_
  case hb15 => intro w hSw; (try dsimp only at hSw); go_simp; try with_reducible rfl
  simp only [List.getElem_toArray, List.getElem_cons_succ, List.getElem_cons_zero, Act.put, List.setIfInBounds_toArray, List.set_cons_zero, List.set_cons_succ]
  refine wpAnyH_take (i := 16) (v := ?vb16) rfl (by kernel_rfl) (by kernel_rfl) (by kernel_rfl) (fun _ _ _ h => h) (Or.inl ⟨by rfl, ?hb16⟩) (by assumption) ?_
  case hb16 => intro w hSw; (try dsimp only at hSw); go_simp; try with_reducible rfl
  simp only [List.getElem_toArray, List.getElem_cons_succ, List.getElem_cons_zero, Act.put, List.setIfInBounds_toArray, List.set_cons_zero, List.set_cons_succ]
  refine wpAnyH_take (i := 18) (v := ?vb18) rfl (by kernel_rfl) (by kernel_rfl) (by kernel_rfl) (fun _ _ _ h => h) (Or.inl ⟨by rfl, ?hb18⟩) (by assumption) ?_
  case hb18 => intro w hSw; (try dsimp only at hSw); go_simp; try with_reducible rfl
  simp only [List.getElem_toArray, List.getElem_cons_succ, List.getElem_cons_zero, Act.put, List.setIfInBounds_toArray, List.set_cons_zero, List.set_cons_succ]
  refine wpAnyH_take (i := 19) (v := ?vb19) rfl (by kernel_rfl) (by kernel_rfl) (by kernel_rfl) (fun _ _ _ h => h) (Or.inl ⟨by rfl, ?hb19⟩) (by assumption) ?_
  case hb19 => intro w hSw; (try dsimp only at hSw); go_simp; try with_reducible rfl
  simp only [List.getElem_toArray, List.getElem_cons_succ, List.getElem_cons_zero, Act.put, List.setIfInBounds_toArray, List.set_cons_zero, List.set_cons_succ]
  refine wpAnyH_take (i := 20) (v := ?vb20) rfl (by kernel_rfl) (by kernel_rfl) (by kernel_rfl) (fun _ _ _ h => h) (Or.inl ⟨by rfl, ?hb20⟩) (by assumption) ?_
  case hb20 => intro w hSw; (try dsimp only at hSw); go_simp; try with_reducible rfl
  simp only [List.getElem_toArray, List.getElem_cons_succ, List.getElem_cons_zero, Act.put, List.setIfInBounds_toArray, List.set_cons_zero, List.set_cons_succ]
  refine wpAnyH_take (i := 21) (v := ?vb21) rfl (by kernel_rfl) (by kernel_rfl) (by kernel_rfl) (fun _ _ _ h => h) (Or.inl ⟨by rfl, ?hb21⟩) (by assumption) ?_
  case hb21 => intro w hSw; (try dsimp only at hSw); go_simp; try with_reducible rfl
  simp only [List.getElem_toArray, List.getElem_cons_succ, List.getElem_cons_zero, Act.put, List.setIfInBounds_toArray, List.set_cons_zero, List.set_cons_succ]
  refine wpAnyH_ready (rs := [17]) (by kernel_rfl) (by simp) ?_
  refine AllReadyH.cons rfl (fun K hK => ?_) AllReadyH.nil
  go_simp
  refine (sto_up (HS.out.below HB3.out)).mono ?_
  rintro e wy ⟨rfl, hwy⟩
  rw [hwy, hd, Bool.not_true]
  clear hwy wy
  dsimp only
  refine hK.out _ _ ?_ (fun hHeld => ?_)
  · exact ⟨p0, p3⟩
  clear hK K
  refine wpAnyH_take (i := 22) (v := ?vc22) rfl (by kernel_rfl) (by kernel_rfl) (by kernel_rfl) (fun _ _ _ h => h) (Or.inl ⟨by rfl, ?hc22⟩) (by assumption) ?_
  case hc22 => intro w hSw; (try dsimp only at hSw); go_simp; try with_reducible rfl
  simp only [List.getElem_toArray, List.getElem_cons_succ, List.getElem_cons_zero, Act.put, List.setIfInBounds_toArray, List.set_cons_zero, List.set_cons_succ]
  refine wpAnyH_take (i := 23) (v := ?vc23) rfl (by kernel_rfl) (by kernel_rfl) (by kernel_rfl) (fun _ _ _ h => h) (Or.inl ⟨by rfl, ?hc23⟩) (by assumption) ?_
  case hc23 => intro w hSw; (try dsimp only at hSw); go_simp; try with_reducible rfl
  simp only [List.getElem_toArray, List.getElem_cons_succ, List.getElem_cons_zero, Act.put, List.setIfInBounds_toArray, List.set_cons_zero, List.set_cons_succ]
  refine wpAnyH_done (by kernel_rfl) ?_ _
  refine NoPanic.normal ?_
  clear hHeld m0 m3 n0 n3
  go_wp2
  go_loopw [41] (fun u wr => ∃ j : Nat, j ≤ s.fs.length ∧ u = .int .i64 (j : Int) ∧ Below w3.heap.size w3 wr)
    (fun u _ => s.fs.length - (intOf u).toNat)
  case atStart => exact ⟨0, Nat.zero_le _, rfl, Below.refl _ _⟩
  case round =>
    obtain ⟨j, hj, rfl, hbr⟩ := hrel
    have HBR := Lib.hid hbr
    have hb0r : Below w.heap.size w wr := HB3.out.trans (hbr.mono HB3.out.size)
    have HB0 := Lib.hid hb0r
    clear hbr
    by_cases hlt : j < s.fs.length
    · obtain ⟨g, hA, hg, k1, k2, k3, _, _⟩ := HC.out j hlt
      subst hA
      obtain ⟨g5, hA5, hc5⟩ := HC5.out j hlt
      subst hA5
      have hb5 := HN5.out.lt g5 rfl
      obtain ⟨f, hf⟩ : ∃ f, f = (s.fs[j]).2 := ⟨_, rfl⟩
      obtain ⟨n, hn⟩ : ∃ n : ByteArray, n = nm (s.fs[j]).1 := ⟨_, rfl⟩
      have hnl : n.data.toList = (s.fs[j]).1 := by rw [hn]; rfl
      rw [← hn] at k1
      rw [← hf] at k2 k3
      have r1 := (hb0r.cell (p := ⟨g, j * 3, none⟩) hg).trans k1
      have r2 := (hb0r.cell (p := ⟨g, j * 3 + 1, none⟩) hg).trans k2
      have r3 := (hb0r.cell (p := ⟨g, j * 3 + 2, none⟩) hg).trans k3
      have hb1r : Below w1.heap.size w1 wr := HB13.out.trans (HBR.out.mono HB13.out.size)
      have r5 : wr.cell? ⟨g5, j, none⟩ = some (.string n) := by
        rw [hb1r.cell (p := ⟨g5, j, none⟩) hb5.2, hc5, hn]
        simp [hlt, encStr, nm]
      have hns : n.size ≤ maxLen := by
        have : n.size = n.data.toList.length := by simp
        rw [this, hnl]
        obtain ⟨mb, L, hB, _⟩ := HS.out
        have hmm : s.fs[j] ∈ mapV Prod.snd L := by rw [← hB.fs]; exact List.getElem_mem _
        obtain ⟨q, hq, e⟩ := List.mem_map.1 hmm
        rw [← e]
        exact hB.short q hq
      obtain ⟨hfo, hrd⟩ := file_at HS.out.rise hlt
      rw [← hnl, ← hf] at hfo hrd
      have hfs : (fileOf s n.data.toList).sure = f.sure := by rw [hfo]
      have HRD := Lib.hid hrd; have HFS := Lib.hid hfs
      have hba : Below wr.heap.size wr (wr.alloc (.cells #[.string n, .string (str f.data), .int .i64 (f.sure : Int)] 62)) := (Below.refl _ _).alloc (Nat.le_refl _) _
      have hbx := (MapKept.heap_alloc wr (.cells #[.string n, .string (str f.data), .int .i64 (f.sure : Int)] 62)).1
      obtain ⟨wa, hwa⟩ : ∃ wa, wa = wr.alloc (.cells #[.string n, .string (str f.data), .int .i64 (f.sure : Int)] 62) := ⟨_, rfl⟩
      have HWA := Lib.hid hwa
      rw [← hwa] at hba hbx
      have HBA := Lib.hid hba; have HBX := Lib.hid hbx
      have a5 : wa.cell? ⟨g5, j, none⟩ = some (.string n) := (hba.cell (World.block_lt_of_cell? wr _ r5)).trans r5
      have x0 : wa.cell? ⟨wr.heap.size, 0, none⟩ = some (.string n) := by simp only [World.cell?, hbx]; rfl
      have x1 : wa.cell? ⟨wr.heap.size, 1, none⟩ = some (.string (str f.data)) := by simp only [World.cell?, hbx]; rfl
      have x2 : wa.cell? ⟨wr.heap.size, 2, none⟩ = some (.int .i64 (f.sure : Int)) := by simp only [World.cell?, hbx]; rfl
      have HSA := Lib.hid (HS.out.below (hb0r.trans (hba.mono hb0r.size)))
      have hj9 : (j : Int) < (s.fs.length : Int) := by omega
      clear k1 k2 k3 hc5 hb5 hfo hrd hfs hf hn hnl hb1r hwa hba hbx hb0r
      go_upto_region 7 with fail
      rw [← HWA.out]
      clear r1 r2 r3 r5
      go_quiet (first | (go_at_call 14; refine Calls.quiet_of_same (sto_sure' (HSA.out.below (below_drewN (Below.refl _ _) _)) n hns HFS.out)))
      have hbq : Below wa.heap.size wa (wa.drewN nq) := below_drewN (Below.refl _ _) nq
      have HBQ := Lib.hid hbq
      have y0 : (wa.drewN nq).cell? ⟨wr.heap.size, 0, none⟩ = some (.string n) := (hbq.cell (World.block_lt_of_cell? wa _ x0)).trans x0
      clear hbq
      go_wp2_with fail
      refine (sto_read (HSA.out.below HBQ.out) n hns (by omega)).mono ?_
      rintro e w12 ⟨v12, rfl, ho12, hb12⟩
      have hbw : Below wa.heap.size wa w12 := HBQ.out.trans (hb12.mono HBQ.out.size)
      have z1 : w12.cell? ⟨wr.heap.size, 1, none⟩ = some (.string (str f.data)) := (hbw.cell (World.block_lt_of_cell? wa _ x1)).trans x1
      have hbr12 : Below wr.heap.size wr w12 := HBA.out.trans (hbw.mono HBA.out.size)
      have hm12 := (HM.out.below HB0.out).below hbr12
      have z3 := hm12.cell3; rw [hd] at z3
      have HBF := Lib.hid (HBR.out.trans (hbr12.mono HBR.out.size))
      clear hb12 hbw hbr12 hm12 y0 x0 x1 x2 a5
      have hrd' : readV s n.data.toList = ([], 8) := by rw [HRD.out, hd]; rfl
      rw [hrd'] at ho12 ⊢
      have ho13 : Own w12 (wa.drewN nq).heap.size v12 [] := ho12
      obtain ⟨A12, c12, rfl, _, _, _, _⟩ := ho13.form
      clear ho12 ho13
      clear hrd'
      go_wp2
      go_roundw
      case rel => exact ⟨j + 1, by omega, by go_num, HBF.out⟩
      case measure => simp [intOf]; omega
    · go_wp2
      go_ret
      exact ⟨rfl, HB0.out⟩

theorem same_ok (w : World) (S T : Nat → Prop) (sb pb : Nat) (s : St) (h : Sto w S sb s) (hm : Mod w T pb s) (hl : s.fs.length ≤ 900) (hu : used s ≤ 900000) :
    Calls Try.prog 13 #[.pointer (some ⟨sb, 0, none⟩), .pointer (some ⟨pb, 0, none⟩)] w fun e w' => e = .returned (.bool true) ∧ Below w.heap.size w w' := by
  rcases hd : s.down with _ | _
  · exact same_up w S T sb pb s h hm hl hu hd
  · exact same_dn w S T sb pb s h hm hl hu hd
end Go.Proofs.Ytdaipoelicpnoaa
