/-
  FileRuns' model: do: Cut.
-/
import Derived.Test.YtdaipoelicpnoaaFMDo
namespace Go.Proofs.Ytdaipoelicpnoaa
open Go.RowKit Go.Maps FM

set_option maxRecDepth 100000 in
set_option maxHeartbeats 4000000 in
theorem mdo_5_counts (w : World) (T : Nat → Prop) (pb : Nat) (v : Value) (s : St) (c : CallV) (B : Nat) (h : MoB w pb v s) (hp : T pb) (hold : ∀ k, v.ownBlock = some k → T k) (hlt : ∀ k, T k → k < w.heap.size) (hf : MFits w s c B) (hk : c.k = 5) (he : wrongV s c (found c.name.data.toList s.fs) = 0) (hz : 0 < s.fuse) :
    Calls Try.prog 11 #[.pointer (some ⟨pb, 0, none⟩), c.val] w (MAfter w T pb (step s c)) := by
  obtain ⟨r, hr⟩ : ∃ r, r = step s c := ⟨_, rfl⟩
  rw [← hr]
  rw [step_counts hf (by omega) he hz] at hr
  have HR := Lib.hid hr; have HE := Lib.hid he
  have HFD := Lib.hid (not_wrong_found hf (by omega) he)
  clear hr he
  have HK := Lib.hid (kind_ok (w.alloc (.cells #[.int .i64 c.kind, .int .i64 c.n, .string c.name, .string c.to, .slice c.A c.data.length c.cap] 33)) c)
  have HM := Lib.hid h; have HO := Lib.hid hold; have HT := Lib.hid hlt; have HF := Lib.hid hf
  have hba : Below w.heap.size w (w.alloc (.cells #[.int .i64 c.kind, .int .i64 c.n, .string c.name, .string c.to, .slice c.A c.data.length c.cap] 33)) := (Below.refl _ _).alloc (Nat.le_refl _) _
  have HBA := Lib.hid hba
  have HCA := Lib.hid (CallAt.alloc w c)
  have hpw : pb < w.heap.size := h.lt
  clear h hba hold hlt hf
  unfold CallV.val at *
  go_enter Try.func11, Try.ntmps11
  go_wp2_with fail
  refine HK.out.mono ?_
  rintro e w1 ⟨rfl, hb1⟩
  have HC1 := Lib.hid (HCA.out.below hb1)
  have HB1 := Lib.hid (HBA.out.trans (hb1.mono (by simp)))
  have HM1 := Lib.hid (HM.out.below HB1.out)
  clear hb1
  have k0 := HC1.out.k0; have k1 := HC1.out.k1; have k2 := HC1.out.k2; have k3 := HC1.out.k3; have k4 := HC1.out.k4
  have d6 : ((c.k : Int) == 6) = false := beq_eq_false_iff_ne.2 (by omega)
  have d7 : ((c.k : Int) == 7) = false := beq_eq_false_iff_ne.2 (by omega)
  go_wp2_with fail
  refine (mat_ok w1 pb v s c.name HM1.out (by have := HF.out.files; omega)).mono ?_
  rintro e w2 ⟨rfl, hb2⟩
  have HC2 := Lib.hid (HC1.out.below hb2)
  have HB2 := Lib.hid (HB1.out.trans (hb2.mono HB1.out.size))
  have HM2 := Lib.hid (HM1.out.below hb2)
  clear hb2 k0 k1 k2 k3 k4
  have k0 := HC2.out.k0; have k1 := HC2.out.k1; have k2 := HC2.out.k2; have k3 := HC2.out.k3; have k4 := HC2.out.k4
  go_wp2_with fail
  refine (wrong_ok w2 pb v s c (found c.name.data.toList s.fs) HM2.out (by have := HF.out.files; omega) (by have := HF.out.used; omega) HF.out.quota (by have := HF.out.data; omega)).mono ?_
  rintro e w3 ⟨rfl, hb3⟩
  have HC3 := Lib.hid (HC2.out.below hb3)
  have HB3 := Lib.hid (HB2.out.trans (hb3.mono HB2.out.size))
  have HM3 := Lib.hid (HM2.out.below hb3)
  clear hb3 k0 k1 k2 k3 k4
  have k0 := HC3.out.k0; have k1 := HC3.out.k1; have k2 := HC3.out.k2; have k3 := HC3.out.k3; have k4 := HC3.out.k4
  rw [HE.out]
  have e2 : ((c.k : Int) == 2) = false := beq_eq_false_iff_ne.2 (by omega)
  have e3 : ((c.k : Int) == 3) = false := beq_eq_false_iff_ne.2 (by omega)
  have e4 : ((c.k : Int) == 4) = false := beq_eq_false_iff_ne.2 (by omega)
  have e5 : ((c.k : Int) == 5) = true := by simp; omega
  have m2 := HM3.out.cell2; have f2 := HM3.out.frozen 2
  have hmx : max s.fuse (-1) = s.fuse := by omega
  rw [hmx] at m2
  have z1 : (s.fuse == 0) = false := by simp; omega
  have z2 : decide ((0 : Int) < s.fuse) = true := decide_eq_true hz
  have hw : wrap64 (s.fuse - 1) = s.fuse - 1 := by have := HF.out.fuse; unfold wrap64; omega
  have HM4 := Lib.hid (HM3.out.fuse (s.fuse - 1) (s.fuse - 1) (by omega))
  have HC4 := Lib.hid (HC3.out.fr (Fr.setCell (S := fun k => k = pb) (a := ⟨pb, 2, none⟩) (.int .i64 (s.fuse - 1)) rfl) (fun e : w.heap.size = pb => by omega))
  have HF4 := Lib.hid (show Fr T w (w3.setCell ⟨pb, 2, none⟩ (.int .i64 (s.fuse - 1))) from (Fr.of_below HB3.out).trans' (Fr.setCell (a := ⟨pb, 2, none⟩) _ hp))
  have HW := Lib.hid hw
  clear hmx hw
  go_upto_region 17 with fail
  rw [HW.out]
  clear m2 f2 z1 z2 k0 k1 k2 k3 k4
  generalize w3.setCell ⟨pb, 2, none⟩ (.int .i64 (s.fuse - 1)) = w4 at *
  have hs4 : ({ s with fuse := s.fuse - 1 } : St).fs = s.fs := rfl
  obtain ⟨s4, es4⟩ : ∃ s4 : St, s4 = { s with fuse := s.fuse - 1 } := ⟨_, rfl⟩
  rw [← es4] at HM4 hs4
  have HR4 : Hid (r = (0, { s4 with fs := actOf c s.fs })) := Lib.hid (by rw [HR.out, es4])
  clear es4
  have k0 := HC4.out.k0; have k1 := HC4.out.k1; have k2 := HC4.out.k2; have k3 := HC4.out.k3; have k4 := HC4.out.k4
  obtain ⟨hi, hnm⟩ := found_at HFD.out
  have hi4 : pos c.name.data.toList s.fs < s4.fs.length := by rw [hs4]; exact hi
  obtain ⟨A4, c4, hv4, _, _, _, hcell⟩ := HM4.out.own.form
  subst hv4
  obtain ⟨g, hA, hg, q1, q2, q3, fz1, fz2⟩ := hcell _ hi4
  subst hA
  have hgf : get c.name.data.toList s.fs = some (s.fs[pos c.name.data.toList s.fs]).2 := by obtain ⟨_, e⟩ := get_found HF.out.rise HFD.out; exact e
  have hfe : s4.fs[pos c.name.data.toList s.fs] = s.fs[pos c.name.data.toList s.fs] := by simp only [hs4]
  rw [hfe] at q1 q2 q3
  have hset := put_found HF.out.rise HFD.out
  have hfl : (s.fs[pos c.name.data.toList s.fs]).2.data.length ≤ 900000 := Nat.le_trans (sum_mem (fun x : File => x.data.length) (List.getElem_mem hi)) HF.out.used
  obtain ⟨f, hfd⟩ : ∃ f, f = (s.fs[pos c.name.data.toList s.fs]).2 := ⟨_, rfl⟩
  rw [← hfd] at q2 q3 hgf hfl
  obtain ⟨i, hii⟩ : ∃ i, i = pos c.name.data.toList s.fs := ⟨_, rfl⟩
  have m0 := HM4.out.cell0
  have hpbg : pb ≠ g := fun e => HM4.out.ne (by simp [Value.ownBlock, e])
  have hbg : w.heap.size ≠ g := fun e => by
    have h1 := HC4.out
    obtain ⟨cur, h2⟩ := HM4.out.own.notCells (k := g) rfl
    unfold CallAt at h1
    rw [e, h2] at h1
    simp at h1
  obtain ⟨n, hn⟩ : ∃ n, n = min c.n.toNat f.data.length := ⟨_, rfl⟩
  have hnl : n ≤ f.data.length := by omega
  have hk1 : min (max c.n 0) (f.data.length : Int) = (n : Int) := by omega
  obtain ⟨m, hm⟩ : ∃ m, m = min f.sure n := ⟨_, rfl⟩
  have hk2 : min (f.sure : Int) (n : Int) = (m : Int) := by omega
  obtain ⟨X, hX⟩ : ∃ X, X = f.data.take n := ⟨_, rfl⟩
  have hwsz : (str f.data).size = f.data.length := str_size f.data
  have qs : ∀ V, (Instr.slice 9 (.string (str f.data)) none (some (.int .i64 (n : Int))) none).run Try.prog V = .ok (.string (str X)) V := fun V => by rw [hX]; exact run_cut_str f.data n hnl V
  have hct : cutTo f c.n = ⟨X, m⟩ := by unfold cutTo; rw [← hn, ← hm, hX]
  have hw5 := ((HM4.out.below (below_drew w4)).below (below_drew _)).set hi4 ⟨X, m⟩ rfl
  have hact : actOf c s.fs = s4.fs.set (pos c.name.data.toList s.fs) ((s4.fs[pos c.name.data.toList s.fs]).1, ⟨X, m⟩) := by
    unfold actOf
    simp only [hk, hgf]
    rw [hfe, hnm]
    simp only [hs4]
    rw [← hct]
    exact hset _
  rw [← hact] at hw5
  have hfr : Fr T w (((w4.drew.drew).setCell ⟨g, pos c.name.data.toList s.fs * 3 + 1, none⟩ (.string (str X))).setCell ⟨g, pos c.name.data.toList s.fs * 3 + 2, none⟩ (.int .i64 (m : Int))) := HF4.out.trans' ((Fr.of_below (below_drew w4)).trans' ((Fr.of_below (below_drew _)).trans' ((Fr.setCell (a := ⟨g, pos c.name.data.toList s.fs * 3 + 1, none⟩) _ (HO.out g rfl)).trans' (Fr.setCell (a := ⟨g, pos c.name.data.toList s.fs * 3 + 2, none⟩) _ (HO.out g rfl)))))
  have H5 := Lib.hid hw5; have HFR := Lib.hid hfr
  have hlen4 : s4.fs.length = s.fs.length := by rw [hs4]
  clear hw5 hfr hact hset hgf hfe hcell hfd hnm hii i hct hX hn hm
  generalize pos c.name.data.toList s.fs = i at *
  have hi9 : (i : Int) < (s4.fs.length : Int) := by omega
  go_wp2
  refine wp_region_noPanic ?_
  refine wp_region_held_drew (S := fun w' => w'.cell? ⟨pb, 0, none⟩ = some (.slice (some ⟨g, 0, none⟩) s4.fs.length c4) ∧ w'.cell? ⟨g, i * 3 + 1, none⟩ = some (.string (str f.data)) ∧ w'.cell? ⟨w.heap.size, 1, none⟩ = some (.int .i64 c.n)) (by kernel_rfl) ⟨m0, q2, k1⟩ (fun hHeld => ?_)
  refine wpAnyH_take (i := 0) (v := ?va0) rfl (by kernel_rfl) (by kernel_rfl) (by kernel_rfl) (fun _ _ _ h => h) (Or.inl ⟨by rfl, ?ha0⟩) (by assumption) ?_
  case ha0 => intro w hSw; (try dsimp only at hSw); go_simp; try with_reducible rfl
  simp only [List.getElem_toArray, List.getElem_cons_zero, Act.put, List.setIfInBounds_toArray, List.set_cons_zero, List.set_cons_succ]
  refine wpAnyH_take (i := 1) (v := ?va1) rfl (by kernel_rfl) (by kernel_rfl) (by kernel_rfl) (fun _ _ _ h => h) (Or.inl ⟨by rfl, ?ha1⟩) (by assumption) ?_
  case ha1 => intro w hSw; (try dsimp only at hSw); go_simp; try with_reducible rfl
  simp only [List.getElem_toArray, List.getElem_cons_succ, List.getElem_cons_zero, Act.put, List.setIfInBounds_toArray, List.set_cons_zero, List.set_cons_succ]
  refine wpAnyH_take (i := 2) (v := ?va2) rfl (by kernel_rfl) (by kernel_rfl) (by kernel_rfl) (fun _ _ _ h => h) (Or.inl ⟨by rfl, ?ha2⟩) (by assumption) ?_
  case ha2 => intro w hSw; (try dsimp only at hSw); go_simp; try with_reducible rfl
  simp only [List.getElem_toArray, List.getElem_cons_succ, List.getElem_cons_zero, Act.put, List.setIfInBounds_toArray, List.set_cons_zero, List.set_cons_succ]
  refine wpAnyH_take (i := 3) (v := ?va3) rfl (by kernel_rfl) (by kernel_rfl) (by kernel_rfl) (fun _ _ _ h => h) (Or.inl ⟨by rfl, ?ha3⟩) (by assumption) ?_
  case ha3 => intro w hSw; (try dsimp only at hSw); go_simp; try with_reducible rfl
  simp only [List.getElem_toArray, List.getElem_cons_succ, List.getElem_cons_zero, Act.put, List.setIfInBounds_toArray, List.set_cons_zero, List.set_cons_succ]
  refine wpAnyH_take (i := 4) (v := ?va4) rfl (by kernel_rfl) (by kernel_rfl) (by kernel_rfl) (fun _ _ _ h => h) (Or.inl ⟨by rfl, ?ha4⟩) (by assumption) ?_
  case ha4 => intro w hSw; (try dsimp only at hSw); go_simp; try with_reducible rfl
  simp only [List.getElem_toArray, List.getElem_cons_succ, List.getElem_cons_zero, Act.put, List.setIfInBounds_toArray, List.set_cons_zero, List.set_cons_succ]
  refine wpAnyH_take (i := 5) (v := ?va5) rfl (by kernel_rfl) (by kernel_rfl) (by kernel_rfl) (fun _ _ _ h => h) (Or.inl ⟨by rfl, ?ha5⟩) (by assumption) ?_
  case ha5 => intro w hSw; (try dsimp only at hSw); go_simp; try with_reducible rfl
  simp only [List.getElem_toArray, List.getElem_cons_succ, List.getElem_cons_zero, Act.put, List.setIfInBounds_toArray, List.set_cons_zero, List.set_cons_succ]
  refine wpAnyH_take (i := 6) (v := ?va6) rfl (by kernel_rfl) (by kernel_rfl) (by kernel_rfl) (fun _ _ _ h => h) (Or.inl ⟨by rfl, ?ha6⟩) (by assumption) ?_
  case ha6 => intro w hSw; (try dsimp only at hSw); go_simp; try with_reducible rfl
  simp only [List.getElem_toArray, List.getElem_cons_succ, List.getElem_cons_zero, Act.put, List.setIfInBounds_toArray, List.set_cons_zero, List.set_cons_succ]
  refine wpAnyH_take (i := 7) (v := ?va7) rfl (by kernel_rfl) (by kernel_rfl) (by kernel_rfl) (fun _ _ _ h => h) (Or.inl ⟨by rfl, ?ha7⟩) (by assumption) ?_
  case ha7 => intro w hSw; (try dsimp only at hSw); go_simp; try with_reducible rfl
  simp only [List.getElem_toArray, List.getElem_cons_succ, List.getElem_cons_zero, Act.put, List.setIfInBounds_toArray, List.set_cons_zero, List.set_cons_succ]
  refine wpAnyH_take (i := 8) (v := ?va8) rfl (by kernel_rfl) (by kernel_rfl) (by kernel_rfl) (fun _ _ _ h => h) (Or.inl ⟨by rfl, ?ha8⟩) (by assumption) ?_
  case ha8 => intro w hSw; (try dsimp only at hSw); go_simp; try with_reducible rfl
  simp only [List.getElem_toArray, List.getElem_cons_succ, List.getElem_cons_zero, Act.put, List.setIfInBounds_toArray, List.set_cons_zero, List.set_cons_succ]
  refine wpAnyH_take (i := 9) (v := ?va9) rfl (by kernel_rfl) (by kernel_rfl) (by kernel_rfl) (fun _ _ _ h => h) (Or.inl ⟨by rfl, ?ha9⟩) (by assumption) ?_
  case ha9 => intro w hSw; (try dsimp only at hSw); go_simp; try with_reducible rfl
  simp only [List.getElem_toArray, List.getElem_cons_succ, List.getElem_cons_zero, Act.put, List.setIfInBounds_toArray, List.set_cons_zero, List.set_cons_succ]
  refine wpAnyH_take (i := 10) (v := ?va10) rfl (by kernel_rfl) (by kernel_rfl) (by kernel_rfl) (fun _ _ _ h => h) (Or.inl ⟨by rfl, ?ha10⟩) (by assumption) ?_
  case ha10 => intro w hSw; (try dsimp only at hSw); go_simp; try with_reducible rfl
  simp only [List.getElem_toArray, List.getElem_cons_succ, List.getElem_cons_zero, Act.put, List.setIfInBounds_toArray, List.set_cons_zero, List.set_cons_succ]
  refine wpAnyH_take (i := 11) (v := ?va11) rfl (by kernel_rfl) (by kernel_rfl) (by kernel_rfl) (fun _ _ _ h => h) (Or.inl ⟨by rfl, ?ha11⟩) (by assumption) ?_
  case ha11 => intro w hSw; (try dsimp only at hSw); go_simp; try with_reducible rfl
  simp only [List.getElem_toArray, List.getElem_cons_succ, List.getElem_cons_zero, Act.put, List.setIfInBounds_toArray, List.set_cons_zero, List.set_cons_succ]
  refine wpAnyH_take (i := 12) (v := ?va12) rfl (by kernel_rfl) (by kernel_rfl) (by kernel_rfl) (fun _ _ _ h => h) (Or.inl ⟨by rfl, ?ha12⟩) (by assumption) ?_
  case ha12 => intro w hSw; (try dsimp only at hSw); go_simp; try with_reducible rfl
  simp only [List.getElem_toArray, List.getElem_cons_succ, List.getElem_cons_zero, Act.put, List.setIfInBounds_toArray, List.set_cons_zero, List.set_cons_succ]
  refine wpAnyH_take (i := 13) (v := ?va13) rfl (by kernel_rfl) (by kernel_rfl) (by kernel_rfl) (fun _ _ _ h => h) (Or.inl ⟨by rfl, ?ha13⟩) (by assumption) ?_
  case ha13 => intro w hSw; (try dsimp only at hSw); go_simp; try with_reducible rfl
  simp only [List.getElem_toArray, List.getElem_cons_succ, List.getElem_cons_zero, Act.put, List.setIfInBounds_toArray, List.set_cons_zero, List.set_cons_succ]
  refine wpAnyH_done (by kernel_rfl) ?_ _
  refine NoPanic.normal ?_
  clear hHeld
  go_wp2
  refine wp_region_noPanic ?_
  refine wp_region_held_drew (S := fun w' => w'.cell? ⟨pb, 0, none⟩ = some (.slice (some ⟨g, 0, none⟩) s4.fs.length c4)) (by kernel_rfl) m0 (fun hHeld => ?_)
  refine wpAnyH_take (i := 0) (v := ?vb0) rfl (by kernel_rfl) (by kernel_rfl) (by kernel_rfl) (fun _ _ _ h => h) (Or.inl ⟨by rfl, ?hb0⟩) (by assumption) ?_
  case hb0 => intro w hSw; (try dsimp only at hSw); go_simp; try with_reducible rfl
  simp only [List.getElem_toArray, List.getElem_cons_zero, Act.put, List.setIfInBounds_toArray, List.set_cons_zero, List.set_cons_succ]
  refine wpAnyH_take (i := 1) (v := ?vb1) rfl (by kernel_rfl) (by kernel_rfl) (by kernel_rfl) (fun _ _ _ h => h) (Or.inl ⟨by rfl, ?hb1⟩) (by assumption) ?_
  case hb1 => intro w hSw; (try dsimp only at hSw); go_simp; try with_reducible rfl
  simp only [List.getElem_toArray, List.getElem_cons_succ, List.getElem_cons_zero, Act.put, List.setIfInBounds_toArray, List.set_cons_zero, List.set_cons_succ]
  refine wpAnyH_take (i := 2) (v := ?vb2) rfl (by kernel_rfl) (by kernel_rfl) (by kernel_rfl) (fun _ _ _ h => h) (Or.inl ⟨by rfl, ?hb2⟩) (by assumption) ?_
  case hb2 => intro w hSw; (try dsimp only at hSw); go_simp; try with_reducible rfl
  simp only [List.getElem_toArray, List.getElem_cons_succ, List.getElem_cons_zero, Act.put, List.setIfInBounds_toArray, List.set_cons_zero, List.set_cons_succ]
  refine wpAnyH_take (i := 3) (v := ?vb3) rfl (by kernel_rfl) (by kernel_rfl) (by kernel_rfl) (fun _ _ _ h => h) (Or.inl ⟨by rfl, ?hb3⟩) (by assumption) ?_
  case hb3 => intro w hSw; (try dsimp only at hSw); go_simp; try with_reducible rfl
  simp only [List.getElem_toArray, List.getElem_cons_succ, List.getElem_cons_zero, Act.put, List.setIfInBounds_toArray, List.set_cons_zero, List.set_cons_succ]
  refine wpAnyH_take (i := 4) (v := ?vb4) rfl (by kernel_rfl) (by kernel_rfl) (by kernel_rfl) (fun _ _ _ h => h) (Or.inl ⟨by rfl, ?hb4⟩) (by assumption) ?_
  case hb4 => intro w hSw; (try dsimp only at hSw); go_simp; try with_reducible rfl
  simp only [List.getElem_toArray, List.getElem_cons_succ, List.getElem_cons_zero, Act.put, List.setIfInBounds_toArray, List.set_cons_zero, List.set_cons_succ]
  refine wpAnyH_take (i := 5) (v := ?vb5) rfl (by kernel_rfl) (by kernel_rfl) (by kernel_rfl) (fun _ _ _ h => h) (Or.inl ⟨by rfl, ?hb5⟩) (by assumption) ?_
  case hb5 => intro w hSw; (try dsimp only at hSw); go_simp; try with_reducible rfl
  simp only [List.getElem_toArray, List.getElem_cons_succ, List.getElem_cons_zero, Act.put, List.setIfInBounds_toArray, List.set_cons_zero, List.set_cons_succ]
  refine wpAnyH_take (i := 6) (v := ?vb6) rfl (by kernel_rfl) (by kernel_rfl) (by kernel_rfl) (fun _ _ _ h => h) (Or.inl ⟨by rfl, ?hb6⟩) (by assumption) ?_
  case hb6 => intro w hSw; (try dsimp only at hSw); go_simp; try with_reducible rfl
  simp only [List.getElem_toArray, List.getElem_cons_succ, List.getElem_cons_zero, Act.put, List.setIfInBounds_toArray, List.set_cons_zero, List.set_cons_succ]
  refine wpAnyH_take (i := 7) (v := ?vb7) rfl (by kernel_rfl) (by kernel_rfl) (by kernel_rfl) (fun _ _ _ h => h) (Or.inl ⟨by rfl, ?hb7⟩) (by assumption) ?_
  case hb7 => intro w hSw; (try dsimp only at hSw); go_simp; try with_reducible rfl
  simp only [List.getElem_toArray, List.getElem_cons_succ, List.getElem_cons_zero, Act.put, List.setIfInBounds_toArray, List.set_cons_zero, List.set_cons_succ]
  refine wpAnyH_take (i := 8) (v := ?vb8) rfl (by kernel_rfl) (by kernel_rfl) (by kernel_rfl) (fun _ _ _ h => h) (Or.inl ⟨by rfl, ?hb8⟩) (by assumption) ?_
  case hb8 => intro w hSw; (try dsimp only at hSw); go_simp; try with_reducible rfl
  simp only [List.getElem_toArray, List.getElem_cons_succ, List.getElem_cons_zero, Act.put, List.setIfInBounds_toArray, List.set_cons_zero, List.set_cons_succ]
  refine wpAnyH_take (i := 9) (v := ?vb9) rfl (by kernel_rfl) (by kernel_rfl) (by kernel_rfl) (fun _ _ _ h => h) (Or.inl ⟨by rfl, ?hb9⟩) (by assumption) ?_
  case hb9 => intro w hSw; (try dsimp only at hSw); go_simp; try with_reducible rfl
  simp only [List.getElem_toArray, List.getElem_cons_succ, List.getElem_cons_zero, Act.put, List.setIfInBounds_toArray, List.set_cons_zero, List.set_cons_succ]
  refine wpAnyH_take (i := 10) (v := ?vb10) rfl (by kernel_rfl) (by kernel_rfl) (by kernel_rfl) (fun _ _ _ h => h) (Or.inl ⟨by rfl, ?hb10⟩) (by assumption) ?_
  case hb10 => intro w hSw; (try dsimp only at hSw); go_simp; try with_reducible rfl
  simp only [List.getElem_toArray, List.getElem_cons_succ, List.getElem_cons_zero, Act.put, List.setIfInBounds_toArray, List.set_cons_zero, List.set_cons_succ]
  refine wpAnyH_take (i := 11) (v := ?vb11) rfl (by kernel_rfl) (by kernel_rfl) (by kernel_rfl) (fun _ _ _ h => h) (Or.inl ⟨by rfl, ?hb11⟩) (by assumption) ?_
  case hb11 => intro w hSw; (try dsimp only at hSw); go_simp; try with_reducible rfl
  simp only [List.getElem_toArray, List.getElem_cons_succ, List.getElem_cons_zero, Act.put, List.setIfInBounds_toArray, List.set_cons_zero, List.set_cons_succ]
  refine wpAnyH_take (i := 12) (v := ?vb12) rfl (by kernel_rfl) (by kernel_rfl) (by kernel_rfl) (fun _ _ _ h => h) (Or.inl ⟨by rfl, ?hb12⟩) (by assumption) ?_
  case hb12 => intro w hSw; (try dsimp only at hSw); go_simp; try with_reducible rfl
  simp only [List.getElem_toArray, List.getElem_cons_succ, List.getElem_cons_zero, Act.put, List.setIfInBounds_toArray, List.set_cons_zero, List.set_cons_succ]
  refine wpAnyH_take (i := 13) (v := ?vb13) rfl (by kernel_rfl) (by kernel_rfl) (by kernel_rfl) (fun _ _ _ h => h) (Or.inl ⟨by rfl, ?hb13⟩) (by assumption) ?_
  case hb13 => intro w hSw; (try dsimp only at hSw); go_simp; try with_reducible rfl
  simp only [List.getElem_toArray, List.getElem_cons_succ, List.getElem_cons_zero, Act.put, List.setIfInBounds_toArray, List.set_cons_zero, List.set_cons_succ]
  refine wpAnyH_take (i := 14) (v := ?vb14) rfl (by kernel_rfl) (by kernel_rfl) (by kernel_rfl) (fun _ _ _ h => h) (Or.inl ⟨by rfl, ?hb14⟩) (by assumption) ?_
  case hb14 => intro w hSw; (try dsimp only at hSw); go_simp; try with_reducible rfl
  simp only [List.getElem_toArray, List.getElem_cons_succ, List.getElem_cons_zero, Act.put, List.setIfInBounds_toArray, List.set_cons_zero, List.set_cons_succ]
  refine wpAnyH_take (i := 15) (v := ?vb15) rfl (by kernel_rfl) (by kernel_rfl) (by kernel_rfl) (fun _ _ _ h => h) (Or.inl ⟨by rfl, ?hb15⟩) (by assumption) ?_
  case hb15 => intro w hSw; (try dsimp only at hSw); go_simp; try with_reducible rfl
  simp only [List.getElem_toArray, List.getElem_cons_succ, List.getElem_cons_zero, Act.put, List.setIfInBounds_toArray, List.set_cons_zero, List.set_cons_succ]
  refine wpAnyH_take (i := 16) (v := ?vb16) rfl (by kernel_rfl) (by kernel_rfl) (by kernel_rfl) (fun _ _ _ h => h) (Or.inl ⟨by rfl, ?hb16⟩) (by assumption) ?_
  case hb16 => intro w hSw; (try dsimp only at hSw); go_simp; try with_reducible rfl
  simp only [List.getElem_toArray, List.getElem_cons_succ, List.getElem_cons_zero, Act.put, List.setIfInBounds_toArray, List.set_cons_zero, List.set_cons_succ]
  refine wpAnyH_take (i := 18) (v := ?vb18) rfl (by kernel_rfl) (by kernel_rfl) (by kernel_rfl) (fun _ _ _ h => h) (Or.inl ⟨by rfl, ?hb18⟩) (by assumption) ?_
  case hb18 => intro w hSw; (try dsimp only at hSw); go_simp; try with_reducible rfl
  simp only [List.getElem_toArray, List.getElem_cons_succ, List.getElem_cons_zero, Act.put, List.setIfInBounds_toArray, List.set_cons_zero, List.set_cons_succ]
  refine wpAnyH_take (i := 20) (v := ?vb20) rfl (by kernel_rfl) (by kernel_rfl) (by kernel_rfl) (fun _ _ _ h => h) (Or.inl ⟨by rfl, ?hb20⟩) (by assumption) ?_
  case hb20 => intro w hSw; (try dsimp only at hSw); go_simp; try with_reducible rfl
  simp only [List.getElem_toArray, List.getElem_cons_succ, List.getElem_cons_zero, Act.put, List.setIfInBounds_toArray, List.set_cons_zero, List.set_cons_succ]
  refine wpAnyH_take (i := 21) (v := ?vb21) rfl (by kernel_rfl) (by kernel_rfl) (by kernel_rfl) (fun _ _ _ h => h) (Or.inl ⟨by rfl, ?hb21⟩) (by assumption) ?_
  case hb21 => intro w hSw; (try dsimp only at hSw); go_simp; try with_reducible rfl
  simp only [List.getElem_toArray, List.getElem_cons_succ, List.getElem_cons_zero, Act.put, List.setIfInBounds_toArray, List.set_cons_zero, List.set_cons_succ]
  refine wpAnyH_take (i := 22) (v := ?vb22) rfl (by kernel_rfl) (by kernel_rfl) (by kernel_rfl) (fun _ _ _ h => h) (Or.inl ⟨by rfl, ?hb22⟩) (by assumption) ?_
  case hb22 => intro w hSw; (try dsimp only at hSw); go_simp; try with_reducible rfl
  simp only [List.getElem_toArray, List.getElem_cons_succ, List.getElem_cons_zero, Act.put, List.setIfInBounds_toArray, List.set_cons_zero, List.set_cons_succ]
  refine wpAnyH_take (i := 23) (v := ?vb23) rfl (by kernel_rfl) (by kernel_rfl) (by kernel_rfl) (fun _ _ _ h => h) (Or.inl ⟨by rfl, ?hb23⟩) (by assumption) ?_
  case hb23 => intro w hSw; (try dsimp only at hSw); go_simp; try with_reducible rfl
  simp only [List.getElem_toArray, List.getElem_cons_succ, List.getElem_cons_zero, Act.put, List.setIfInBounds_toArray, List.set_cons_zero, List.set_cons_succ]
  refine wpAnyH_take (i := 24) (v := ?vb24) rfl (by kernel_rfl) (by kernel_rfl) (by kernel_rfl) (fun _ _ _ h => h) (Or.inl ⟨by rfl, ?hb24⟩) (by assumption) ?_
  case hb24 => intro w hSw; (try dsimp only at hSw); go_simp; try with_reducible rfl
  simp only [List.getElem_toArray, List.getElem_cons_succ, List.getElem_cons_zero, Act.put, List.setIfInBounds_toArray, List.set_cons_zero, List.set_cons_succ]
  refine wpAnyH_take (i := 25) (v := ?vb25) rfl (by kernel_rfl) (by kernel_rfl) (by kernel_rfl) (fun _ _ _ h => h) (Or.inl ⟨by rfl, ?hb25⟩) (by assumption) ?_
  case hb25 => intro w hSw; (try dsimp only at hSw); go_simp; try with_reducible rfl
  simp only [List.getElem_toArray, List.getElem_cons_succ, List.getElem_cons_zero, Act.put, List.setIfInBounds_toArray, List.set_cons_zero, List.set_cons_succ]
  refine wpAnyH_take (i := 26) (v := ?vb26) rfl (by kernel_rfl) (by kernel_rfl) (by kernel_rfl) (fun _ _ _ h => h) (Or.inl ⟨by rfl, ?hb26⟩) (by assumption) ?_
  case hb26 => intro w hSw; (try dsimp only at hSw); go_simp; try with_reducible rfl
  simp only [List.getElem_toArray, List.getElem_cons_succ, List.getElem_cons_zero, Act.put, List.setIfInBounds_toArray, List.set_cons_zero, List.set_cons_succ]
  refine wpAnyH_take (i := 28) (v := ?vb28) rfl (by kernel_rfl) (by kernel_rfl) (by kernel_rfl) (fun _ _ _ h => h) (Or.inl ⟨by rfl, ?hb28⟩) (by assumption) ?_
  case hb28 => intro w hSw; (try dsimp only at hSw); go_simp; try with_reducible rfl
  simp only [List.getElem_toArray, List.getElem_cons_succ, List.getElem_cons_zero, Act.put, List.setIfInBounds_toArray, List.set_cons_zero, List.set_cons_succ]
  refine wpAnyH_ready (rs := [17, 27]) (by kernel_rfl) (by simp) ?_
  refine AllReadyH.cons rfl (fun K hK => ?_) (AllReadyH.cons rfl (fun K hK => ?_) AllReadyH.nil)
  · go_simp
    refine hK.out _ _ ?_ (fun hHeld => ?_)
    · exact m0
    clear hK K
    refine wpAnyH_take (i := 19) (v := ?vc19) rfl (by kernel_rfl) (by kernel_rfl) (by kernel_rfl) (fun _ _ _ h => h) (Or.inl ⟨by rfl, ?hc19⟩) (by assumption) ?_
    case hc19 => intro w hSw; (try dsimp only at hSw); go_simp; try with_reducible rfl
    simp only [List.getElem_toArray, List.getElem_cons_succ, List.getElem_cons_zero, Act.put, List.setIfInBounds_toArray, List.set_cons_zero, List.set_cons_succ]
    refine wpAnyH_ready (rs := [27]) (by kernel_rfl) (by simp) ?_
    refine AllReadyH.cons rfl (fun K hK => ?_) AllReadyH.nil
    go_simp
    refine hK.out _ _ ?_ (fun hHeld => ?_)
    · exact m0
    clear hK K
    refine wpAnyH_take (i := 29) (v := ?vd29) rfl (by kernel_rfl) (by kernel_rfl) (by kernel_rfl) (fun _ _ _ h => h) (Or.inl ⟨by rfl, ?hd29⟩) (by assumption) ?_
    case hd29 => intro w hSw; (try dsimp only at hSw); go_simp; try with_reducible rfl
    simp only [List.getElem_toArray, List.getElem_cons_succ, List.getElem_cons_zero, Act.put, List.setIfInBounds_toArray, List.set_cons_zero, List.set_cons_succ]
    refine wpAnyH_take (i := 30) (v := ?ve30) rfl (by kernel_rfl) (by kernel_rfl) (by kernel_rfl) (fun _ _ _ h => h) (Or.inl ⟨by rfl, ?he30⟩) (by assumption) ?_
    case he30 => intro w hSw; (try dsimp only at hSw); go_simp; try with_reducible rfl
    simp only [List.getElem_toArray, List.getElem_cons_succ, List.getElem_cons_zero, Act.put, List.setIfInBounds_toArray, List.set_cons_zero, List.set_cons_succ]
    refine wpAnyH_take (i := 31) (v := ?ve31) rfl (by kernel_rfl) (by kernel_rfl) (by kernel_rfl) (fun _ _ _ h => h) (Or.inl ⟨by rfl, ?he31⟩) (by assumption) ?_
    case he31 => intro w hSw; (try dsimp only at hSw); go_simp; try with_reducible rfl
    simp only [List.getElem_toArray, List.getElem_cons_succ, List.getElem_cons_zero, Act.put, List.setIfInBounds_toArray, List.set_cons_zero, List.set_cons_succ]
    refine wpAnyH_ready (rs := [32]) (by kernel_rfl) (by simp) ?_
    refine AllReadyH.cons rfl (fun K hK => ?_) AllReadyH.nil
    go_simp
    refine hK.out _ _ ?_ (fun hHeld => ?_)
    · exact (World.cell?_setCell_other _ _ _ _ (addr_ne hpbg.symm)).trans m0
    clear hK K
    refine wpAnyH_take (i := 33) (v := ?vf33) rfl (by kernel_rfl) (by kernel_rfl) (by kernel_rfl) (fun _ _ _ h => h) (Or.inl ⟨by rfl, ?hf33⟩) (by assumption) ?_
    case hf33 => intro w hSw; (try dsimp only at hSw); go_simp; try with_reducible rfl
    simp only [List.getElem_toArray, List.getElem_cons_succ, List.getElem_cons_zero, Act.put, List.setIfInBounds_toArray, List.set_cons_zero, List.set_cons_succ]
    refine wpAnyH_take (i := 34) (v := ?vf34) rfl (by kernel_rfl) (by kernel_rfl) (by kernel_rfl) (fun _ _ _ h => h) (Or.inl ⟨by rfl, ?hf34⟩) (by assumption) ?_
    case hf34 => intro w hSw; (try dsimp only at hSw); go_simp; try with_reducible rfl
    simp only [List.getElem_toArray, List.getElem_cons_succ, List.getElem_cons_zero, Act.put, List.setIfInBounds_toArray, List.set_cons_zero, List.set_cons_succ]
    refine wpAnyH_ready (rs := [35]) (by kernel_rfl) (by simp) ?_
    refine AllReadyH.cons rfl (fun K hK => ?_) AllReadyH.nil
    go_simp
    refine hK.out _ _ ?_ (fun hHeld => ?_)
    · exact (World.cell?_setCell_other _ _ _ _ (addr_ne hpbg.symm)).trans ((World.cell?_setCell_other _ _ _ _ (addr_ne hpbg.symm)).trans m0)
    clear hK K
    refine wpAnyH_done (by kernel_rfl) ?_ _
    refine NoPanic.normal ?_
    clear hHeld k0 k1 k2 k3 k4
    go_wp2
    go_ret
    rw [HR4.out]
    exact ⟨rfl, Mod.mk_after H5.out hp (fun k hk => .inl (HO.out k hk)) HT.out HFR.out.size, HFR.out⟩
  · go_simp
    refine hK.out _ _ ?_ (fun hHeld => ?_)
    · exact m0
    clear hK K
    refine wpAnyH_take (i := 29) (v := ?vg29) rfl (by kernel_rfl) (by kernel_rfl) (by kernel_rfl) (fun _ _ _ h => h) (Or.inl ⟨by rfl, ?hg29⟩) (by assumption) ?_
    case hg29 => intro w hSw; (try dsimp only at hSw); go_simp; try with_reducible rfl
    simp only [List.getElem_toArray, List.getElem_cons_succ, List.getElem_cons_zero, Act.put, List.setIfInBounds_toArray, List.set_cons_zero, List.set_cons_succ]
    refine wpAnyH_ready (rs := [17]) (by kernel_rfl) (by simp) ?_
    refine AllReadyH.cons rfl (fun K hK => ?_) AllReadyH.nil
    go_simp
    refine hK.out _ _ ?_ (fun hHeld => ?_)
    · exact m0
    clear hK K
    refine wpAnyH_take (i := 19) (v := ?vh19) rfl (by kernel_rfl) (by kernel_rfl) (by kernel_rfl) (fun _ _ _ h => h) (Or.inl ⟨by rfl, ?hh19⟩) (by assumption) ?_
    case hh19 => intro w hSw; (try dsimp only at hSw); go_simp; try with_reducible rfl
    simp only [List.getElem_toArray, List.getElem_cons_succ, List.getElem_cons_zero, Act.put, List.setIfInBounds_toArray, List.set_cons_zero, List.set_cons_succ]
    refine wpAnyH_take (i := 30) (v := ?vi30) rfl (by kernel_rfl) (by kernel_rfl) (by kernel_rfl) (fun _ _ _ h => h) (Or.inl ⟨by rfl, ?hi30⟩) (by assumption) ?_
    case hi30 => intro w hSw; (try dsimp only at hSw); go_simp; try with_reducible rfl
    simp only [List.getElem_toArray, List.getElem_cons_succ, List.getElem_cons_zero, Act.put, List.setIfInBounds_toArray, List.set_cons_zero, List.set_cons_succ]
    refine wpAnyH_take (i := 31) (v := ?vi31) rfl (by kernel_rfl) (by kernel_rfl) (by kernel_rfl) (fun _ _ _ h => h) (Or.inl ⟨by rfl, ?hi31⟩) (by assumption) ?_
    case hi31 => intro w hSw; (try dsimp only at hSw); go_simp; try with_reducible rfl
    simp only [List.getElem_toArray, List.getElem_cons_succ, List.getElem_cons_zero, Act.put, List.setIfInBounds_toArray, List.set_cons_zero, List.set_cons_succ]
    refine wpAnyH_ready (rs := [32]) (by kernel_rfl) (by simp) ?_
    refine AllReadyH.cons rfl (fun K hK => ?_) AllReadyH.nil
    go_simp
    refine hK.out _ _ ?_ (fun hHeld => ?_)
    · exact (World.cell?_setCell_other _ _ _ _ (addr_ne hpbg.symm)).trans m0
    clear hK K
    refine wpAnyH_take (i := 33) (v := ?vj33) rfl (by kernel_rfl) (by kernel_rfl) (by kernel_rfl) (fun _ _ _ h => h) (Or.inl ⟨by rfl, ?hj33⟩) (by assumption) ?_
    case hj33 => intro w hSw; (try dsimp only at hSw); go_simp; try with_reducible rfl
    simp only [List.getElem_toArray, List.getElem_cons_succ, List.getElem_cons_zero, Act.put, List.setIfInBounds_toArray, List.set_cons_zero, List.set_cons_succ]
    refine wpAnyH_take (i := 34) (v := ?vj34) rfl (by kernel_rfl) (by kernel_rfl) (by kernel_rfl) (fun _ _ _ h => h) (Or.inl ⟨by rfl, ?hj34⟩) (by assumption) ?_
    case hj34 => intro w hSw; (try dsimp only at hSw); go_simp; try with_reducible rfl
    simp only [List.getElem_toArray, List.getElem_cons_succ, List.getElem_cons_zero, Act.put, List.setIfInBounds_toArray, List.set_cons_zero, List.set_cons_succ]
    refine wpAnyH_ready (rs := [35]) (by kernel_rfl) (by simp) ?_
    refine AllReadyH.cons rfl (fun K hK => ?_) AllReadyH.nil
    go_simp
    refine hK.out _ _ ?_ (fun hHeld => ?_)
    · exact (World.cell?_setCell_other _ _ _ _ (addr_ne hpbg.symm)).trans ((World.cell?_setCell_other _ _ _ _ (addr_ne hpbg.symm)).trans m0)
    clear hK K
    refine wpAnyH_done (by kernel_rfl) ?_ _
    refine NoPanic.normal ?_
    clear hHeld k0 k1 k2 k3 k4
    go_wp2
    go_ret
    rw [HR4.out]
    exact ⟨rfl, Mod.mk_after H5.out hp (fun k hk => .inl (HO.out k hk)) HT.out HFR.out.size, HFR.out⟩

set_option maxRecDepth 100000 in
set_option maxHeartbeats 4000000 in
theorem mdo_5_free (w : World) (T : Nat → Prop) (pb : Nat) (v : Value) (s : St) (c : CallV) (B : Nat) (h : MoB w pb v s) (hp : T pb) (hold : ∀ k, v.ownBlock = some k → T k) (hlt : ∀ k, T k → k < w.heap.size) (hf : MFits w s c B) (hk : c.k = 5) (he : wrongV s c (found c.name.data.toList s.fs) = 0) (hz : s.fuse < 0) :
    Calls Try.prog 11 #[.pointer (some ⟨pb, 0, none⟩), c.val] w (MAfter w T pb (step s c)) := by
  obtain ⟨r, hr⟩ : ∃ r, r = step s c := ⟨_, rfl⟩
  rw [← hr]
  rw [step_free hf (by omega) he hz] at hr
  have HR := Lib.hid hr; have HE := Lib.hid he
  have HFD := Lib.hid (not_wrong_found hf (by omega) he)
  clear hr he
  have HK := Lib.hid (kind_ok (w.alloc (.cells #[.int .i64 c.kind, .int .i64 c.n, .string c.name, .string c.to, .slice c.A c.data.length c.cap] 33)) c)
  have HM := Lib.hid h; have HO := Lib.hid hold; have HT := Lib.hid hlt; have HF := Lib.hid hf
  have hba : Below w.heap.size w (w.alloc (.cells #[.int .i64 c.kind, .int .i64 c.n, .string c.name, .string c.to, .slice c.A c.data.length c.cap] 33)) := (Below.refl _ _).alloc (Nat.le_refl _) _
  have HBA := Lib.hid hba
  have HCA := Lib.hid (CallAt.alloc w c)
  have hpw : pb < w.heap.size := h.lt
  clear h hba hold hlt hf
  unfold CallV.val at *
  go_enter Try.func11, Try.ntmps11
  go_wp2_with fail
  refine HK.out.mono ?_
  rintro e w1 ⟨rfl, hb1⟩
  have HC1 := Lib.hid (HCA.out.below hb1)
  have HB1 := Lib.hid (HBA.out.trans (hb1.mono (by simp)))
  have HM1 := Lib.hid (HM.out.below HB1.out)
  clear hb1
  have k0 := HC1.out.k0; have k1 := HC1.out.k1; have k2 := HC1.out.k2; have k3 := HC1.out.k3; have k4 := HC1.out.k4
  have d6 : ((c.k : Int) == 6) = false := beq_eq_false_iff_ne.2 (by omega)
  have d7 : ((c.k : Int) == 7) = false := beq_eq_false_iff_ne.2 (by omega)
  go_wp2_with fail
  refine (mat_ok w1 pb v s c.name HM1.out (by have := HF.out.files; omega)).mono ?_
  rintro e w2 ⟨rfl, hb2⟩
  have HC2 := Lib.hid (HC1.out.below hb2)
  have HB2 := Lib.hid (HB1.out.trans (hb2.mono HB1.out.size))
  have HM2 := Lib.hid (HM1.out.below hb2)
  clear hb2 k0 k1 k2 k3 k4
  have k0 := HC2.out.k0; have k1 := HC2.out.k1; have k2 := HC2.out.k2; have k3 := HC2.out.k3; have k4 := HC2.out.k4
  go_wp2_with fail
  refine (wrong_ok w2 pb v s c (found c.name.data.toList s.fs) HM2.out (by have := HF.out.files; omega) (by have := HF.out.used; omega) HF.out.quota (by have := HF.out.data; omega)).mono ?_
  rintro e w3 ⟨rfl, hb3⟩
  have HC3 := Lib.hid (HC2.out.below hb3)
  have HB3 := Lib.hid (HB2.out.trans (hb3.mono HB2.out.size))
  have HM3 := Lib.hid (HM2.out.below hb3)
  clear hb3 k0 k1 k2 k3 k4
  have k0 := HC3.out.k0; have k1 := HC3.out.k1; have k2 := HC3.out.k2; have k3 := HC3.out.k3; have k4 := HC3.out.k4
  rw [HE.out]
  have e2 : ((c.k : Int) == 2) = false := beq_eq_false_iff_ne.2 (by omega)
  have e3 : ((c.k : Int) == 3) = false := beq_eq_false_iff_ne.2 (by omega)
  have e4 : ((c.k : Int) == 4) = false := beq_eq_false_iff_ne.2 (by omega)
  have e5 : ((c.k : Int) == 5) = true := by simp; omega
  have m2 := HM3.out.cell2
  have hmx : max s.fuse (-1) = -1 := by omega
  rw [hmx] at m2
  have HM4 := HM3
  have HC4 := HC3
  have HF4 := Lib.hid (show Fr T w w3 from Fr.of_below HB3.out)
  clear hmx
  go_upto_region 17 with fail
  clear m2 k0 k1 k2 k3 k4
  obtain ⟨w4, ew4⟩ : ∃ w4, w4 = w3 := ⟨_, rfl⟩
  rw [← ew4] at HM4 HC4 HF4 ⊢
  clear ew4
  obtain ⟨s4, es4⟩ : ∃ s4 : St, s4 = s := ⟨_, rfl⟩
  rw [← es4] at HM4
  have hs4 : s4.fs = s.fs := by rw [es4]
  have HR4 : Hid (r = (0, { s4 with fs := actOf c s.fs })) := Lib.hid (by rw [HR.out, es4])
  clear es4
  have k0 := HC4.out.k0; have k1 := HC4.out.k1; have k2 := HC4.out.k2; have k3 := HC4.out.k3; have k4 := HC4.out.k4
  obtain ⟨hi, hnm⟩ := found_at HFD.out
  have hi4 : pos c.name.data.toList s.fs < s4.fs.length := by rw [hs4]; exact hi
  obtain ⟨A4, c4, hv4, _, _, _, hcell⟩ := HM4.out.own.form
  subst hv4
  obtain ⟨g, hA, hg, q1, q2, q3, fz1, fz2⟩ := hcell _ hi4
  subst hA
  have hgf : get c.name.data.toList s.fs = some (s.fs[pos c.name.data.toList s.fs]).2 := by obtain ⟨_, e⟩ := get_found HF.out.rise HFD.out; exact e
  have hfe : s4.fs[pos c.name.data.toList s.fs] = s.fs[pos c.name.data.toList s.fs] := by simp only [hs4]
  rw [hfe] at q1 q2 q3
  have hset := put_found HF.out.rise HFD.out
  have hfl : (s.fs[pos c.name.data.toList s.fs]).2.data.length ≤ 900000 := Nat.le_trans (sum_mem (fun x : File => x.data.length) (List.getElem_mem hi)) HF.out.used
  obtain ⟨f, hfd⟩ : ∃ f, f = (s.fs[pos c.name.data.toList s.fs]).2 := ⟨_, rfl⟩
  rw [← hfd] at q2 q3 hgf hfl
  obtain ⟨i, hii⟩ : ∃ i, i = pos c.name.data.toList s.fs := ⟨_, rfl⟩
  have m0 := HM4.out.cell0
  have hpbg : pb ≠ g := fun e => HM4.out.ne (by simp [Value.ownBlock, e])
  have hbg : w.heap.size ≠ g := fun e => by
    have h1 := HC4.out
    obtain ⟨cur, h2⟩ := HM4.out.own.notCells (k := g) rfl
    unfold CallAt at h1
    rw [e, h2] at h1
    simp at h1
  obtain ⟨n, hn⟩ : ∃ n, n = min c.n.toNat f.data.length := ⟨_, rfl⟩
  have hnl : n ≤ f.data.length := by omega
  have hk1 : min (max c.n 0) (f.data.length : Int) = (n : Int) := by omega
  obtain ⟨m, hm⟩ : ∃ m, m = min f.sure n := ⟨_, rfl⟩
  have hk2 : min (f.sure : Int) (n : Int) = (m : Int) := by omega
  obtain ⟨X, hX⟩ : ∃ X, X = f.data.take n := ⟨_, rfl⟩
  have hwsz : (str f.data).size = f.data.length := str_size f.data
  have qs : ∀ V, (Instr.slice 9 (.string (str f.data)) none (some (.int .i64 (n : Int))) none).run Try.prog V = .ok (.string (str X)) V := fun V => by rw [hX]; exact run_cut_str f.data n hnl V
  have hct : cutTo f c.n = ⟨X, m⟩ := by unfold cutTo; rw [← hn, ← hm, hX]
  have hw5 := ((HM4.out.below (below_drew w4)).below (below_drew _)).set hi4 ⟨X, m⟩ rfl
  have hact : actOf c s.fs = s4.fs.set (pos c.name.data.toList s.fs) ((s4.fs[pos c.name.data.toList s.fs]).1, ⟨X, m⟩) := by
    unfold actOf
    simp only [hk, hgf]
    rw [hfe, hnm]
    simp only [hs4]
    rw [← hct]
    exact hset _
  rw [← hact] at hw5
  have hfr : Fr T w (((w4.drew.drew).setCell ⟨g, pos c.name.data.toList s.fs * 3 + 1, none⟩ (.string (str X))).setCell ⟨g, pos c.name.data.toList s.fs * 3 + 2, none⟩ (.int .i64 (m : Int))) := HF4.out.trans' ((Fr.of_below (below_drew w4)).trans' ((Fr.of_below (below_drew _)).trans' ((Fr.setCell (a := ⟨g, pos c.name.data.toList s.fs * 3 + 1, none⟩) _ (HO.out g rfl)).trans' (Fr.setCell (a := ⟨g, pos c.name.data.toList s.fs * 3 + 2, none⟩) _ (HO.out g rfl)))))
  have H5 := Lib.hid hw5; have HFR := Lib.hid hfr
  have hlen4 : s4.fs.length = s.fs.length := by rw [hs4]
  clear hw5 hfr hact hset hgf hfe hcell hfd hnm hii i hct hX hn hm
  generalize pos c.name.data.toList s.fs = i at *
  have hi9 : (i : Int) < (s4.fs.length : Int) := by omega
  go_wp2
  refine wp_region_noPanic ?_
  refine wp_region_held_drew (S := fun w' => w'.cell? ⟨pb, 0, none⟩ = some (.slice (some ⟨g, 0, none⟩) s4.fs.length c4) ∧ w'.cell? ⟨g, i * 3 + 1, none⟩ = some (.string (str f.data)) ∧ w'.cell? ⟨w.heap.size, 1, none⟩ = some (.int .i64 c.n)) (by kernel_rfl) ⟨m0, q2, k1⟩ (fun hHeld => ?_)
  refine wpAnyH_take (i := 0) (v := ?va0) rfl (by kernel_rfl) (by kernel_rfl) (by kernel_rfl) (fun _ _ _ h => h) (Or.inl ⟨by rfl, ?ha0⟩) (by assumption) ?_
  case ha0 => intro w hSw; (try dsimp only at hSw); go_simp; try with_reducible rfl
  simp only [List.getElem_toArray, List.getElem_cons_zero, Act.put, List.setIfInBounds_toArray, List.set_cons_zero, List.set_cons_succ]
  refine wpAnyH_take (i := 1) (v := ?va1) rfl (by kernel_rfl) (by kernel_rfl) (by kernel_rfl) (fun _ _ _ h => h) (Or.inl ⟨by rfl, ?ha1⟩) (by assumption) ?_
  case ha1 => intro w hSw; (try dsimp only at hSw); go_simp; try with_reducible rfl
  simp only [List.getElem_toArray, List.getElem_cons_succ, List.getElem_cons_zero, Act.put, List.setIfInBounds_toArray, List.set_cons_zero, List.set_cons_succ]
  refine wpAnyH_take (i := 2) (v := ?va2) rfl (by kernel_rfl) (by kernel_rfl) (by kernel_rfl) (fun _ _ _ h => h) (Or.inl ⟨by rfl, ?ha2⟩) (by assumption) ?_
  case ha2 => intro w hSw; (try dsimp only at hSw); go_simp; try with_reducible rfl
  simp only [List.getElem_toArray, List.getElem_cons_succ, List.getElem_cons_zero, Act.put, List.setIfInBounds_toArray, List.set_cons_zero, List.set_cons_succ]
  refine wpAnyH_take (i := 3) (v := ?va3) rfl (by kernel_rfl) (by kernel_rfl) (by kernel_rfl) (fun _ _ _ h => h) (Or.inl ⟨by rfl, ?ha3⟩) (by assumption) ?_
  case ha3 => intro w hSw; (try dsimp only at hSw); go_simp; try with_reducible rfl
  simp only [List.getElem_toArray, List.getElem_cons_succ, List.getElem_cons_zero, Act.put, List.setIfInBounds_toArray, List.set_cons_zero, List.set_cons_succ]
  refine wpAnyH_take (i := 4) (v := ?va4) rfl (by kernel_rfl) (by kernel_rfl) (by kernel_rfl) (fun _ _ _ h => h) (Or.inl ⟨by rfl, ?ha4⟩) (by assumption) ?_
  case ha4 => intro w hSw; (try dsimp only at hSw); go_simp; try with_reducible rfl
  simp only [List.getElem_toArray, List.getElem_cons_succ, List.getElem_cons_zero, Act.put, List.setIfInBounds_toArray, List.set_cons_zero, List.set_cons_succ]
  refine wpAnyH_take (i := 5) (v := ?va5) rfl (by kernel_rfl) (by kernel_rfl) (by kernel_rfl) (fun _ _ _ h => h) (Or.inl ⟨by rfl, ?ha5⟩) (by assumption) ?_
  case ha5 => intro w hSw; (try dsimp only at hSw); go_simp; try with_reducible rfl
  simp only [List.getElem_toArray, List.getElem_cons_succ, List.getElem_cons_zero, Act.put, List.setIfInBounds_toArray, List.set_cons_zero, List.set_cons_succ]
  refine wpAnyH_take (i := 6) (v := ?va6) rfl (by kernel_rfl) (by kernel_rfl) (by kernel_rfl) (fun _ _ _ h => h) (Or.inl ⟨by rfl, ?ha6⟩) (by assumption) ?_
  case ha6 => intro w hSw; (try dsimp only at hSw); go_simp; try with_reducible rfl
  simp only [List.getElem_toArray, List.getElem_cons_succ, List.getElem_cons_zero, Act.put, List.setIfInBounds_toArray, List.set_cons_zero, List.set_cons_succ]
  refine wpAnyH_take (i := 7) (v := ?va7) rfl (by kernel_rfl) (by kernel_rfl) (by kernel_rfl) (fun _ _ _ h => h) (Or.inl ⟨by rfl, ?ha7⟩) (by assumption) ?_
  case ha7 => intro w hSw; (try dsimp only at hSw); go_simp; try with_reducible rfl
  simp only [List.getElem_toArray, List.getElem_cons_succ, List.getElem_cons_zero, Act.put, List.setIfInBounds_toArray, List.set_cons_zero, List.set_cons_succ]
  refine wpAnyH_take (i := 8) (v := ?va8) rfl (by kernel_rfl) (by kernel_rfl) (by kernel_rfl) (fun _ _ _ h => h) (Or.inl ⟨by rfl, ?ha8⟩) (by assumption) ?_
  case ha8 => intro w hSw; (try dsimp only at hSw); go_simp; try with_reducible rfl
  simp only [List.getElem_toArray, List.getElem_cons_succ, List.getElem_cons_zero, Act.put, List.setIfInBounds_toArray, List.set_cons_zero, List.set_cons_succ]
  refine wpAnyH_take (i := 9) (v := ?va9) rfl (by kernel_rfl) (by kernel_rfl) (by kernel_rfl) (fun _ _ _ h => h) (Or.inl ⟨by rfl, ?ha9⟩) (by assumption) ?_
  case ha9 => intro w hSw; (try dsimp only at hSw); go_simp; try with_reducible rfl
  simp only [List.getElem_toArray, List.getElem_cons_succ, List.getElem_cons_zero, Act.put, List.setIfInBounds_toArray, List.set_cons_zero, List.set_cons_succ]
  refine wpAnyH_take (i := 10) (v := ?va10) rfl (by kernel_rfl) (by kernel_rfl) (by kernel_rfl) (fun _ _ _ h => h) (Or.inl ⟨by rfl, ?ha10⟩) (by assumption) ?_
  case ha10 => intro w hSw; (try dsimp only at hSw); go_simp; try with_reducible rfl
  simp only [List.getElem_toArray, List.getElem_cons_succ, List.getElem_cons_zero, Act.put, List.setIfInBounds_toArray, List.set_cons_zero, List.set_cons_succ]
  refine wpAnyH_take (i := 11) (v := ?va11) rfl (by kernel_rfl) (by kernel_rfl) (by kernel_rfl) (fun _ _ _ h => h) (Or.inl ⟨by rfl, ?ha11⟩) (by assumption) ?_
  case ha11 => intro w hSw; (try dsimp only at hSw); go_simp; try with_reducible rfl
  simp only [List.getElem_toArray, List.getElem_cons_succ, List.getElem_cons_zero, Act.put, List.setIfInBounds_toArray, List.set_cons_zero, List.set_cons_succ]
  refine wpAnyH_take (i := 12) (v := ?va12) rfl (by kernel_rfl) (by kernel_rfl) (by kernel_rfl) (fun _ _ _ h => h) (Or.inl ⟨by rfl, ?ha12⟩) (by assumption) ?_
  case ha12 => intro w hSw; (try dsimp only at hSw); go_simp; try with_reducible rfl
  simp only [List.getElem_toArray, List.getElem_cons_succ, List.getElem_cons_zero, Act.put, List.setIfInBounds_toArray, List.set_cons_zero, List.set_cons_succ]
  refine wpAnyH_take (i := 13) (v := ?va13) rfl (by kernel_rfl) (by kernel_rfl) (by kernel_rfl) (fun _ _ _ h => h) (Or.inl ⟨by rfl, ?ha13⟩) (by assumption) ?_
  case ha13 => intro w hSw; (try dsimp only at hSw); go_simp; try with_reducible rfl
  simp only [List.getElem_toArray, List.getElem_cons_succ, List.getElem_cons_zero, Act.put, List.setIfInBounds_toArray, List.set_cons_zero, List.set_cons_succ]
  refine wpAnyH_done (by kernel_rfl) ?_ _
  refine NoPanic.normal ?_
  clear hHeld
  go_wp2
  refine wp_region_noPanic ?_
  refine wp_region_held_drew (S := fun w' => w'.cell? ⟨pb, 0, none⟩ = some (.slice (some ⟨g, 0, none⟩) s4.fs.length c4)) (by kernel_rfl) m0 (fun hHeld => ?_)
  refine wpAnyH_take (i := 0) (v := ?vb0) rfl (by kernel_rfl) (by kernel_rfl) (by kernel_rfl) (fun _ _ _ h => h) (Or.inl ⟨by rfl, ?hb0⟩) (by assumption) ?_
  case hb0 => intro w hSw; (try dsimp only at hSw); go_simp; try with_reducible rfl
  simp only [List.getElem_toArray, List.getElem_cons_zero, Act.put, List.setIfInBounds_toArray, List.set_cons_zero, List.set_cons_succ]
  refine wpAnyH_take (i := 1) (v := ?vb1) rfl (by kernel_rfl) (by kernel_rfl) (by kernel_rfl) (fun _ _ _ h => h) (Or.inl ⟨by rfl, ?hb1⟩) (by assumption) ?_
  case hb1 => intro w hSw; (try dsimp only at hSw); go_simp; try with_reducible rfl
  simp only [List.getElem_toArray, List.getElem_cons_succ, List.getElem_cons_zero, Act.put, List.setIfInBounds_toArray, List.set_cons_zero, List.set_cons_succ]
  refine wpAnyH_take (i := 2) (v := ?vb2) rfl (by kernel_rfl) (by kernel_rfl) (by kernel_rfl) (fun _ _ _ h => h) (Or.inl ⟨by rfl, ?hb2⟩) (by assumption) ?_
  case hb2 => intro w hSw; (try dsimp only at hSw); go_simp; try with_reducible rfl
  simp only [List.getElem_toArray, List.getElem_cons_succ, List.getElem_cons_zero, Act.put, List.setIfInBounds_toArray, List.set_cons_zero, List.set_cons_succ]
  refine wpAnyH_take (i := 3) (v := ?vb3) rfl (by kernel_rfl) (by kernel_rfl) (by kernel_rfl) (fun _ _ _ h => h) (Or.inl ⟨by rfl, ?hb3⟩) (by assumption) ?_
  case hb3 => intro w hSw; (try dsimp only at hSw); go_simp; try with_reducible rfl
  simp only [List.getElem_toArray, List.getElem_cons_succ, List.getElem_cons_zero, Act.put, List.setIfInBounds_toArray, List.set_cons_zero, List.set_cons_succ]
  refine wpAnyH_take (i := 4) (v := ?vb4) rfl (by kernel_rfl) (by kernel_rfl) (by kernel_rfl) (fun _ _ _ h => h) (Or.inl ⟨by rfl, ?hb4⟩) (by assumption) ?_
  case hb4 => intro w hSw; (try dsimp only at hSw); go_simp; try with_reducible rfl
  simp only [List.getElem_toArray, List.getElem_cons_succ, List.getElem_cons_zero, Act.put, List.setIfInBounds_toArray, List.set_cons_zero, List.set_cons_succ]
  refine wpAnyH_take (i := 5) (v := ?vb5) rfl (by kernel_rfl) (by kernel_rfl) (by kernel_rfl) (fun _ _ _ h => h) (Or.inl ⟨by rfl, ?hb5⟩) (by assumption) ?_
  case hb5 => intro w hSw; (try dsimp only at hSw); go_simp; try with_reducible rfl
  simp only [List.getElem_toArray, List.getElem_cons_succ, List.getElem_cons_zero, Act.put, List.setIfInBounds_toArray, List.set_cons_zero, List.set_cons_succ]
  refine wpAnyH_take (i := 6) (v := ?vb6) rfl (by kernel_rfl) (by kernel_rfl) (by kernel_rfl) (fun _ _ _ h => h) (Or.inl ⟨by rfl, ?hb6⟩) (by assumption) ?_
  case hb6 => intro w hSw; (try dsimp only at hSw); go_simp; try with_reducible rfl
  simp only [List.getElem_toArray, List.getElem_cons_succ, List.getElem_cons_zero, Act.put, List.setIfInBounds_toArray, List.set_cons_zero, List.set_cons_succ]
  refine wpAnyH_take (i := 7) (v := ?vb7) rfl (by kernel_rfl) (by kernel_rfl) (by kernel_rfl) (fun _ _ _ h => h) (Or.inl ⟨by rfl, ?hb7⟩) (by assumption) ?_
  case hb7 => intro w hSw; (try dsimp only at hSw); go_simp; try with_reducible rfl
  simp only [List.getElem_toArray, List.getElem_cons_succ, List.getElem_cons_zero, Act.put, List.setIfInBounds_toArray, List.set_cons_zero, List.set_cons_succ]
  refine wpAnyH_take (i := 8) (v := ?vb8) rfl (by kernel_rfl) (by kernel_rfl) (by kernel_rfl) (fun _ _ _ h => h) (Or.inl ⟨by rfl, ?hb8⟩) (by assumption) ?_
  case hb8 => intro w hSw; (try dsimp only at hSw); go_simp; try with_reducible rfl
  simp only [List.getElem_toArray, List.getElem_cons_succ, List.getElem_cons_zero, Act.put, List.setIfInBounds_toArray, List.set_cons_zero, List.set_cons_succ]
  refine wpAnyH_take (i := 9) (v := ?vb9) rfl (by kernel_rfl) (by kernel_rfl) (by kernel_rfl) (fun _ _ _ h => h) (Or.inl ⟨by rfl, ?hb9⟩) (by assumption) ?_
  case hb9 => intro w hSw; (try dsimp only at hSw); go_simp; try with_reducible rfl
  simp only [List.getElem_toArray, List.getElem_cons_succ, List.getElem_cons_zero, Act.put, List.setIfInBounds_toArray, List.set_cons_zero, List.set_cons_succ]
  refine wpAnyH_take (i := 10) (v := ?vb10) rfl (by kernel_rfl) (by kernel_rfl) (by kernel_rfl) (fun _ _ _ h => h) (Or.inl ⟨by rfl, ?hb10⟩) (by assumption) ?_
  case hb10 => intro w hSw; (try dsimp only at hSw); go_simp; try with_reducible rfl
  simp only [List.getElem_toArray, List.getElem_cons_succ, List.getElem_cons_zero, Act.put, List.setIfInBounds_toArray, List.set_cons_zero, List.set_cons_succ]
  refine wpAnyH_take (i := 11) (v := ?vb11) rfl (by kernel_rfl) (by kernel_rfl) (by kernel_rfl) (fun _ _ _ h => h) (Or.inl ⟨by rfl, ?hb11⟩) (by assumption) ?_
  case hb11 => intro w hSw; (try dsimp only at hSw); go_simp; try with_reducible rfl
  simp only [List.getElem_toArray, List.getElem_cons_succ, List.getElem_cons_zero, Act.put, List.setIfInBounds_toArray, List.set_cons_zero, List.set_cons_succ]
  refine wpAnyH_take (i := 12) (v := ?vb12) rfl (by kernel_rfl) (by kernel_rfl) (by kernel_rfl) (fun _ _ _ h => h) (Or.inl ⟨by rfl, ?hb12⟩) (by assumption) ?_
  case hb12 => intro w hSw; (try dsimp only at hSw); go_simp; try with_reducible rfl
  simp only [List.getElem_toArray, List.getElem_cons_succ, List.getElem_cons_zero, Act.put, List.setIfInBounds_toArray, List.set_cons_zero, List.set_cons_succ]
  refine wpAnyH_take (i := 13) (v := ?vb13) rfl (by kernel_rfl) (by kernel_rfl) (by kernel_rfl) (fun _ _ _ h => h) (Or.inl ⟨by rfl, ?hb13⟩) (by assumption) ?_
  case hb13 => intro w hSw; (try dsimp only at hSw); go_simp; try with_reducible rfl
  simp only [List.getElem_toArray, List.getElem_cons_succ, List.getElem_cons_zero, Act.put, List.setIfInBounds_toArray, List.set_cons_zero, List.set_cons_succ]
  refine wpAnyH_take (i := 14) (v := ?vb14) rfl (by kernel_rfl) (by kernel_rfl) (by kernel_rfl) (fun _ _ _ h => h) (Or.inl ⟨by rfl, ?hb14⟩) (by assumption) ?_
  case hb14 => intro w hSw; (try dsimp only at hSw); go_simp; try with_reducible rfl
  simp only [List.getElem_toArray, List.getElem_cons_succ, List.getElem_cons_zero, Act.put, List.setIfInBounds_toArray, List.set_cons_zero, List.set_cons_succ]
  refine wpAnyH_take (i := 15) (v := ?vb15) rfl (by kernel_rfl) (by kernel_rfl) (by kernel_rfl) (fun _ _ _ h => h) (Or.inl ⟨by rfl, ?hb15⟩) (by assumption) ?_
  case hb15 => intro w hSw; (try dsimp only at hSw); go_simp; try with_reducible rfl
  simp only [List.getElem_toArray, List.getElem_cons_succ, List.getElem_cons_zero, Act.put, List.setIfInBounds_toArray, List.set_cons_zero, List.set_cons_succ]
  refine wpAnyH_take (i := 16) (v := ?vb16) rfl (by kernel_rfl) (by kernel_rfl) (by kernel_rfl) (fun _ _ _ h => h) (Or.inl ⟨by rfl, ?hb16⟩) (by assumption) ?_
  case hb16 => intro w hSw; (try dsimp only at hSw); go_simp; try with_reducible rfl
  simp only [List.getElem_toArray, List.getElem_cons_succ, List.getElem_cons_zero, Act.put, List.setIfInBounds_toArray, List.set_cons_zero, List.set_cons_succ]
  refine wpAnyH_take (i := 18) (v := ?vb18) rfl (by kernel_rfl) (by kernel_rfl) (by kernel_rfl) (fun _ _ _ h => h) (Or.inl ⟨by rfl, ?hb18⟩) (by assumption) ?_
  case hb18 => intro w hSw; (try dsimp only at hSw); go_simp; try with_reducible rfl
  simp only [List.getElem_toArray, List.getElem_cons_succ, List.getElem_cons_zero, Act.put, List.setIfInBounds_toArray, List.set_cons_zero, List.set_cons_succ]
  refine wpAnyH_take (i := 20) (v := ?vb20) rfl (by kernel_rfl) (by kernel_rfl) (by kernel_rfl) (fun _ _ _ h => h) (Or.inl ⟨by rfl, ?hb20⟩) (by assumption) ?_
  case hb20 => intro w hSw; (try dsimp only at hSw); go_simp; try with_reducible rfl
  simp only [List.getElem_toArray, List.getElem_cons_succ, List.getElem_cons_zero, Act.put, List.setIfInBounds_toArray, List.set_cons_zero, List.set_cons_succ]
  refine wpAnyH_take (i := 21) (v := ?vb21) rfl (by kernel_rfl) (by kernel_rfl) (by kernel_rfl) (fun _ _ _ h => h) (Or.inl ⟨by rfl, ?hb21⟩) (by assumption) ?_
  case hb21 => intro w hSw; (try dsimp only at hSw); go_simp; try with_reducible rfl
  simp only [List.getElem_toArray, List.getElem_cons_succ, List.getElem_cons_zero, Act.put, List.setIfInBounds_toArray, List.set_cons_zero, List.set_cons_succ]
  refine wpAnyH_take (i := 22) (v := ?vb22) rfl (by kernel_rfl) (by kernel_rfl) (by kernel_rfl) (fun _ _ _ h => h) (Or.inl ⟨by rfl, ?hb22⟩) (by assumption) ?_
  case hb22 => intro w hSw; (try dsimp only at hSw); go_simp; try with_reducible rfl
  simp only [List.getElem_toArray, List.getElem_cons_succ, List.getElem_cons_zero, Act.put, List.setIfInBounds_toArray, List.set_cons_zero, List.set_cons_succ]
  refine wpAnyH_take (i := 23) (v := ?vb23) rfl (by kernel_rfl) (by kernel_rfl) (by kernel_rfl) (fun _ _ _ h => h) (Or.inl ⟨by rfl, ?hb23⟩) (by assumption) ?_
  case hb23 => intro w hSw; (try dsimp only at hSw); go_simp; try with_reducible rfl
  simp only [List.getElem_toArray, List.getElem_cons_succ, List.getElem_cons_zero, Act.put, List.setIfInBounds_toArray, List.set_cons_zero, List.set_cons_succ]
  refine wpAnyH_take (i := 24) (v := ?vb24) rfl (by kernel_rfl) (by kernel_rfl) (by kernel_rfl) (fun _ _ _ h => h) (Or.inl ⟨by rfl, ?hb24⟩) (by assumption) ?_
  case hb24 => intro w hSw; (try dsimp only at hSw); go_simp; try with_reducible rfl
  simp only [List.getElem_toArray, List.getElem_cons_succ, List.getElem_cons_zero, Act.put, List.setIfInBounds_toArray, List.set_cons_zero, List.set_cons_succ]
  refine wpAnyH_take (i := 25) (v := ?vb25) rfl (by kernel_rfl) (by kernel_rfl) (by kernel_rfl) (fun _ _ _ h => h) (Or.inl ⟨by rfl, ?hb25⟩) (by assumption) ?_
  case hb25 => intro w hSw; (try dsimp only at hSw); go_simp; try with_reducible rfl
  simp only [List.getElem_toArray, List.getElem_cons_succ, List.getElem_cons_zero, Act.put, List.setIfInBounds_toArray, List.set_cons_zero, List.set_cons_succ]
  refine wpAnyH_take (i := 26) (v := ?vb26) rfl (by kernel_rfl) (by kernel_rfl) (by kernel_rfl) (fun _ _ _ h => h) (Or.inl ⟨by rfl, ?hb26⟩) (by assumption) ?_
  case hb26 => intro w hSw; (try dsimp only at hSw); go_simp; try with_reducible rfl
  simp only [List.getElem_toArray, List.getElem_cons_succ, List.getElem_cons_zero, Act.put, List.setIfInBounds_toArray, List.set_cons_zero, List.set_cons_succ]
  refine wpAnyH_take (i := 28) (v := ?vb28) rfl (by kernel_rfl) (by kernel_rfl) (by kernel_rfl) (fun _ _ _ h => h) (Or.inl ⟨by rfl, ?hb28⟩) (by assumption) ?_
  case hb28 => intro w hSw; (try dsimp only at hSw); go_simp; try with_reducible rfl
  simp only [List.getElem_toArray, List.getElem_cons_succ, List.getElem_cons_zero, Act.put, List.setIfInBounds_toArray, List.set_cons_zero, List.set_cons_succ]
  refine wpAnyH_ready (rs := [17, 27]) (by kernel_rfl) (by simp) ?_
  refine AllReadyH.cons rfl (fun K hK => ?_) (AllReadyH.cons rfl (fun K hK => ?_) AllReadyH.nil)
  · go_simp
    refine hK.out _ _ ?_ (fun hHeld => ?_)
    · exact m0
    clear hK K
    refine wpAnyH_take (i := 19) (v := ?vc19) rfl (by kernel_rfl) (by kernel_rfl) (by kernel_rfl) (fun _ _ _ h => h) (Or.inl ⟨by rfl, ?hc19⟩) (by assumption) ?_
    case hc19 => intro w hSw; (try dsimp only at hSw); go_simp; try with_reducible rfl
    simp only [List.getElem_toArray, List.getElem_cons_succ, List.getElem_cons_zero, Act.put, List.setIfInBounds_toArray, List.set_cons_zero, List.set_cons_succ]
    refine wpAnyH_ready (rs := [27]) (by kernel_rfl) (by simp) ?_
    refine AllReadyH.cons rfl (fun K hK => ?_) AllReadyH.nil
    go_simp
    refine hK.out _ _ ?_ (fun hHeld => ?_)
    · exact m0
    clear hK K
    refine wpAnyH_take (i := 29) (v := ?vd29) rfl (by kernel_rfl) (by kernel_rfl) (by kernel_rfl) (fun _ _ _ h => h) (Or.inl ⟨by rfl, ?hd29⟩) (by assumption) ?_
    case hd29 => intro w hSw; (try dsimp only at hSw); go_simp; try with_reducible rfl
    simp only [List.getElem_toArray, List.getElem_cons_succ, List.getElem_cons_zero, Act.put, List.setIfInBounds_toArray, List.set_cons_zero, List.set_cons_succ]
    refine wpAnyH_take (i := 30) (v := ?ve30) rfl (by kernel_rfl) (by kernel_rfl) (by kernel_rfl) (fun _ _ _ h => h) (Or.inl ⟨by rfl, ?he30⟩) (by assumption) ?_
    case he30 => intro w hSw; (try dsimp only at hSw); go_simp; try with_reducible rfl
    simp only [List.getElem_toArray, List.getElem_cons_succ, List.getElem_cons_zero, Act.put, List.setIfInBounds_toArray, List.set_cons_zero, List.set_cons_succ]
    refine wpAnyH_take (i := 31) (v := ?ve31) rfl (by kernel_rfl) (by kernel_rfl) (by kernel_rfl) (fun _ _ _ h => h) (Or.inl ⟨by rfl, ?he31⟩) (by assumption) ?_
    case he31 => intro w hSw; (try dsimp only at hSw); go_simp; try with_reducible rfl
    simp only [List.getElem_toArray, List.getElem_cons_succ, List.getElem_cons_zero, Act.put, List.setIfInBounds_toArray, List.set_cons_zero, List.set_cons_succ]
    refine wpAnyH_ready (rs := [32]) (by kernel_rfl) (by simp) ?_
    refine AllReadyH.cons rfl (fun K hK => ?_) AllReadyH.nil
    go_simp
    refine hK.out _ _ ?_ (fun hHeld => ?_)
    · exact (World.cell?_setCell_other _ _ _ _ (addr_ne hpbg.symm)).trans m0
    clear hK K
    refine wpAnyH_take (i := 33) (v := ?vf33) rfl (by kernel_rfl) (by kernel_rfl) (by kernel_rfl) (fun _ _ _ h => h) (Or.inl ⟨by rfl, ?hf33⟩) (by assumption) ?_
    case hf33 => intro w hSw; (try dsimp only at hSw); go_simp; try with_reducible rfl
    simp only [List.getElem_toArray, List.getElem_cons_succ, List.getElem_cons_zero, Act.put, List.setIfInBounds_toArray, List.set_cons_zero, List.set_cons_succ]
    refine wpAnyH_take (i := 34) (v := ?vf34) rfl (by kernel_rfl) (by kernel_rfl) (by kernel_rfl) (fun _ _ _ h => h) (Or.inl ⟨by rfl, ?hf34⟩) (by assumption) ?_
    case hf34 => intro w hSw; (try dsimp only at hSw); go_simp; try with_reducible rfl
    simp only [List.getElem_toArray, List.getElem_cons_succ, List.getElem_cons_zero, Act.put, List.setIfInBounds_toArray, List.set_cons_zero, List.set_cons_succ]
    refine wpAnyH_ready (rs := [35]) (by kernel_rfl) (by simp) ?_
    refine AllReadyH.cons rfl (fun K hK => ?_) AllReadyH.nil
    go_simp
    refine hK.out _ _ ?_ (fun hHeld => ?_)
    · exact (World.cell?_setCell_other _ _ _ _ (addr_ne hpbg.symm)).trans ((World.cell?_setCell_other _ _ _ _ (addr_ne hpbg.symm)).trans m0)
    clear hK K
    refine wpAnyH_done (by kernel_rfl) ?_ _
    refine NoPanic.normal ?_
    clear hHeld k0 k1 k2 k3 k4
    go_wp2
    go_ret
    rw [HR4.out]
    exact ⟨rfl, Mod.mk_after H5.out hp (fun k hk => .inl (HO.out k hk)) HT.out HFR.out.size, HFR.out⟩
  · go_simp
    refine hK.out _ _ ?_ (fun hHeld => ?_)
    · exact m0
    clear hK K
    refine wpAnyH_take (i := 29) (v := ?vg29) rfl (by kernel_rfl) (by kernel_rfl) (by kernel_rfl) (fun _ _ _ h => h) (Or.inl ⟨by rfl, ?hg29⟩) (by assumption) ?_
    case hg29 => intro w hSw; (try dsimp only at hSw); go_simp; try with_reducible rfl
    simp only [List.getElem_toArray, List.getElem_cons_succ, List.getElem_cons_zero, Act.put, List.setIfInBounds_toArray, List.set_cons_zero, List.set_cons_succ]
    refine wpAnyH_ready (rs := [17]) (by kernel_rfl) (by simp) ?_
    refine AllReadyH.cons rfl (fun K hK => ?_) AllReadyH.nil
    go_simp
    refine hK.out _ _ ?_ (fun hHeld => ?_)
    · exact m0
    clear hK K
    refine wpAnyH_take (i := 19) (v := ?vh19) rfl (by kernel_rfl) (by kernel_rfl) (by kernel_rfl) (fun _ _ _ h => h) (Or.inl ⟨by rfl, ?hh19⟩) (by assumption) ?_
    case hh19 => intro w hSw; (try dsimp only at hSw); go_simp; try with_reducible rfl
    simp only [List.getElem_toArray, List.getElem_cons_succ, List.getElem_cons_zero, Act.put, List.setIfInBounds_toArray, List.set_cons_zero, List.set_cons_succ]
    refine wpAnyH_take (i := 30) (v := ?vi30) rfl (by kernel_rfl) (by kernel_rfl) (by kernel_rfl) (fun _ _ _ h => h) (Or.inl ⟨by rfl, ?hi30⟩) (by assumption) ?_
    case hi30 => intro w hSw; (try dsimp only at hSw); go_simp; try with_reducible rfl
    simp only [List.getElem_toArray, List.getElem_cons_succ, List.getElem_cons_zero, Act.put, List.setIfInBounds_toArray, List.set_cons_zero, List.set_cons_succ]
    refine wpAnyH_take (i := 31) (v := ?vi31) rfl (by kernel_rfl) (by kernel_rfl) (by kernel_rfl) (fun _ _ _ h => h) (Or.inl ⟨by rfl, ?hi31⟩) (by assumption) ?_
    case hi31 => intro w hSw; (try dsimp only at hSw); go_simp; try with_reducible rfl
    simp only [List.getElem_toArray, List.getElem_cons_succ, List.getElem_cons_zero, Act.put, List.setIfInBounds_toArray, List.set_cons_zero, List.set_cons_succ]
    refine wpAnyH_ready (rs := [32]) (by kernel_rfl) (by simp) ?_
    refine AllReadyH.cons rfl (fun K hK => ?_) AllReadyH.nil
    go_simp
    refine hK.out _ _ ?_ (fun hHeld => ?_)
    · exact (World.cell?_setCell_other _ _ _ _ (addr_ne hpbg.symm)).trans m0
    clear hK K
    refine wpAnyH_take (i := 33) (v := ?vj33) rfl (by kernel_rfl) (by kernel_rfl) (by kernel_rfl) (fun _ _ _ h => h) (Or.inl ⟨by rfl, ?hj33⟩) (by assumption) ?_
    case hj33 => intro w hSw; (try dsimp only at hSw); go_simp; try with_reducible rfl
    simp only [List.getElem_toArray, List.getElem_cons_succ, List.getElem_cons_zero, Act.put, List.setIfInBounds_toArray, List.set_cons_zero, List.set_cons_succ]
    refine wpAnyH_take (i := 34) (v := ?vj34) rfl (by kernel_rfl) (by kernel_rfl) (by kernel_rfl) (fun _ _ _ h => h) (Or.inl ⟨by rfl, ?hj34⟩) (by assumption) ?_
    case hj34 => intro w hSw; (try dsimp only at hSw); go_simp; try with_reducible rfl
    simp only [List.getElem_toArray, List.getElem_cons_succ, List.getElem_cons_zero, Act.put, List.setIfInBounds_toArray, List.set_cons_zero, List.set_cons_succ]
    refine wpAnyH_ready (rs := [35]) (by kernel_rfl) (by simp) ?_
    refine AllReadyH.cons rfl (fun K hK => ?_) AllReadyH.nil
    go_simp
    refine hK.out _ _ ?_ (fun hHeld => ?_)
    · exact (World.cell?_setCell_other _ _ _ _ (addr_ne hpbg.symm)).trans ((World.cell?_setCell_other _ _ _ _ (addr_ne hpbg.symm)).trans m0)
    clear hK K
    refine wpAnyH_done (by kernel_rfl) ?_ _
    refine NoPanic.normal ?_
    clear hHeld k0 k1 k2 k3 k4
    go_wp2
    go_ret
    rw [HR4.out]
    exact ⟨rfl, Mod.mk_after H5.out hp (fun k hk => .inl (HO.out k hk)) HT.out HFR.out.size, HFR.out⟩

end Go.Proofs.Ytdaipoelicpnoaa
