/-
  FileRuns' model: do: Append to a file that is there.
-/
import Derived.Test.YtdaipoelicpnoaaFMDo
namespace Go.Proofs.Ytdaipoelicpnoaa
open Go.RowKit Go.Maps FM

set_option maxRecDepth 100000 in
set_option maxHeartbeats 4000000 in
theorem mdo_0f_counts (w : World) (T : Nat → Prop) (pb : Nat) (v : Value) (s : St) (c : CallV) (B : Nat) (h : MoB w pb v s) (hp : T pb) (hold : ∀ k, v.ownBlock = some k → T k) (hlt : ∀ k, T k → k < w.heap.size) (hf : MFits w s c B) (hk : c.k < 2) (he : wrongV s c (found c.name.data.toList s.fs) = 0) (hz : 0 < s.fuse) (hfd : found c.name.data.toList s.fs = true) (hapT : 0 < c.data.length → ∀ a, c.A = some a → ¬ T a.block) :
    Calls Try.prog 11 #[.pointer (some ⟨pb, 0, none⟩), c.val] w (MAfter w T pb (step s c)) := by
  obtain ⟨r, hr⟩ : ∃ r, r = step s c := ⟨_, rfl⟩
  rw [← hr]
  rw [step_counts hf (by omega) he hz] at hr
  have HR := Lib.hid hr; have HE := Lib.hid he
  have HFD := Lib.hid hfd
  clear hfd
  clear hr he
  have HK := Lib.hid (kind_ok (w.alloc (.cells #[.int .i64 c.kind, .int .i64 c.n, .string c.name, .string c.to, .slice c.A c.data.length c.cap] 33)) c)
  have HM := Lib.hid h; have HO := Lib.hid hold; have HT := Lib.hid hlt; have HF := Lib.hid hf
  have hba : Below w.heap.size w (w.alloc (.cells #[.int .i64 c.kind, .int .i64 c.n, .string c.name, .string c.to, .slice c.A c.data.length c.cap] 33)) := (Below.refl _ _).alloc (Nat.le_refl _) _
  have HBA := Lib.hid hba
  have HCA := Lib.hid (CallAt.alloc w c)
  have hpw : pb < w.heap.size := h.lt
  clear h hba hold hlt hf
  unfold CallV.val at *
  go_enter Try.func11, Try.ntmps11
  go_wp2_with fail
  refine HK.out.mono ?_
  rintro e w1 ⟨rfl, hb1⟩
  have HC1 := Lib.hid (HCA.out.below hb1)
  have HB1 := Lib.hid (HBA.out.trans (hb1.mono (by simp)))
  have HM1 := Lib.hid (HM.out.below HB1.out)
  clear hb1
  have k0 := HC1.out.k0; have k1 := HC1.out.k1; have k2 := HC1.out.k2; have k3 := HC1.out.k3; have k4 := HC1.out.k4
  have d6 : ((c.k : Int) == 6) = false := beq_eq_false_iff_ne.2 (by omega)
  have d7 : ((c.k : Int) == 7) = false := beq_eq_false_iff_ne.2 (by omega)
  go_wp2_with fail
  refine (mat_ok w1 pb v s c.name HM1.out (by have := HF.out.files; omega)).mono ?_
  rintro e w2 ⟨rfl, hb2⟩
  have HC2 := Lib.hid (HC1.out.below hb2)
  have HB2 := Lib.hid (HB1.out.trans (hb2.mono HB1.out.size))
  have HM2 := Lib.hid (HM1.out.below hb2)
  clear hb2 k0 k1 k2 k3 k4
  have k0 := HC2.out.k0; have k1 := HC2.out.k1; have k2 := HC2.out.k2; have k3 := HC2.out.k3; have k4 := HC2.out.k4
  go_wp2_with fail
  refine (wrong_ok w2 pb v s c (found c.name.data.toList s.fs) HM2.out (by have := HF.out.files; omega) (by have := HF.out.used; omega) HF.out.quota (by have := HF.out.data; omega)).mono ?_
  rintro e w3 ⟨rfl, hb3⟩
  have HC3 := Lib.hid (HC2.out.below hb3)
  have HB3 := Lib.hid (HB2.out.trans (hb3.mono HB2.out.size))
  have HM3 := Lib.hid (HM2.out.below hb3)
  clear hb3 k0 k1 k2 k3 k4
  have k0 := HC3.out.k0; have k1 := HC3.out.k1; have k2 := HC3.out.k2; have k3 := HC3.out.k3; have k4 := HC3.out.k4
  rw [HE.out]
  have e2 : ((c.k : Int) == 2) = false := beq_eq_false_iff_ne.2 (by omega)
  have e3 : ((c.k : Int) == 3) = false := beq_eq_false_iff_ne.2 (by omega)
  have e4 : ((c.k : Int) == 4) = false := beq_eq_false_iff_ne.2 (by omega)
  have e5 : ((c.k : Int) == 5) = false := beq_eq_false_iff_ne.2 (by omega)
  have m2 := HM3.out.cell2; have f2 := HM3.out.frozen 2
  have hmx : max s.fuse (-1) = s.fuse := by omega
  rw [hmx] at m2
  have z1 : (s.fuse == 0) = false := by simp; omega
  have z2 : decide ((0 : Int) < s.fuse) = true := decide_eq_true hz
  have hw : wrap64 (s.fuse - 1) = s.fuse - 1 := by have := HF.out.fuse; unfold wrap64; omega
  have HM4 := Lib.hid (HM3.out.fuse (s.fuse - 1) (s.fuse - 1) (by omega))
  have HC4 := Lib.hid (HC3.out.fr (Fr.setCell (S := fun k => k = pb) (a := ⟨pb, 2, none⟩) (.int .i64 (s.fuse - 1)) rfl) (fun e : w.heap.size = pb => by omega))
  have HF4 := Lib.hid (show Fr T w (w3.setCell ⟨pb, 2, none⟩ (.int .i64 (s.fuse - 1))) from (Fr.of_below HB3.out).trans' (Fr.setCell (a := ⟨pb, 2, none⟩) _ hp))
  have HW := Lib.hid hw
  clear hmx hw
  go_upto_region 17 with fail
  rw [HW.out]
  clear m2 f2 z1 z2 k0 k1 k2 k3 k4
  generalize w3.setCell ⟨pb, 2, none⟩ (.int .i64 (s.fuse - 1)) = w4 at *
  have hs4 : ({ s with fuse := s.fuse - 1 } : St).fs = s.fs := rfl
  obtain ⟨s4, es4⟩ : ∃ s4 : St, s4 = { s with fuse := s.fuse - 1 } := ⟨_, rfl⟩
  rw [← es4] at HM4 hs4
  have HR4 : Hid (r = (0, { s4 with fs := actOf c s.fs })) := Lib.hid (by rw [HR.out, es4])
  clear es4
  have k0 := HC4.out.k0; have k1 := HC4.out.k1; have k2 := HC4.out.k2; have k3 := HC4.out.k3; have k4 := HC4.out.k4
  obtain ⟨hi, hnm⟩ := found_at HFD.out
  have hi4 : pos c.name.data.toList s.fs < s4.fs.length := by rw [hs4]; exact hi
  obtain ⟨A4, c4, hv4, _, _, _, hcell⟩ := HM4.out.own.form
  subst hv4
  obtain ⟨g, hA, hg, q1, q2, q3, fz1, fz2⟩ := hcell _ hi4
  subst hA
  have hgf : get c.name.data.toList s.fs = some (s.fs[pos c.name.data.toList s.fs]).2 := by obtain ⟨_, e⟩ := get_found HF.out.rise HFD.out; exact e
  have hfe : s4.fs[pos c.name.data.toList s.fs] = s.fs[pos c.name.data.toList s.fs] := by simp only [hs4]
  rw [hfe] at q1 q2 q3
  have hset := put_found HF.out.rise HFD.out
  have hfl : (s.fs[pos c.name.data.toList s.fs]).2.data.length ≤ 900000 := Nat.le_trans (sum_mem (fun x : File => x.data.length) (List.getElem_mem hi)) HF.out.used
  obtain ⟨f, hfd⟩ : ∃ f, f = (s.fs[pos c.name.data.toList s.fs]).2 := ⟨_, rfl⟩
  rw [← hfd] at q2 q3 hgf hfl
  obtain ⟨i, hii⟩ : ∃ i, i = pos c.name.data.toList s.fs := ⟨_, rfl⟩
  have hw6 := (HM4.out.below (below_drew w4)).set1 hi4 (f.data ++ c.data) rfl
  have hact : actOf c s.fs = s4.fs.set (pos c.name.data.toList s.fs) ((s4.fs[pos c.name.data.toList s.fs]).1, ⟨f.data ++ c.data, (s4.fs[pos c.name.data.toList s.fs]).2.sure⟩) := by
    unfold actOf
    rw [if_pos hk]
    simp only [hgf]
    rw [hfe, hnm, ← hfd]
    simp only [hs4]
    exact hset _
  rw [← hact] at hw6
  have H6 := Lib.hid hw6
  have hlen : s4.fs.length = s.fs.length := by rw [hs4]
  clear hw6 hact hset hgf hfe hcell hfd hnm hii i
  have hFD := HFD.out
  have hgT : T g ∨ w.heap.size ≤ g := .inl (HO.out g rfl)
  have HM5 := HM4; have HC5 := HC4; have HFR5 := HF4
  clear HM4 HC4 HF4
  obtain ⟨n5, hn5⟩ : ∃ n5, n5 = s4.fs.length := ⟨_, rfl⟩
  rw [← hn5] at HM5 H6 hi4
  obtain ⟨f0, hf0⟩ : ∃ f0, f0 = f := ⟨_, rfl⟩
  rw [← hf0] at H6 q2 q3 hfl
  obtain ⟨c5, hc5⟩ : ∃ c5, c5 = c4 := ⟨_, rfl⟩
  rw [← hc5] at HM5 H6
  generalize pos c.name.data.toList s.fs = i at *
  rw [hFD]
  obtain ⟨w5, hw5⟩ : ∃ w5, w5 = w4 := ⟨_, rfl⟩
  rw [← hw5] at HM5 HC5 HFR5 H6 q1 q2 q3 fz1 ⊢
  have hi9 : (i : Int) < (n5 : Int) := by omega
  have hn9 : n5 ≤ 900 := by have := HF.out.files; omega
  clear hw5 hc5 hf0 hn5 hlen
  have m0 := HM5.out.cell0
  have hpbg : pb ≠ g := fun e => HM5.out.ne (by simp [Value.ownBlock, e])
  have hbg : w.heap.size ≠ g := fun e => by
    have h1 := HC5.out
    obtain ⟨cur, h2⟩ := HM5.out.own.notCells (k := g) rfl
    unfold CallAt at h1
    rw [e, h2] at h1
    simp at h1
  have hrowT : ∀ W, Fr T w W → Row W B .u8 c.A c.data := fun W hW hpos => by
    obtain ⟨b, off, e, hb, hc⟩ := HF.out.ok.row hpos
    refine ⟨b, off, e, hb, fun j hj => ?_⟩
    rw [← hc j hj]
    exact World.cell?_of_block (a := ⟨b, off + j, none⟩) (hW.block b (by have := HF.out.B; omega) (hapT hpos _ e))
  have hfr6 : Fr T w (w5.drew.setCell ⟨g, i * 3 + 1, none⟩ (.string (str (f0.data ++ c.data)))) := by
    refine ⟨HFR5.out.os, HFR5.out.tape, HFR5.out.output, by simpa using HFR5.out.size, fun k hk hn => (Below.heap_setCell _ _ _ _ (fun e => ?_)).trans (HFR5.out.block k hk hn)⟩
    simp only at e
    rcases hgT with h1 | h1
    · exact hn (by rw [e]; exact h1)
    · omega
  have cv5 : (convert 31 9 (.slice c.A c.data.length c.cap)).run Try.prog w5.drew = .ok (.string (str c.data)) w5.drew := run_string c.A c.data c.cap B _ (hrowT _ (HFR5.out.trans' (Fr.of_below (below_drew w5))))
  have cv6 : (convert 31 9 (.slice c.A c.data.length c.cap)).run Try.prog (w5.drew.setCell ⟨g, i * 3 + 1, none⟩ (.string (str (f0.data ++ c.data)))) = .ok (.string (str c.data)) (w5.drew.setCell ⟨g, i * 3 + 1, none⟩ (.string (str (f0.data ++ c.data)))) := run_string c.A c.data c.cap B _ (hrowT _ hfr6)
  have hsa : str f0.data ++ str c.data = str (f0.data ++ c.data) := str_append _ _
  have hbig : ¬ 9223372036854775807 < (str f0.data).size + (str c.data).size := by rw [str_size, str_size]; have := HF.out.data; omega
  have HFR6 := Lib.hid hfr6
  have kk4 := HC5.out.k4
  clear hrowT hfr6 k0 k1 k2 k3 k4
  go_wp2
  refine wp_region_noPanic ?_
  refine wp_region_held_drew (S := fun w' => w'.cell? ⟨pb, 0, none⟩ = some (.slice (some ⟨g, 0, none⟩) n5 c5) ∧ w'.cell? ⟨w.heap.size, 4, none⟩ = some (.slice c.A c.data.length c.cap) ∧ (convert 31 9 (.slice c.A c.data.length c.cap)).run Try.prog w' = .ok (.string (str c.data)) w') (by kernel_rfl) ⟨m0, kk4, cv5⟩ (fun hHeld => ?_)
  refine wpAnyH_take (i := 0) (v := ?va0) rfl (by kernel_rfl) (by kernel_rfl) (by kernel_rfl) (fun _ _ _ h => h) (Or.inl ⟨by rfl, ?ha0⟩) (by assumption) ?_
  case ha0 => intro w hSw; (try dsimp only at hSw); go_simp; try with_reducible rfl
  simp only [List.getElem_toArray, List.getElem_cons_zero, Act.put, List.setIfInBounds_toArray, List.set_cons_zero, List.set_cons_succ]
  refine wpAnyH_take (i := 1) (v := ?va1) rfl (by kernel_rfl) (by kernel_rfl) (by kernel_rfl) (fun _ _ _ h => h) (Or.inl ⟨by rfl, ?ha1⟩) (by assumption) ?_
  case ha1 => intro w hSw; (try dsimp only at hSw); go_simp; try with_reducible rfl
  simp only [List.getElem_toArray, List.getElem_cons_succ, List.getElem_cons_zero, Act.put, List.setIfInBounds_toArray, List.set_cons_zero, List.set_cons_succ]
  refine wpAnyH_take (i := 2) (v := ?va2) rfl (by kernel_rfl) (by kernel_rfl) (by kernel_rfl) (fun _ _ _ h => h) (Or.inl ⟨by rfl, ?ha2⟩) (by assumption) ?_
  case ha2 => intro w hSw; (try dsimp only at hSw); go_simp; try with_reducible rfl
  simp only [List.getElem_toArray, List.getElem_cons_succ, List.getElem_cons_zero, Act.put, List.setIfInBounds_toArray, List.set_cons_zero, List.set_cons_succ]
  refine wpAnyH_take (i := 3) (v := ?va3) rfl (by kernel_rfl) (by kernel_rfl) (by kernel_rfl) (fun _ _ _ h => h) (Or.inl ⟨by rfl, ?ha3⟩) (by assumption) ?_
  case ha3 => intro w hSw; (try dsimp only at hSw); go_simp; try with_reducible rfl
  simp only [List.getElem_toArray, List.getElem_cons_succ, List.getElem_cons_zero, Act.put, List.setIfInBounds_toArray, List.set_cons_zero, List.set_cons_succ]
  refine wpAnyH_take (i := 4) (v := ?va4) rfl (by kernel_rfl) (by kernel_rfl) (by kernel_rfl) (fun _ _ _ h => h) (Or.inl ⟨by rfl, ?ha4⟩) (by assumption) ?_
  case ha4 => intro w hSw; (try dsimp only at hSw); go_simp; try with_reducible rfl
  simp only [List.getElem_toArray, List.getElem_cons_succ, List.getElem_cons_zero, Act.put, List.setIfInBounds_toArray, List.set_cons_zero, List.set_cons_succ]
  refine wpAnyH_take (i := 5) (v := ?va5) rfl (by kernel_rfl) (by kernel_rfl) (by kernel_rfl) (fun _ _ _ h => h) (Or.inl ⟨by rfl, ?ha5⟩) (by assumption) ?_
  case ha5 => intro w hSw; (try dsimp only at hSw); go_simp; try with_reducible rfl
  simp only [List.getElem_toArray, List.getElem_cons_succ, List.getElem_cons_zero, Act.put, List.setIfInBounds_toArray, List.set_cons_zero, List.set_cons_succ]
  refine wpAnyH_take (i := 6) (v := ?va6) rfl (by kernel_rfl) (by kernel_rfl) (by kernel_rfl) (fun _ _ _ h => h) (Or.inl ⟨by rfl, ?ha6⟩) (by assumption) ?_
  case ha6 => intro w hSw; (try dsimp only at hSw); go_simp; try with_reducible rfl
  simp only [List.getElem_toArray, List.getElem_cons_succ, List.getElem_cons_zero, Act.put, List.setIfInBounds_toArray, List.set_cons_zero, List.set_cons_succ]
  refine wpAnyH_take (i := 8) (v := ?va8) rfl (by kernel_rfl) (by kernel_rfl) (by kernel_rfl) (fun _ _ _ h => h) (Or.inl ⟨by rfl, ?ha8⟩) (by assumption) ?_
  case ha8 => intro w hSw; (try dsimp only at hSw); go_simp; try with_reducible rfl
  simp only [List.getElem_toArray, List.getElem_cons_succ, List.getElem_cons_zero, Act.put, List.setIfInBounds_toArray, List.set_cons_zero, List.set_cons_succ]
  refine wpAnyH_take (i := 9) (v := ?va9) rfl (by kernel_rfl) (by kernel_rfl) (by kernel_rfl) (fun _ _ _ h => h) (Or.inl ⟨by rfl, ?ha9⟩) (by assumption) ?_
  case ha9 => intro w hSw; (try dsimp only at hSw); go_simp; try with_reducible rfl
  simp only [List.getElem_toArray, List.getElem_cons_succ, List.getElem_cons_zero, Act.put, List.setIfInBounds_toArray, List.set_cons_zero, List.set_cons_succ]
  refine wpAnyH_take (i := 10) (v := ?va10) rfl (by kernel_rfl) (by kernel_rfl) (by kernel_rfl) (fun _ _ _ h => h) (Or.inl ⟨by rfl, ?ha10⟩) (by assumption) ?_
  case ha10 => intro w hSw; (try dsimp only at hSw); go_simp; try with_reducible rfl
  simp only [List.getElem_toArray, List.getElem_cons_succ, List.getElem_cons_zero, Act.put, List.setIfInBounds_toArray, List.set_cons_zero, List.set_cons_succ]
  refine wpAnyH_ready (rs := [7]) (by kernel_rfl) (by simp) ?_
  refine AllReadyH.cons rfl (fun K hK => ?_) AllReadyH.nil
  go_simp
  refine hK.out _ _ ?_ (fun hHeld => ?_)
  · exact ⟨m0, kk4, cv5⟩
  clear hK K
  refine wpAnyH_take (i := 11) (v := ?vb11) rfl (by kernel_rfl) (by kernel_rfl) (by kernel_rfl) (fun _ _ _ h => h) (Or.inl ⟨by rfl, ?hb11⟩) (by assumption) ?_
  case hb11 => intro w hSw; (try dsimp only at hSw); go_simp; try with_reducible rfl
  simp only [List.getElem_toArray, List.getElem_cons_succ, List.getElem_cons_zero, Act.put, List.setIfInBounds_toArray, List.set_cons_zero, List.set_cons_succ]
  refine wpAnyH_take (i := 12) (v := ?vb12) rfl (by kernel_rfl) (by kernel_rfl) (by kernel_rfl) (fun _ _ _ h => h) (Or.inl ⟨by rfl, ?hb12⟩) (by assumption) ?_
  case hb12 => intro w hSw; (try dsimp only at hSw); go_simp; try with_reducible rfl
  simp only [List.getElem_toArray, List.getElem_cons_succ, List.getElem_cons_zero, Act.put, List.setIfInBounds_toArray, List.set_cons_zero, List.set_cons_succ]
  refine wpAnyH_take (i := 13) (v := ?vb13) rfl (by kernel_rfl) (by kernel_rfl) (by kernel_rfl) (fun _ _ _ h => h) (Or.inl ⟨by rfl, ?hb13⟩) (by assumption) ?_
  case hb13 => intro w hSw; (try dsimp only at hSw); go_simp; try with_reducible rfl
  simp only [List.getElem_toArray, List.getElem_cons_succ, List.getElem_cons_zero, Act.put, List.setIfInBounds_toArray, List.set_cons_zero, List.set_cons_succ]
  refine wpAnyH_ready (rs := [14]) (by kernel_rfl) (by simp) ?_
  refine AllReadyH.cons rfl (fun K hK => ?_) AllReadyH.nil
  go_simp
  refine hK.out _ _ ?_ (fun hHeld => ?_)
  · exact ⟨(World.cell?_setCell_other _ _ _ _ (addr_ne hpbg.symm)).trans m0, (World.cell?_setCell_other _ _ _ _ (addr_ne hbg.symm)).trans kk4, cv6⟩
  clear hK K
  refine wpAnyH_done (by kernel_rfl) ?_ _
  refine NoPanic.normal ?_
  clear hHeld cv5 cv6
  go_wp2
  go_ret
  rw [HR4.out]
  exact ⟨rfl, Mod.mk_after H6.out hp (fun k hk => by
    have e : k = g := by simpa [Value.ownBlock] using hk.symm
    rw [e]; exact hgT) HT.out HFR6.out.size, HFR6.out⟩

set_option maxRecDepth 100000 in
set_option maxHeartbeats 4000000 in
theorem mdo_0f_free (w : World) (T : Nat → Prop) (pb : Nat) (v : Value) (s : St) (c : CallV) (B : Nat) (h : MoB w pb v s) (hp : T pb) (hold : ∀ k, v.ownBlock = some k → T k) (hlt : ∀ k, T k → k < w.heap.size) (hf : MFits w s c B) (hk : c.k < 2) (he : wrongV s c (found c.name.data.toList s.fs) = 0) (hz : s.fuse < 0) (hfd : found c.name.data.toList s.fs = true) (hapT : 0 < c.data.length → ∀ a, c.A = some a → ¬ T a.block) :
    Calls Try.prog 11 #[.pointer (some ⟨pb, 0, none⟩), c.val] w (MAfter w T pb (step s c)) := by
  obtain ⟨r, hr⟩ : ∃ r, r = step s c := ⟨_, rfl⟩
  rw [← hr]
  rw [step_free hf (by omega) he hz] at hr
  have HR := Lib.hid hr; have HE := Lib.hid he
  have HFD := Lib.hid hfd
  clear hfd
  clear hr he
  have HK := Lib.hid (kind_ok (w.alloc (.cells #[.int .i64 c.kind, .int .i64 c.n, .string c.name, .string c.to, .slice c.A c.data.length c.cap] 33)) c)
  have HM := Lib.hid h; have HO := Lib.hid hold; have HT := Lib.hid hlt; have HF := Lib.hid hf
  have hba : Below w.heap.size w (w.alloc (.cells #[.int .i64 c.kind, .int .i64 c.n, .string c.name, .string c.to, .slice c.A c.data.length c.cap] 33)) := (Below.refl _ _).alloc (Nat.le_refl _) _
  have HBA := Lib.hid hba
  have HCA := Lib.hid (CallAt.alloc w c)
  have hpw : pb < w.heap.size := h.lt
  clear h hba hold hlt hf
  unfold CallV.val at *
  go_enter Try.func11, Try.ntmps11
  go_wp2_with fail
  refine HK.out.mono ?_
  rintro e w1 ⟨rfl, hb1⟩
  have HC1 := Lib.hid (HCA.out.below hb1)
  have HB1 := Lib.hid (HBA.out.trans (hb1.mono (by simp)))
  have HM1 := Lib.hid (HM.out.below HB1.out)
  clear hb1
  have k0 := HC1.out.k0; have k1 := HC1.out.k1; have k2 := HC1.out.k2; have k3 := HC1.out.k3; have k4 := HC1.out.k4
  have d6 : ((c.k : Int) == 6) = false := beq_eq_false_iff_ne.2 (by omega)
  have d7 : ((c.k : Int) == 7) = false := beq_eq_false_iff_ne.2 (by omega)
  go_wp2_with fail
  refine (mat_ok w1 pb v s c.name HM1.out (by have := HF.out.files; omega)).mono ?_
  rintro e w2 ⟨rfl, hb2⟩
  have HC2 := Lib.hid (HC1.out.below hb2)
  have HB2 := Lib.hid (HB1.out.trans (hb2.mono HB1.out.size))
  have HM2 := Lib.hid (HM1.out.below hb2)
  clear hb2 k0 k1 k2 k3 k4
  have k0 := HC2.out.k0; have k1 := HC2.out.k1; have k2 := HC2.out.k2; have k3 := HC2.out.k3; have k4 := HC2.out.k4
  go_wp2_with fail
  refine (wrong_ok w2 pb v s c (found c.name.data.toList s.fs) HM2.out (by have := HF.out.files; omega) (by have := HF.out.used; omega) HF.out.quota (by have := HF.out.data; omega)).mono ?_
  rintro e w3 ⟨rfl, hb3⟩
  have HC3 := Lib.hid (HC2.out.below hb3)
  have HB3 := Lib.hid (HB2.out.trans (hb3.mono HB2.out.size))
  have HM3 := Lib.hid (HM2.out.below hb3)
  clear hb3 k0 k1 k2 k3 k4
  have k0 := HC3.out.k0; have k1 := HC3.out.k1; have k2 := HC3.out.k2; have k3 := HC3.out.k3; have k4 := HC3.out.k4
  rw [HE.out]
  have e2 : ((c.k : Int) == 2) = false := beq_eq_false_iff_ne.2 (by omega)
  have e3 : ((c.k : Int) == 3) = false := beq_eq_false_iff_ne.2 (by omega)
  have e4 : ((c.k : Int) == 4) = false := beq_eq_false_iff_ne.2 (by omega)
  have e5 : ((c.k : Int) == 5) = false := beq_eq_false_iff_ne.2 (by omega)
  have m2 := HM3.out.cell2
  have hmx : max s.fuse (-1) = -1 := by omega
  rw [hmx] at m2
  have HM4 := HM3
  have HC4 := HC3
  have HF4 := Lib.hid (show Fr T w w3 from Fr.of_below HB3.out)
  clear hmx
  go_upto_region 17 with fail
  clear m2 k0 k1 k2 k3 k4
  obtain ⟨w4, ew4⟩ : ∃ w4, w4 = w3 := ⟨_, rfl⟩
  rw [← ew4] at HM4 HC4 HF4 ⊢
  clear ew4
  obtain ⟨s4, es4⟩ : ∃ s4 : St, s4 = s := ⟨_, rfl⟩
  rw [← es4] at HM4
  have hs4 : s4.fs = s.fs := by rw [es4]
  have HR4 : Hid (r = (0, { s4 with fs := actOf c s.fs })) := Lib.hid (by rw [HR.out, es4])
  clear es4
  have k0 := HC4.out.k0; have k1 := HC4.out.k1; have k2 := HC4.out.k2; have k3 := HC4.out.k3; have k4 := HC4.out.k4
  obtain ⟨hi, hnm⟩ := found_at HFD.out
  have hi4 : pos c.name.data.toList s.fs < s4.fs.length := by rw [hs4]; exact hi
  obtain ⟨A4, c4, hv4, _, _, _, hcell⟩ := HM4.out.own.form
  subst hv4
  obtain ⟨g, hA, hg, q1, q2, q3, fz1, fz2⟩ := hcell _ hi4
  subst hA
  have hgf : get c.name.data.toList s.fs = some (s.fs[pos c.name.data.toList s.fs]).2 := by obtain ⟨_, e⟩ := get_found HF.out.rise HFD.out; exact e
  have hfe : s4.fs[pos c.name.data.toList s.fs] = s.fs[pos c.name.data.toList s.fs] := by simp only [hs4]
  rw [hfe] at q1 q2 q3
  have hset := put_found HF.out.rise HFD.out
  have hfl : (s.fs[pos c.name.data.toList s.fs]).2.data.length ≤ 900000 := Nat.le_trans (sum_mem (fun x : File => x.data.length) (List.getElem_mem hi)) HF.out.used
  obtain ⟨f, hfd⟩ : ∃ f, f = (s.fs[pos c.name.data.toList s.fs]).2 := ⟨_, rfl⟩
  rw [← hfd] at q2 q3 hgf hfl
  obtain ⟨i, hii⟩ : ∃ i, i = pos c.name.data.toList s.fs := ⟨_, rfl⟩
  have hw6 := (HM4.out.below (below_drew w4)).set1 hi4 (f.data ++ c.data) rfl
  have hact : actOf c s.fs = s4.fs.set (pos c.name.data.toList s.fs) ((s4.fs[pos c.name.data.toList s.fs]).1, ⟨f.data ++ c.data, (s4.fs[pos c.name.data.toList s.fs]).2.sure⟩) := by
    unfold actOf
    rw [if_pos hk]
    simp only [hgf]
    rw [hfe, hnm, ← hfd]
    simp only [hs4]
    exact hset _
  rw [← hact] at hw6
  have H6 := Lib.hid hw6
  have hlen : s4.fs.length = s.fs.length := by rw [hs4]
  clear hw6 hact hset hgf hfe hcell hfd hnm hii i
  have hFD := HFD.out
  have hgT : T g ∨ w.heap.size ≤ g := .inl (HO.out g rfl)
  have HM5 := HM4; have HC5 := HC4; have HFR5 := HF4
  clear HM4 HC4 HF4
  obtain ⟨n5, hn5⟩ : ∃ n5, n5 = s4.fs.length := ⟨_, rfl⟩
  rw [← hn5] at HM5 H6 hi4
  obtain ⟨f0, hf0⟩ : ∃ f0, f0 = f := ⟨_, rfl⟩
  rw [← hf0] at H6 q2 q3 hfl
  obtain ⟨c5, hc5⟩ : ∃ c5, c5 = c4 := ⟨_, rfl⟩
  rw [← hc5] at HM5 H6
  generalize pos c.name.data.toList s.fs = i at *
  rw [hFD]
  obtain ⟨w5, hw5⟩ : ∃ w5, w5 = w4 := ⟨_, rfl⟩
  rw [← hw5] at HM5 HC5 HFR5 H6 q1 q2 q3 fz1 ⊢
  have hi9 : (i : Int) < (n5 : Int) := by omega
  have hn9 : n5 ≤ 900 := by have := HF.out.files; omega
  clear hw5 hc5 hf0 hn5 hlen
  have m0 := HM5.out.cell0
  have hpbg : pb ≠ g := fun e => HM5.out.ne (by simp [Value.ownBlock, e])
  have hbg : w.heap.size ≠ g := fun e => by
    have h1 := HC5.out
    obtain ⟨cur, h2⟩ := HM5.out.own.notCells (k := g) rfl
    unfold CallAt at h1
    rw [e, h2] at h1
    simp at h1
  have hrowT : ∀ W, Fr T w W → Row W B .u8 c.A c.data := fun W hW hpos => by
    obtain ⟨b, off, e, hb, hc⟩ := HF.out.ok.row hpos
    refine ⟨b, off, e, hb, fun j hj => ?_⟩
    rw [← hc j hj]
    exact World.cell?_of_block (a := ⟨b, off + j, none⟩) (hW.block b (by have := HF.out.B; omega) (hapT hpos _ e))
  have hfr6 : Fr T w (w5.drew.setCell ⟨g, i * 3 + 1, none⟩ (.string (str (f0.data ++ c.data)))) := by
    refine ⟨HFR5.out.os, HFR5.out.tape, HFR5.out.output, by simpa using HFR5.out.size, fun k hk hn => (Below.heap_setCell _ _ _ _ (fun e => ?_)).trans (HFR5.out.block k hk hn)⟩
    simp only at e
    rcases hgT with h1 | h1
    · exact hn (by rw [e]; exact h1)
    · omega
  have cv5 : (convert 31 9 (.slice c.A c.data.length c.cap)).run Try.prog w5.drew = .ok (.string (str c.data)) w5.drew := run_string c.A c.data c.cap B _ (hrowT _ (HFR5.out.trans' (Fr.of_below (below_drew w5))))
  have cv6 : (convert 31 9 (.slice c.A c.data.length c.cap)).run Try.prog (w5.drew.setCell ⟨g, i * 3 + 1, none⟩ (.string (str (f0.data ++ c.data)))) = .ok (.string (str c.data)) (w5.drew.setCell ⟨g, i * 3 + 1, none⟩ (.string (str (f0.data ++ c.data)))) := run_string c.A c.data c.cap B _ (hrowT _ hfr6)
  have hsa : str f0.data ++ str c.data = str (f0.data ++ c.data) := str_append _ _
  have hbig : ¬ 9223372036854775807 < (str f0.data).size + (str c.data).size := by rw [str_size, str_size]; have := HF.out.data; omega
  have HFR6 := Lib.hid hfr6
  have kk4 := HC5.out.k4
  clear hrowT hfr6 k0 k1 k2 k3 k4
  go_wp2
  refine wp_region_noPanic ?_
  refine wp_region_held_drew (S := fun w' => w'.cell? ⟨pb, 0, none⟩ = some (.slice (some ⟨g, 0, none⟩) n5 c5) ∧ w'.cell? ⟨w.heap.size, 4, none⟩ = some (.slice c.A c.data.length c.cap) ∧ (convert 31 9 (.slice c.A c.data.length c.cap)).run Try.prog w' = .ok (.string (str c.data)) w') (by kernel_rfl) ⟨m0, kk4, cv5⟩ (fun hHeld => ?_)
  refine wpAnyH_take (i := 0) (v := ?va0) rfl (by kernel_rfl) (by kernel_rfl) (by kernel_rfl) (fun _ _ _ h => h) (Or.inl ⟨by rfl, ?ha0⟩) (by assumption) ?_
  case ha0 => intro w hSw; (try dsimp only at hSw); go_simp; try with_reducible rfl
  simp only [List.getElem_toArray, List.getElem_cons_zero, Act.put, List.setIfInBounds_toArray, List.set_cons_zero, List.set_cons_succ]
  refine wpAnyH_take (i := 1) (v := ?va1) rfl (by kernel_rfl) (by kernel_rfl) (by kernel_rfl) (fun _ _ _ h => h) (Or.inl ⟨by rfl, ?ha1⟩) (by assumption) ?_
  case ha1 => intro w hSw; (try dsimp only at hSw); go_simp; try with_reducible rfl
  simp only [List.getElem_toArray, List.getElem_cons_succ, List.getElem_cons_zero, Act.put, List.setIfInBounds_toArray, List.set_cons_zero, List.set_cons_succ]
  refine wpAnyH_take (i := 2) (v := ?va2) rfl (by kernel_rfl) (by kernel_rfl) (by kernel_rfl) (fun _ _ _ h => h) (Or.inl ⟨by rfl, ?ha2⟩) (by assumption) ?_
  case ha2 => intro w hSw; (try dsimp only at hSw); go_simp; try with_reducible rfl
  simp only [List.getElem_toArray, List.getElem_cons_succ, List.getElem_cons_zero, Act.put, List.setIfInBounds_toArray, List.set_cons_zero, List.set_cons_succ]
  refine wpAnyH_take (i := 3) (v := ?va3) rfl (by kernel_rfl) (by kernel_rfl) (by kernel_rfl) (fun _ _ _ h => h) (Or.inl ⟨by rfl, ?ha3⟩) (by assumption) ?_
  case ha3 => intro w hSw; (try dsimp only at hSw); go_simp; try with_reducible rfl
  simp only [List.getElem_toArray, List.getElem_cons_succ, List.getElem_cons_zero, Act.put, List.setIfInBounds_toArray, List.set_cons_zero, List.set_cons_succ]
  refine wpAnyH_take (i := 4) (v := ?va4) rfl (by kernel_rfl) (by kernel_rfl) (by kernel_rfl) (fun _ _ _ h => h) (Or.inl ⟨by rfl, ?ha4⟩) (by assumption) ?_
  case ha4 => intro w hSw; (try dsimp only at hSw); go_simp; try with_reducible rfl
  simp only [List.getElem_toArray, List.getElem_cons_succ, List.getElem_cons_zero, Act.put, List.setIfInBounds_toArray, List.set_cons_zero, List.set_cons_succ]
  refine wpAnyH_take (i := 5) (v := ?va5) rfl (by kernel_rfl) (by kernel_rfl) (by kernel_rfl) (fun _ _ _ h => h) (Or.inl ⟨by rfl, ?ha5⟩) (by assumption) ?_
  case ha5 => intro w hSw; (try dsimp only at hSw); go_simp; try with_reducible rfl
  simp only [List.getElem_toArray, List.getElem_cons_succ, List.getElem_cons_zero, Act.put, List.setIfInBounds_toArray, List.set_cons_zero, List.set_cons_succ]
  refine wpAnyH_take (i := 6) (v := ?va6) rfl (by kernel_rfl) (by kernel_rfl) (by kernel_rfl) (fun _ _ _ h => h) (Or.inl ⟨by rfl, ?ha6⟩) (by assumption) ?_
  case ha6 => intro w hSw; (try dsimp only at hSw); go_simp; try with_reducible rfl
  simp only [List.getElem_toArray, List.getElem_cons_succ, List.getElem_cons_zero, Act.put, List.setIfInBounds_toArray, List.set_cons_zero, List.set_cons_succ]
  refine wpAnyH_take (i := 8) (v := ?va8) rfl (by kernel_rfl) (by kernel_rfl) (by kernel_rfl) (fun _ _ _ h => h) (Or.inl ⟨by rfl, ?ha8⟩) (by assumption) ?_
  case ha8 => intro w hSw; (try dsimp only at hSw); go_simp; try with_reducible rfl
  simp only [List.getElem_toArray, List.getElem_cons_succ, List.getElem_cons_zero, Act.put, List.setIfInBounds_toArray, List.set_cons_zero, List.set_cons_succ]
  refine wpAnyH_take (i := 9) (v := ?va9) rfl (by kernel_rfl) (by kernel_rfl) (by kernel_rfl) (fun _ _ _ h => h) (Or.inl ⟨by rfl, ?ha9⟩) (by assumption) ?_
  case ha9 => intro w hSw; (try dsimp only at hSw); go_simp; try with_reducible rfl
  simp only [List.getElem_toArray, List.getElem_cons_succ, List.getElem_cons_zero, Act.put, List.setIfInBounds_toArray, List.set_cons_zero, List.set_cons_succ]
  refine wpAnyH_take (i := 10) (v := ?va10) rfl (by kernel_rfl) (by kernel_rfl) (by kernel_rfl) (fun _ _ _ h => h) (Or.inl ⟨by rfl, ?ha10⟩) (by assumption) ?_
  case ha10 => intro w hSw; (try dsimp only at hSw); go_simp; try with_reducible rfl
  simp only [List.getElem_toArray, List.getElem_cons_succ, List.getElem_cons_zero, Act.put, List.setIfInBounds_toArray, List.set_cons_zero, List.set_cons_succ]
  refine wpAnyH_ready (rs := [7]) (by kernel_rfl) (by simp) ?_
  refine AllReadyH.cons rfl (fun K hK => ?_) AllReadyH.nil
  go_simp
  refine hK.out _ _ ?_ (fun hHeld => ?_)
  · exact ⟨m0, kk4, cv5⟩
  clear hK K
  refine wpAnyH_take (i := 11) (v := ?vb11) rfl (by kernel_rfl) (by kernel_rfl) (by kernel_rfl) (fun _ _ _ h => h) (Or.inl ⟨by rfl, ?hb11⟩) (by assumption) ?_
  case hb11 => intro w hSw; (try dsimp only at hSw); go_simp; try with_reducible rfl
  simp only [List.getElem_toArray, List.getElem_cons_succ, List.getElem_cons_zero, Act.put, List.setIfInBounds_toArray, List.set_cons_zero, List.set_cons_succ]
  refine wpAnyH_take (i := 12) (v := ?vb12) rfl (by kernel_rfl) (by kernel_rfl) (by kernel_rfl) (fun _ _ _ h => h) (Or.inl ⟨by rfl, ?hb12⟩) (by assumption) ?_
  case hb12 => intro w hSw; (try dsimp only at hSw); go_simp; try with_reducible rfl
  simp only [List.getElem_toArray, List.getElem_cons_succ, List.getElem_cons_zero, Act.put, List.setIfInBounds_toArray, List.set_cons_zero, List.set_cons_succ]
  refine wpAnyH_take (i := 13) (v := ?vb13) rfl (by kernel_rfl) (by kernel_rfl) (by kernel_rfl) (fun _ _ _ h => h) (Or.inl ⟨by rfl, ?hb13⟩) (by assumption) ?_
  case hb13 => intro w hSw; (try dsimp only at hSw); go_simp; try with_reducible rfl
  simp only [List.getElem_toArray, List.getElem_cons_succ, List.getElem_cons_zero, Act.put, List.setIfInBounds_toArray, List.set_cons_zero, List.set_cons_succ]
  refine wpAnyH_ready (rs := [14]) (by kernel_rfl) (by simp) ?_
  refine AllReadyH.cons rfl (fun K hK => ?_) AllReadyH.nil
  go_simp
  refine hK.out _ _ ?_ (fun hHeld => ?_)
  · exact ⟨(World.cell?_setCell_other _ _ _ _ (addr_ne hpbg.symm)).trans m0, (World.cell?_setCell_other _ _ _ _ (addr_ne hbg.symm)).trans kk4, cv6⟩
  clear hK K
  refine wpAnyH_done (by kernel_rfl) ?_ _
  refine NoPanic.normal ?_
  clear hHeld cv5 cv6
  go_wp2
  go_ret
  rw [HR4.out]
  exact ⟨rfl, Mod.mk_after H6.out hp (fun k hk => by
    have e : k = g := by simpa [Value.ownBlock] using hk.symm
    rw [e]; exact hgT) HT.out HFR6.out.size, HFR6.out⟩

end Go.Proofs.Ytdaipoelicpnoaa
