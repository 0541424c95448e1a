/-
  FileRuns' model: do: Rename.
-/
import Derived.Test.YtdaipoelicpnoaaFMDo
namespace Go.Proofs.Ytdaipoelicpnoaa
open Go.RowKit Go.Maps FM

set_option maxRecDepth 100000 in
set_option maxHeartbeats 4000000 in
theorem mdo_3_counts (w : World) (T : Nat → Prop) (pb : Nat) (v : Value) (s : St) (c : CallV) (B : Nat) (h : MoB w pb v s) (hp : T pb) (hold : ∀ k, v.ownBlock = some k → T k) (hlt : ∀ k, T k → k < w.heap.size) (hf : MFits w s c B) (hk : c.k = 3) (he : wrongV s c (found c.name.data.toList s.fs) = 0) (hz : 0 < s.fuse) :
    Calls Try.prog 11 #[.pointer (some ⟨pb, 0, none⟩), c.val] w (MAfter w T pb (step s c)) := by
  obtain ⟨r, hr⟩ : ∃ r, r = step s c := ⟨_, rfl⟩
  rw [← hr]
  rw [step_counts hf (by omega) he hz] at hr
  have HR := Lib.hid hr; have HE := Lib.hid he
  have HFD := Lib.hid (not_wrong_found hf (by omega) he)
  clear hr he
  have HK := Lib.hid (kind_ok (w.alloc (.cells #[.int .i64 c.kind, .int .i64 c.n, .string c.name, .string c.to, .slice c.A c.data.length c.cap] 33)) c)
  have HM := Lib.hid h; have HO := Lib.hid hold; have HT := Lib.hid hlt; have HF := Lib.hid hf
  have hba : Below w.heap.size w (w.alloc (.cells #[.int .i64 c.kind, .int .i64 c.n, .string c.name, .string c.to, .slice c.A c.data.length c.cap] 33)) := (Below.refl _ _).alloc (Nat.le_refl _) _
  have HBA := Lib.hid hba
  have HCA := Lib.hid (CallAt.alloc w c)
  have hpw : pb < w.heap.size := h.lt
  clear h hba hold hlt hf
  unfold CallV.val at *
  go_enter Try.func11, Try.ntmps11
  go_wp2_with fail
  refine HK.out.mono ?_
  rintro e w1 ⟨rfl, hb1⟩
  have HC1 := Lib.hid (HCA.out.below hb1)
  have HB1 := Lib.hid (HBA.out.trans (hb1.mono (by simp)))
  have HM1 := Lib.hid (HM.out.below HB1.out)
  clear hb1
  have k0 := HC1.out.k0; have k1 := HC1.out.k1; have k2 := HC1.out.k2; have k3 := HC1.out.k3; have k4 := HC1.out.k4
  have d6 : ((c.k : Int) == 6) = false := beq_eq_false_iff_ne.2 (by omega)
  have d7 : ((c.k : Int) == 7) = false := beq_eq_false_iff_ne.2 (by omega)
  go_wp2_with fail
  refine (mat_ok w1 pb v s c.name HM1.out (by have := HF.out.files; omega)).mono ?_
  rintro e w2 ⟨rfl, hb2⟩
  have HC2 := Lib.hid (HC1.out.below hb2)
  have HB2 := Lib.hid (HB1.out.trans (hb2.mono HB1.out.size))
  have HM2 := Lib.hid (HM1.out.below hb2)
  clear hb2 k0 k1 k2 k3 k4
  have k0 := HC2.out.k0; have k1 := HC2.out.k1; have k2 := HC2.out.k2; have k3 := HC2.out.k3; have k4 := HC2.out.k4
  go_wp2_with fail
  refine (wrong_ok w2 pb v s c (found c.name.data.toList s.fs) HM2.out (by have := HF.out.files; omega) (by have := HF.out.used; omega) HF.out.quota (by have := HF.out.data; omega)).mono ?_
  rintro e w3 ⟨rfl, hb3⟩
  have HC3 := Lib.hid (HC2.out.below hb3)
  have HB3 := Lib.hid (HB2.out.trans (hb3.mono HB2.out.size))
  have HM3 := Lib.hid (HM2.out.below hb3)
  clear hb3 k0 k1 k2 k3 k4
  have k0 := HC3.out.k0; have k1 := HC3.out.k1; have k2 := HC3.out.k2; have k3 := HC3.out.k3; have k4 := HC3.out.k4
  rw [HE.out]
  have e2 : ((c.k : Int) == 2) = false := beq_eq_false_iff_ne.2 (by omega)
  have e3 : ((c.k : Int) == 3) = true := by simp; omega
  have m2 := HM3.out.cell2; have f2 := HM3.out.frozen 2
  have hmx : max s.fuse (-1) = s.fuse := by omega
  rw [hmx] at m2
  have z1 : (s.fuse == 0) = false := by simp; omega
  have z2 : decide ((0 : Int) < s.fuse) = true := decide_eq_true hz
  have hw : wrap64 (s.fuse - 1) = s.fuse - 1 := by have := HF.out.fuse; unfold wrap64; omega
  have HM4 := Lib.hid (HM3.out.fuse (s.fuse - 1) (s.fuse - 1) (by omega))
  have HC4 := Lib.hid (HC3.out.fr (Fr.setCell (S := fun k => k = pb) (a := ⟨pb, 2, none⟩) (.int .i64 (s.fuse - 1)) rfl) (fun e : w.heap.size = pb => by omega))
  have HF4 := Lib.hid (show Fr T w (w3.setCell ⟨pb, 2, none⟩ (.int .i64 (s.fuse - 1))) from (Fr.of_below HB3.out).trans' (Fr.setCell (a := ⟨pb, 2, none⟩) _ hp))
  have HW := Lib.hid hw
  clear hmx hw
  go_upto_region 17 with fail
  rw [HW.out]
  clear m2 f2 z1 z2 k0 k1 k2 k3 k4
  generalize w3.setCell ⟨pb, 2, none⟩ (.int .i64 (s.fuse - 1)) = w4 at *
  have hs4 : ({ s with fuse := s.fuse - 1 } : St).fs = s.fs := rfl
  obtain ⟨s4, es4⟩ : ∃ s4 : St, s4 = { s with fuse := s.fuse - 1 } := ⟨_, rfl⟩
  rw [← es4] at HM4 hs4
  have HR4 : Hid (r = (0, { s4 with fs := actOf c s.fs })) := Lib.hid (by rw [HR.out, es4])
  clear es4
  have k0 := HC4.out.k0; have k1 := HC4.out.k1; have k2 := HC4.out.k2; have k3 := HC4.out.k3; have k4 := HC4.out.k4
  obtain ⟨hi, hnm⟩ := found_at HFD.out
  have hi4 : pos c.name.data.toList s.fs < s4.fs.length := by rw [hs4]; exact hi
  obtain ⟨A4, c4, hv4, _, _, _, hcell⟩ := HM4.out.own.form
  subst hv4
  obtain ⟨g, hA, hg, q1, q2, q3, _, _⟩ := hcell _ hi4
  subst hA
  have hgf : get c.name.data.toList s.fs = some (s.fs[pos c.name.data.toList s.fs]).2 := by obtain ⟨_, e⟩ := get_found HF.out.rise HFD.out; exact e
  have hfe : s4.fs[pos c.name.data.toList s.fs] = s.fs[pos c.name.data.toList s.fs] := by simp only [hs4]
  rw [hfe, hnm, nm_of] at q1
  rw [hfe] at q2 q3
  obtain ⟨f, hfd⟩ : ∃ f, f = (s.fs[pos c.name.data.toList s.fs]).2 := ⟨_, rfl⟩
  rw [← hfd] at q2 q3 hgf
  have m0 := HM4.out.cell0
  have hdel := del_found HF.out.rise HFD.out
  have hact : actOf c s.fs = put c.to.data.toList f (del c.name.data.toList s.fs) := by unfold actOf; simp [hk, hgf]
  obtain ⟨fs1, hfs1⟩ : ∃ fs1, fs1 = del c.name.data.toList s.fs := ⟨_, rfl⟩
  have hr1 : Rise fs1 := by rw [hfs1]; exact HF.out.rise.del _
  have hl1 : fs1.length ≤ 900 := by rw [hfs1]; exact Nat.le_trans (length_del_le _ _) HF.out.files
  rw [← hfs1] at hdel hact
  have hlen4 : s4.fs.length = s.fs.length := by rw [hs4]
  clear hcell hgf hfe hfd hnm hfs1
  generalize pos c.name.data.toList s.fs = i at *
  have hi9 : (i : Int) < (s4.fs.length : Int) := by omega
  have hn9 : s4.fs.length ≤ 900 := by have := HF.out.files; omega
  have hba : Below w4.heap.size w4 (w4.alloc (.cells #[.string c.name, .string (str f.data), .int .i64 (f.sure : Int)] 62)) := (Below.refl _ _).alloc (Nat.le_refl _) _
  have HMA := Lib.hid (HM4.out.below hba)
  have HCA4 := Lib.hid (HC4.out.below hba)
  have HDEL := Lib.hid hdel; have HACT := Lib.hid hact; have HR1 := Lib.hid hr1
  have hbx := (MapKept.heap_alloc w4 (.cells #[.string c.name, .string (str f.data), .int .i64 (f.sure : Int)] 62)).1
  have HBX := Lib.hid hbx
  have HFA := Lib.hid (HF4.out.trans' (Fr.of_below (S := T) hba))
  clear hdel hact hr1 hba hbx
  have hp4 : pb < w4.heap.size := HM4.out.lt
  go_wp2_with fail
  refine (drop_ok _ pb _ s4 i (by omega) HMA.out (by omega)).mono ?_
  rintro e w6 ⟨rfl, v6, h6, hf6, hn6⟩
  rw [hs4, ← HDEL.out] at h6
  have H6 := Lib.hid h6
  have HF6 := Lib.hid (HFA.out.trans' (fr_pb hp hf6))
  have HC6 := Lib.hid (HCA4.out.fr hf6 (fun e : w.heap.size = pb => by omega))
  have hbx6 : w6.heap[w4.heap.size]? = some (.cells #[.string c.name, .string (str f.data), .int .i64 (f.sure : Int)] 62) := (hf6.block w4.heap.size (by simp) (fun e => by omega)).trans HBX.out
  have x0 : w6.cell? ⟨w4.heap.size, 0, none⟩ = some (.string c.name) := by simp only [World.cell?, hbx6]; rfl
  have xf : w6.frozen? ⟨w4.heap.size, 0, none⟩ = false := by simp [World.frozen?, hbx6]
  have y3 := HC6.out.k3
  have hne6 : ∀ k, v6.ownBlock = some k → k ≠ w4.heap.size := fun k hk e => by have := hn6 k hk; simp at this; omega
  have h7 : MoB (w6.setCell ⟨w4.heap.size, 0, none⟩ (.string c.to)) pb v6 { s4 with fs := fs1 } := h6.keep (Below.heap_setCell _ _ _ _ (by simp; omega)) (fun k hk => Below.heap_setCell _ _ _ _ (by simpa using hne6 k hk))
  have hbx7 : (w6.setCell ⟨w4.heap.size, 0, none⟩ (.string c.to)).heap[w4.heap.size]? = some (.cells #[.string c.to, .string (str f.data), .int .i64 (f.sure : Int)] 62) := (heap_setCell_same w6 w4.heap.size 0 _ _ _ hbx6).trans rfl
  have hwb : w.heap.size < w4.heap.size := by have h1 := HC4.out.lt; exact h1
  have hC7 : CallAt (w6.setCell ⟨w4.heap.size, 0, none⟩ (.string c.to)) w.heap.size c := (Below.heap_setCell _ _ _ _ (by simp; omega)).trans HC6.out
  have hF7 : Fr T w (w6.setCell ⟨w4.heap.size, 0, none⟩ (.string c.to)) := ⟨HF6.out.os, HF6.out.tape, HF6.out.output, by simpa using HF6.out.size, fun k hk hn => (Below.heap_setCell _ _ _ _ (by simp; omega)).trans (HF6.out.block k hk hn)⟩
  have hn7 : ∀ k, v6.ownBlock = some k → w.heap.size ≤ k := fun k hk => by have := hn6 k hk; simp at this; omega
  have HM7 := Lib.hid h7; have HBX7 := Lib.hid hbx7; have HC7 := Lib.hid hC7; have HF7 := Lib.hid hF7; have HN7 := Lib.hid hn7
  clear h6 hf6 hn6 hbx6 hne6 h7 hbx7 hC7 hF7 hn7 k0 k1 k2 k3 k4
  go_upto_region 27 with fail
  obtain ⟨w7, hw7⟩ : ∃ w7, w7 = w6.setCell ⟨w4.heap.size, 0, none⟩ (.string c.to) := ⟨_, rfl⟩
  rw [← hw7] at HM7 HBX7 HC7 HF7 ⊢
  clear hw7 x0 xf y3
  have y3 := HC7.out.k3
  go_wp2_with fail
  refine (mat_ok w7 pb v6 { s4 with fs := fs1 } c.to HM7.out (show fs1.length ≤ 1000000 by omega)).mono ?_
  rintro e w8 ⟨rfl, hb8⟩
  have HM8 := Lib.hid (HM7.out.below hb8)
  have hz7 : w4.heap.size < w7.heap.size := (Array.getElem?_eq_some_iff.1 HBX7.out).1
  have hbx8 := (hb8.block _ hz7).trans HBX7.out
  have HF8 := Lib.hid (HF7.out.trans' (Fr.of_below (S := T) hb8))
  have hz8 := hb8.size
  clear hb8 y3
  have hjl := pos_le c.to.data.toList fs1
  rcases hfd2 : found c.to.data.toList fs1 with _ | _
  · have hpl := put_lost HR1.out hfd2 f
    have b0 : w8.cell? ⟨w4.heap.size, 0, none⟩ = some (.string c.to) := by simp only [World.cell?, hbx8]; rfl
    have b1 : w8.cell? ⟨w4.heap.size, 1, none⟩ = some (.string (str f.data)) := by simp only [World.cell?, hbx8]; rfl
    have b2 : w8.cell? ⟨w4.heap.size, 2, none⟩ = some (.int .i64 (f.sure : Int)) := by simp only [World.cell?, hbx8]; rfl
    have HPL := Lib.hid hpl
    clear hpl hbx8
    have hst : ({ s4 with fs := fs1 } : St).fs = fs1 := rfl
    rw [hst]
    generalize pos c.to.data.toList fs1 = j at *
    go_wp2_with fail
    have HPO := put_ok w8 pb v6 { s4 with fs := fs1 } j hjl (c.to.data.toList, f) HM8.out (show fs1.length ≤ 1000 by omega)
    rw [show nm ((c.to.data.toList, f) : Name × File).1 = c.to from rfl] at HPO
    refine HPO.mono ?_
    rintro e w9 ⟨rfl, v9, h9, hf9, hn9'⟩
    have H9 := Lib.hid h9; have HF9 := Lib.hid hf9; have HN9 := Lib.hid hn9'
    clear h9 hf9 hn9' b0 b1 b2
    go_wp2
    go_ret
    rw [HR4.out]
    have h10 := H9.out
    have hac : actOf c s.fs = fs1.take j ++ [(c.to.data.toList, f)] ++ fs1.drop j := by rw [HACT.out, HPL.out]
    rw [← hac] at h10
    have hfr : Fr T w w9 := HF8.out.trans' (fr_pb hp HF9.out)
    exact ⟨rfl, Mod.mk_after h10 hp (fun k hk => .inr (Nat.le_trans HF8.out.size (HN9.out k hk))) HT.out hfr.size, hfr⟩
  · have hpf := put_found HR1.out hfd2 f
    obtain ⟨hjj, _⟩ := found_at hfd2
    have HPF := Lib.hid hpf; have HBX8 := Lib.hid hbx8
    clear hpf hbx8
    have hst : ({ s4 with fs := fs1 } : St).fs = fs1 := rfl
    rw [hst]
    generalize pos c.to.data.toList fs1 = j at *
    go_wp2_with fail
    refine (drop_ok w8 pb v6 { s4 with fs := fs1 } j hjj HM8.out (show fs1.length ≤ 1000 by omega)).mono ?_
    rintro e w9 ⟨rfl, v9, h9, hf9, hn9'⟩
    have hbx9 := (hf9.block w4.heap.size (by omega) (fun e => by omega)).trans HBX8.out
    have b0 : w9.cell? ⟨w4.heap.size, 0, none⟩ = some (.string c.to) := by simp only [World.cell?, hbx9]; rfl
    have b1 : w9.cell? ⟨w4.heap.size, 1, none⟩ = some (.string (str f.data)) := by simp only [World.cell?, hbx9]; rfl
    have b2 : w9.cell? ⟨w4.heap.size, 2, none⟩ = some (.int .i64 (f.sure : Int)) := by simp only [World.cell?, hbx9]; rfl
    have HM9 := Lib.hid h9; have HF9 := Lib.hid (HF8.out.trans' (fr_pb hp hf9))
    clear h9 hf9 hn9' hbx9
    go_wp2_with fail
    have HPO := put_ok w9 pb v9 { s4 with fs := fs1.take j ++ fs1.drop (j + 1) } j (by show j ≤ (fs1.take j ++ fs1.drop (j + 1)).length; simp; omega) (c.to.data.toList, f) HM9.out (by show (fs1.take j ++ fs1.drop (j + 1)).length ≤ 1000; simp; omega)
    rw [show nm ((c.to.data.toList, f) : Name × File).1 = c.to from rfl] at HPO
    refine HPO.mono ?_
    rintro e w10 ⟨rfl, v10, h10, hf10, hn10⟩
    have H10 := Lib.hid h10; have HF10 := Lib.hid hf10; have HN10 := Lib.hid hn10
    clear h10 hf10 hn10 b0 b1 b2
    go_wp2
    go_ret
    rw [HR4.out]
    have h11 := H10.out
    have hac : actOf c s.fs = (fs1.take j ++ fs1.drop (j + 1)).take j ++ [(c.to.data.toList, f)] ++ (fs1.take j ++ fs1.drop (j + 1)).drop j := by
      have hlj : (fs1.take j).length = j := by rw [List.length_take]; omega
      rw [HACT.out, HPF.out, List.take_append_of_le_length (by omega), List.drop_append_of_le_length (by omega), List.take_of_length_le (by omega), List.drop_of_length_le (l := fs1.take j) (by omega), List.set_eq_take_append_cons_drop, if_pos hjj]
      simp
    rw [← hac] at h11
    have hfr : Fr T w w10 := HF9.out.trans' (fr_pb hp HF10.out)
    exact ⟨rfl, Mod.mk_after h11 hp (fun k hk => .inr (Nat.le_trans HF9.out.size (HN10.out k hk))) HT.out hfr.size, hfr⟩

set_option maxRecDepth 100000 in
set_option maxHeartbeats 4000000 in
theorem mdo_3_free (w : World) (T : Nat → Prop) (pb : Nat) (v : Value) (s : St) (c : CallV) (B : Nat) (h : MoB w pb v s) (hp : T pb) (hold : ∀ k, v.ownBlock = some k → T k) (hlt : ∀ k, T k → k < w.heap.size) (hf : MFits w s c B) (hk : c.k = 3) (he : wrongV s c (found c.name.data.toList s.fs) = 0) (hz : s.fuse < 0) :
    Calls Try.prog 11 #[.pointer (some ⟨pb, 0, none⟩), c.val] w (MAfter w T pb (step s c)) := by
  obtain ⟨r, hr⟩ : ∃ r, r = step s c := ⟨_, rfl⟩
  rw [← hr]
  rw [step_free hf (by omega) he hz] at hr
  have HR := Lib.hid hr; have HE := Lib.hid he
  have HFD := Lib.hid (not_wrong_found hf (by omega) he)
  clear hr he
  have HK := Lib.hid (kind_ok (w.alloc (.cells #[.int .i64 c.kind, .int .i64 c.n, .string c.name, .string c.to, .slice c.A c.data.length c.cap] 33)) c)
  have HM := Lib.hid h; have HO := Lib.hid hold; have HT := Lib.hid hlt; have HF := Lib.hid hf
  have hba : Below w.heap.size w (w.alloc (.cells #[.int .i64 c.kind, .int .i64 c.n, .string c.name, .string c.to, .slice c.A c.data.length c.cap] 33)) := (Below.refl _ _).alloc (Nat.le_refl _) _
  have HBA := Lib.hid hba
  have HCA := Lib.hid (CallAt.alloc w c)
  have hpw : pb < w.heap.size := h.lt
  clear h hba hold hlt hf
  unfold CallV.val at *
  go_enter Try.func11, Try.ntmps11
  go_wp2_with fail
  refine HK.out.mono ?_
  rintro e w1 ⟨rfl, hb1⟩
  have HC1 := Lib.hid (HCA.out.below hb1)
  have HB1 := Lib.hid (HBA.out.trans (hb1.mono (by simp)))
  have HM1 := Lib.hid (HM.out.below HB1.out)
  clear hb1
  have k0 := HC1.out.k0; have k1 := HC1.out.k1; have k2 := HC1.out.k2; have k3 := HC1.out.k3; have k4 := HC1.out.k4
  have d6 : ((c.k : Int) == 6) = false := beq_eq_false_iff_ne.2 (by omega)
  have d7 : ((c.k : Int) == 7) = false := beq_eq_false_iff_ne.2 (by omega)
  go_wp2_with fail
  refine (mat_ok w1 pb v s c.name HM1.out (by have := HF.out.files; omega)).mono ?_
  rintro e w2 ⟨rfl, hb2⟩
  have HC2 := Lib.hid (HC1.out.below hb2)
  have HB2 := Lib.hid (HB1.out.trans (hb2.mono HB1.out.size))
  have HM2 := Lib.hid (HM1.out.below hb2)
  clear hb2 k0 k1 k2 k3 k4
  have k0 := HC2.out.k0; have k1 := HC2.out.k1; have k2 := HC2.out.k2; have k3 := HC2.out.k3; have k4 := HC2.out.k4
  go_wp2_with fail
  refine (wrong_ok w2 pb v s c (found c.name.data.toList s.fs) HM2.out (by have := HF.out.files; omega) (by have := HF.out.used; omega) HF.out.quota (by have := HF.out.data; omega)).mono ?_
  rintro e w3 ⟨rfl, hb3⟩
  have HC3 := Lib.hid (HC2.out.below hb3)
  have HB3 := Lib.hid (HB2.out.trans (hb3.mono HB2.out.size))
  have HM3 := Lib.hid (HM2.out.below hb3)
  clear hb3 k0 k1 k2 k3 k4
  have k0 := HC3.out.k0; have k1 := HC3.out.k1; have k2 := HC3.out.k2; have k3 := HC3.out.k3; have k4 := HC3.out.k4
  rw [HE.out]
  have e2 : ((c.k : Int) == 2) = false := beq_eq_false_iff_ne.2 (by omega)
  have e3 : ((c.k : Int) == 3) = true := by simp; omega
  have m2 := HM3.out.cell2
  have hmx : max s.fuse (-1) = -1 := by omega
  rw [hmx] at m2
  have HM4 := HM3
  have HC4 := HC3
  have HF4 := Lib.hid (show Fr T w w3 from Fr.of_below HB3.out)
  clear hmx
  go_upto_region 17 with fail
  clear m2 k0 k1 k2 k3 k4
  obtain ⟨w4, ew4⟩ : ∃ w4, w4 = w3 := ⟨_, rfl⟩
  rw [← ew4] at HM4 HC4 HF4 ⊢
  clear ew4
  obtain ⟨s4, es4⟩ : ∃ s4 : St, s4 = s := ⟨_, rfl⟩
  rw [← es4] at HM4
  have hs4 : s4.fs = s.fs := by rw [es4]
  have HR4 : Hid (r = (0, { s4 with fs := actOf c s.fs })) := Lib.hid (by rw [HR.out, es4])
  clear es4
  have k0 := HC4.out.k0; have k1 := HC4.out.k1; have k2 := HC4.out.k2; have k3 := HC4.out.k3; have k4 := HC4.out.k4
  obtain ⟨hi, hnm⟩ := found_at HFD.out
  have hi4 : pos c.name.data.toList s.fs < s4.fs.length := by rw [hs4]; exact hi
  obtain ⟨A4, c4, hv4, _, _, _, hcell⟩ := HM4.out.own.form
  subst hv4
  obtain ⟨g, hA, hg, q1, q2, q3, _, _⟩ := hcell _ hi4
  subst hA
  have hgf : get c.name.data.toList s.fs = some (s.fs[pos c.name.data.toList s.fs]).2 := by obtain ⟨_, e⟩ := get_found HF.out.rise HFD.out; exact e
  have hfe : s4.fs[pos c.name.data.toList s.fs] = s.fs[pos c.name.data.toList s.fs] := by simp only [hs4]
  rw [hfe, hnm, nm_of] at q1
  rw [hfe] at q2 q3
  obtain ⟨f, hfd⟩ : ∃ f, f = (s.fs[pos c.name.data.toList s.fs]).2 := ⟨_, rfl⟩
  rw [← hfd] at q2 q3 hgf
  have m0 := HM4.out.cell0
  have hdel := del_found HF.out.rise HFD.out
  have hact : actOf c s.fs = put c.to.data.toList f (del c.name.data.toList s.fs) := by unfold actOf; simp [hk, hgf]
  obtain ⟨fs1, hfs1⟩ : ∃ fs1, fs1 = del c.name.data.toList s.fs := ⟨_, rfl⟩
  have hr1 : Rise fs1 := by rw [hfs1]; exact HF.out.rise.del _
  have hl1 : fs1.length ≤ 900 := by rw [hfs1]; exact Nat.le_trans (length_del_le _ _) HF.out.files
  rw [← hfs1] at hdel hact
  have hlen4 : s4.fs.length = s.fs.length := by rw [hs4]
  clear hcell hgf hfe hfd hnm hfs1
  generalize pos c.name.data.toList s.fs = i at *
  have hi9 : (i : Int) < (s4.fs.length : Int) := by omega
  have hn9 : s4.fs.length ≤ 900 := by have := HF.out.files; omega
  have hba : Below w4.heap.size w4 (w4.alloc (.cells #[.string c.name, .string (str f.data), .int .i64 (f.sure : Int)] 62)) := (Below.refl _ _).alloc (Nat.le_refl _) _
  have HMA := Lib.hid (HM4.out.below hba)
  have HCA4 := Lib.hid (HC4.out.below hba)
  have HDEL := Lib.hid hdel; have HACT := Lib.hid hact; have HR1 := Lib.hid hr1
  have hbx := (MapKept.heap_alloc w4 (.cells #[.string c.name, .string (str f.data), .int .i64 (f.sure : Int)] 62)).1
  have HBX := Lib.hid hbx
  have HFA := Lib.hid (HF4.out.trans' (Fr.of_below (S := T) hba))
  clear hdel hact hr1 hba hbx
  have hp4 : pb < w4.heap.size := HM4.out.lt
  go_wp2_with fail
  refine (drop_ok _ pb _ s4 i (by omega) HMA.out (by omega)).mono ?_
  rintro e w6 ⟨rfl, v6, h6, hf6, hn6⟩
  rw [hs4, ← HDEL.out] at h6
  have H6 := Lib.hid h6
  have HF6 := Lib.hid (HFA.out.trans' (fr_pb hp hf6))
  have HC6 := Lib.hid (HCA4.out.fr hf6 (fun e : w.heap.size = pb => by omega))
  have hbx6 : w6.heap[w4.heap.size]? = some (.cells #[.string c.name, .string (str f.data), .int .i64 (f.sure : Int)] 62) := (hf6.block w4.heap.size (by simp) (fun e => by omega)).trans HBX.out
  have x0 : w6.cell? ⟨w4.heap.size, 0, none⟩ = some (.string c.name) := by simp only [World.cell?, hbx6]; rfl
  have xf : w6.frozen? ⟨w4.heap.size, 0, none⟩ = false := by simp [World.frozen?, hbx6]
  have y3 := HC6.out.k3
  have hne6 : ∀ k, v6.ownBlock = some k → k ≠ w4.heap.size := fun k hk e => by have := hn6 k hk; simp at this; omega
  have h7 : MoB (w6.setCell ⟨w4.heap.size, 0, none⟩ (.string c.to)) pb v6 { s4 with fs := fs1 } := h6.keep (Below.heap_setCell _ _ _ _ (by simp; omega)) (fun k hk => Below.heap_setCell _ _ _ _ (by simpa using hne6 k hk))
  have hbx7 : (w6.setCell ⟨w4.heap.size, 0, none⟩ (.string c.to)).heap[w4.heap.size]? = some (.cells #[.string c.to, .string (str f.data), .int .i64 (f.sure : Int)] 62) := (heap_setCell_same w6 w4.heap.size 0 _ _ _ hbx6).trans rfl
  have hwb : w.heap.size < w4.heap.size := by have h1 := HC4.out.lt; exact h1
  have hC7 : CallAt (w6.setCell ⟨w4.heap.size, 0, none⟩ (.string c.to)) w.heap.size c := (Below.heap_setCell _ _ _ _ (by simp; omega)).trans HC6.out
  have hF7 : Fr T w (w6.setCell ⟨w4.heap.size, 0, none⟩ (.string c.to)) := ⟨HF6.out.os, HF6.out.tape, HF6.out.output, by simpa using HF6.out.size, fun k hk hn => (Below.heap_setCell _ _ _ _ (by simp; omega)).trans (HF6.out.block k hk hn)⟩
  have hn7 : ∀ k, v6.ownBlock = some k → w.heap.size ≤ k := fun k hk => by have := hn6 k hk; simp at this; omega
  have HM7 := Lib.hid h7; have HBX7 := Lib.hid hbx7; have HC7 := Lib.hid hC7; have HF7 := Lib.hid hF7; have HN7 := Lib.hid hn7
  clear h6 hf6 hn6 hbx6 hne6 h7 hbx7 hC7 hF7 hn7 k0 k1 k2 k3 k4
  go_upto_region 27 with fail
  obtain ⟨w7, hw7⟩ : ∃ w7, w7 = w6.setCell ⟨w4.heap.size, 0, none⟩ (.string c.to) := ⟨_, rfl⟩
  rw [← hw7] at HM7 HBX7 HC7 HF7 ⊢
  clear hw7 x0 xf y3
  have y3 := HC7.out.k3
  go_wp2_with fail
  refine (mat_ok w7 pb v6 { s4 with fs := fs1 } c.to HM7.out (show fs1.length ≤ 1000000 by omega)).mono ?_
  rintro e w8 ⟨rfl, hb8⟩
  have HM8 := Lib.hid (HM7.out.below hb8)
  have hz7 : w4.heap.size < w7.heap.size := (Array.getElem?_eq_some_iff.1 HBX7.out).1
  have hbx8 := (hb8.block _ hz7).trans HBX7.out
  have HF8 := Lib.hid (HF7.out.trans' (Fr.of_below (S := T) hb8))
  have hz8 := hb8.size
  clear hb8 y3
  have hjl := pos_le c.to.data.toList fs1
  rcases hfd2 : found c.to.data.toList fs1 with _ | _
  · have hpl := put_lost HR1.out hfd2 f
    have b0 : w8.cell? ⟨w4.heap.size, 0, none⟩ = some (.string c.to) := by simp only [World.cell?, hbx8]; rfl
    have b1 : w8.cell? ⟨w4.heap.size, 1, none⟩ = some (.string (str f.data)) := by simp only [World.cell?, hbx8]; rfl
    have b2 : w8.cell? ⟨w4.heap.size, 2, none⟩ = some (.int .i64 (f.sure : Int)) := by simp only [World.cell?, hbx8]; rfl
    have HPL := Lib.hid hpl
    clear hpl hbx8
    have hst : ({ s4 with fs := fs1 } : St).fs = fs1 := rfl
    rw [hst]
    generalize pos c.to.data.toList fs1 = j at *
    go_wp2_with fail
    have HPO := put_ok w8 pb v6 { s4 with fs := fs1 } j hjl (c.to.data.toList, f) HM8.out (show fs1.length ≤ 1000 by omega)
    rw [show nm ((c.to.data.toList, f) : Name × File).1 = c.to from rfl] at HPO
    refine HPO.mono ?_
    rintro e w9 ⟨rfl, v9, h9, hf9, hn9'⟩
    have H9 := Lib.hid h9; have HF9 := Lib.hid hf9; have HN9 := Lib.hid hn9'
    clear h9 hf9 hn9' b0 b1 b2
    go_wp2
    go_ret
    rw [HR4.out]
    have h10 := H9.out
    have hac : actOf c s.fs = fs1.take j ++ [(c.to.data.toList, f)] ++ fs1.drop j := by rw [HACT.out, HPL.out]
    rw [← hac] at h10
    have hfr : Fr T w w9 := HF8.out.trans' (fr_pb hp HF9.out)
    exact ⟨rfl, Mod.mk_after h10 hp (fun k hk => .inr (Nat.le_trans HF8.out.size (HN9.out k hk))) HT.out hfr.size, hfr⟩
  · have hpf := put_found HR1.out hfd2 f
    obtain ⟨hjj, _⟩ := found_at hfd2
    have HPF := Lib.hid hpf; have HBX8 := Lib.hid hbx8
    clear hpf hbx8
    have hst : ({ s4 with fs := fs1 } : St).fs = fs1 := rfl
    rw [hst]
    generalize pos c.to.data.toList fs1 = j at *
    go_wp2_with fail
    refine (drop_ok w8 pb v6 { s4 with fs := fs1 } j hjj HM8.out (show fs1.length ≤ 1000 by omega)).mono ?_
    rintro e w9 ⟨rfl, v9, h9, hf9, hn9'⟩
    have hbx9 := (hf9.block w4.heap.size (by omega) (fun e => by omega)).trans HBX8.out
    have b0 : w9.cell? ⟨w4.heap.size, 0, none⟩ = some (.string c.to) := by simp only [World.cell?, hbx9]; rfl
    have b1 : w9.cell? ⟨w4.heap.size, 1, none⟩ = some (.string (str f.data)) := by simp only [World.cell?, hbx9]; rfl
    have b2 : w9.cell? ⟨w4.heap.size, 2, none⟩ = some (.int .i64 (f.sure : Int)) := by simp only [World.cell?, hbx9]; rfl
    have HM9 := Lib.hid h9; have HF9 := Lib.hid (HF8.out.trans' (fr_pb hp hf9))
    clear h9 hf9 hn9' hbx9
    go_wp2_with fail
    have HPO := put_ok w9 pb v9 { s4 with fs := fs1.take j ++ fs1.drop (j + 1) } j (by show j ≤ (fs1.take j ++ fs1.drop (j + 1)).length; simp; omega) (c.to.data.toList, f) HM9.out (by show (fs1.take j ++ fs1.drop (j + 1)).length ≤ 1000; simp; omega)
    rw [show nm ((c.to.data.toList, f) : Name × File).1 = c.to from rfl] at HPO
    refine HPO.mono ?_
    rintro e w10 ⟨rfl, v10, h10, hf10, hn10⟩
    have H10 := Lib.hid h10; have HF10 := Lib.hid hf10; have HN10 := Lib.hid hn10
    clear h10 hf10 hn10 b0 b1 b2
    go_wp2
    go_ret
    rw [HR4.out]
    have h11 := H10.out
    have hac : actOf c s.fs = (fs1.take j ++ fs1.drop (j + 1)).take j ++ [(c.to.data.toList, f)] ++ (fs1.take j ++ fs1.drop (j + 1)).drop j := by
      have hlj : (fs1.take j).length = j := by rw [List.length_take]; omega
      rw [HACT.out, HPF.out, List.take_append_of_le_length (by omega), List.drop_append_of_le_length (by omega), List.take_of_length_le (by omega), List.drop_of_length_le (l := fs1.take j) (by omega), List.set_eq_take_append_cons_drop, if_pos hjj]
      simp
    rw [← hac] at h11
    have hfr : Fr T w w10 := HF9.out.trans' (fr_pb hp HF10.out)
    exact ⟨rfl, Mod.mk_after h11 hp (fun k hk => .inr (Nat.le_trans HF9.out.size (HN10.out k hk))) HT.out hfr.size, hfr⟩

end Go.Proofs.Ytdaipoelicpnoaa
