/-
  FileRuns' model: do.
-/
import Derived.Test.YtdaipoelicpnoaaFRunP
namespace Go.Proofs.Ytdaipoelicpnoaa
open Go.RowKit Go.Maps FM

/-- What a call on the model leaves. -/
def MAfter (w : World) (T : Nat → Prop) (pb : Nat) (r : Nat × St) (e : Ending) (w' : World) : Prop :=
  e = .returned (.int .i64 (r.1 : Int)) ∧ Mod w' (wider T w w') pb r.2 ∧ Fr T w w'
theorem Mod.mk_after {w w' : World} {T : Nat → Prop} {pb : Nat} {v : Value} {s : St} (h : MoB w' pb v s) (hp : T pb) (hold : ∀ k, v.ownBlock = some k → T k ∨ w.heap.size ≤ k) (hlt : ∀ k, T k → k < w.heap.size) (hsz : w.heap.size ≤ w'.heap.size) : Mod w' (wider T w w') pb s := by
  refine ⟨v, h, .inl hp, fun k hk => ?_, fun k hk => ?_⟩
  · rcases hold k hk with h1 | h1
    · exact .inl h1
    · exact .inr ⟨h1, (h.own.lt k hk).2⟩
  · rcases hk with h1 | h1
    · exact Nat.lt_of_lt_of_le (hlt k h1) hsz
    · exact h1.2
theorem fr_pb {T : Nat → Prop} {pb : Nat} {w w' : World} (hT : T pb) (h : Fr (fun k => k = pb) w w') : Fr T w w' :=
  ⟨h.os, h.tape, h.output, h.size, fun k hk hn => h.block k hk (fun e => hn (by rw [e]; exact hT))⟩
theorem MoB.fuse {w : World} {pb : Nat} {v : Value} {s : St} (h : MoB w pb v s) (z y : Int) (hz : y = max z (-1)) : MoB (w.setCell ⟨pb, 2, none⟩ (.int .i64 y)) pb v { s with fuse := z } := by
  refine ⟨?_, h.own.keep fun k hk => Below.heap_setCell _ _ _ _ (fun e => h.ne (by rw [hk, e]))⟩
  rw [heap_setCell_same w pb 2 _ _ _ h.cells, hz]; rfl
theorem MoB.down {w : World} {pb : Nat} {v : Value} {s : St} (h : MoB w pb v s) : MoB (w.setCell ⟨pb, 3, none⟩ (.bool true)) pb v { s with down := true } := by
  refine ⟨?_, h.own.keep fun k hk => Below.heap_setCell _ _ _ _ (fun e => h.ne (by rw [hk, e]))⟩
  rw [heap_setCell_same w pb 3 _ _ _ h.cells]; rfl
theorem MoB.set1 {w : World} {pb g n c : Nat} {s : St} {i : Nat} (h : MoB w pb (.slice (some ⟨g, 0, none⟩) n c) s) (hi : i < s.fs.length) (d : List Nat) (hn : n = s.fs.length) :
    MoB (w.setCell ⟨g, i * 3 + 1, none⟩ (.string (str d))) pb (.slice (some ⟨g, 0, none⟩) n c) { s with fs := s.fs.set i ((s.fs[i]).1, ⟨d, (s.fs[i]).2.sure⟩) } := by
  subst hn
  have hne := h.ne
  refine ⟨?_, ?_⟩
  · rw [Below.heap_setCell _ _ _ _ (fun e => hne (by simp [Value.ownBlock, e]))]
    exact h.cells
  · unfold OwnO
    rw [ones_set1 hi, List.length_set]
    exact OwnO.set h.own (i * 3 + 1) _
theorem MoB.set2 {w : World} {pb g n c : Nat} {s : St} {i : Nat} (h : MoB w pb (.slice (some ⟨g, 0, none⟩) n c) s) (hi : i < s.fs.length) (k : Nat) (hn : n = s.fs.length) :
    MoB (w.setCell ⟨g, i * 3 + 2, none⟩ (.int .i64 (k : Int))) pb (.slice (some ⟨g, 0, none⟩) n c) { s with fs := s.fs.set i ((s.fs[i]).1, ⟨(s.fs[i]).2.data, k⟩) } := by
  subst hn
  have hne := h.ne
  refine ⟨?_, ?_⟩
  · rw [Below.heap_setCell _ _ _ _ (fun e => hne (by simp [Value.ownBlock, e]))]
    exact h.cells
  · unfold OwnO
    rw [ones_set2 hi, List.length_set]
    exact OwnO.set h.own (i * 3 + 2) _

/-- What is asked of the model's store and of a call. -/
structure MFits (w : World) (s : St) (c : CallV) (B : Nat) : Prop where
  ok : c.Ok w B
  B : B ≤ w.heap.size
  rise : Rise s.fs
  sures : ∀ p ∈ s.fs, p.2.sure ≤ p.2.data.length
  files : s.fs.length ≤ 900
  used : FM.used s ≤ 900000
  room : FM.used s ≤ s.quota
  quota : s.quota < 9223372036854775808
  fuse : -9223372036854775808 ≤ s.fuse ∧ s.fuse < 9223372036854775808
  data : c.data.length ≤ 1000

theorem step_wrong {w : World} {s : St} {c : CallV} {B : Nat} (hf : MFits w s c B) (hk : c.k < 6) (h : wrongV s c (found c.name.data.toList s.fs) ≠ 0) : step s c = (wrongV s c (found c.name.data.toList s.fs), s) := by
  rcases hd : s.down with _ | _
  · rw [wrong_is hf.rise hf.room hd] at h ⊢
    rw [step_is hk]
    have hc : change s (errOf s c) = (errOf s c, s) := by unfold change; rw [hd, if_neg (by simp), if_pos h]
    rw [doing_err (by rw [hc]; exact h), hc]
  · rw [step_down hk hd]
    unfold wrongV
    rw [hd]; rfl
theorem not_wrong {w : World} {s : St} {c : CallV} {B : Nat} (hf : MFits w s c B) (h : wrongV s c (found c.name.data.toList s.fs) = 0) : s.down = false ∧ errOf s c = 0 := by
  rcases hd : s.down with _ | _
  · rw [wrong_is hf.rise hf.room hd] at h
    exact ⟨rfl, h⟩
  · unfold wrongV at h
    rw [hd] at h
    cases h
theorem step_burnt {w : World} {s : St} {c : CallV} {B : Nat} (hf : MFits w s c B) (hk : c.k < 6) (h : wrongV s c (found c.name.data.toList s.fs) = 0) (hz : s.fuse = 0) : step s c = (8, { s with down := true }) := by
  obtain ⟨hd, he⟩ := not_wrong hf h
  rw [step_is hk, he]
  have hc : change s 0 = (8, { s with down := true }) := by unfold change; rw [hd, if_neg (by simp), if_neg (by simp), if_pos hz]
  rw [doing_err (by rw [hc]; simp), hc]
theorem step_counts {w : World} {s : St} {c : CallV} {B : Nat} (hf : MFits w s c B) (hk : c.k < 6) (h : wrongV s c (found c.name.data.toList s.fs) = 0) (hz : 0 < s.fuse) : step s c = (0, { s with fuse := s.fuse - 1, fs := actOf c s.fs }) := by
  obtain ⟨hd, he⟩ := not_wrong hf h
  rw [step_is hk, he]
  have hc : change s 0 = (0, { s with fuse := s.fuse - 1 }) := by unfold change; rw [hd, if_neg (by simp), if_neg (by simp), if_neg (by omega), if_pos hz]
  rw [doing_ok (by rw [hc]), hc]
theorem step_free {w : World} {s : St} {c : CallV} {B : Nat} (hf : MFits w s c B) (hk : c.k < 6) (h : wrongV s c (found c.name.data.toList s.fs) = 0) (hz : s.fuse < 0) : step s c = (0, { s with fs := actOf c s.fs }) := by
  obtain ⟨hd, he⟩ := not_wrong hf h
  rw [step_is hk, he]
  have hc : change s 0 = (0, s) := by unfold change; rw [hd, if_neg (by simp), if_neg (by simp), if_neg (by omega), if_neg (by omega)]
  rw [doing_ok (by rw [hc]), hc]
theorem not_wrong_found {w : World} {s : St} {c : CallV} {B : Nat} (hf : MFits w s c B) (hk : 2 ≤ c.k) (h : wrongV s c (found c.name.data.toList s.fs) = 0) : found c.name.data.toList s.fs = true := by
  obtain ⟨hd, he⟩ := not_wrong hf h
  rw [found_get hf.rise]
  unfold errOf at he
  rw [if_neg (by omega)] at he
  rcases hg : (get c.name.data.toList s.fs).isSome with _ | _
  · split at he
    · unfold renameErr missing at he
      rw [hg] at he
      split at he <;> cases he
    · unfold missing at he
      rw [hg] at he
      cases he
  · rfl

set_option maxRecDepth 100000 in
set_option maxHeartbeats 4000000 in
theorem mdo_err (w : World) (T : Nat → Prop) (pb : Nat) (v : Value) (s : St) (c : CallV) (B : Nat) (h : MoB w pb v s) (hp : T pb) (hold : ∀ k, v.ownBlock = some k → T k) (hlt : ∀ k, T k → k < w.heap.size) (hf : MFits w s c B) (hk : c.k < 6) (he : wrongV s c (found c.name.data.toList s.fs) ≠ 0) :
    Calls Try.prog 11 #[.pointer (some ⟨pb, 0, none⟩), c.val] w (MAfter w T pb (step s c)) := by
  obtain ⟨r, hr⟩ : ∃ r, r = step s c := ⟨_, rfl⟩
  rw [← hr]
  rw [step_wrong hf hk he] at hr
  have HR := Lib.hid hr
  have dz := ne_int he
  clear hr he
  have HK := Lib.hid (kind_ok (w.alloc (.cells #[.int .i64 c.kind, .int .i64 c.n, .string c.name, .string c.to, .slice c.A c.data.length c.cap] 33)) c)
  have HM := Lib.hid h; have HO := Lib.hid hold; have HT := Lib.hid hlt; have HF := Lib.hid hf
  have hba : Below w.heap.size w (w.alloc (.cells #[.int .i64 c.kind, .int .i64 c.n, .string c.name, .string c.to, .slice c.A c.data.length c.cap] 33)) := (Below.refl _ _).alloc (Nat.le_refl _) _
  have HBA := Lib.hid hba
  have HCA := Lib.hid (CallAt.alloc w c)
  have hpw : pb < w.heap.size := h.lt
  clear h hba hold hlt hf
  unfold CallV.val at *
  go_enter Try.func11, Try.ntmps11
  go_wp2_with fail
  refine HK.out.mono ?_
  rintro e w1 ⟨rfl, hb1⟩
  have HC1 := Lib.hid (HCA.out.below hb1)
  have HB1 := Lib.hid (HBA.out.trans (hb1.mono (by simp)))
  have HM1 := Lib.hid (HM.out.below HB1.out)
  clear hb1
  have k0 := HC1.out.k0; have k1 := HC1.out.k1; have k2 := HC1.out.k2; have k3 := HC1.out.k3; have k4 := HC1.out.k4
  have d6 : ((c.k : Int) == 6) = false := beq_eq_false_iff_ne.2 (by omega)
  have d7 : ((c.k : Int) == 7) = false := beq_eq_false_iff_ne.2 (by omega)
  go_wp2_with fail
  refine (mat_ok w1 pb v s c.name HM1.out (by have := HF.out.files; omega)).mono ?_
  rintro e w2 ⟨rfl, hb2⟩
  have HC2 := Lib.hid (HC1.out.below hb2)
  have HB2 := Lib.hid (HB1.out.trans (hb2.mono HB1.out.size))
  have HM2 := Lib.hid (HM1.out.below hb2)
  clear hb2 k0 k1 k2 k3 k4
  have k0 := HC2.out.k0; have k1 := HC2.out.k1; have k2 := HC2.out.k2; have k3 := HC2.out.k3; have k4 := HC2.out.k4
  go_wp2_with fail
  refine (wrong_ok w2 pb v s c (found c.name.data.toList s.fs) HM2.out (by have := HF.out.files; omega) (by have := HF.out.used; omega) HF.out.quota (by have := HF.out.data; omega)).mono ?_
  rintro e w3 ⟨rfl, hb3⟩
  have HC3 := Lib.hid (HC2.out.below hb3)
  have HB3 := Lib.hid (HB2.out.trans (hb3.mono HB2.out.size))
  have HM3 := Lib.hid (HM2.out.below hb3)
  clear hb3 k0 k1 k2 k3 k4
  have k0 := HC3.out.k0; have k1 := HC3.out.k1; have k2 := HC3.out.k2; have k3 := HC3.out.k3; have k4 := HC3.out.k4
  clear k0 k1 k2 k3 k4
  go_wp2
  go_ret
  rw [HR.out]
  have hfr : Fr T w w3 := Fr.of_below HB3.out
  exact ⟨rfl, Mod.mk_after HM3.out hp (fun k hk => .inl (HO.out k hk)) HT.out hfr.size, hfr⟩

set_option maxRecDepth 100000 in
set_option maxHeartbeats 4000000 in
theorem mdo_burnt (w : World) (T : Nat → Prop) (pb : Nat) (v : Value) (s : St) (c : CallV) (B : Nat) (h : MoB w pb v s) (hp : T pb) (hold : ∀ k, v.ownBlock = some k → T k) (hlt : ∀ k, T k → k < w.heap.size) (hf : MFits w s c B) (hk : c.k < 6) (he : wrongV s c (found c.name.data.toList s.fs) = 0) (hz : s.fuse = 0) :
    Calls Try.prog 11 #[.pointer (some ⟨pb, 0, none⟩), c.val] w (MAfter w T pb (step s c)) := by
  obtain ⟨r, hr⟩ : ∃ r, r = step s c := ⟨_, rfl⟩
  rw [← hr]
  rw [step_burnt hf hk he hz] at hr
  have HR := Lib.hid hr
  have HE := Lib.hid he
  clear hr he
  have HK := Lib.hid (kind_ok (w.alloc (.cells #[.int .i64 c.kind, .int .i64 c.n, .string c.name, .string c.to, .slice c.A c.data.length c.cap] 33)) c)
  have HM := Lib.hid h; have HO := Lib.hid hold; have HT := Lib.hid hlt; have HF := Lib.hid hf
  have hba : Below w.heap.size w (w.alloc (.cells #[.int .i64 c.kind, .int .i64 c.n, .string c.name, .string c.to, .slice c.A c.data.length c.cap] 33)) := (Below.refl _ _).alloc (Nat.le_refl _) _
  have HBA := Lib.hid hba
  have HCA := Lib.hid (CallAt.alloc w c)
  have hpw : pb < w.heap.size := h.lt
  clear h hba hold hlt hf
  unfold CallV.val at *
  go_enter Try.func11, Try.ntmps11
  go_wp2_with fail
  refine HK.out.mono ?_
  rintro e w1 ⟨rfl, hb1⟩
  have HC1 := Lib.hid (HCA.out.below hb1)
  have HB1 := Lib.hid (HBA.out.trans (hb1.mono (by simp)))
  have HM1 := Lib.hid (HM.out.below HB1.out)
  clear hb1
  have k0 := HC1.out.k0; have k1 := HC1.out.k1; have k2 := HC1.out.k2; have k3 := HC1.out.k3; have k4 := HC1.out.k4
  have d6 : ((c.k : Int) == 6) = false := beq_eq_false_iff_ne.2 (by omega)
  have d7 : ((c.k : Int) == 7) = false := beq_eq_false_iff_ne.2 (by omega)
  go_wp2_with fail
  refine (mat_ok w1 pb v s c.name HM1.out (by have := HF.out.files; omega)).mono ?_
  rintro e w2 ⟨rfl, hb2⟩
  have HC2 := Lib.hid (HC1.out.below hb2)
  have HB2 := Lib.hid (HB1.out.trans (hb2.mono HB1.out.size))
  have HM2 := Lib.hid (HM1.out.below hb2)
  clear hb2 k0 k1 k2 k3 k4
  have k0 := HC2.out.k0; have k1 := HC2.out.k1; have k2 := HC2.out.k2; have k3 := HC2.out.k3; have k4 := HC2.out.k4
  go_wp2_with fail
  refine (wrong_ok w2 pb v s c (found c.name.data.toList s.fs) HM2.out (by have := HF.out.files; omega) (by have := HF.out.used; omega) HF.out.quota (by have := HF.out.data; omega)).mono ?_
  rintro e w3 ⟨rfl, hb3⟩
  have HC3 := Lib.hid (HC2.out.below hb3)
  have HB3 := Lib.hid (HB2.out.trans (hb3.mono HB2.out.size))
  have HM3 := Lib.hid (HM2.out.below hb3)
  clear hb3 k0 k1 k2 k3 k4
  have k0 := HC3.out.k0; have k1 := HC3.out.k1; have k2 := HC3.out.k2; have k3 := HC3.out.k3; have k4 := HC3.out.k4
  rw [HE.out]
  clear k0 k1 k2 k3 k4
  have m2 := HM3.out.cell2; have m3 := HM3.out.cell3; have f3 := HM3.out.frozen 3
  rw [hz] at m2
  have hmx : max (0 : Int) (-1) = 0 := by decide
  rw [hmx] at m2
  clear hmx
  go_wp2
  go_ret
  rw [HR.out]
  have hfr : Fr T w (w3.setCell ⟨pb, 3, none⟩ (.bool true)) := (Fr.of_below HB3.out).trans' (Fr.setCell (a := ⟨pb, 3, none⟩) _ hp)
  exact ⟨rfl, Mod.mk_after HM3.out.down hp (fun k hk => .inl (HO.out k hk)) HT.out hfr.size, hfr⟩

end Go.Proofs.Ytdaipoelicpnoaa
