/-
  FileRuns' model: do: Fuse, Crash.
-/
import Derived.Test.YtdaipoelicpnoaaFMDo
namespace Go.Proofs.Ytdaipoelicpnoaa
open Go.RowKit Go.Maps FM

set_option maxRecDepth 100000 in
set_option maxHeartbeats 4000000 in
theorem mdo_6 (w : World) (T : Nat → Prop) (pb : Nat) (v : Value) (s : St) (c : CallV) (B : Nat) (h : MoB w pb v s) (hp : T pb) (hold : ∀ k, v.ownBlock = some k → T k) (hlt : ∀ k, T k → k < w.heap.size) (hf : MFits w s c B) (hk : c.k = 6) :
    Calls Try.prog 11 #[.pointer (some ⟨pb, 0, none⟩), c.val] w (MAfter w T pb (step s c)) := by
  obtain ⟨r, hr⟩ : ∃ r, r = step s c := ⟨_, rfl⟩
  rw [← hr]
  have hst : step s c = (0, setFuse s c.n) := by unfold step; simp [hk]
  rw [hst] at hr
  have HR := Lib.hid hr
  clear hr hst
  have HK := Lib.hid (kind_ok (w.alloc (.cells #[.int .i64 c.kind, .int .i64 c.n, .string c.name, .string c.to, .slice c.A c.data.length c.cap] 33)) c)
  have HM := Lib.hid h; have HO := Lib.hid hold; have HT := Lib.hid hlt; have HF := Lib.hid hf
  have hba : Below w.heap.size w (w.alloc (.cells #[.int .i64 c.kind, .int .i64 c.n, .string c.name, .string c.to, .slice c.A c.data.length c.cap] 33)) := (Below.refl _ _).alloc (Nat.le_refl _) _
  have HBA := Lib.hid hba
  have HCA := Lib.hid (CallAt.alloc w c)
  have hpw : pb < w.heap.size := h.lt
  clear h hba hold hlt hf
  unfold CallV.val at *
  go_enter Try.func11, Try.ntmps11
  go_wp2_with fail
  refine HK.out.mono ?_
  rintro e w1 ⟨rfl, hb1⟩
  have HC1 := Lib.hid (HCA.out.below hb1)
  have HB1 := Lib.hid (HBA.out.trans (hb1.mono (by simp)))
  have HM1 := Lib.hid (HM.out.below HB1.out)
  clear hb1
  have k0 := HC1.out.k0; have k1 := HC1.out.k1; have k2 := HC1.out.k2; have k3 := HC1.out.k3; have k4 := HC1.out.k4
  have d6 : ((c.k : Int) == 6) = true := by simp; omega
  have m2 := HM1.out.cell2; have f2 := HM1.out.frozen 2
  go_wp2
  go_ret
  rw [HR.out]
  have hfr : Fr T w (w1.setCell ⟨pb, 2, none⟩ (.int .i64 (max c.n (-1)))) := (Fr.of_below HB1.out).trans' (Fr.setCell (a := ⟨pb, 2, none⟩) _ hp)
  exact ⟨rfl, Mod.mk_after (HM1.out.fuse c.n _ rfl) hp (fun k hk => .inl (HO.out k hk)) HT.out hfr.size, hfr⟩

set_option maxRecDepth 100000 in
set_option maxHeartbeats 4000000 in
theorem mdo_7 (w : World) (T : Nat → Prop) (pb : Nat) (v : Value) (s : St) (c : CallV) (B : Nat) (h : MoB w pb v s) (hp : T pb) (hold : ∀ k, v.ownBlock = some k → T k) (hlt : ∀ k, T k → k < w.heap.size) (hf : MFits w s c B) (hk : c.k = 7) :
    Calls Try.prog 11 #[.pointer (some ⟨pb, 0, none⟩), c.val] w (MAfter w T pb (step s c)) := by
  obtain ⟨r, hr⟩ : ∃ r, r = step s c := ⟨_, rfl⟩
  rw [← hr]
  have hst : step s c = (0, crash s (keepsOf c)) := by unfold step; simp [hk]
  rw [hst] at hr
  have HR := Lib.hid hr
  clear hr hst
  have HK := Lib.hid (kind_ok (w.alloc (.cells #[.int .i64 c.kind, .int .i64 c.n, .string c.name, .string c.to, .slice c.A c.data.length c.cap] 33)) c)
  have HM := Lib.hid h; have HO := Lib.hid hold; have HT := Lib.hid hlt; have HF := Lib.hid hf
  have hba : Below w.heap.size w (w.alloc (.cells #[.int .i64 c.kind, .int .i64 c.n, .string c.name, .string c.to, .slice c.A c.data.length c.cap] 33)) := (Below.refl _ _).alloc (Nat.le_refl _) _
  have HBA := Lib.hid hba
  have HCA := Lib.hid (CallAt.alloc w c)
  have hpw : pb < w.heap.size := h.lt
  clear h hba hold hlt hf
  unfold CallV.val at *
  go_enter Try.func11, Try.ntmps11
  go_wp2_with fail
  refine HK.out.mono ?_
  rintro e w1 ⟨rfl, hb1⟩
  have HC1 := Lib.hid (HCA.out.below hb1)
  have HB1 := Lib.hid (HBA.out.trans (hb1.mono (by simp)))
  have HM1 := Lib.hid (HM.out.below HB1.out)
  clear hb1
  have k0 := HC1.out.k0; have k1 := HC1.out.k1; have k2 := HC1.out.k2; have k3 := HC1.out.k3; have k4 := HC1.out.k4
  have d6 : ((c.k : Int) == 6) = false := beq_eq_false_iff_ne.2 (by omega)
  have d7 : ((c.k : Int) == 7) = true := by simp; omega
  go_wp2_with fail
  refine (keeps_ok w1 c B (HF.out.ok.below (HB1.out.mono HF.out.B)) (Nat.le_trans HF.out.B HB1.out.size) (by have := HF.out.data; omega)).mono ?_
  rintro e w2 ⟨u, rfl, ho, hb2⟩
  obtain ⟨A, c2, rfl, hA, hbase, hrow⟩ := ho.row
  have HM2 := Lib.hid (HM1.out.below hb2)
  have HB2 := Lib.hid (HB1.out.trans (hb2.mono HB1.out.size))
  have hkl : (keepsOf c).length ≤ 1001 := by have := HF.out.data; simp [keepsOf]; omega
  have hkw : ∀ x ∈ keepsOf c, x ≤ 9223372036854775807 := fun x hx => by
    rcases List.mem_cons.1 hx with rfl | hx
    · exact HF.out.ok.n.2
    · obtain ⟨y, _, rfl⟩ := List.mem_map.1 hx
      have := Nat.mod_lt y (show 0 < 16 by omega)
      omega
  have hns : 0 < (keepsOf c).length → ∀ a, A = some a → some a.block ≠ v.ownBlock ∧ a.block ≠ pb := fun _ a ha => by
    have h1 := hbase a ha
    have h3 := HB1.out.size
    refine ⟨fun e => ?_, fun e => by omega⟩
    have := (HM1.out.own.lt _ e.symm).2
    omega
  have HC := Lib.hid (mcrash_ok w2 pb v s A (keepsOf c) c2 w2.heap.size HM2.out (by have := HF.out.files; omega) (by have := HF.out.used; omega) HF.out.sures (by omega) hkw hrow (Nat.le_refl _) hns)
  clear ho hb2 hbase hrow hkw hns k0 k1 k2 k3 k4 hkl
  go_wp2_with fail
  refine HC.out.mono ?_
  rintro e w3 ⟨rfl, h3, hf3⟩
  have H3 := Lib.hid h3; have HF3 := Lib.hid hf3
  clear h3 hf3
  go_wp2
  go_ret
  rw [HR.out]
  have hfr : Fr T w w3 := (Fr.of_below HB2.out).trans' ⟨HF3.out.os, HF3.out.tape, HF3.out.output, HF3.out.size, fun k hk hn => HF3.out.block k hk (fun e => by
    rcases e with e | e
    · exact hn (by rw [e]; exact hp)
    · exact hn (HO.out k e))⟩
  exact ⟨rfl, Mod.mk_after H3.out hp (fun k hk => .inl (HO.out k hk)) HT.out hfr.size, hfr⟩

end Go.Proofs.Ytdaipoelicpnoaa
