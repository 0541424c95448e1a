/-
  FileRuns: for all quotas and calls the law answers true: call by call a store has the files, bytes and errors that the document says, through fuses and crashes. No condition.
-/
import Derived.Test.YtdaipoelicpnoaaFRunL
import Derived.ProofKit
import Derived.Deep.Cut
import Derived.OpenShut
namespace Go.Proofs.Ytdaipoelicpnoaa.fileRuns
open Go.ChangeShapes Go.WideShapes Go.ChangeAt Go.RowKit FM

set_option maxRecDepth 100000 in
set_option maxHeartbeats 1000000 in
theorem long (a0 : Int) (A : Option Addr) (cs : List CallV) (cap : Nat) (w : World) (h : Row5 w w.heap.size A cs) (hm : cs.length ≤ maxLen) (hs : shortL cs = false) :
    Calls Try.prog 3 #[.int .i64 a0, .slice A cs.length cap] w fun e w' => e = .returned (.bool true) ∧ Below w.heap.size w w' := by
  have HH := Lib.hid h
  have HF := Lib.hid (fit_ok w)
  clear h
  go_enter Try.func3, Try.ntmps3
  go_wp2_with fail
  refine HF.out.mono ?_
  rintro e w1 ⟨rfl, hb1⟩
  have HB1 := Lib.hid hb1
  clear hb1
  go_wp2_with fail
  refine (short_ok w1 A cs cap (HH.out.below HB1.out) hm).mono ?_
  rintro e w2 ⟨rfl, hb2⟩
  rw [hs]
  have HB2 := Lib.hid hb2
  clear hb2
  go_wp2
  go_ret
  exact ⟨rfl, HB1.out.trans (HB2.out.mono HB1.out.size)⟩

theorem tilde : isName [126, 126, 126, 126, 126, 126, 126, 126, 126, 126, 126, 126, 126, 126, 126] = false := by decide
theorem Both.start {w w1 w2 : World} {S : Nat → Prop} {sb q : Nat} {a0 : Int} (h : Loop w w1 S sb (fresh a0) 0) (hq : q = a0.toNat) (hw : w2 = w1.alloc (.cells #[.slice none 0 0, .int .i64 (q : Int), .int .i64 (-1), .bool false] 30)) :
    Both w w2 S (fun k => k = w1.heap.size) sb w1.heap.size (fresh a0) 0 q := by
  have hb : Below w1.heap.size w1 w2 := by rw [hw]; exact (Below.refl _ _).alloc (Nat.le_refl _) _
  have hc : w2.heap[w1.heap.size]? = some (.cells #[.slice none 0 0, .int .i64 (q : Int), .int .i64 (-1), .bool false] 30) := by rw [hw]; exact (MapKept.heap_alloc w1 _).1
  refine ⟨h.moved hb, ⟨.slice none 0 0, ⟨?_, ?_⟩, rfl, (fun k hk => by cases hk), fun k hk => ?_⟩, fun j hj => ?_, fun j hj e => ?_, hq.symm, (fun p hp => by cases hp), ?_⟩
  · rw [hc, hq]; rfl
  · exact World.ownsRow_nil _ _ _ _
  · subst hk; rw [hw]; simp
  · subst hj; exact h.below.size
  · have := h.sto.lt j hj; omega
  · constructor
    · show (-9223372036854775808 : Int) ≤ -1; omega
    · show (-1 : Int) < 9223372036854775808; omega

set_option maxRecDepth 100000 in
set_option maxHeartbeats 2000000 in
theorem main (a0 : Int) (A : Option Addr) (cs : List CallV) (cap : Nat) (w : World) (ha : a0 ≤ 9223372036854775807) (h : Row5 w w.heap.size A cs) (hm : cs.length ≤ maxLen) (hs : shortL cs = true) :
    Calls Try.prog 3 #[.int .i64 a0, .slice A cs.length cap] w fun e w' => e = .returned (.bool true) ∧ Below w.heap.size w w' := by
  have HH := Lib.hid h
  have HF := Lib.hid (fit_ok w)
  obtain ⟨hl, hsh⟩ := short_all hs
  have HSH := Lib.hid hsh
  obtain ⟨q, hq, hmx⟩ : ∃ q : Nat, q = a0.toNat ∧ max a0 0 = (q : Int) := ⟨a0.toNat, rfl, by omega⟩
  have hq9 : q < 9223372036854775808 := by omega
  have HQ0 := Lib.hid hq
  clear h hsh hq
  go_enter Try.func3, Try.ntmps3
  go_wp2_with fail
  refine HF.out.mono ?_
  rintro e w1 ⟨rfl, hb1⟩
  have HB1 := Lib.hid hb1
  clear hb1
  go_wp2_with fail
  refine (short_ok w1 A cs cap (HH.out.below HB1.out) hm).mono ?_
  rintro e w2 ⟨rfl, hb2⟩
  rw [hs]
  have HB2 := Lib.hid (HB1.out.trans (hb2.mono HB1.out.size))
  clear hb2
  go_wp2_with fail
  refine (new_ok w2 a0 ha).mono ?_
  rintro e w3 ⟨sb, rfl, h3, hb3⟩
  have HL3 := Lib.hid (Loop.start HB2.out h3 hb3)
  clear h3 hb3
  go_upto_region 7 with fail
  have HBo := Lib.hid (Both.start HL3.out HQ0.out rfl)
  obtain ⟨w4, hw4⟩ : ∃ w4, w4 = w3.alloc (.cells #[.slice none 0 0, .int .i64 (q : Int), .int .i64 (-1), .bool false] 30) := ⟨_, rfl⟩
  rw [← hw4] at HBo ⊢
  obtain ⟨pb, hpb⟩ : ∃ pb, pb = w3.heap.size := ⟨_, rfl⟩
  rw [← hpb] at HBo ⊢
  clear hw4 hpb
  go_wp2
  go_loopw [23] (fun u wr => ∃ (i : Nat) (S T : Nat → Prop) (s : St), i ≤ cs.length ∧ u = .int .i64 (i : Int) ∧ Both w wr S T sb pb s i q)
    (fun u _ => cs.length - (intOf u).toNat)
  case atStart => exact ⟨0, _, _, _, Nat.zero_le _, rfl, HBo.out⟩
  case round =>
    obtain ⟨i, S, T, s, hi, rfl, hL⟩ := hrel
    have HL := Lib.hid hL
    clear hL
    by_cases hlt : i < cs.length
    · obtain ⟨b, off, hA, g1, g2, g3, g4, g5, hok⟩ := HH.out.call HL.out.loop.below hlt
      subst hA
      have hd1 := (HSH.out i hlt).1
      obtain ⟨c, hce⟩ : ∃ c, c = cs[i] := ⟨_, rfl⟩
      rw [← hce] at g1 g2 g3 g4 g5 hok hd1
      have HOK := Lib.hid hok
      clear hok hce
      have hba : Below wr.heap.size wr (wr.alloc (.cells #[.int .i64 c.kind, .int .i64 c.n, .string c.name, .string c.to, .slice c.A c.data.length c.cap] 33)) := (Below.refl _ _).alloc (Nat.le_refl _) _
      have HLa := Lib.hid (HL.out.moved hba)
      have HCa := Lib.hid (CallAt.alloc wr c)
      have hnS : ¬ S wr.heap.size := fun hs => by have := HL.out.loop.sto.lt _ hs; omega
      have hnT : ¬ T wr.heap.size := fun hs => by have := HL.out.mod.lt _ hs; omega
      have HNS := Lib.hid hnS; have HNT := Lib.hid hnT
      clear hba hnS hnT
      have hapT : 0 < c.data.length → ∀ a, c.A = some a → ¬ T a.block := fun hp a ha hT => by
        have h1 := HOK.out.row.block_lt hp ha
        have h2 := HL.out.newT _ hT
        omega
      have HAP := Lib.hid hapT
      clear hapT
      go_upto_region 10 with fail
      obtain ⟨wa, hwa⟩ : ∃ wa, wa = wr.alloc (.cells #[.int .i64 c.kind, .int .i64 c.n, .string c.name, .string c.to, .slice c.A c.data.length c.cap] 33) := ⟨_, rfl⟩
      rw [← hwa] at HLa HCa ⊢
      clear hwa g1 g2 g3 g4 g5
      have k0 := HCa.out.k0; have k1 := HCa.out.k1; have k2 := HCa.out.k2; have k3 := HCa.out.k3; have k4 := HCa.out.k4
      go_wp2_with fail
      refine (mdo_ok wa T pb s c w.heap.size HLa.out.mod (HLa.out.fits HOK.out (by omega) (by omega) hq9) HAP.out).mono ?_
      rintro e wb ⟨rfl, hmb, hfb⟩
      have HLb := Lib.hid (HLa.out.store hfb)
      have HCb := Lib.hid (HCa.out.fr hfb HNT.out)
      have HMB := Lib.hid hmb; have HFB := Lib.hid hfb
      clear k0 k1 k2 k3 k4 hmb hfb
      have k0 := HCb.out.k0; have k1 := HCb.out.k1; have k2 := HCb.out.k2; have k3 := HCb.out.k3; have k4 := HCb.out.k4
      go_wp2_with fail
      refine (do_ok wb S sb s c w.heap.size HLb.out.sto (HLb.out.fits HOK.out (by omega) (by omega))).mono ?_
      rintro e wc hac
      have HBc := Lib.hid (HLa.out.step (by omega) ⟨HOK.out.n.1, by have := HOK.out.n.2; omega⟩ HMB.out HFB.out hac)
      obtain ⟨rfl, _, _⟩ := hac
      clear k0 k1 k2 k3 k4
      have hfl := HBc.out.loop.files; have hus := HBc.out.loop.used
      generalize (step s c).1 = r at *
      go_wp2_with fail
      refine (same_ok wc _ _ sb pb _ HBc.out.loop.sto HBc.out.mod (by omega) (by omega)).mono ?_
      rintro e wd ⟨rfl, hbd⟩
      have HBd := Lib.hid (HBc.out.moved hbd)
      clear hbd
      go_wp2
      go_roundw
      case rel => exact ⟨i + 1, _, _, _, by omega, by go_num, HBd.out⟩
      case measure => simp [intOf]; omega
    · have hsu := sto_sure HL.out.loop.sto ⟨#[126, 126, 126, 126, 126, 126, 126, 126, 126, 126, 126, 126, 126, 126, 126]⟩ (by decide)
      rw [HL.out.named.none tilde] at hsu
      have HSU := Lib.hid hsu
      clear hsu
      go_wp2_with fail
      refine HSU.out.mono ?_
      rintro e wz ⟨rfl, hwz⟩
      rw [hwz]
      clear hwz wz
      go_wp2
      go_ret
      exact ⟨rfl, HL.out.loop.below⟩

theorem walk (a0 : Int) (a1 : Option Addr) (len1 cap1 : Nat) (w : World) (w0 : (Lit.int .i64 a0).wf = true) (w1 : IsCalls w a1 len1) :
    Calls Try.prog 3 #[.int .i64 a0, .slice a1 len1 cap1] w fun e w' => e = .returned (.bool true) ∧ Below w.heap.size w w' := by
  obtain ⟨cs, rfl, hm, h⟩ := w1
  have hb := bounds_i64 w0
  rcases hs : shortL cs with _ | _
  · exact long a0 a1 cs cap1 w h hm hs
  · exact main a0 a1 cs cap1 w (by omega) h hm hs

theorem own : ownKnob Try.prog.godebug = none := by kernel_rfl
theorem laidOut : laidOutB Try.prog = true := by kernel_rfl

set_option maxRecDepth 100000 in
theorem lifted (os : Os) (started : os.Started) (H : Type) (enc : TypeId × Value → H) :
    ReturnsInHanded {} Try.checked os 3 .any (Rows.fileRunsSpec.pre6 enc Try.prog Try.f3 Rows.fileRunsRow.domain false) (Rows.fileRunsSpec.post enc Try.prog Try.f3 false true false false) := by
  refine returnsInHanded_of_change (C := Try.checked) own started (by kernel_rfl) Try.func3
    (ChangeSpec.witness6 (enc := enc) (C := Try.checked) false ⟨#[], #[.int .i64 0, .slice none 0 0], []⟩ 8 (by kernel_rfl) (by kernel_rfl) (by kernel_rfl) (by kernel_rfl)) ?_
  intro W base args ds gs before hval0 hW hcnd _
  have hval : ∀ (j : Nat) t v, Try.f3.params[j]? = some t → args[j]? = some v → Value.okWide Try.prog W .any base t v := hval0
  have hW' := hW
  obtain ⟨p, q, hA0, hV, rfl, hfz, hnd⟩ := hW
  have hA : DataW.TrodAll enc Try.prog W 0 (fun _ => true) true Try.f3.params.toList args.toList ds p := hA0
  rw [Try.params3] at hA hval
  obtain ⟨v0, vs0, d0, ds0, p0, q0, hargs, rfl, rfl, h0, r0⟩ := trodAll_cons hA
  obtain ⟨v1, vs1, d1, ds1, p1, q1, rfl, rfl, rfl, h1, r1⟩ := trodAll_cons r0
  obtain ⟨rfl, rfl, rfl⟩ := trodAll_nil r1
  obtain rfl : args = #[v0, v1] := by cases args; simp_all
  obtain ⟨rfl, rfl⟩ := trodVars_none hV
  obtain ⟨a0, rfl, rfl, rfl, w0⟩ := open_int Try.underlying3 (hval 0 3 v0 rfl rfl) h0
  obtain ⟨a1, len1, cap1, rfl⟩ := okWide_slice Try.underlying22 (hval 1 22 v1 rfl rfl)
  have k1 := h1
  have lt1 : ∀ x ∈ p1, x.block < W.heap.size := by obtain ⟨m, hm⟩ := k1; exact DataW.trod_lt m _ _ _ hm
  have w1 : IsCalls W a1 len1 := by
    obtain ⟨fuel, hf⟩ := h1
    exact calls_in hf
  clear hA0 hval0
  refine (walk a0 a1 len1 cap1 W w0 w1).mono fun e W' ⟨he, bel⟩ => ?_
  subst he
  exact ⟨_, rfl, _, _, _, [], _, [], hW', trodAll_mk1 (shut_bool Try.underlying4 _), (trodAll_cons_mk (shut_int Try.underlying3 w0) (trodAll_cons_mk (Below.trod laidOut (by kernel_rfl) (of_decide_eq_true (by kernel_rfl)) k1 bel lt1) trodAll_mk0)), rfl, bel.frame _, fun h => by cases h⟩

theorem over : Rows.fileRunsRow.holds Try.pinned (OpenSpec.ofChange Rows.fileRunsSpec) :=
  OpenClaim.holds_of_wide 3 Try.f3 rfl rfl rfl rfl rfl rfl rfl ⟨rfl, rfl, rfl, rfl, rfl⟩ rfl rfl rfl rfl rfl (by kernel_rfl) Try.func3 (by kernel_rfl)
    (of_decide_eq_true (by kernel_rfl)) (by unfold Func.isWrapper; first | (rw [if_pos (by decide +kernel)]; kernel_rfl) | (rw [if_neg (by decide +kernel)]; exact ⟨rfl, rfl⟩))
    (fun os started H enc _ => lifted os started H enc)

end Go.Proofs.Ytdaipoelicpnoaa.fileRuns
namespace Go.Proofs.Ytdaipoelicpnoaa
theorem fileRuns_holds : Rows.FileRunsSaid := fileRuns.over
end Go.Proofs.Ytdaipoelicpnoaa
