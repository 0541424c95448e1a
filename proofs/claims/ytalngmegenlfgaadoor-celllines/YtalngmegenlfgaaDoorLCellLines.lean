/-
  CellLines: whole lines come back from their bytes; cut off, or asked for more cells, there is none. For every line of cells and every place; the package's table of wide runes as the program's text lays it.
-/
import Derived.Test.YtalngmegenlfgaaDoorKTakeL
import Derived.Test.YtalngmegenlfgaaDoorKFit
import Derived.Test.YtalngmegenlfgaaDoorKOpen
import Derived.Test.YtalngmegenlfgaaDoorKCond
import Derived.Test.YtalngmegenlfgaaDoorCards
import Derived.Test.YtalngmegenlfgaaDoorTie
import Derived.OpenShut
import Derived.HandedFrom
import Derived.ChangeSame
import Derived.ChangeVars
import Derived.JoinedOf
import Derived.JoinedAt
namespace Go.Proofs.YtalngmegenlfgaaDoor.cellLines
open Go.ChangeShapes Go.WideShapes Go.ChangeAt Go.RowKit Go.Lib KM

theorem fine_runs (l : List Cel) (h : ∀ c ∈ l, tame c) (hl : l.length ≤ 1000) : ∀ x ∈ runs l, Fine x := by
  intro x hx
  have hp := apart_pos _ (runs_apart l) x hx
  have hle := le_sumR (runs l) x hx
  rw [runs_sum] at hle
  have hm : x.2 ∈ l := by
    rw [← runs_cells l]
    exact List.mem_flatMap.2 ⟨x, hx, List.mem_replicate.2 ⟨by omega, rfl⟩⟩
  obtain ⟨h1, h2⟩ := h x.2 hm
  refine ⟨hp, by omega, ?_, ?_, h1⟩
  · rcases h2 with h2 | h2
    · omega
    · have := (GM.right_iff _).1 h2; omega
  · rcases h2 with h2 | h2
    · omega
    · have := (GM.right_iff _).1 h2; omega
theorem line_ok (m : List Cel) (hw : whole m = true) (hf : ∀ x ∈ runs m, Fine x) : lineOf (tr [] m.length (runsB (runs m)) false) = some (m, [], false) := by
  have h := tr_enc (runs m) hf [] (runs_apart m) []
  rw [List.append_nil, runs_sum, List.nil_append] at h
  rw [h]
  unfold lineOf
  simp only [Option.bind_some]
  rw [runs_cells, if_pos hw]
theorem line_cut (m : List Cel) (hf : ∀ x ∈ runs m, Fine x) (k : Nat) (hk : k < (runsB (runs m)).length) : lineOf (tr [] m.length ((runsB (runs m)).take k) false) = none := by
  have h := tr_cut (runs m) hf (runs_apart m) k hk
  rw [runs_sum] at h
  rw [h]
  rfl
theorem line_more (m : List Cel) (hf : ∀ x ∈ runs m, Fine x) : lineOf (tr [] (m.length + 1) (runsB (runs m)) false) = none := by
  rw [tr_more (runs m) hf (m.length + 1) (by rw [runs_sum]; omega)]
  rfl
theorem line_none (b : List Nat) : lineOf (tr [] 0 b false) = some ([], b, false) := by
  rw [tr_zero]
  rfl
theorem runs_pos (m : List Cel) (h : 0 < m.length) : 0 < (runsB (runs m)).length := by
  rcases hr : runs m with _ | ⟨x, r⟩
  · have := runs_sum m
    rw [hr] at this
    simp [sumR] at this
    omega
  · rw [runsB_cons, List.length_append]
    have := runB_pos x
    omega
theorem own_byte (w : World) (base : Nat) (hb : base ≤ w.heap.size) : Own (w.alloc (.cells #[.int .u8 7] 5)) base (.slice (some ⟨w.heap.size, 0, none⟩) 1 1) [7] := by
  refine ⟨rfl, .inr ⟨w.heap.size, 1, #[.int .u8 7], rfl, hb, heap_alloc_new w _, Nat.le_refl _, by unfold maxLen; omega, rfl, rfl⟩⟩

set_option maxRecDepth 100000 in
set_option maxHeartbeats 2000000 in
theorem core1 (A : Option Addr) (c : Nat) (l : List Cel) (z : Int) (w : World) (hr : celE.Row w w.heap.size A l) (h0 : 0 < l.length) (h1 : l.length ≤ 100) (hT : Tabs w) :
    Calls Tryd.prog 8 #[.slice A l.length c, .int .i64 z] w fun e w' => e = .returned (.bool true) ∧ Below w.heap.size w w' := by
  have HT := Lib.hid hT
  have HR := Lib.hid hr
  have hroom := hT.room
  clear hT hr
  have g0 : ((l.length : Int) == 0) = false := by rw [beq_eq_false_iff_ne]; omega
  have g1 : decide ((100 : Int) < (l.length : Int)) = false := by simp; omega
  obtain ⟨q, hq, hqe⟩ := low16 z
  go_enter Tryd.func8, Tryd.ntmps8
  go_wp2_with fail
  refine (fit_ok _ HT.out).mono ?_
  rintro e w1 ⟨rfl, b1⟩
  have HB1 := Lib.hid b1
  have HT1 := Lib.hid (HT.out.on b1 HT.out.room)
  have z1 := b1.size
  clear b1
  go_wp2_with fail
  refine (tame_ok w1 l A c w.heap.size (HR.out.below HB1.out) z1 (by omega)).mono ?_
  have hlt : (l.map tameC).length = l.length := List.length_map ..
  have HTM := Lib.hid (tameL_tame l)
  have HLT := Lib.hid hlt
  have hlt1 : (l.map tameC).length ≤ 100 := by omega
  clear hlt
  generalize l.map tameC = t at *
  rintro e w2 ⟨v2, rfl, o2, b2⟩
  obtain ⟨A2, c2, rfl, _, _, hA2, r2⟩ := o2.row
  have HR2 := Lib.hid r2
  have HA2 := Lib.hid hA2
  have HT2 := Lib.hid (HT1.out.on b2 HT1.out.room)
  have HB2 := Lib.hid (below_next HB1.out b2)
  have z2 := b2.size
  clear b2 r2 o2 hA2
  go_wp2_with fail
  refine (rmend_ok w2 t A2 c2 w2.heap.size HR2.out HA2.out (by omega)).mono ?_
  have hml : 0 < (mend t).length ∧ (mend t).length ≤ 100 := by rw [mend_len, HLT.out]; omega
  have HMW := Lib.hid (mend_whole t HTM.out)
  have HFN := Lib.hid (fine_runs (mend t) (mend_tame t HTM.out) (by omega))
  generalize mend t = m at *
  rintro e w3 ⟨v3, rfl, o3, b3⟩
  obtain ⟨A3, c3, rfl, _, _, _, r3⟩ := o3.row
  have HR3 := Lib.hid r3
  have HT3 := Lib.hid (HT2.out.on b3 HT2.out.room)
  have HB3 := Lib.hid (below_next HB2.out b3)
  have z3 := b3.size
  clear b3 r3 o3 HR2 HA2 HLT hlt1
  obtain ⟨hm0, hm1⟩ := hml
  obtain ⟨w4, hw4⟩ : ∃ w4, w4 = w3.alloc (.cells #[.int .u8 7] 5) := ⟨_, rfl⟩
  have b4 : Below w3.heap.size w3 w4 := by rw [hw4]; exact (Below.refl _ _).alloc (Nat.le_refl _) _
  have ho4 : Own w4 w3.heap.size (.slice (some ⟨w3.heap.size, 0, none⟩) 1 1) [7] := by rw [hw4]; exact own_byte w3 _ (Nat.le_refl _)
  have W4 := Lib.hid hw4
  have HB4 := Lib.hid (below_next HB3.out b4)
  have HT4 := Lib.hid (HT3.out.on b4 HT3.out.room)
  have HR4 := Lib.hid (HR3.out.below b4)
  have z4 := b4.size
  have HPL := Lib.hid (putLine_ok w4 _ [7] w3.heap.size m A3 c3 w3.heap.size ho4 z4 (by simp) HR4.out z4 (by omega) HFN.out)
  have HLO := Lib.hid (line_ok m HMW.out HFN.out)
  have HLC := Lib.hid (line_cut m HFN.out)
  have HLM := Lib.hid (line_more m HFN.out)
  have hCp := runs_pos m hm0
  have hCl := runsB_len (runs m) HFN.out
  have hrl := runs_len m
  have HCB := Lib.hid (runsB_byte (runs m))
  have hC3 : (runsB (runs m)).length ≤ 3000 := by omega
  clear hw4 b4 ho4 hCl hrl
  generalize runsB (runs m) = C at *
  obtain ⟨t', ht', hte⟩ : ∃ t : Nat, t < C.length ∧ (q : Int) % (C.length : Int) = (t : Int) := ⟨q % C.length, Nat.mod_lt q hCp, by push_cast; rfl⟩
  go_wp2_with fail
  rw [← W4.out]
  refine HPL.out.mono ?_
  rintro e w5 ⟨v5, rfl, o5, b5⟩
  obtain ⟨A5, c5, rfl, hc5, hc5m, _, r5⟩ := o5.form
  obtain ⟨bb, off, rfl, hbb, hcell⟩ := r5 (by simp)
  have hc0 : w5.cell? ⟨bb, off, none⟩ = some (.int .u8 7) := by have := hcell 0 (by simp); simpa using this
  have hr6 : Row w5 w5.heap.size .u8 (cutA (some ⟨bb, off, none⟩) c5 1) (([7] ++ C).drop 1) := r5.cut (by simp) hc5
  have HR6 := Lib.hid (show Row w5 w5.heap.size .u8 (cutA (some ⟨bb, off, none⟩) c5 1) C from hr6)
  have hcut : ∀ v, (Instr.slice 34 (.slice (some ⟨bb, off, none⟩) (C.length + 1) c5) (some (.int .i64 1)) none none).run Tryd.prog v = .ok (.slice (cutA (some ⟨bb, off, none⟩) c5 1) C.length (c5 - 1)) v := fun v => by
    have := run_cut (some ⟨bb, off, none⟩) (C.length + 1) c5 1 v (by omega)
    simpa using this
  have HA6 := Lib.hid (show cutA (some ⟨bb, off, none⟩) c5 1 = none → c5 - 1 = 0 by unfold cutA; split <;> simp)
  have hc6 : C.length ≤ c5 - 1 := by simp at hc5; omega
  have HB5 := Lib.hid (HB4.out.trans (b5.mono HB3.out.size))
  have HT5 := Lib.hid (HT4.out.on b5 (by omega))
  have HR5 := Lib.hid ((HR4.out.below b5).mono (show w3.heap.size ≤ w5.heap.size from Nat.le_trans z4 b5.size))
  have z5 := HB5.out.size
  clear b5 o5 r5 hcell hr6 HR4 HPL
  rw [show ([7] ++ C : List Nat).length = C.length + 1 by simp]
  generalize cutA (some ⟨bb, off, none⟩) c5 1 = A6 at *
  generalize c5 - 1 = c6 at *
  have hhd : ∀ v, (Instr.slice 34 (.slice A6 C.length c6) none (some (.int .i64 ((q : Int) % (C.length : Int)))) none).run Tryd.prog v = .ok (.slice A6 t' c6) v := fun v => by
    rw [hte]
    exact run_head A6 C.length c6 t' v (by omega)
  have hhd2 := fun v => run_head A6 C.length c6 t' v (by omega)
  have HTK : Hid ((C.take t').length = t') := Lib.hid (by rw [List.length_take]; omega)
  clear hte
  go_upto_region 10 with fail
  clear hcut hc0 hbb
  go_wp2_with fail
  refine (of_any w5 A6 C c6 w5.heap.size HR6.out HA6.out (by omega) HCB.out).mono ?_
  rintro e w6 ⟨gr, rfl, hgr, hrd, b6⟩
  have HT6 := Lib.hid (HT5.out.on b6 (by omega))
  have HX6 := Lib.hid b6
  have z6 := b6.size
  have HTL := Lib.hid (takeLine_ok w6 gr C false m.length (by omega) hrd (tabs_only HT6.out (by omega)))
  rw [HLO.out] at HTL
  clear hrd b6
  go_wp2_with fail
  refine HTL.out.mono ?_
  rintro e w7 (⟨hn, _⟩ | ⟨T, v7, hn, rfl, o7, hrd7, hg7⟩)
  · cases hn
  injection hn with hn
  subst hn
  simp only at o7 hrd7
  have HX7 := Lib.hid (HX6.out.trans (only_below hg7 hgr z6))
  have HT7 := Lib.hid (HT5.out.on HX7.out (by omega))
  obtain ⟨A7, c7, rfl, _, _, _, r7⟩ := o7.row
  have z7 := HX7.out.size
  have HSM := Lib.hid (same_ok w7 m m A7 A3 c7 c3 w7.heap.size r7 ((HR5.out.below HX7.out).mono z7) (Nat.le_refl _) (by omega) (by omega))
  rw [show decide (m = m) = true by simp] at HSM
  have HRD := Lib.hid hrd7
  clear hg7 o7 r7 hrd7
  go_wp2_with fail
  refine (done_any w7 gr [] false HRD.out).mono ?_
  rintro e w7' ⟨rfl, hw⟩
  rw [← hw]
  clear hw w7'
  simp only [Bool.not_false, List.isEmpty_nil, Bool.and_self]
  go_wp2_with fail
  refine HSM.out.mono ?_
  rintro e w8 ⟨rfl, b8⟩
  have HX8 := Lib.hid (HX7.out.trans (b8.mono z7))
  have HT8 := Lib.hid (HT5.out.on HX8.out (by omega))
  have z8 := HX8.out.size
  have HOF := Lib.hid (of_any w8 A6 (C.take t') c6 w5.heap.size ((HR6.out.below HX8.out).take t') HA6.out (by rw [HTK.out]; omega) (fun x hx => HCB.out x (List.mem_of_mem_take hx)))
  rw [HTK.out] at HOF
  clear b8 HSM HRD HTL
  go_wp2_with fail
  refine HOF.out.mono ?_
  rintro e w9 ⟨gr2, rfl, hgr2, hrd, b9⟩
  have HX9 := Lib.hid (HX8.out.trans (b9.mono z8))
  have HT9 := Lib.hid (HT5.out.on HX9.out (by omega))
  have z9 := HX9.out.size
  have HTL := Lib.hid (takeLine_ok w9 gr2 (C.take t') false m.length (by omega) hrd (tabs_only HT9.out (by omega)))
  rw [HLC.out t' ht'] at HTL
  clear hrd b9
  go_wp2_with fail
  refine HTL.out.mono ?_
  rintro e w10 (⟨_, rfl, hg10⟩ | ⟨T, v10, hn, _⟩)
  case inr => cases hn
  have HX10 := Lib.hid (HX9.out.trans (only_below hg10 (by omega) z9))
  have HT10 := Lib.hid (HT5.out.on HX10.out (by omega))
  have z10 := HX10.out.size
  clear hg10 HTL HOF hhd hhd2
  go_wp2_with fail
  refine (of_any w10 A6 C c6 w5.heap.size (HR6.out.below HX10.out) HA6.out (by omega) HCB.out).mono ?_
  rintro e w11 ⟨gr3, rfl, hgr3, hrd, b11⟩
  have HX11 := Lib.hid (HX10.out.trans (b11.mono z10))
  have HT11 := Lib.hid (HT5.out.on HX11.out (by omega))
  have z11 := HX11.out.size
  have HTL := Lib.hid (takeLine_ok w11 gr3 C false (m.length + 1) (by omega) hrd (tabs_only HT11.out (by omega)))
  rw [HLM.out, show ((m.length + 1 : Nat) : Int) = (m.length : Int) + 1 by omega] at HTL
  clear hrd b11
  go_wp2_with fail
  refine HTL.out.mono ?_
  rintro e w12 (⟨_, rfl, hg12⟩ | ⟨T, v12, hn, _⟩)
  case inr => cases hn
  have HX12 := Lib.hid (HX11.out.trans (only_below hg12 (by omega) z11))
  have HT12 := Lib.hid (HT5.out.on HX12.out (by omega))
  have z12 := HX12.out.size
  clear hg12 HTL
  go_wp2_with fail
  refine (of_any w12 A6 C c6 w5.heap.size (HR6.out.below HX12.out) HA6.out (by omega) HCB.out).mono ?_
  rintro e w13 ⟨gr4, rfl, hgr4, hrd, b13⟩
  have HX13 := Lib.hid (HX12.out.trans (b13.mono z12))
  have HT13 := Lib.hid (HT5.out.on HX13.out (by omega))
  have z13 := HX13.out.size
  have HTL := Lib.hid (takeLine_ok w13 gr4 C false 0 (by omega) hrd (tabs_only HT13.out (by omega)))
  rw [line_none C, show ((0 : Nat) : Int) = 0 from rfl] at HTL
  clear hrd b13
  go_wp2_with fail
  refine HTL.out.mono ?_
  rintro e w14 (⟨hn, _⟩ | ⟨T, v14, hn, rfl, o14, _, hg14⟩)
  · cases hn
  injection hn with hn
  subst hn
  simp only at o14
  obtain ⟨A14, c14, rfl, _, _, _, _⟩ := o14.row
  have HX14 := Lib.hid (HX13.out.trans (only_below hg14 (by omega) z13))
  clear hg14 o14 HTL
  simp only [List.length_nil]
  go_wp2_with fail
  go_ret
  exact ⟨rfl, HB5.out.trans (HX14.out.mono z5)⟩

set_option maxRecDepth 100000 in
set_option maxHeartbeats 1000000 in
theorem core0 (A : Option Addr) (c n : Nat) (z : Int) (w : World) (h : n = 0 ∨ 100 < n) (hT : Tabs w) :
    Calls Tryd.prog 8 #[.slice A n c, .int .i64 z] w fun e w' => e = .returned (.bool true) ∧ Below w.heap.size w w' := by
  have HT := Lib.hid hT
  clear hT
  rcases h with h | h
  · have g0 : ((n : Int) == 0) = true := by simp; omega
    go_enter Tryd.func8, Tryd.ntmps8
    go_wp2_with fail
    refine (fit_ok _ HT.out).mono ?_
    rintro e w1 ⟨rfl, b1⟩
    have HB1 := Lib.hid b1
    clear b1
    go_wp2_with fail
    go_ret
    exact ⟨rfl, HB1.out⟩
  · have g0 : ((n : Int) == 0) = false := by simp; omega
    have g1 : decide ((100 : Int) < (n : Int)) = true := by simp; omega
    go_enter Tryd.func8, Tryd.ntmps8
    go_wp2_with fail
    refine (fit_ok _ HT.out).mono ?_
    rintro e w1 ⟨rfl, b1⟩
    have HB1 := Lib.hid b1
    clear b1
    go_wp2_with fail
    go_ret
    exact ⟨rfl, HB1.out⟩
theorem walk (A : Option Addr) (len cap : Nat) (z : Int) (w : World) (hw : IsCels w A len cap) (_hz : (Lit.int .i64 z).wf = true) (hT : Tabs w) :
    Calls Tryd.prog 8 #[.slice A len cap, .int .i64 z] w fun e w' => e = .returned (.bool true) ∧ Below w.heap.size w w' := by
  obtain ⟨l, rfl, _, h2⟩ := hw
  by_cases h0 : l.length = 0 ∨ 100 < l.length
  · exact core0 A cap l.length z w h0 hT
  · exact core1 A cap l z w h2 (by omega) (by omega) hT

theorem own : ownKnob Tryd.prog.godebug = none := by kernel_rfl
theorem laidOut : laidOutB Tryd.prog = true := by kernel_rfl

set_option maxRecDepth 100000 in
theorem lifted (os : Os) (started : os.Started) (H : Type) (enc : TypeId × Value → H) :
    ReturnsInHanded {} Tryd.checked os 8 .any (fun w args => (Rows.cellLinesSpec.pre enc Tryd.prog Tryd.f8 Rows.cellLinesRow.domain false w args ∧ laidMetH Tryd.prog Rows.cellLinesRow.laid w) ∧ sizedMet enc Tryd.prog Tryd.f8 (OpenSpec.ofChange Rows.cellLinesSpec) false w args)
      (Rows.cellLinesSpec.post enc Tryd.prog Tryd.f8 false true false false) := by
  refine returnsInHanded_of_change_and (C := Tryd.checked) (X := fun w _ => laidMetH Tryd.prog Rows.cellLinesRow.laid w) (fun _ _ _ hh h => h.of_heap hh) own started (by kernel_rfl) Tryd.func8
    (ChangeSpec.witness_shaped (enc := enc) (C := Tryd.checked) (os := os) (X := fun w _ => laidMetH Tryd.prog Rows.cellLinesRow.laid w) false (start8 os) #[.slice none 0 0, .int .i64 0] 8 rfl (World.shaped_of_RefB (by kernel_rfl) (by kernel_rfl)) (by kernel_rfl) (by kernel_rfl) (by kernel_rfl) (met_cellLines os _)) ?_
  intro W base args ds gs before hval0 hW _ _ hL _
  have hval : ∀ (j : Nat) t v, Tryd.f8.params[j]? = some t → args[j]? = some v → Value.okWide Tryd.prog W .any base t v := hval0
  have hW' := hW
  obtain ⟨p, q, hA0, hV, rfl, hfz, hnd⟩ := hW
  have hA : DataW.TrodAll enc Tryd.prog W 0 (fun _ => true) true Tryd.f8.params.toList args.toList ds p := hA0
  rw [Tryd.params8] at hA hval
  obtain ⟨v0, vs0, d0, ds0, p0, q0, hargs, rfl, rfl, h0, r0⟩ := trodAll_cons hA
  obtain ⟨v1, vs1, d1, ds1, p1, q1, rfl, rfl, rfl, h1, r1⟩ := trodAll_cons r0
  obtain ⟨rfl, rfl, rfl⟩ := trodAll_nil r1
  obtain rfl : args = #[v0, v1] := by cases args; simp_all
  obtain ⟨rfl, rfl⟩ := trodVars_none hV
  obtain ⟨a0, len0, cap0, rfl⟩ := okWide_slice Tryd.underlying44 (hval 0 44 v0 rfl rfl)
  have k0 := h0
  have lt0 : ∀ x ∈ p0, x.block < W.heap.size := by obtain ⟨m, hm⟩ := k0; exact DataW.trod_lt m _ _ _ hm
  have w0 : IsCels W a0 len0 cap0 := by
    obtain ⟨fuel, hf⟩ := h0
    exact cels_in hf
  obtain ⟨a1, rfl, rfl, rfl, w1⟩ := open_int Tryd.underlying3 (hval 1 3 v1 rfl rfl) h1
  clear hA0 hval0
  refine (walk a0 len0 cap0 a1 W w0 w1 (tabs_cellLines hL)).mono fun e W' ⟨he, bel⟩ => ?_
  subst he
  exact ⟨_, rfl, _, _, _, [], _, [], hW', trodAll_mk1 (shut_bool Tryd.underlying4 _), (trodAll_cons_mk (Below.trod laidOut (by kernel_rfl) (of_decide_eq_true (by kernel_rfl)) k0 bel lt0) (trodAll_cons_mk (shut_int Tryd.underlying3 w1) trodAll_mk0)), rfl, bel.frame _, fun h => by cases h⟩

theorem over : Rows.cellLinesRow.holds Tryd.pinned (OpenSpec.ofChange Rows.cellLinesSpec) :=
  OpenClaim.holds_of_wide 8 Tryd.f8 rfl rfl rfl rfl rfl rfl rfl ⟨rfl, rfl, rfl, rfl, rfl⟩ rfl rfl rfl rfl rfl (by kernel_rfl) Tryd.func8 (by kernel_rfl)
    (of_decide_eq_true (by kernel_rfl)) (by unfold Func.isWrapper; first | (rw [if_pos (by decide +kernel)]; kernel_rfl) | (rw [if_neg (by decide +kernel)]; exact ⟨rfl, rfl⟩))
    (fun os started H enc _ => lifted os started H enc)

theorem cardOver : Rows.CellLinesCardSaid :=
  Claim7.holds_tied_plain_at .later [] [.data] true (true, "4f396e1d14b963e642369da60c586bea4ab32b1863cbf0082d54e6225053dd77") false
    over (fun _ h => by cases h) (by kernel_rfl) (fun _ h => by cases h) cellLines_row_tie rfl ⟨rfl, rfl⟩ (by kernel_rfl) rfl
    (fun f fn hf hfn => by
      obtain rfl : f = 8 := Option.some.inj ((show Tryd.prog.funcNamed Rows.cellLinesRow.func = some 8 by kernel_rfl).symm.trans hf) |>.symm
      obtain rfl : fn = Tryd.f8 := (Option.some.inj (Tryd.func8.symm.trans hfn)).symm
      exact ⟨by kernel_rfl, fun j t ht => by
        rw [Tryd.params8] at ht
        have hm : t ∈ [44, 3] := by simpa using Array.mem_of_getElem? ht
        have hall : ([44, 3].all fun u => !Tryd.prog.wantsStandIn u) = true := by kernel_rfl
        exact (show Tryd.prog.wantsStandIn t = false by simpa using List.all_eq_true.1 hall t hm)⟩)
    (by kernel_rfl)

end Go.Proofs.YtalngmegenlfgaaDoor.cellLines
namespace Go.Proofs.YtalngmegenlfgaaDoor
theorem cellLines_holds : Rows.CellLinesCardSaid := cellLines.cardOver
end Go.Proofs.YtalngmegenlfgaaDoor
