/-
  EventAny: any bytes begin with the bytes of the right event that is told, or with none's. For all bytes and every time behind which it is asked for. No condition.
-/
import Derived.Test.YtfbfelfioikieaaETake
import Derived.Test.YtfbfelfioikieaaERRight
import Derived.Test.YtfbfelfioikieaaEFit
import Derived.ProofKit
import Derived.OpenShut
namespace Go.Proofs.Ytfbfelfioikieaa.eventAny
open Go.ChangeShapes Go.WideShapes Go.ChangeAt Go.RowKit Go.Lib EM
set_option maxRecDepth 100000

theorem i64_and62 (n : Int) : bits .and .i64 n 4611686018427387903 = n % 4611686018427387904 := by
  have h127 : (BitVec.ofInt 64 4611686018427387903).toNat = 2 ^ 62 - 1 := by decide
  have key : (BitVec.ofInt 64 n &&& BitVec.ofInt 64 4611686018427387903).toNat = (n % ((2 ^ 64 : Nat) : Int)).toNat % 2 ^ 62 := by
    rw [BitVec.toNat_and, BitVec.toNat_ofInt, h127, Nat.and_two_pow_sub_one_eq_mod]
  show IntKind.i64.wrap ((BitVec.ofInt 64 n &&& BitVec.ofInt 64 4611686018427387903).toNat : Nat) = n % 4611686018427387904
  rw [key, IntKind.wrap_i64]
  omega
theorem low62 (n : Int) : ∃ f : Nat, f < 4611686018427387904 ∧ bits .and .i64 n 4611686018427387903 = (f : Int) := ⟨(n % 4611686018427387904).toNat, by omega, by rw [i64_and62]; omega⟩

theorem big (A : Option Addr) (n c : Nat) (z : Int) (w : World) (h : 600 < n) :
    Calls Try.prog 5 #[.slice A n c, .int .i64 z] w fun e w' => e = .returned (.bool true) ∧ Below w.heap.size w w' := by
  have g : decide ((600 : Int) < (n : Int)) = true := by simp; omega
  have HF := Lib.hid (efit_ok w)
  go_enter Try.func5, Try.ntmps5
  go_wp2_with fail
  refine HF.out.mono ?_
  rintro e w1 ⟨rfl, b1⟩
  have HB1 := Lib.hid b1
  clear b1
  go_wp2_with fail
  go_ret
  exact ⟨rfl, HB1.out⟩

set_option maxHeartbeats 2000000 in
theorem core_no (A : Option Addr) (c : Nat) (l : List Nat) (z : Int) (f : Nat) (hf : f < 4611686018427387904) (hz : bits .and .i64 z 4611686018427387903 = (f : Int)) (w : World) (hl : l.length ≤ 600) (hA : A = none → c = 0) (hr : Row w w.heap.size .u8 A l) (hby : ∀ x ∈ l, x < 256)
    (hno : ¬ ((readE f l false).2.2 = false ∧ right (readE f l false).1 = true)) :
    Calls Try.prog 5 #[.slice A l.length c, .int .i64 z] w fun e w' => e = .returned (.bool true) ∧ Below w.heap.size w w' := by
  have g : decide ((600 : Int) < (l.length : Int)) = false := by simp; omega
  have HF := Lib.hid (efit_ok w)
  have HR := Lib.hid hr
  have HA := Lib.hid hA
  have HBY := Lib.hid hby
  have HNO := Lib.hid hno
  have hb0 := fun w => build_ev0 w
  have heq := fun w => run_eqE w zero zero
  rw [show decide (zero = zero) = true from decide_eq_true rfl] at heq
  simp only [evV, EM.zero] at heq
  clear hr hA hby hno
  go_enter Try.func5, Try.ntmps5
  go_wp2_with fail
  refine HF.out.mono ?_
  rintro e w1 ⟨rfl, b1⟩
  have HB1 := Lib.hid b1
  have HOF := Lib.hid (of_any w1 A l c w.heap.size (HR.out.below b1) HA.out (by omega) HBY.out)
  clear b1
  go_wp2_with fail
  refine HOF.out.mono ?_
  rintro e w2 ⟨gr, rfl, hgr, hrd, hb2⟩
  have HB2 := Lib.hid (below_next HB1.out hb2)
  have HTK := Lib.hid (show Calls Try.prog 16 #[.pointer (some ⟨gr, 0, none⟩), .int .i64 (f : Int)] w2 fun x w' => x = .returned (.tuple #[evV zero, .bool false]) ∧ w2.grownBy w' (some gr) from (take_ok w2 gr l f hf hrd).mono fun x w' hp => by
    unfold TakePost at hp
    rw [if_neg HNO.out] at hp
    exact hp)
  simp only [evV, EM.zero] at HTK
  have hzw := HB1.out.size
  clear hrd hb2 HOF
  go_wp2_with fail
  refine HTK.out.mono ?_
  rintro e w3 ⟨rfl, hg3⟩
  have HB3 := Lib.hid (HB2.out.trans (show Below w.heap.size w2 w3 from (Below.refl _ _).grown hg3 (by have := HB2.out.size; omega) (fun k hk => by injection hk with hk; omega)))
  clear hg3 HTK
  go_upto_region 8 with fail
  obtain ⟨w4, hw4⟩ : ∃ w4, w4 = w3.alloc (.cells #[.int .i64 0, .int .i64 0, .string ByteArray.empty, .int .i64 0, .int .i64 0] 25) := ⟨_, rfl⟩
  rw [← hw4]
  have hb4 : Below w3.heap.size w3 w4 := by rw [hw4]; exact (Below.refl _ _).alloc (Nat.le_refl _) _
  have hc4 : EvAt w4 w3.heap.size ⟨0, 0, ByteArray.empty, 0, 0⟩ := by rw [hw4]; exact EvAt.new w3 ⟨0, 0, ByteArray.empty, 0, 0⟩
  obtain ⟨e0, e1, e2, e3, e4⟩ := hc4.cells
  simp only at e0 e1 e2 e3 e4
  have HB4 := Lib.hid (below_next HB3.out hb4)
  clear hb4 hc4 hw4
  go_wp2_with fail
  go_ret
  exact ⟨rfl, HB4.out⟩

set_option maxHeartbeats 4000000 in
theorem core_yes (A : Option Addr) (c : Nat) (l : List Nat) (z : Int) (f : Nat) (hf : f < 4611686018427387904) (hz : bits .and .i64 z 4611686018427387903 = (f : Int)) (w : World) (hl : l.length ≤ 600) (hlc : l.length ≤ c) (hA : A = none → c = 0) (hr : Row w w.heap.size .u8 A l) (hby : ∀ x ∈ l, x < 256)
    (hyes : (readE f l false).2.2 = false ∧ right (readE f l false).1 = true) :
    Calls Try.prog 5 #[.slice A l.length c, .int .i64 z] w fun e w' => e = .returned (.bool true) ∧ Below w.heap.size w w' := by
  have g : decide ((600 : Int) < (l.length : Int)) = false := by simp; omega
  have HF := Lib.hid (efit_ok w)
  have HR := Lib.hid hr
  have HA := Lib.hid hA
  have HBY := Lib.hid hby
  obtain ⟨hback, hle⟩ := readE_back hby hyes.1
  have HTK := fun (v : World) (gr : Nat) (hrd : Rd v gr l false) => (show Calls Try.prog 16 #[.pointer (some ⟨gr, 0, none⟩), .int .i64 (f : Int)] v fun x w' => x = .returned (.tuple #[evV (readE f l false).1, .bool true]) ∧ Rd w' gr (readE f l false).2.1 false ∧ v.grownBy w' (some gr) from (take_ok v gr l f hf hrd).mono fun x w' hp => by
    unfold TakePost at hp
    rw [if_pos hyes] at hp
    exact hp)
  obtain ⟨-, hri⟩ := hyes
  generalize (readE f l false).1 = y at *
  generalize (readE f l false).2.1 = rest at *
  have HPT := Lib.hid (fun (v : World) => eput_ok (.slice none 0 0) [] (f : Int) y v v.heap.size hri (by omega) hle (by simp) (Own.nil _ _) (Nat.le_refl _))
  have HRR := Lib.hid (fun v => rright_ok v y)
  rw [hri] at HRR
  have htk : l.take (evB (f : Int) y).length = evB (f : Int) y := by
    conv => lhs; rw [hback]
    rw [List.take_left]
  have hcl : (evB (f : Int) y).length + rest.length = l.length := by
    have := congrArg List.length hback
    rw [List.length_append] at this
    omega
  have HTKL := Lib.hid htk
  have HRI := Lib.hid hri
  have HTK := Lib.hid HTK
  generalize hcc : evB (f : Int) y = cs at *
  have HBC := Lib.hid (show ∀ x ∈ cs, x < 256 by rw [← hcc]; exact evB_byte _ _)
  obtain ⟨t, kk, d, x, zz⟩ := y
  simp only at hle
  simp only [evV] at HTK HPT HRR
  have g5 : decide (t < (f : Int)) = false := by simp; omega
  clear hr hA hby hback htk hcc hri hle
  go_enter Try.func5, Try.ntmps5
  go_wp2_with fail
  refine HF.out.mono ?_
  rintro e w1 ⟨rfl, b1⟩
  have HB1 := Lib.hid b1
  have HOF := Lib.hid (of_any w1 A l c w.heap.size (HR.out.below b1) HA.out (by omega) HBY.out)
  clear b1
  go_wp2_with fail
  refine HOF.out.mono ?_
  rintro e w2 ⟨gr, rfl, hgr, hrd, hb2⟩
  have HB2 := Lib.hid (below_next HB1.out hb2)
  have HTK1 := Lib.hid (HTK.out w2 gr hrd)
  have hzw := HB1.out.size
  clear hrd hb2 HOF HTK
  go_wp2_with fail
  refine HTK1.out.mono ?_
  rintro e w3 ⟨rfl, hrd3, hg3⟩
  have HB3 := Lib.hid (HB2.out.trans (show Below w.heap.size w2 w3 from (Below.refl _ _).grown hg3 (by have := HB2.out.size; omega) (fun k hk => by injection hk with hk; omega)))
  have HR3 := Lib.hid hrd3
  clear hg3 HTK1 hrd3
  go_upto_region 8 with fail
  obtain ⟨w4, hw4⟩ : ∃ w4, w4 = w3.alloc (.cells #[.int .i64 t, .int .i64 kk, .string d, .int .i64 x, .int .i64 zz] 25) := ⟨_, rfl⟩
  rw [← hw4]
  have hb4 : Below w3.heap.size w3 w4 := by rw [hw4]; exact (Below.refl _ _).alloc (Nat.le_refl _) _
  have hc4 : EvAt w4 w3.heap.size ⟨t, kk, d, x, zz⟩ := by rw [hw4]; exact EvAt.new w3 ⟨t, kk, d, x, zz⟩
  have HC4 := Lib.hid hc4
  obtain ⟨e0, e1, e2, e3, e4⟩ := hc4.cells
  simp only at e0 e1 e2 e3 e4
  have HB4 := Lib.hid (below_next HB3.out hb4)
  have HR4 := Lib.hid (HR3.out.grown hb4)
  clear hb4 hc4 hw4
  go_wp2_with fail
  refine (HRR.out w4).mono ?_
  rintro e w5 ⟨rfl, hb5⟩
  have hc5 := HC4.out.dead hb5
  have HC5 := Lib.hid hc5
  have HB5 := Lib.hid (below_next HB4.out hb5)
  have HR5 := Lib.hid (HR4.out.grown hb5)
  clear e0 e1 e2 e3 e4 hb5
  obtain ⟨e0, e1, e2, e3, e4⟩ := hc5.cells
  simp only at e0 e1 e2 e3 e4
  clear hc5
  have HGD := Lib.hid (good_any w5 gr rest false HR5.out)
  go_wp2_with fail
  refine HGD.out.mono ?_
  rintro e w6 ⟨rfl, hw6⟩
  rw [← hw6]
  clear hw6 w6
  go_wp2_with fail
  refine (HPT.out w5).mono ?_
  rintro e w6 ⟨v, rfl, ho, hg6⟩
  rw [List.nil_append] at ho
  obtain ⟨A6, c6, hv, hl6, hc6, hA6, hr6⟩ := ho.form
  subst hv
  have hb6 : Below w5.heap.size w5 w6 := ⟨hg6.os, hg6.tape, hg6.output, hg6.size, fun k hk => hg6.block k hk (by simp [Value.ownBlock])⟩
  have HB6 := Lib.hid (below_next HB5.out hb6)
  have hR6 := HR5.out.grown hb6
  have HDN := Lib.hid (fun n => show Calls Try.prog 18 #[.pointer (some ⟨gr, 0, none⟩)] (w6.drewN n) fun e w' => e = .returned (.bool (!false && rest.isEmpty)) ∧ w' = w6.drewN n from (done_any (w6.drewN n) gr rest false (hR6.grown (below_drewN (Below.refl _ _) n))).mono fun _ _ h => ⟨h.1, h.2.symm⟩)
  have hs1 : ∀ n, (convert 30 9 (.slice A6 cs.length c6)).run Try.prog (w6.drewN n) = .ok (.string (str cs)) (w6.drewN n) := fun n => run_string A6 cs c6 _ _ (hr6.below (below_drewN (Below.refl _ _) n))
  have hs2 : ∀ n, (convert 30 9 (.slice A cs.length c)).run Try.prog (w6.drewN n) = .ok (.string (str cs)) (w6.drewN n) := fun n => by
    have h := (HR.out.below HB6.out).take cs.length
    rw [HTKL.out] at h
    exact run_string A cs c _ _ (h.below (below_drewN (Below.refl _ _) n))
  have hhead : ∀ W, (Instr.slice 30 (.slice A l.length c) none (some (.int .i64 (cs.length : Int))) none).run Try.prog W = .ok (.slice A cs.length c) W := fun W => run_head A l.length c _ W (by omega)
  have g7 : decide ((cs.length : Int) ≤ (l.length : Int)) = true := by simp; omega
  have g8 : decide (cs.length ≤ l.length) = true := by simp; omega
  have g9 : ((cs.length : Int) == (l.length : Int)) = rest.isEmpty := by
    cases rest with
    | nil => simp at hcl ⊢; omega
    | cons a r => simp at hcl ⊢; omega
  have g10 : (cs.length == l.length) = rest.isEmpty := by
    cases rest with
    | nil => simp at hcl ⊢; omega
    | cons a r => simp at hcl ⊢; omega
  simp only [Bool.not_false, Bool.true_and] at HDN
  clear ho hg6 hb6 hl6 hc6 hA6 hr6 hR6 HPT e0 e1 e2 e3 e4
  generalize rest.isEmpty = em at *
  clear hcl
  go_upto_region 13 with fail
  cases em <;>
  · go_quiet (first | (go_at_call 18; exact Calls.quiet_of_same (HDN.out _)))
    go_wp2_with fail
    go_ret
    exact ⟨rfl, below_drewN HB6.out _⟩

theorem walk (A : Option Addr) (len cap : Nat) (zs : List Int) (z : Int) (w : World) (hw : IsRow .u8 w A len cap zs) (_hz : (Lit.int .i64 z).wf = true) :
    Calls Try.prog 5 #[.slice A len cap, .int .i64 z] w fun e w' => e = .returned (.bool true) ∧ Below w.heap.size w w' := by
  obtain ⟨l, rfl, _, h2, h3, h4, h5⟩ := came hw top_u8
  by_cases h : 600 < l.length
  · exact big A l.length cap z w h
  · obtain ⟨f, hf, hz⟩ := low62 z
    by_cases hy : (readE f l false).2.2 = false ∧ right (readE f l false).1 = true
    · exact core_yes A cap l z f hf hz w (by omega) h2 h3 h4 h5 hy
    · exact core_no A cap l z f hf hz w (by omega) h3 h4 h5 hy

theorem own : ownKnob Try.prog.godebug = none := by kernel_rfl
theorem laidOut : laidOutB Try.prog = true := by kernel_rfl

set_option maxRecDepth 100000 in
theorem lifted (os : Os) (started : os.Started) (H : Type) (enc : TypeId × Value → H) :
    ReturnsInHanded {} Try.checked os 5 .any (Rows.eventAnySpec.pre6 enc Try.prog Try.f5 Rows.eventAnyRow.domain false) (Rows.eventAnySpec.post enc Try.prog Try.f5 false true false false) := by
  refine returnsInHanded_of_change (C := Try.checked) own started (by kernel_rfl) Try.func5
    (ChangeSpec.witness6 (enc := enc) (C := Try.checked) false ⟨#[], #[.slice none 0 0, .int .i64 0], []⟩ 8 (by kernel_rfl) (by kernel_rfl) (by kernel_rfl) (by kernel_rfl)) ?_
  intro W base args ds gs before hval0 hW hcnd _
  have hval : ∀ (j : Nat) t v, Try.f5.params[j]? = some t → args[j]? = some v → Value.okWide Try.prog W .any base t v := hval0
  have hW' := hW
  obtain ⟨p, q, hA0, hV, rfl, hfz, hnd⟩ := hW
  have hA : DataW.TrodAll enc Try.prog W 0 (fun _ => true) true Try.f5.params.toList args.toList ds p := hA0
  rw [Try.params5] at hA hval
  obtain ⟨v0, vs0, d0, ds0, p0, q0, hargs, rfl, rfl, h0, r0⟩ := trodAll_cons hA
  obtain ⟨v1, vs1, d1, ds1, p1, q1, rfl, rfl, rfl, h1, r1⟩ := trodAll_cons r0
  obtain ⟨rfl, rfl, rfl⟩ := trodAll_nil r1
  obtain rfl : args = #[v0, v1] := by cases args; simp_all
  obtain ⟨rfl, rfl⟩ := trodVars_none hV
  obtain ⟨a0, len0, cap0, rfl⟩ := okWide_slice Try.underlying30 (hval 0 30 v0 rfl rfl)
  have k0 := h0
  have lt0 : ∀ x ∈ p0, x.block < W.heap.size := by obtain ⟨m, hm⟩ := k0; exact DataW.trod_lt m _ _ _ hm
  obtain ⟨z0, w0⟩ : ∃ zs, IsRow .u8 W a0 len0 cap0 zs := by
    obtain ⟨fuel, hf⟩ := h0
    rcases open_ints Try.underlying30 Try.underlying5 (by kernel_rfl) hf with ⟨hcs, _⟩ | ⟨x, l, c, zs, hcs, _, hl, hm, hz, _, hcell, hwz⟩
    · simp [Value.cells] at hcs
      obtain ⟨rfl, rfl, rfl⟩ := hcs
      exact ⟨[], .inl ⟨rfl, rfl, rfl, rfl⟩⟩
    · simp [Value.cells] at hcs
      obtain ⟨rfl, rfl, rfl⟩ := hcs
      exact ⟨zs, .inr ⟨_, rfl, hl, hm, by simpa using hz, hcell, hwz⟩⟩
  obtain ⟨a1, rfl, rfl, rfl, w1⟩ := open_int Try.underlying3 (hval 1 3 v1 rfl rfl) h1
  clear hA0 hval0
  refine (walk a0 len0 cap0 z0 a1 W w0 w1).mono fun e W' ⟨he, bel⟩ => ?_
  subst he
  exact ⟨_, rfl, _, _, _, [], _, [], hW', trodAll_mk1 (shut_bool Try.underlying4 _), (trodAll_cons_mk (Below.trod laidOut (by kernel_rfl) (of_decide_eq_true (by kernel_rfl)) k0 bel lt0) (trodAll_cons_mk (shut_int Try.underlying3 w1) trodAll_mk0)), rfl, bel.frame _, fun h => by cases h⟩

theorem over : Rows.eventAnyRow.holds Try.pinned (OpenSpec.ofChange Rows.eventAnySpec) :=
  OpenClaim.holds_of_wide 5 Try.f5 rfl rfl rfl rfl rfl rfl rfl ⟨rfl, rfl, rfl, rfl, rfl⟩ rfl rfl rfl rfl rfl (by kernel_rfl) Try.func5 (by kernel_rfl)
    (of_decide_eq_true (by kernel_rfl)) (by unfold Func.isWrapper; first | (rw [if_pos (by decide +kernel)]; kernel_rfl) | (rw [if_neg (by decide +kernel)]; exact ⟨rfl, rfl⟩))
    (fun os started H enc _ => lifted os started H enc)

end Go.Proofs.Ytfbfelfioikieaa.eventAny
namespace Go.Proofs.Ytfbfelfioikieaa
theorem eventAny_holds : Rows.EventAnySaid := eventAny.over
end Go.Proofs.Ytfbfelfioikieaa
