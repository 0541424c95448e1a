/-
  EventShifts: a list that is shifted there, and back, is the same; it is a list as long as its times may be. For every slice of events and every shift. No condition.
-/
import Derived.Test.YtfbfelfioikieaaELast
import Derived.Test.YtfbfelfioikieaaETame
import Derived.Test.YtfbfelfioikieaaEShift
import Derived.Test.YtfbfelfioikieaaESame
import Derived.Test.YtfbfelfioikieaaEList
import Derived.Test.YtfbfelfioikieaaEFit
import Derived.Test.YtfbfelfioikieaaEOpen
import Derived.ProofKit
import Derived.OpenShut
namespace Go.Proofs.Ytfbfelfioikieaa.eventShifts
open Go.ChangeShapes Go.WideShapes Go.ChangeAt Go.RowKit Go.Lib EM
set_option maxRecDepth 100000

theorem i64_and62 (n : Int) : bits .and .i64 n 4611686018427387903 = n % 4611686018427387904 := by
  have h127 : (BitVec.ofInt 64 4611686018427387903).toNat = 2 ^ 62 - 1 := by decide
  have key : (BitVec.ofInt 64 n &&& BitVec.ofInt 64 4611686018427387903).toNat = (n % ((2 ^ 64 : Nat) : Int)).toNat % 2 ^ 62 := by
    rw [BitVec.toNat_and, BitVec.toNat_ofInt, h127, Nat.and_two_pow_sub_one_eq_mod]
  show IntKind.i64.wrap ((BitVec.ofInt 64 n &&& BitVec.ofInt 64 4611686018427387903).toNat : Nat) = n % 4611686018427387904
  rw [key, IntKind.wrap_i64]
  omega
theorem low62 (n : Int) : ∃ f : Nat, f < 4611686018427387904 ∧ bits .and .i64 n 4611686018427387903 = (f : Int) := ⟨(n % 4611686018427387904).toNat, by omega, by rw [i64_and62]; omega⟩

theorem big (A : Option Addr) (n c : Nat) (z : Int) (w : World) (h : 100 < n) :
    Calls Try.prog 7 #[.slice A n c, .int .i64 z] w fun e w' => e = .returned (.bool true) ∧ Below w.heap.size w w' := by
  have g : decide ((100 : Int) < (n : Int)) = true := by simp; omega
  have HF := Lib.hid (efit_ok w)
  go_enter Try.func7, Try.ntmps7
  go_wp2_with fail
  refine HF.out.mono ?_
  rintro e w1 ⟨rfl, b1⟩
  have HB1 := Lib.hid b1
  clear b1
  go_wp2_with fail
  go_ret
  exact ⟨rfl, HB1.out⟩

/-- The last time of a list that is later: 0, if there is none. -/
def lastL (L : List Ev) (f : Int) : Int := if L.length = 0 then 0 else lastT 0 L + f
theorem later_right {e : Ev} {f : Int} (h : right e = true) (hf : 0 ≤ f) : right (later f e) = decide (e.t + f < 4611686018427387904) := by
  unfold right at h ⊢
  unfold later
  simp only [Bool.and_eq_true, decide_eq_true_eq] at h ⊢
  obtain ⟨⟨h1, h2⟩, h3⟩ := h
  rw [h3, decide_eq_true (show 0 ≤ e.t + f by omega)]
  simp
theorem lastT_ge (l : List Ev) : ∀ (g : Int), listB g l = true → g ≤ lastT g l := by
  induction l with
  | nil => intro g _; exact Int.le_refl _
  | cons e l ih =>
    intro g h
    simp only [listB, Bool.and_eq_true, decide_eq_true_eq] at h
    exact Int.le_trans h.1.2 (ih e.t h.2)
theorem later_list (f : Int) (hf : 0 ≤ f) (l : List Ev) : ∀ (g g' : Int), listB g l = true → g' ≤ g + f → (listB g' (l.map (later f)) = true ↔ l = [] ∨ lastT g l + f < 4611686018427387904) := by
  induction l with
  | nil => intro g g' _ _; simp [listB]
  | cons e l ih =>
    intro g g' h hg
    simp only [listB, Bool.and_eq_true, decide_eq_true_eq] at h
    obtain ⟨⟨h0, h1⟩, h2⟩ := h
    have e1 := ih e.t (e.t + f) h2 (Int.le_refl _)
    have h3 := lastT_ge l e.t h2
    have h4 : g' ≤ e.t + f := by omega
    simp only [List.map_cons, listB, later_right h0 hf, Bool.and_eq_true, decide_eq_true_eq]
    rw [show (later f e).t = e.t + f from rfl, e1]
    show _ ↔ (e :: l = [] ∨ lastT e.t l + f < 4611686018427387904)
    constructor
    · rintro ⟨⟨h5, -⟩, h6 | h6⟩
      · subst h6; exact .inr h5
      · exact .inr h6
    · rintro (h5 | h5)
      · cases h5
      · exact ⟨⟨by omega, h4⟩, .inr h5⟩
theorem later_all (f : Int) (hf : 0 ≤ f) (L : List Ev) (h : listB 0 L = true) : listB 0 (L.map (later f)) = decide (lastL L f < 4611686018427387904) := by
  rw [Bool.eq_iff_iff, later_list f hf L 0 0 h (by omega), decide_eq_true_eq]
  unfold lastL
  by_cases h0 : L = []
  · subst h0; simp
  · rw [if_neg (by simpa using h0)]
    exact ⟨fun h => h.resolve_left h0, .inr⟩
theorem later_back (f : Int) (L : List Ev) : (L.map (later f)).map (later (-f)) = L := by
  rw [List.map_map]
  conv => rhs; rw [← List.map_id L]
  refine List.map_congr_left fun e _ => ?_
  simp only [Function.comp, later, id]
  rw [show e.t + f + -f = e.t by omega]

set_option maxHeartbeats 4000000 in
theorem core (A : Option Addr) (c : Nat) (l : List Ev) (z : Int) (f : Nat) (hf : f < 4611686018427387904) (hz : bits .and .i64 z 4611686018427387903 = (f : Int)) (w : World) (hl : l.length ≤ 100) (hr : evE.Row w w.heap.size A l) :
    Calls Try.prog 7 #[.slice A l.length c, .int .i64 z] w fun e w' => e = .returned (.bool true) ∧ Below w.heap.size w w' := by
  have g : decide ((100 : Int) < (l.length : Int)) = false := by simp; omega
  have HF := Lib.hid (efit_ok w)
  have HR := Lib.hid hr
  clear hr
  have HLB := Lib.hid (tameL_list l 0 (Int.le_refl _) (by omega))
  have hlen := tameL_len 0 l
  go_enter Try.func7, Try.ntmps7
  go_wp2_with fail
  refine HF.out.mono ?_
  rintro e wf ⟨rfl, b1⟩
  have HBF := Lib.hid b1
  have hzf := b1.size
  clear b1 HF
  have HTA := Lib.hid (tame_ok wf l A c w.heap.size (HR.out.below HBF.out) hzf (by omega))
  go_wp2_with fail
  refine HTA.out.mono ?_
  rintro e wt ⟨v, rfl, ho, hbt⟩
  obtain ⟨AL, cL, hv, -, -, hAL, hrL⟩ := ho.row
  subst hv
  have hbt' := below_next HBF.out hbt
  have HBT := Lib.hid hbt'
  generalize tameL 0 l = L at *
  have hL : L.length ≤ 100 := by omega
  have HRL := Lib.hid hrL
  have HTB := Lib.hid (fun e (he : e ∈ L) => (show 0 ≤ e.t ∧ e.t < 4611686018427387904 from ⟨(right_parts (listB_right HLB.out e he)).1, (right_parts (listB_right HLB.out e he)).2.1⟩))
  have HS1 := Lib.hid (shift_ok wt L AL cL wt.heap.size (f : Int) hrL hAL (Nat.le_refl _) (by omega) (fun e he => by have := HTB.out e he; omega))
  have hlen2 : (L.map (later (f : Int))).length = L.length := List.length_map _
  clear ho hbt hbt' hrL HTA hlen g
  go_wp2_with fail
  refine HS1.out.mono ?_
  rintro e wm ⟨v, rfl, ho, hbm⟩
  obtain ⟨AM, cM, hv, -, -, hAM, hrM⟩ := ho.row
  rw [hlen2] at hv
  subst hv
  have HBM := Lib.hid hbm
  have HRM := Lib.hid hrM
  have hzm := hbm.size
  clear ho hbm hrM HS1
  go_wp2_with fail
  go_loopw [23] (fun i wr => ∃ k : Nat, k ≤ L.length ∧ i = .int .i64 (k : Int) ∧ Below wm.heap.size wm wr) (fun i _ => L.length - (RowKit.intOf i).toNat)
  case atStart => exact ⟨0, Nat.zero_le _, rfl, Below.refl _ _⟩
  case round =>
    obtain ⟨k, hk, rfl, hb⟩ := hrel
    have HB := Lib.hid hb
    clear hb
    by_cases hlt : k < L.length
    · have g1 : decide ((k : Int) < (L.length : Int)) = true := by simp; omega
      have gn : decide (k < L.length) = true := by simp; omega
      have g1' : decide ((L.length : Int) ≤ (k : Int)) = false := by simp; omega
      have gn' : decide (L.length ≤ k) = false := by simp; omega
      obtain ⟨b, off, rfl, hbl, c0, c1, c2, c3, c4⟩ := ev_at (HRL.out.below (HBM.out.trans (HB.out.mono hzm))) hlt
      obtain ⟨b2, off2, rfl, hbl2, d0, d1, d2, d3, d4⟩ := ev_at (HRM.out.below HB.out) (show k < (L.map (later (f : Int))).length by rw [hlen2]; exact hlt)
      have hlater : (L.map (later (f : Int)))[k]'(by rw [hlen2]; exact hlt) = later (f : Int) L[k] := by simp
      rw [hlater] at d0 d1 d2 d3 d4
      have htb := HTB.out L[k] (List.getElem_mem hlt)
      simp only [later] at d0 d1 d2 d3 d4
      generalize L[k] = y at *
      obtain ⟨t, kk, d, x, zz⟩ := y
      simp only at c0 c1 c2 c3 c4 d0 d1 d2 d3 d4 htb
      clear hlater
      go_upto_region 11 with fail
      obtain ⟨w1, hw1⟩ : ∃ w1, w1 = wr.alloc (.cells #[.int .i64 (t + (f : Int)), .int .i64 kk, .string d, .int .i64 x, .int .i64 zz] 25) := ⟨_, rfl⟩
      rw [← hw1]
      have hb1 : Below wr.heap.size wr w1 := by rw [hw1]; exact (Below.refl _ _).alloc (Nat.le_refl _) _
      have hc1 : EvAt w1 wr.heap.size ⟨t + (f : Int), kk, d, x, zz⟩ := by rw [hw1]; exact EvAt.new wr ⟨t + (f : Int), kk, d, x, zz⟩
      have hbz : b < wr.heap.size := by have := HB.out.size; omega
      have p0 : w1.cell? ⟨b, off + k * 5, none⟩ = some (.int .i64 t) := (hb1.cell (p := ⟨b, off + k * 5, none⟩) hbz).trans c0
      have p1 : w1.cell? ⟨b, off + k * 5 + 1, none⟩ = some (.int .i64 kk) := (hb1.cell (p := ⟨b, off + k * 5 + 1, none⟩) hbz).trans c1
      have p2 : w1.cell? ⟨b, off + k * 5 + 2, none⟩ = some (.string d) := (hb1.cell (p := ⟨b, off + k * 5 + 2, none⟩) hbz).trans c2
      have p3 : w1.cell? ⟨b, off + k * 5 + 3, none⟩ = some (.int .i64 x) := (hb1.cell (p := ⟨b, off + k * 5 + 3, none⟩) hbz).trans c3
      have p4 : w1.cell? ⟨b, off + k * 5 + 4, none⟩ = some (.int .i64 zz) := (hb1.cell (p := ⟨b, off + k * 5 + 4, none⟩) hbz).trans c4
      obtain ⟨e0, e1, e2, e3, e4⟩ := hc1.cells
      simp only at e0 e1 e2 e3 e4
      have hsub : t + (f : Int) - (f : Int) = t := by omega
      have HB1 := Lib.hid (below_next HB.out hb1)
      clear c0 c1 c2 c3 c4 d0 d1 d2 d3 d4 hb1 hc1 hw1
      go_quiet (fail)
      go_wp2_with fail
      go_roundw
      case rel => exact ⟨k + 1, by omega, by simp, below_drewN HB1.out _⟩
      case measure => simp [RowKit.intOf]; omega
    · have g1 : decide ((k : Int) < (L.length : Int)) = false := by simp; omega
      have gn : decide (k < L.length) = false := by simp; omega
      obtain rfl : k = L.length := by omega
      have HBW := Lib.hid (HBM.out.trans (HB.out.mono hzm))
      have hzr := HB.out.size
      have HS2 := Lib.hid (shift_ok wr (L.map (later (f : Int))) AM cM wr.heap.size (-(f : Int)) ((HRM.out.below HB.out).mono hzr) hAM (Nat.le_refl _) (by rw [hlen2]; omega) (fun e he => by
        obtain ⟨e', he', rfl⟩ := List.mem_map.1 he
        have := HTB.out e' he'
        simp only [later]
        omega))
      rw [later_back, hlen2] at HS2
      have HLA := Lib.hid (later_all (f : Int) (by omega) L HLB.out)
      rcases Nat.eq_zero_or_pos L.length with h0 | h0
      · have g2 : decide ((0 : Int) < (L.length : Int)) = false := decide_eq_false (by omega)
        have g2' : decide (0 < L.length) = false := decide_eq_false (by omega)
        rw [show lastL L (f : Int) = 0 by unfold lastL; rw [if_pos h0]] at HLA
        rw [show decide ((0 : Int) < 4611686018427387904) = true from rfl] at HLA
        clear h0
        go_wp2_with fail
        refine HS2.out.mono ?_
        rintro e w2 ⟨v, rfl, ho, hb2⟩
        obtain ⟨A2, c2, hv, -, -, -, hr2⟩ := ho.row
        subst hv
        have hb2' := below_next HB.out hb2
        have HB2 := Lib.hid hb2'
        have HSM := Lib.hid (esame_ok w2 L L A2 AL c2 cL w2.heap.size hr2 ((HRL.out.below (HBM.out.trans (hb2'.mono hzm))).mono (by have := hb2'.size; omega)) (Nat.le_refl _) (by omega) (by omega))
        rw [show decide (L = L) = true from decide_eq_true rfl] at HSM
        clear ho hr2 hb2 hb2' HS2
        go_wp2_with fail
        refine HSM.out.mono ?_
        rintro e w3 ⟨rfl, hb3⟩
        have hb3' := below_next HB2.out hb3
        have HB3 := Lib.hid hb3'
        have HLL := Lib.hid (list_ok w3 (L.map (later (f : Int))) _ cM w3.heap.size ((HRM.out.below hb3').mono hb3'.size) (Nat.le_refl _) (by rw [hlen2]; omega))
        rw [HLA.out, hlen2] at HLL
        clear hb3 hb3' HSM
        go_wp2_with fail
        refine HLL.out.mono ?_
        rintro e w4 ⟨rfl, hb4⟩
        have HB4 := Lib.hid (HBT.out.trans ((HBM.out.trans ((below_next HB3.out hb4).mono hzm)).mono HBT.out.size))
        clear hb4 HLL
        go_wp2_with fail
        go_ret
        exact ⟨rfl, HB4.out⟩
      · have g2 : decide ((0 : Int) < (L.length : Int)) = true := decide_eq_true (by omega)
        have g2' : decide (0 < L.length) = true := decide_eq_true (by omega)
        obtain ⟨q, hqn⟩ : ∃ q : Nat, q = L.length - 1 := ⟨_, rfl⟩
        have hqi : (L.length : Int) - 1 = (q : Int) := by omega
        have hq : q < L.length := by omega
        have gq : decide ((q : Int) < (L.length : Int)) = true := by simp; omega
        have hlast : lastT 0 L = L[q].t := by
          have := lastT_take L 0 q hq
          rwa [List.take_of_length_le (by omega)] at this
        rw [show lastL L (f : Int) = L[q].t + (f : Int) by unfold lastL; rw [if_neg (by omega), hlast]] at HLA
        obtain ⟨b2, off2, hAM2, hbl2, d0, -⟩ := ev_at (HRM.out.below HB.out) (show q < (L.map (later (f : Int))).length by rw [hlen2]; exact hq)
        subst hAM2
        rw [show (L.map (later (f : Int)))[q]'(by rw [hlen2]; exact hq) = later (f : Int) L[q] by simp] at d0
        simp only [later] at d0
        have htb := HTB.out L[q] (List.getElem_mem hq)
        generalize L[q].t = tq at *
        generalize hdd : decide (tq + (f : Int) < 4611686018427387904) = dd at HLA
        clear h0 hqn hlast
        go_wp2_with fail
        refine HS2.out.mono ?_
        rintro e w2 ⟨v, rfl, ho, hb2⟩
        obtain ⟨A2, c2, hv, -, -, -, hr2⟩ := ho.row
        subst hv
        have hb2' := below_next HB.out hb2
        have HB2 := Lib.hid hb2'
        have HSM := Lib.hid (esame_ok w2 L L A2 AL c2 cL w2.heap.size hr2 ((HRL.out.below (HBM.out.trans (hb2'.mono hzm))).mono (by have := hb2'.size; omega)) (Nat.le_refl _) (by omega) (by omega))
        rw [show decide (L = L) = true from decide_eq_true rfl] at HSM
        clear ho hr2 hb2 hb2' HS2
        go_wp2_with fail
        refine HSM.out.mono ?_
        rintro e w3 ⟨rfl, hb3⟩
        have hb3' := below_next HB2.out hb3
        have HB3 := Lib.hid hb3'
        have HLL := Lib.hid (list_ok w3 (L.map (later (f : Int))) _ cM w3.heap.size ((HRM.out.below hb3').mono hb3'.size) (Nat.le_refl _) (by rw [hlen2]; omega))
        rw [HLA.out, hlen2] at HLL
        clear hb3 hb3' HSM
        go_wp2_with fail
        refine HLL.out.mono ?_
        rintro e w4 ⟨rfl, hb4⟩
        have HB4 := Lib.hid (HBT.out.trans ((HBM.out.trans ((below_next HB3.out hb4).mono hzm)).mono HBT.out.size))
        clear hb4 HLL
        cases dd <;>
        · go_wp2_with fail
          go_ret
          exact ⟨rfl, HB4.out⟩

theorem walk (A : Option Addr) (len cap : Nat) (z : Int) (w : World) (hw : IsEvs w A len cap) (_hz : (Lit.int .i64 z).wf = true) :
    Calls Try.prog 7 #[.slice A len cap, .int .i64 z] w fun e w' => e = .returned (.bool true) ∧ Below w.heap.size w w' := by
  obtain ⟨l, rfl, h2, h3⟩ := hw
  by_cases h : 100 < l.length
  · exact big A l.length cap z w h
  · obtain ⟨f, hf, hz⟩ := low62 z
    exact core A cap l z f hf hz w (by omega) h3

theorem own : ownKnob Try.prog.godebug = none := by kernel_rfl
theorem laidOut : laidOutB Try.prog = true := by kernel_rfl

set_option maxRecDepth 100000 in
theorem lifted (os : Os) (started : os.Started) (H : Type) (enc : TypeId × Value → H) :
    ReturnsInHanded {} Try.checked os 7 .any (Rows.eventShiftsSpec.pre6 enc Try.prog Try.f7 Rows.eventShiftsRow.domain false) (Rows.eventShiftsSpec.post enc Try.prog Try.f7 false true false false) := by
  refine returnsInHanded_of_change (C := Try.checked) own started (by kernel_rfl) Try.func7
    (ChangeSpec.witness6 (enc := enc) (C := Try.checked) false ⟨#[], #[.slice none 0 0, .int .i64 0], []⟩ 8 (by kernel_rfl) (by kernel_rfl) (by kernel_rfl) (by kernel_rfl)) ?_
  intro W base args ds gs before hval0 hW hcnd _
  have hval : ∀ (j : Nat) t v, Try.f7.params[j]? = some t → args[j]? = some v → Value.okWide Try.prog W .any base t v := hval0
  have hW' := hW
  obtain ⟨p, q, hA0, hV, rfl, hfz, hnd⟩ := hW
  have hA : DataW.TrodAll enc Try.prog W 0 (fun _ => true) true Try.f7.params.toList args.toList ds p := hA0
  rw [Try.params7] at hA hval
  obtain ⟨v0, vs0, d0, ds0, p0, q0, hargs, rfl, rfl, h0, r0⟩ := trodAll_cons hA
  obtain ⟨v1, vs1, d1, ds1, p1, q1, rfl, rfl, rfl, h1, r1⟩ := trodAll_cons r0
  obtain ⟨rfl, rfl, rfl⟩ := trodAll_nil r1
  obtain rfl : args = #[v0, v1] := by cases args; simp_all
  obtain ⟨rfl, rfl⟩ := trodVars_none hV
  obtain ⟨a0, len0, cap0, rfl⟩ := okWide_slice Try.underlying22 (hval 0 22 v0 rfl rfl)
  have k0 := h0
  have lt0 : ∀ x ∈ p0, x.block < W.heap.size := by obtain ⟨m, hm⟩ := k0; exact DataW.trod_lt m _ _ _ hm
  have w0 : IsEvs W a0 len0 cap0 := by
    obtain ⟨fuel, hf⟩ := h0
    exact evs_in hf
  obtain ⟨a1, rfl, rfl, rfl, w1⟩ := open_int Try.underlying3 (hval 1 3 v1 rfl rfl) h1
  clear hA0 hval0
  refine (walk a0 len0 cap0 a1 W w0 w1).mono fun e W' ⟨he, bel⟩ => ?_
  subst he
  exact ⟨_, rfl, _, _, _, [], _, [], hW', trodAll_mk1 (shut_bool Try.underlying4 _), (trodAll_cons_mk (Below.trod laidOut (by kernel_rfl) (of_decide_eq_true (by kernel_rfl)) k0 bel lt0) (trodAll_cons_mk (shut_int Try.underlying3 w1) trodAll_mk0)), rfl, bel.frame _, fun h => by cases h⟩

theorem over : Rows.eventShiftsRow.holds Try.pinned (OpenSpec.ofChange Rows.eventShiftsSpec) :=
  OpenClaim.holds_of_wide 7 Try.f7 rfl rfl rfl rfl rfl rfl rfl ⟨rfl, rfl, rfl, rfl, rfl⟩ rfl rfl rfl rfl rfl (by kernel_rfl) Try.func7 (by kernel_rfl)
    (of_decide_eq_true (by kernel_rfl)) (by unfold Func.isWrapper; first | (rw [if_pos (by decide +kernel)]; kernel_rfl) | (rw [if_neg (by decide +kernel)]; exact ⟨rfl, rfl⟩))
    (fun os started H enc _ => lifted os started H enc)

end Go.Proofs.Ytfbfelfioikieaa.eventShifts
namespace Go.Proofs.Ytfbfelfioikieaa
theorem eventShifts_holds : Rows.EventShiftsSaid := eventShifts.over
end Go.Proofs.Ytfbfelfioikieaa
