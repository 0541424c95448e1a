/-
  CellWholes: a line is whole just where each wide rune has its rest, and no other rest is there. For every line of cells; the package's table of wide runes as the program's text lays it.
-/
import Derived.Test.YtalngmegenlfgaaDoorKFit
import Derived.Test.YtalngmegenlfgaaDoorKOpen
import Derived.Test.YtalngmegenlfgaaDoorKCond
import Derived.Test.YtalngmegenlfgaaDoorCards
import Derived.Test.YtalngmegenlfgaaDoorTie
import Derived.OpenShut
import Derived.HandedFrom
import Derived.ChangeSame
import Derived.ChangeVars
import Derived.JoinedOf
import Derived.JoinedAt
namespace Go.Proofs.YtalngmegenlfgaaDoor.cellWholes
open Go.ChangeShapes Go.WideShapes Go.ChangeAt Go.RowKit KM

/-- The law's words at one place, and at all places up to one. -/
def wantI (l : List Cel) (i : Nat) : Bool := okW (prevI l i) (l.getD i ⟨0, zero⟩) l[i + 1]?
def wantU (l : List Cel) (k : Nat) : Bool := (List.range k).all (wantI l)
theorem wantU_succ (l : List Cel) (k : Nat) : wantU l (k + 1) = (wantU l k && wantI l k) := by
  simp [wantU, List.range_succ]
theorem wantP_all (pre r l : List Cel) (hl : l = pre ++ r) : wantP (prevI l pre.length) r = true ↔ ∀ j, j < r.length → wantI l (pre.length + j) = true := by
  induction r generalizing pre with
  | nil => simp [wantP]
  | cons c r ih =>
    have h0 : l.getD pre.length ⟨0, zero⟩ = c := by rw [hl]; simp
    have h1 : l[pre.length + 1]? = r.head? := by rw [hl, List.getElem?_append_right (by omega)]; simp [List.head?_eq_getElem?]
    have h2 : prevI l (pre ++ [c]).length = some c := by
      unfold prevI
      rw [List.length_append, if_neg (by simp), hl]
      simp
    have e0 : wantI l pre.length = okW (prevI l pre.length) c r.head? := by unfold wantI; rw [h0, h1]
    have := ih (pre ++ [c]) (by rw [hl]; simp)
    rw [h2, List.length_append, List.length_singleton] at this
    rw [wantP, Bool.and_eq_true, this, ← e0]
    constructor
    · rintro ⟨a, b⟩ j hj
      cases j with
      | zero => exact a
      | succ j =>
        have := b j (by simpa using hj)
        rw [show pre.length + 1 + j = pre.length + (j + 1) by omega] at this
        exact this
    · intro h
      refine ⟨h 0 (by simp), fun j hj => ?_⟩
      rw [show pre.length + 1 + j = pre.length + (j + 1) by omega]
      exact h (j + 1) (by simpa using hj)
theorem wantU_all (l : List Cel) : wantU l l.length = whole l := by
  have h := wantP_all [] l l rfl
  have e : prevI l ([] : List Cel).length = none := by simp [prevI]
  rw [e, want_eq] at h
  rw [Bool.eq_iff_iff]
  unfold whole wantU
  rw [h]
  simp

set_option maxRecDepth 100000 in
set_option maxHeartbeats 4000000 in
theorem core (A : Option Addr) (c : Nat) (l : List Cel) (w : World) (hr : celE.Row w w.heap.size A l) (hT : Tabs w) :
    Calls Tryd.prog 7 #[.slice A l.length c] w fun e w' => e = .returned (.bool true) ∧ Below w.heap.size w w' := by
  have HT := Lib.hid hT
  have HR := Lib.hid hr
  clear hT hr
  by_cases h3 : 100 < l.length
  · have g : decide ((100 : Int) < (l.length : Int)) = true := by simp; omega
    go_enter Tryd.func7, Tryd.ntmps7
    go_wp2_with fail
    refine (fit_ok _ HT.out).mono ?_
    rintro e w1 ⟨rfl, b1⟩
    have HB1 := Lib.hid b1
    clear b1
    go_wp2_with fail
    go_ret
    exact ⟨rfl, HB1.out⟩
  · have g : decide ((100 : Int) < (l.length : Int)) = false := by simp; omega
    go_enter Tryd.func7, Tryd.ntmps7
    go_wp2_with fail
    refine (fit_ok _ HT.out).mono ?_
    rintro e w0 ⟨rfl, b0⟩
    have HB0 := Lib.hid b0
    clear b0
    go_wp2_with fail
    go_loopw [3, 13] (fun q i wr => ∃ (k : Nat) (d : Bool), k ≤ l.length ∧ q = .bool d ∧ i = .int .i64 (k : Int) ∧ Below w.heap.size w wr ∧ wantU l k = d) (fun _ i _ => l.length - (RowKit.intOf i).toNat)
    case atStart => exact ⟨0, true, Nat.zero_le _, rfl, rfl, HB0.out, rfl⟩
    case round =>
      obtain ⟨k, d, hk, rfl, rfl, hb, hd⟩ := hrel
      have HB := Lib.hid hb
      have HD := Lib.hid hd
      have hz := hb.size
      clear hb hd
      by_cases hlt : k < l.length
      · have g1 : decide ((k : Int) < (l.length : Int)) = true := by simp; omega
        have gn : decide (k < l.length) = true := by simp; omega
        have hrr := HR.out.below HB.out
        obtain ⟨b, off, rfl, hbl, c0, c1, c2, c3, c4, c5⟩ := cel_at hrr hlt
        clear hrr
        have hgd : l.getD k ⟨0, zero⟩ = l[k] := by simp [hlt]
        obtain ⟨y, hy⟩ : ∃ y, y = l[k] := ⟨_, rfl⟩
        have HI0 : Hid (wantI l k = okW (prevI l k) y l[k + 1]?) := Lib.hid (by unfold wantI; rw [hgd, hy])
        rw [← hy] at c0 c1 c2 c3 c4 c5
        clear hy hgd
        obtain ⟨r, ⟨bo, u, t, f, ba⟩⟩ := y
        have HS := Lib.hid (fun v => rstyle_ok v ⟨bo, u, t, f, ba⟩)
        have HRT := Lib.hid (fun v => rright_ok v r)
        have HW := Lib.hid (fun v => rwide_ok v r)
        simp only [styV] at *
        go_upto_region 9 with fail
        obtain ⟨w1, hw1⟩ : ∃ w1, w1 = wr.alloc (.cells #[.int .i32 r, .bool bo, .bool u, .bool t, .int .i64 f, .int .i64 ba] 33) := ⟨_, rfl⟩
        rw [← hw1]
        have hb1 : Below w.heap.size w w1 := by rw [hw1]; exact HB.out.alloc hz _
        have hc1 : CelAt w1 wr.heap.size ⟨r, ⟨bo, u, t, f, ba⟩⟩ := by rw [hw1]; exact heap_alloc_new wr _
        obtain ⟨d0, d1, d2, d3, d4, d5⟩ := hc1.cells
        simp only at d0 d1 d2 d3 d4 d5
        have HB1 := Lib.hid hb1
        have HC1 := Lib.hid hc1
        have HR1 := Lib.hid (HR.out.below hb1)
        clear hw1 hb1 hc1 c0 c1 c2 c3 c4 c5
        by_cases h0 : r = 0
        · have g0 : (r == 0) = true := by simp [h0]
          cases d with
          | false =>
            go_wp2_with fail
            go_quiet (fail)
            go_wp2_with fail
            go_roundw
            case rel => exact ⟨k + 1, false, by omega, rfl, by simp, below_drewN HB1.out _, by rw [wantU_succ, HD.out]; exact by simp⟩
            case measure => simp [RowKit.intOf]; omega
          | true =>
            rcases Nat.eq_zero_or_pos k with hk0 | hk0
            · have gk : decide (0 < k) = false := by simp; omega
              have HI : Hid ((true && wantI l k) = false) := Lib.hid (by rw [HI0.out]; unfold okW prevI; rw [if_pos h0, if_pos hk0]; rfl)
              clear hk0 h0
              go_wp2_with fail
              go_quiet (fail)
              go_wp2_with fail
              go_roundw
              case rel => exact ⟨k + 1, false, by omega, rfl, by simp, below_drewN HB1.out _, by rw [wantU_succ, HD.out]; exact HI.out⟩
              case measure => simp [RowKit.intOf]; omega
            · have gk : decide (0 < k) = true := by simp; omega
              obtain ⟨m, hm⟩ : ∃ m, m = k - 1 := ⟨_, rfl⟩
              have hml : m < l.length := by omega
              obtain ⟨b', off', e', hb', p0, p1, p2, p3, p4, p5⟩ := cel_at HR1.out hml
              injection e' with e'
              injection e' with e1 e2
              subst e1 e2
              have hii : (k : Int) - 1 = (m : Int) := by omega
              have hwr : IntKind.i64.wrap (m : Int) = (m : Int) := by rw [IntKind.wrap_i64]; omega
              obtain ⟨x, hx⟩ : ∃ x, x = l[m] := ⟨_, rfl⟩
              have HI1 : Hid ((true && wantI l k) = (GM.wide x.rune && decide (x.sty = ⟨bo, u, t, f, ba⟩))) := Lib.hid (by rw [HI0.out]; unfold okW prevI; rw [if_pos h0, if_neg (by omega), ← hm, List.getElem?_eq_getElem hml, ← hx]; rfl)
              rw [← hx] at p0 p1 p2 p3 p4 p5
              clear hm hx h0
              obtain ⟨r', ⟨bo', u', t', f', ba'⟩⟩ := x
              have heq := fun w => run_eqS' w ⟨bo', u', t', f', ba'⟩ ⟨bo, u, t, f, ba⟩
              have HWP := Lib.hid (fun v => rwide_ok v r')
              simp only [styV] at *
              generalize decide (Sty.mk bo' u' t' f' ba' = ⟨bo, u, t, f, ba⟩) = q at *
              rcases hwd : GM.wide r' with _ | _
              · rw [hwd] at HWP
                have HI : Hid ((true && wantI l k) = false) := Lib.hid (by rw [HI1.out, hwd]; rfl)
                clear hwd
                go_wp2_with fail
                go_quiet ((go_at_call 27; exact Calls.quiet_of_same (HWP.out _)))
                go_wp2_with fail
                go_roundw
                case rel => exact ⟨k + 1, false, by omega, rfl, by simp, below_drewN HB1.out _, by rw [wantU_succ, HD.out]; exact HI.out⟩
                case measure => simp [RowKit.intOf]; omega
              · rw [hwd] at HWP
                have HI : Hid ((true && wantI l k) = q) := Lib.hid (by rw [HI1.out, hwd]; simp)
                clear hwd
                go_wp2_with fail
                go_quiet ((go_at_call 27; exact Calls.quiet_of_same (HWP.out _)))
                go_wp2_with fail
                go_roundw
                case rel => exact ⟨k + 1, q, by omega, rfl, by simp, below_drewN HB1.out _, by rw [wantU_succ, HD.out]; exact HI.out⟩
                case measure => simp [RowKit.intOf]; omega
        · have g0 : (r == 0) = false := by simp [h0]
          have HI1 : Hid (wantI l k = (sright ⟨bo, u, t, f, ba⟩ && GM.right r && (if GM.wide r = true then l[k + 1]?.any fun b => decide (b.rune = 0) else true))) := Lib.hid (by rw [HI0.out]; unfold okW; rw [if_neg h0])
          clear h0
          have HWR := Lib.hid (GM.wide_right r)
          cases d with
          | false =>
            rcases hwd : GM.wide r with _ | _
            · rw [hwd] at HW
              clear hwd
              go_wp2_with fail
              refine (HW.out _).mono ?_
              rintro e wz ⟨rfl, hwz⟩
              rw [hwz]
              clear hwz wz
              go_wp2_with fail
              go_roundw
              case rel => exact ⟨k + 1, false, by omega, rfl, by simp, HB1.out, by rw [wantU_succ, HD.out]; exact by simp⟩
              case measure => simp [RowKit.intOf]; omega
            · rw [hwd] at HW
              clear hwd
              go_wp2_with fail
              refine (HW.out _).mono ?_
              rintro e wz ⟨rfl, hwz⟩
              rw [hwz]
              clear hwz wz
              go_wp2_with fail
              go_roundw
              case rel => exact ⟨k + 1, false, by omega, rfl, by simp, HB1.out, by rw [wantU_succ, HD.out]; exact by simp⟩
              case measure => simp [RowKit.intOf]; omega
          | true =>
            rcases hs : sright ⟨bo, u, t, f, ba⟩ with _ | _
            · rw [hs] at HS
              have HI : Hid ((true && wantI l k) = false) := Lib.hid (by rw [HI1.out, hs]; rfl)
              clear hs
              rcases hwd : GM.wide r with _ | _
              · rw [hwd] at HW
                clear hwd
                go_wp2_with fail
                refine (HS.out w1).mono ?_
                rintro e w2 ⟨rfl, hbx⟩
                have HB2 := Lib.hid (below_next HB1.out hbx)
                obtain ⟨d0, d1, d2, d3, d4, d5⟩ := (HC1.out.below hbx HC1.out.lt).cells
                simp only at d0 d1 d2 d3 d4 d5
                clear hbx
                go_wp2_with fail
                refine (HW.out _).mono ?_
                rintro e wz ⟨rfl, hwz⟩
                rw [hwz]
                clear hwz wz
                go_wp2_with fail
                go_roundw
                case rel => exact ⟨k + 1, false, by omega, rfl, by simp, HB2.out, by rw [wantU_succ, HD.out]; exact HI.out⟩
                case measure => simp [RowKit.intOf]; omega
              · rw [hwd] at HW
                clear hwd
                go_wp2_with fail
                refine (HS.out w1).mono ?_
                rintro e w2 ⟨rfl, hbx⟩
                have HB2 := Lib.hid (below_next HB1.out hbx)
                obtain ⟨d0, d1, d2, d3, d4, d5⟩ := (HC1.out.below hbx HC1.out.lt).cells
                simp only at d0 d1 d2 d3 d4 d5
                clear hbx
                go_wp2_with fail
                refine (HW.out _).mono ?_
                rintro e wz ⟨rfl, hwz⟩
                rw [hwz]
                clear hwz wz
                go_wp2_with fail
                go_roundw
                case rel => exact ⟨k + 1, false, by omega, rfl, by simp, HB2.out, by rw [wantU_succ, HD.out]; exact HI.out⟩
                case measure => simp [RowKit.intOf]; omega
            · rw [hs] at HS
              rcases hwd : GM.wide r with _ | _
              · rw [hwd] at HW
                have HI : Hid ((true && wantI l k) = GM.right r) := Lib.hid (by rw [HI1.out, hs, hwd]; simp)
                clear hwd hs
                generalize GM.right r = q at *
                go_wp2_with fail
                refine (HS.out w1).mono ?_
                rintro e w2 ⟨rfl, hbx⟩
                have HB2 := Lib.hid (below_next HB1.out hbx)
                obtain ⟨d0, d1, d2, d3, d4, d5⟩ := (HC1.out.below hbx HC1.out.lt).cells
                simp only at d0 d1 d2 d3 d4 d5
                clear hbx
                go_wp2_with fail
                refine (HRT.out _).mono ?_
                rintro e wz ⟨rfl, hwz⟩
                rw [hwz]
                clear hwz wz
                go_wp2_with fail
                refine (HW.out _).mono ?_
                rintro e wz ⟨rfl, hwz⟩
                rw [hwz]
                clear hwz wz
                go_wp2_with fail
                go_roundw
                case rel => exact ⟨k + 1, q, by omega, rfl, by simp, HB2.out, by rw [wantU_succ, HD.out]; exact HI.out⟩
                case measure => simp [RowKit.intOf]; omega
              · rw [hwd] at HW
                have hrt := HWR.out hwd
                rw [hrt] at HRT
                by_cases h1 : k + 1 < l.length
                · obtain ⟨m, hm⟩ : ∃ m, m = k + 1 := ⟨_, rfl⟩
                  have hml : m < l.length := by omega
                  obtain ⟨b', off', e', hb', p0, p1, p2, p3, p4, p5⟩ := cel_at HR.out hml
                  injection e' with e'
                  injection e' with e1 e2
                  subst e1 e2
                  have hii : (k : Int) + 1 = (m : Int) := by omega
                  have hwr : IntKind.i64.wrap (m : Int) = (m : Int) := by rw [IntKind.wrap_i64]; omega
                  have gm : decide ((m : Int) < (l.length : Int)) = true := by simp; omega
                  have gm' : decide (m < l.length) = true := by simp; omega
                  have HI : Hid ((true && wantI l k) = (l[m].rune == 0)) := Lib.hid (by rw [HI1.out, hs, hwd, hrt, ← hm, List.getElem?_eq_getElem hml, Bool.eq_iff_iff]; simp)
                  have HM := Lib.hid hm
                  have HP0 := Lib.hid p0
                  have HBL := Lib.hid hb'
                  clear hm hwd hrt hs p0 p1 p2 p3 p4 p5
                  generalize l[m].rune = r' at *
                  have HEQ : Hid ((true && wantI l k) = (r' == 0)) := HI
                  go_wp2_with fail
                  refine (HS.out w1).mono ?_
                  rintro e w2 ⟨rfl, hbx⟩
                  have HB2 := Lib.hid (below_next HB1.out hbx)
                  obtain ⟨d0, d1, d2, d3, d4, d5⟩ := (HC1.out.below hbx HC1.out.lt).cells
                  have p0 : w2.cell? ⟨b, off + m * 6, none⟩ = some (.int .i32 r') := ((below_next HB1.out hbx).cell (p := ⟨b, off + m * 6, none⟩) HBL.out).trans HP0.out
                  simp only at d0 d1 d2 d3 d4 d5
                  clear hbx
                  go_wp2_with fail
                  refine (HRT.out _).mono ?_
                  rintro e wz ⟨rfl, hwz⟩
                  rw [hwz]
                  clear hwz wz
                  go_wp2_with fail
                  refine (HW.out _).mono ?_
                  rintro e wz ⟨rfl, hwz⟩
                  rw [hwz]
                  clear hwz wz
                  go_wp2_with fail
                  go_roundw
                  case rel => exact ⟨k + 1, (r' == 0), by omega, rfl, by have := HM.out; simp; omega, HB2.out, by rw [wantU_succ, HD.out]; exact HI.out⟩
                  case measure => have := HM.out; simp [RowKit.intOf]; omega
                · have g2 : decide ((k : Int) + 1 < (l.length : Int)) = false := by simp; omega
                  have g2' : decide (k + 1 < l.length) = false := by simp; omega
                  have HI : Hid ((true && wantI l k) = false) := Lib.hid (by rw [HI1.out, hs, hwd, List.getElem?_eq_none (by omega)]; simp)
                  clear hwd hs hrt
                  go_wp2_with fail
                  refine (HS.out w1).mono ?_
                  rintro e w2 ⟨rfl, hbx⟩
                  have HB2 := Lib.hid (below_next HB1.out hbx)
                  obtain ⟨d0, d1, d2, d3, d4, d5⟩ := (HC1.out.below hbx HC1.out.lt).cells
                  simp only at d0 d1 d2 d3 d4 d5
                  clear hbx
                  go_wp2_with fail
                  refine (HRT.out _).mono ?_
                  rintro e wz ⟨rfl, hwz⟩
                  rw [hwz]
                  clear hwz wz
                  go_wp2_with fail
                  refine (HW.out _).mono ?_
                  rintro e wz ⟨rfl, hwz⟩
                  rw [hwz]
                  clear hwz wz
                  go_wp2_with fail
                  go_roundw
                  case rel => exact ⟨k + 1, false, by omega, rfl, by simp, HB2.out, by rw [wantU_succ, HD.out]; exact HI.out⟩
                  case measure => simp [RowKit.intOf]; omega
      · have g1 : decide ((k : Int) < (l.length : Int)) = false := by simp; omega
        have gn : decide (k < l.length) = false := by simp; omega
        obtain rfl : k = l.length := by omega
        have HQ : Hid (whole l = d) := Lib.hid (by rw [← wantU_all]; exact HD.out)
        have HTR := Lib.hid (HT.out.on HB.out HT.out.room)
        go_wp2_with fail
        refine (whole_ok wr HTR.out l A c w.heap.size (HR.out.below HB.out) hz (by omega)).mono ?_
        rw [HQ.out]
        rintro e w2 ⟨rfl, b2⟩
        have HB2 := Lib.hid (below_next HB.out b2)
        clear b2
        go_wp2_with fail
        go_ret
        exact ⟨by simp, HB2.out⟩
theorem walk (A : Option Addr) (len cap : Nat) (w : World) (hw : IsCels w A len cap) (hT : Tabs w) :
    Calls Tryd.prog 7 #[.slice A len cap] w fun e w' => e = .returned (.bool true) ∧ Below w.heap.size w w' := by
  obtain ⟨l, rfl, _, h2⟩ := hw
  exact core A cap l w h2 hT

theorem own : ownKnob Tryd.prog.godebug = none := by kernel_rfl
theorem laidOut : laidOutB Tryd.prog = true := by kernel_rfl

set_option maxRecDepth 100000 in
theorem lifted (os : Os) (started : os.Started) (H : Type) (enc : TypeId × Value → H) :
    ReturnsInHanded {} Tryd.checked os 7 .any (fun w args => (Rows.cellWholesSpec.pre enc Tryd.prog Tryd.f7 Rows.cellWholesRow.domain false w args ∧ laidMetH Tryd.prog Rows.cellWholesRow.laid w) ∧ sizedMet enc Tryd.prog Tryd.f7 (OpenSpec.ofChange Rows.cellWholesSpec) false w args)
      (Rows.cellWholesSpec.post enc Tryd.prog Tryd.f7 false true false false) := by
  refine returnsInHanded_of_change_and (C := Tryd.checked) (X := fun w _ => laidMetH Tryd.prog Rows.cellWholesRow.laid w) (fun _ _ _ hh h => h.of_heap hh) own started (by kernel_rfl) Tryd.func7
    (ChangeSpec.witness_shaped (enc := enc) (C := Tryd.checked) (os := os) (X := fun w _ => laidMetH Tryd.prog Rows.cellWholesRow.laid w) false (start8 os) #[.slice none 0 0] 8 rfl (World.shaped_of_RefB (by kernel_rfl) (by kernel_rfl)) (by kernel_rfl) (by kernel_rfl) (by kernel_rfl) (met_cellWholes os _)) ?_
  intro W base args ds gs before hval0 hW _ _ hL _
  have hval : ∀ (j : Nat) t v, Tryd.f7.params[j]? = some t → args[j]? = some v → Value.okWide Tryd.prog W .any base t v := hval0
  have hW' := hW
  obtain ⟨p, q, hA0, hV, rfl, hfz, hnd⟩ := hW
  have hA : DataW.TrodAll enc Tryd.prog W 0 (fun _ => true) true Tryd.f7.params.toList args.toList ds p := hA0
  rw [Tryd.params7] at hA hval
  obtain ⟨v0, vs0, d0, ds0, p0, q0, hargs, rfl, rfl, h0, r0⟩ := trodAll_cons hA
  obtain ⟨rfl, rfl, rfl⟩ := trodAll_nil r0
  obtain rfl : args = #[v0] := by cases args; simp_all
  obtain ⟨rfl, rfl⟩ := trodVars_none hV
  obtain ⟨a0, len0, cap0, rfl⟩ := okWide_slice Tryd.underlying44 (hval 0 44 v0 rfl rfl)
  have k0 := h0
  have lt0 : ∀ x ∈ p0, x.block < W.heap.size := by obtain ⟨m, hm⟩ := k0; exact DataW.trod_lt m _ _ _ hm
  have w0 : IsCels W a0 len0 cap0 := by
    obtain ⟨fuel, hf⟩ := h0
    exact cels_in hf
  clear hA0 hval0
  refine (walk a0 len0 cap0 W w0 (tabs_cellWholes hL)).mono fun e W' ⟨he, bel⟩ => ?_
  subst he
  exact ⟨_, rfl, _, _, _, [], _, [], hW', trodAll_mk1 (shut_bool Tryd.underlying4 _), (trodAll_cons_mk (Below.trod laidOut (by kernel_rfl) (of_decide_eq_true (by kernel_rfl)) k0 bel lt0) trodAll_mk0), rfl, bel.frame _, fun h => by cases h⟩

theorem over : Rows.cellWholesRow.holds Tryd.pinned (OpenSpec.ofChange Rows.cellWholesSpec) :=
  OpenClaim.holds_of_wide 7 Tryd.f7 rfl rfl rfl rfl rfl rfl rfl ⟨rfl, rfl, rfl, rfl, rfl⟩ rfl rfl rfl rfl rfl (by kernel_rfl) Tryd.func7 (by kernel_rfl)
    (of_decide_eq_true (by kernel_rfl)) (by unfold Func.isWrapper; first | (rw [if_pos (by decide +kernel)]; kernel_rfl) | (rw [if_neg (by decide +kernel)]; exact ⟨rfl, rfl⟩))
    (fun os started H enc _ => lifted os started H enc)

theorem cardOver : Rows.CellWholesCardSaid :=
  Claim7.holds_tied_plain_at .later [] [.data] true (true, "4f396e1d14b963e642369da60c586bea4ab32b1863cbf0082d54e6225053dd77") false
    over (fun _ h => by cases h) (by kernel_rfl) (fun _ h => by cases h) cellWholes_row_tie rfl ⟨rfl, rfl⟩ (by kernel_rfl) rfl
    (fun f fn hf hfn => by
      obtain rfl : f = 7 := Option.some.inj ((show Tryd.prog.funcNamed Rows.cellWholesRow.func = some 7 by kernel_rfl).symm.trans hf) |>.symm
      obtain rfl : fn = Tryd.f7 := (Option.some.inj (Tryd.func7.symm.trans hfn)).symm
      exact ⟨by kernel_rfl, fun j t ht => by
        rw [Tryd.params7] at ht
        have hm : t ∈ [44] := by simpa using Array.mem_of_getElem? ht
        have hall : ([44].all fun u => !Tryd.prog.wantsStandIn u) = true := by kernel_rfl
        exact (show Tryd.prog.wantsStandIn t = false by simpa using List.all_eq_true.1 hall t hm)⟩)
    (by kernel_rfl)

end Go.Proofs.YtalngmegenlfgaaDoor.cellWholes
namespace Go.Proofs.YtalngmegenlfgaaDoor
theorem cellWholes_holds : Rows.CellWholesCardSaid := cellWholes.cardOver
end Go.Proofs.YtalngmegenlfgaaDoor
