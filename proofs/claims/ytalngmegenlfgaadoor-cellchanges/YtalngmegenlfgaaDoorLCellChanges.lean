/-
  CellChanges: parameters change a style one behind the other, however they are parted. For every style, every list of parameters and every place; the package's table of wide runes as the program's text lays it.
-/
import Derived.Test.YtalngmegenlfgaaDoorKFit
import Derived.Test.YtalngmegenlfgaaDoorKOpen
import Derived.Test.YtalngmegenlfgaaDoorKCond
import Derived.Test.YtalngmegenlfgaaDoorVApp
import Derived.Test.YtalngmegenlfgaaDoorCards
import Derived.Test.YtalngmegenlfgaaDoorTie
import Derived.Deep.RegionHeld3
import Derived.OpenShut
import Derived.HandedFrom
import Derived.ChangeSame
import Derived.ChangeVars
import Derived.JoinedOf
import Derived.JoinedAt
namespace Go.Proofs.YtalngmegenlfgaaDoor.cellChanges
open Go.ChangeShapes Go.WideShapes Go.ChangeAt Go.RowKit Go.Lib KM

theorem int_cells (l : List Int) : intE.cells l = l.map fun z => Value.int .i64 z := by
  induction l with
  | nil => rfl
  | cons a l ih => rw [intE.cells_cons, ih]; rfl
theorem int_cut {w : World} {B : Nat} {A : Option Addr} {l : List Int} (h : intE.Row w B A l) {j cap : Nat} (hj : j ≤ l.length) (hc : l.length ≤ cap) : intE.Row w B (cutA A cap j) (l.drop j) := fun hl => by
  unfold cutA
  rw [List.length_drop] at hl
  obtain ⟨b, off, rfl, hb, hcell⟩ := h (by omega)
  rw [if_neg (by omega)]
  refine ⟨b, off + j, by simp only [Option.map_some, Option.some.injEq]; unfold Addr.add; split <;> simp_all, hb, fun i hi => ?_⟩
  rw [List.length_drop] at hi
  have hi' : i < l.length - j := by simpa [intE] using hi
  rw [Nat.add_assoc, hcell (j + i) (by show j + i < l.length * 1; omega), int_cells, int_cells]
  simp [List.getElem?_drop]
theorem ints_in {w : World} {A : Option Addr} {len cap : Nat} {zs : List Int} (h : IsRow .i64 w A len cap zs) :
    ∃ l : List Int, len = l.length ∧ len ≤ cap ∧ (A = none → cap = 0) ∧ intE.Row w w.heap.size A l ∧ ∀ z ∈ l, -9223372036854775808 ≤ z ∧ z ≤ 9223372036854775807 := by
  rcases h with ⟨rfl, rfl, rfl, rfl⟩ | ⟨x, rfl, h1, h2, h3, h4, h5⟩
  · exact ⟨[], rfl, Nat.le_refl _, fun _ => rfl, El.Row.nil, by simp⟩
  · refine ⟨zs.take len, by simp; omega, h1, by simp, fun hp => ?_, fun z hz => ?_⟩
    · simp only [List.length_take] at hp
      obtain ⟨b, off, rfl, h⟩ := ints_at h4 (by omega)
      have hlt := World.block_lt_of_cell? w ⟨b, off + 0, none⟩ (h 0 (by omega))
      refine ⟨b, off, rfl, hlt, fun j hj => ?_⟩
      have hj' : j < min len zs.length := by simpa [intE] using hj
      rw [h j (by omega), int_cells]
      simp [show j < len by omega, show j < zs.length by omega]
    · have := bounds_i64 (h5 z (List.mem_of_mem_take hz))
      omega
theorem run_icut (A : Option Addr) (n c k : Nat) (w : World) (h : k ≤ n) : (Instr.slice 28 (.slice A n c) (some (.int .i64 (k : Int))) none none).run Tryd.prog w = .ok (.slice (cutA A c k) (n - k) (c - k)) w := by
  have hs : (sizeOf (Tryd.prog.elem 28)).run Tryd.prog w = .ok 1 w := by kernel_rfl
  rw [run_slice_l (P := Tryd.prog) (w := w) (t := 28) (a := A) (len := n) (cap := c) (by kernel_rfl) .i64 (k : Int) (by omega) (by omega), hs]
  simp [Result.andThen, sliced, cutA]
theorem run_ihead (A : Option Addr) (n c k : Nat) (w : World) (h : k ≤ c) : (Instr.slice 28 (.slice A n c) none (some (.int .i64 (k : Int))) none).run Tryd.prog w = .ok (.slice A k c) w := by
  have hs : (sizeOf (Tryd.prog.elem 28)).run Tryd.prog w = .ok 1 w := by kernel_rfl
  rw [run_slice_h (P := Tryd.prog) (w := w) (t := 28) (a := A) (len := n) (cap := c) (by kernel_rfl) .i64 (k : Int) (by omega) (by omega), hs]
  have e : A.map (fun a => a.add 0) = A := by cases A <;> simp [Addr.add]
  simp [Result.andThen, sliced, e]

set_option maxRecDepth 100000 in
set_option maxHeartbeats 1000000 in
theorem core0 (s : Sty) (A : Option Addr) (c : Nat) (l : List Int) (z : Int) (w : World) (h : l.length = 0 ∨ 100 < l.length) (hT : Tabs w) :
    Calls Tryd.prog 4 #[styV s, .slice A l.length c, .int .i64 z] w fun e w' => e = .returned (.bool true) ∧ Below w.heap.size w w' := by
  obtain ⟨b1, u1, t1, f1, k1⟩ := s
  simp only [styV] at *
  obtain ⟨w1, hw1⟩ : ∃ w1, w1 = w.alloc (.cells #[.bool b1, .bool u1, .bool t1, .int .i64 f1, .int .i64 k1] 23) := ⟨_, rfl⟩
  have hb1 : Below w.heap.size w w1 := by rw [hw1]; exact (Below.refl _ _).alloc (Nat.le_refl _) _
  have W1 := Lib.hid hw1
  have HB1 := Lib.hid hb1
  have HT1 := Lib.hid (hT.on hb1 hT.room)
  clear hw1 hb1 hT
  generalize l.length = n at *
  rcases h with h | h
  · have g0 : ((n : Int) == 0) = true := by simp; omega
    go_enter Tryd.func4, Tryd.ntmps4
    go_wp2_with fail
    rw [← W1.out]
    refine (fit_ok w1 HT1.out).mono ?_
    rintro e w2 ⟨rfl, b2⟩
    have HB2 := Lib.hid (below_next HB1.out b2)
    clear b2
    go_wp2_with fail
    go_ret
    exact ⟨rfl, HB2.out⟩
  · have g0 : ((n : Int) == 0) = false := by simp; omega
    have g1 : decide ((100 : Int) < (n : Int)) = true := by simp; omega
    go_enter Tryd.func4, Tryd.ntmps4
    go_wp2_with fail
    rw [← W1.out]
    refine (fit_ok w1 HT1.out).mono ?_
    rintro e w2 ⟨rfl, b2⟩
    have HB2 := Lib.hid (below_next HB1.out b2)
    clear b2
    go_wp2_with fail
    go_ret
    exact ⟨rfl, HB2.out⟩

set_option maxRecDepth 100000 in
set_option maxHeartbeats 2000000 in
theorem core1 (s : Sty) (A : Option Addr) (c : Nat) (l : List Int) (z : Int) (w : World) (hlc : l.length ≤ c) (hr : intE.Row w w.heap.size A l) (hi : ∀ z ∈ l, -9223372036854775808 ≤ z ∧ z ≤ 9223372036854775807) (h0 : 0 < l.length) (h1 : l.length ≤ 100) (hT : Tabs w) :
    Calls Tryd.prog 4 #[styV s, .slice A l.length c, .int .i64 z] w fun e w' => e = .returned (.bool true) ∧ Below w.heap.size w w' := by
  have g0 : ((l.length : Int) == 0) = false := by rw [beq_eq_false_iff_ne]; omega
  have g1 : decide ((100 : Int) < (l.length : Int)) = false := by simp; omega
  obtain ⟨q, hq, hqe⟩ := low16 z
  obtain ⟨t, ht, hte⟩ : ∃ t : Nat, t < l.length ∧ (q : Int) % (l.length : Int) = (t : Int) := ⟨q % l.length, Nat.mod_lt q h0, by push_cast; rfl⟩
  obtain ⟨m, hm⟩ : ∃ m, m = t + 1 := ⟨_, rfl⟩
  have hme : 1 + (t : Int) = (m : Int) := by omega
  have hm0 : 0 < m := by omega
  have hml : m ≤ l.length := by omega
  have HM := Lib.hid hme
  clear hme hm ht
  have HI := Lib.hid hi
  have HRW := Lib.hid hr
  have HTA := Lib.hid (show chgA s (l.take (m)) = chgL s (l.take (m)) by unfold chgA; rw [if_neg (by intro e; have := congrArg List.length e; rw [List.length_take, List.length_nil] at this; omega)])
  have HALL := Lib.hid (show chgA s l = chgL s l by unfold chgA; rw [if_neg (by intro e; rw [e] at h0; simp at h0)])
  have HDR := Lib.hid (fun (hd : m < l.length) => show chgA (chgL s (l.take (m))) (l.drop (m)) = chgL s l by
    unfold chgA; rw [if_neg (by intro e; have := congrArg List.length e; rw [List.length_drop, List.length_nil] at this; omega), ← chgL_append, List.take_append_drop])
  have HTK := Lib.hid (fun (hd : ¬ m < l.length) => show l.take (m) = l from List.take_of_length_le (by omega))
  have HCA := Lib.hid (fun (v : World) (hv : intE.Row v w.heap.size A l) (hB : w.heap.size ≤ v.heap.size) => change_ok v s l A c w.heap.size hv hB (by omega) hi)
  rw [HALL.out] at HCA
  have HCT := Lib.hid (fun (v : World) (hv : intE.Row v w.heap.size A l) (hB : w.heap.size ≤ v.heap.size) => by
    have h := change_ok v s (l.take (m)) A c w.heap.size (hv.take _) hB (by rw [List.length_take]; omega) (fun z hz => hi z (List.mem_of_mem_take hz))
    rw [HTA.out, show (l.take (m)).length = m by rw [List.length_take]; omega] at h
    exact h)
  have HCD := Lib.hid (fun (p : Sty) (v : World) (hv : intE.Row v w.heap.size A l) (hB : w.heap.size ≤ v.heap.size) => by
    have h := change_ok v p (l.drop (m)) (cutA A c (m)) (c - (m)) w.heap.size (int_cut hv (by omega) hlc) hB (by rw [List.length_drop]; omega) (fun z hz => hi z (List.mem_of_mem_drop hz))
    rw [List.length_drop] at h
    exact h)
  have hhead := fun v => run_ihead A l.length c (m) v (by omega)
  have hcut := fun v => run_icut A l.length c (m) v (by omega)
  have hloop : ∀ k, k ≤ l.length → chgL s (l.take k) = chgL s (l.take k) := fun _ _ => rfl
  clear hr hi hloop
  obtain ⟨b1, u1, t1, f1, k1⟩ := s
  obtain ⟨w1, hw1⟩ : ∃ w1, w1 = w.alloc (.cells #[.bool b1, .bool u1, .bool t1, .int .i64 f1, .int .i64 k1] 23) := ⟨_, rfl⟩
  have hb1 : Below w.heap.size w w1 := by rw [hw1]; exact (Below.refl _ _).alloc (Nat.le_refl _) _
  have hA1 : StyAt w1 w.heap.size ⟨b1, u1, t1, f1, k1⟩ := by rw [hw1]; exact heap_alloc_new w _
  have W1 := Lib.hid hw1
  have HB1 := Lib.hid hb1
  have HA1 := Lib.hid hA1
  have HT1 := Lib.hid (hT.on hb1 hT.room)
  clear hw1 hb1 hT hA1
  simp only [styV] at *
  go_enter Tryd.func4, Tryd.ntmps4
  go_wp2_with fail
  rw [← W1.out]
  refine (fit_ok w1 HT1.out).mono ?_
  rintro e w2 ⟨rfl, b2⟩
  have HB2 := Lib.hid (below_next HB1.out b2)
  have HA2 := Lib.hid (HA1.out.below b2 HA1.out.lt)
  have z2 := (below_next HB1.out b2).size
  clear b2
  obtain ⟨x0, x1, x2, x3, x4, _, _, _, _, _⟩ := HA2.out.cells
  simp only at x0 x1 x2 x3 x4
  go_upto_region 6 with fail
  obtain ⟨w3, hw3⟩ : ∃ w3, w3 = w2.alloc (.cells #[.bool b1, .bool u1, .bool t1, .int .i64 f1, .int .i64 k1] 23) := ⟨_, rfl⟩
  rw [← hw3]
  have b3 : Below w2.heap.size w2 w3 := by rw [hw3]; exact (Below.refl _ _).alloc (Nat.le_refl _) _
  have HO3 := Lib.hid (show StyAt w3 w2.heap.size ⟨b1, u1, t1, f1, k1⟩ by rw [hw3]; exact heap_alloc_new w2 _)
  have HB3 := Lib.hid b3
  clear b3 hw3 x0 x1 x2 x3 x4
  go_wp2
  go_loopw [24] (fun i wr => ∃ k : Nat, k ≤ l.length ∧ i = .int .i64 (k : Int) ∧ Below w2.heap.size w2 wr ∧ StyAt wr w2.heap.size (chgL ⟨b1, u1, t1, f1, k1⟩ (l.take k))) (fun i _ => l.length - (RowKit.intOf i).toNat)
  case atStart => exact ⟨0, Nat.zero_le _, rfl, HB3.out, HO3.out⟩
  case round =>
    obtain ⟨k, hk, rfl, hb, hs1⟩ := hrel
    have HB := Lib.hid hb
    have HS1 := Lib.hid hs1
    have zr := hb.size
    clear hb hs1
    by_cases hlt : k < l.length
    · have gk : decide ((k : Int) < (l.length : Int)) = true := by simp; omega
      have gn : decide (k < l.length) = true := by simp; omega
      obtain ⟨b, off, rfl, hbl, hc⟩ := HRW.out.at_ hlt
      have hck : wr.cell? ⟨b, off + k, none⟩ = some (.int .i64 l[k]) := ((HB2.out.trans (HB.out.mono z2)).cell (p := ⟨b, off + k, none⟩) (by show b < _; omega)).trans (by have := hc 0 (by decide); simpa [intE] using this)
      have hz' := HI.out l[k] (List.getElem_mem hlt)
      have HTKS := Lib.hid (show chgL ⟨b1, u1, t1, f1, k1⟩ (l.take (k + 1)) = chg (chgL ⟨b1, u1, t1, f1, k1⟩ (l.take k)) l[k] by rw [List.take_succ_eq_append_getElem hlt, chgL_append, chgL_one])
      have HCH := Lib.hid (fun (v : World) => change_ok (v.alloc (.cells #[.int .i64 l[k]] 3)) (chgL ⟨b1, u1, t1, f1, k1⟩ (l.take k)) [l[k]] (some ⟨v.heap.size, 0, none⟩) 1 (v.heap.size + 1) (El.row_lit (E := intE) v [l[k]] _ _ rfl) (by simp) (by simp) (by simpa using hz'))
      obtain ⟨d0, d1, d2, d3, d4, e0, e1, e2, e3, e4⟩ := HS1.out.cells
      rw [show ∀ p, chgA p [l[k]] = chg p l[k] from fun _ => rfl] at HCH
      clear hc hz'
      generalize l[k] = p at *
      generalize chgL ⟨b1, u1, t1, f1, k1⟩ (l.take k) = y at *
      obtain ⟨b0, u0, t0, fo, ba⟩ := y
      simp only [styV, List.length_singleton] at d0 d1 d2 d3 d4 HCH
      generalize hy : chg ⟨b0, u0, t0, fo, ba⟩ p = y at *
      obtain ⟨b2, u2, t2, fo2, ba2⟩ := y
      clear hy
      go_wp2_with fail
      refine (HCH.out _).mono ?_
      rintro e wx ⟨rfl, hbx⟩
      have hbx' : Below wr.heap.size wr wx := below_next ((Below.refl _ _).alloc (Nat.le_refl _) _) hbx
      have HSX := Lib.hid (HS1.out.below hbx' HS1.out.lt)
      obtain ⟨d0, d1, d2, d3, d4, e0, e1, e2, e3, e4⟩ := HSX.out.cells
      have HBX := Lib.hid (below_next HB.out hbx')
      clear hbx hbx'
      go_wp2_with fail
      go_roundw
      case rel => exact ⟨k + 1, by omega, by simp, setS_below HBX.out (Nat.le_refl _) b2 u2 t2 fo2 ba2, by rw [HTKS.out]; exact setS_at HSX.out b2 u2 t2 fo2 ba2⟩
      case measure => simp [RowKit.intOf]; omega
    · have gk : decide ((k : Int) < (l.length : Int)) = false := by simp; omega
      have gn : decide (k < l.length) = false := by simp; omega
      obtain rfl : k = l.length := by omega
      have hs := HS1.out
      rw [List.take_length] at hs
      have HOR := Lib.hid hs
      have HAR := Lib.hid (HA2.out.below HB.out HA2.out.lt)
      have HBR := Lib.hid (HB2.out.trans (HB.out.mono z2))
      have hbr := HBR.out.size
      clear hs
      generalize hONE : chgL ⟨b1, u1, t1, f1, k1⟩ l = one at *
      generalize hTWO : chgL ⟨b1, u1, t1, f1, k1⟩ (l.take (m)) = two at *
      have HONE := Lib.hid hONE
      have HTWO := Lib.hid hTWO
      have HEQ := Lib.hid (fun v => run_eqS' v one one)
      clear hONE hTWO
      obtain ⟨b3, u3, t3, f3, k3⟩ := one
      obtain ⟨b4, u4, t4, f4, k4⟩ := two
      have eqO := fun v => run_eqS' v ⟨b3, u3, t3, f3, k3⟩ ⟨b3, u3, t3, f3, k3⟩
      simp only [styV, decide_true] at *
      go_upto_region 12 with fail
      rw [hte, HM.out, show wrap64 (m : Int) = (m : Int) by unfold wrap64; omega]
      clear hte
      go_cut [10] from 39 to 62 (fun v wc => ∃ g, v = .pointer (some ⟨g, 0, none⟩) ∧ wr.heap.size ≤ g ∧ StyAt wc g ⟨b4, u4, t4, f4, k4⟩ ∧ Below wr.heap.size wr wc)
      case first =>
        refine wp_region_noPanic ?_
        refine wp_region_held_drew (S := fun v => Below wr.heap.size wr v) (by kernel_rfl) (Below.refl _ _).drew (fun hHeld => ?_)
        have HSd := Lib.hid hHeld
        have hzd : wr.drew.heap.size = wr.heap.size := rfl
        have HRD := Lib.hid (HRW.out.below (HBR.out.trans (HSd.out.mono hbr)))
        refine wpAnyH_take (i := 0) (v := ?vr0) rfl (by kernel_rfl) (by kernel_rfl) (by kernel_rfl) (fun _ _ _ h => h) (Or.inl ⟨by rfl, ?hr0⟩) (by assumption) ?_
        case hr0 => intro w hSw; (try dsimp only at hSw); obtain ⟨x0, x1, x2, x3, x4, _, _, _, _, _⟩ := (HAR.out.below hSw HAR.out.lt).cells; simp only at x0 x1 x2 x3 x4; go_simp; try with_reducible rfl
        simp only [List.getElem_toArray, List.getElem_cons_zero, Act.put, List.setIfInBounds_toArray, List.set_cons_zero, List.set_cons_succ]
        refine wpAnyH_take (i := 1) (v := ?vr1) rfl (by kernel_rfl) (by kernel_rfl) (by kernel_rfl) (fun _ _ _ h => h) (Or.inl ⟨by rfl, ?hr1⟩) (by assumption) ?_
        case hr1 => intro w hSw; (try dsimp only at hSw); obtain ⟨x0, x1, x2, x3, x4, _, _, _, _, _⟩ := (HAR.out.below hSw HAR.out.lt).cells; simp only at x0 x1 x2 x3 x4; go_simp; try with_reducible rfl
        simp only [List.getElem_toArray, List.getElem_cons_succ, List.getElem_cons_zero, Act.put, List.setIfInBounds_toArray, List.set_cons_zero, List.set_cons_succ]
        refine wpAnyH_take (i := 2) (v := ?vr2) rfl (by kernel_rfl) (by kernel_rfl) (by kernel_rfl) (fun _ _ _ h => h) (Or.inl ⟨by rfl, ?hr2⟩) (by assumption) ?_
        case hr2 => intro w hSw; (try dsimp only at hSw); obtain ⟨x0, x1, x2, x3, x4, _, _, _, _, _⟩ := (HAR.out.below hSw HAR.out.lt).cells; simp only at x0 x1 x2 x3 x4; go_simp; try with_reducible rfl
        simp only [List.getElem_toArray, List.getElem_cons_succ, List.getElem_cons_zero, Act.put, List.setIfInBounds_toArray, List.set_cons_zero, List.set_cons_succ]
        refine wpAnyH_take (i := 3) (v := ?vr3) rfl (by kernel_rfl) (by kernel_rfl) (by kernel_rfl) (fun _ _ _ h => h) (Or.inl ⟨by rfl, ?hr3⟩) (by assumption) ?_
        case hr3 => intro w hSw; (try dsimp only at hSw); obtain ⟨x0, x1, x2, x3, x4, _, _, _, _, _⟩ := (HAR.out.below hSw HAR.out.lt).cells; simp only at x0 x1 x2 x3 x4; go_simp; try with_reducible rfl
        simp only [List.getElem_toArray, List.getElem_cons_succ, List.getElem_cons_zero, Act.put, List.setIfInBounds_toArray, List.set_cons_zero, List.set_cons_succ]
        refine wpAnyH_ready (rs := [4, 5]) (by kernel_rfl) (by simp) ?_
        refine AllReadyH.cons rfl (fun K hK => ?_) (AllReadyH.cons rfl (fun K hK => ?_) AllReadyH.nil)
        · go_simp
          refine (HCT.out wr.drew HRD.out hbr).mono ?_
          rintro e v1 ⟨rfl, hbx⟩
          have HS1 := Lib.hid (below_next HSd.out hbx)
          have hz1 := HS1.out.size
          clear hbx
          dsimp only
          refine hK.out _ _ ?_ (fun hHeld => ?_)
          · exact HS1.out
          clear hK K
          refine wpAnyH_ready (rs := [5]) (by kernel_rfl) (by simp) ?_
          refine AllReadyH.cons rfl (fun K hK => ?_) AllReadyH.nil
          go_simp
          try dsimp only
          have hy := heap_alloc_new v1 (.cells #[.bool false, .bool false, .bool false, .int .i64 0, .int .i64 0] 23)
          have HS2 := Lib.hid (HS1.out.alloc (HS1.out.size) (.cells #[.bool false, .bool false, .bool false, .int .i64 0, .int .i64 0] 23))
          refine hK.out _ _ ?_ (fun hHeld => ?_)
          · exact HS2.out
          clear hK K
          generalize v1.alloc (.cells #[.bool false, .bool false, .bool false, .int .i64 0, .int .i64 0] 23) = v2 at *
          have HY := Lib.hid (show StyAt v2 v1.heap.size KM.zero from hy)
          obtain ⟨_, _, _, _, _, n0, n1, n2, n3, n4⟩ := HY.out.cells
          clear hy
          refine wpAnyH_ready (rs := [6]) (by kernel_rfl) (by simp) ?_
          refine AllReadyH.cons rfl (fun K hK => ?_) AllReadyH.nil
          go_simp
          refine hK.out _ _ ?_ (fun hHeld => ?_)
          · exact setS_below HS2.out hz1 b4 u4 t4 f4 k4
          clear hK K
          refine wpAnyH_done (by kernel_rfl) ?_ _
          refine NoPanic.normal ?_
          go_wp2_with fail
          go_meet
          case rel => exact ⟨v1.heap.size, rfl, hz1, setS_at HY.out b4 u4 t4 f4 k4, setS_below HS2.out hz1 b4 u4 t4 f4 k4⟩
        · go_simp
          try dsimp only
          obtain ⟨v1, hv1⟩ : ∃ v1, v1 = (wr.alloc (.cells #[.bool false, .bool false, .bool false, .int .i64 0, .int .i64 0] 23)).drew := ⟨_, rfl⟩
          rw [← hv1]
          have HS1 := Lib.hid (show Below wr.heap.size wr v1 by rw [hv1]; exact ((Below.refl _ _).alloc (Nat.le_refl _) _).drew)
          have hy : StyAt v1 wr.heap.size KM.zero := by rw [hv1]; exact heap_alloc_new wr _
          clear hv1
          refine hK.out _ _ ?_ (fun hHeld => ?_)
          · exact HS1.out
          clear hK K
          have HY := Lib.hid hy
          have hz1 := HS1.out.size
          clear hy
          refine wpAnyH_ready (rs := [4]) (by kernel_rfl) (by simp) ?_
          refine AllReadyH.cons rfl (fun K hK => ?_) AllReadyH.nil
          go_simp
          refine (HCT.out v1 (HRW.out.below (HBR.out.trans (HS1.out.mono hbr))) (Nat.le_trans hbr hz1)).mono ?_
          rintro e v2 ⟨rfl, hbx⟩
          have HS2 := Lib.hid (below_next HS1.out hbx)
          have HY2 := Lib.hid (HY.out.below hbx HY.out.lt)
          obtain ⟨_, _, _, _, _, n0, n1, n2, n3, n4⟩ := HY2.out.cells
          clear hbx
          dsimp only
          refine hK.out _ _ ?_ (fun hHeld => ?_)
          · exact HS2.out
          clear hK K
          refine wpAnyH_ready (rs := [6]) (by kernel_rfl) (by simp) ?_
          refine AllReadyH.cons rfl (fun K hK => ?_) AllReadyH.nil
          go_simp
          refine hK.out _ _ ?_ (fun hHeld => ?_)
          · exact setS_below HS2.out (Nat.le_refl _) b4 u4 t4 f4 k4
          clear hK K
          refine wpAnyH_done (by kernel_rfl) ?_ _
          refine NoPanic.normal ?_
          go_wp2_with fail
          go_meet
          case rel => exact ⟨wr.heap.size, rfl, Nat.le_refl _, setS_at HY2.out b4 u4 t4 f4 k4, setS_below HS2.out (Nat.le_refl _) b4 u4 t4 f4 k4⟩
      case rest =>
      obtain ⟨g, rfl, hgl, hT6, b6⟩ := hcut
      rename World => w6
      have HT6 := Lib.hid hT6
      have HA6 := Lib.hid (HAR.out.below b6 HAR.out.lt)
      have HO6 := Lib.hid (HOR.out.below b6 HOR.out.lt)
      have HX6 := Lib.hid (HBR.out.trans (b6.mono hbr))
      have z6 := HX6.out.size
      have hol := HOR.out.lt
      clear b6 hT6
      by_cases hd : m < l.length
      · have gd : decide ((m : Int) < (l.length : Int)) = true := by simp; omega
        have gdn : decide (m < l.length) = true := by simp; omega
        have hE := HDR.out hd
        obtain ⟨wd2, hwd⟩ : ∃ wd, wd = w6.drew := ⟨_, rfl⟩
        have hbd : Below w6.heap.size w6 wd2 := by rw [hwd]; exact (Below.refl _ _).drew
        have HWD2 := Lib.hid hwd
        have HBD2 := Lib.hid hbd
        have HTD2 := Lib.hid (HT6.out.below hbd HT6.out.lt)
        obtain ⟨x0, x1, x2, x3, x4, _, _, _, _, _⟩ := HTD2.out.cells
        simp only at x0 x1 x2 x3 x4
        have HE := Lib.hid hE
        clear hbd hwd hE
        go_upto_region 14 with fail
        refine still_at 4 wd2 HWD2.out (by kernel_rfl) (by kernel_rfl) ?_
        simp only [List.take_succ_cons, List.take_zero, List.drop_succ_cons, List.drop_zero]
        repeat still_step
        refine wpStill_nil ?_
        go_wp2_with fail
        refine (HCD.out ⟨b4, u4, t4, f4, k4⟩ wd2 (HRW.out.below (HX6.out.trans (HBD2.out.mono z6))) (Nat.le_trans z6 HBD2.out.size)).mono ?_
        rw [HE.out]
        rintro e w7 ⟨rfl, b7⟩
        have b7' := below_next HBD2.out b7
        have HT7 := Lib.hid (HT6.out.below b7' HT6.out.lt)
        have HA7 := Lib.hid (HA6.out.below b7' HA6.out.lt)
        have HO7 := Lib.hid (HO6.out.below b7' HO6.out.lt)
        have HX7 := Lib.hid (HX6.out.trans (b7'.mono z6))
        obtain ⟨y0, y1, y2, y3, y4, n0, n1, n2, n3, n4⟩ := HT7.out.cells
        simp only at y0 y1 y2 y3 y4 ⊢
        clear b7 b7' x0 x1 x2 x3 x4
        go_upto_region 15 with fail
        obtain ⟨wz, hwz⟩ : ∃ wz, wz = setS w7 g b3 u3 t3 f3 k3 := ⟨_, rfl⟩
        have hwz' := hwz
        unfold setS at hwz'
        rw [← hwz']
        have HAZ := Lib.hid (show StyAt wz w.heap.size ⟨b1, u1, t1, f1, k1⟩ by rw [hwz]; exact (setS_other (by omega) b3 u3 t3 f3 k3).trans HA7.out)
        have HOZ := Lib.hid (show StyAt wz w2.heap.size ⟨b3, u3, t3, f3, k3⟩ by rw [hwz]; exact (setS_other (by omega) b3 u3 t3 f3 k3).trans HO7.out)
        have HTZ := Lib.hid (show StyAt wz g ⟨b3, u3, t3, f3, k3⟩ by rw [hwz]; exact setS_at HT7.out b3 u3 t3 f3 k3)
        have HBZ := Lib.hid (show Below w.heap.size w wz by rw [hwz]; exact setS_below HX7.out (by omega) b3 u3 t3 f3 k3)
        clear hwz hwz' n0 n1 n2 n3 n4 y0 y1 y2 y3 y4
        go_wp2_with fail
        refine wp_region_noPanic ?_
        refine wp_region_held_drew (S := fun v => Below wz.heap.size wz v) (by kernel_rfl) (Below.refl _ _).drew (fun hHeld => ?_)
        have HSd := Lib.hid hHeld
        refine wpAnyH_take (i := 0) (v := ?vpa0) rfl (by kernel_rfl) (by kernel_rfl) (by kernel_rfl) (fun _ _ _ h => h) (Or.inl ⟨by rfl, ?hpa0⟩) (by assumption) ?_
        case hpa0 => intro w hSw; (try dsimp only at hSw); obtain ⟨x0, x1, x2, x3, x4, _, _, _, _, _⟩ := (HAZ.out.below hSw HAZ.out.lt).cells; obtain ⟨y0, y1, y2, y3, y4, _, _, _, _, _⟩ := (HOZ.out.below hSw HOZ.out.lt).cells; simp only at x0 x1 x2 x3 x4 y0 y1 y2 y3 y4; go_simp; try with_reducible rfl
        simp only [List.getElem_toArray, List.getElem_cons_zero, Act.put, List.setIfInBounds_toArray, List.set_cons_zero, List.set_cons_succ]
        refine wpAnyH_take (i := 1) (v := ?vpa1) rfl (by kernel_rfl) (by kernel_rfl) (by kernel_rfl) (fun _ _ _ h => h) (Or.inl ⟨by rfl, ?hpa1⟩) (by assumption) ?_
        case hpa1 => intro w hSw; (try dsimp only at hSw); obtain ⟨x0, x1, x2, x3, x4, _, _, _, _, _⟩ := (HAZ.out.below hSw HAZ.out.lt).cells; obtain ⟨y0, y1, y2, y3, y4, _, _, _, _, _⟩ := (HOZ.out.below hSw HOZ.out.lt).cells; simp only at x0 x1 x2 x3 x4 y0 y1 y2 y3 y4; go_simp; try with_reducible rfl
        simp only [List.getElem_toArray, List.getElem_cons_succ, List.getElem_cons_zero, Act.put, List.setIfInBounds_toArray, List.set_cons_zero, List.set_cons_succ]
        refine wpAnyH_take (i := 3) (v := ?vpa3) rfl (by kernel_rfl) (by kernel_rfl) (by kernel_rfl) (fun _ _ _ h => h) (Or.inl ⟨by rfl, ?hpa3⟩) (by assumption) ?_
        case hpa3 => intro w hSw; (try dsimp only at hSw); obtain ⟨x0, x1, x2, x3, x4, _, _, _, _, _⟩ := (HAZ.out.below hSw HAZ.out.lt).cells; obtain ⟨y0, y1, y2, y3, y4, _, _, _, _, _⟩ := (HOZ.out.below hSw HOZ.out.lt).cells; simp only at x0 x1 x2 x3 x4 y0 y1 y2 y3 y4; go_simp; try with_reducible rfl
        simp only [List.getElem_toArray, List.getElem_cons_succ, List.getElem_cons_zero, Act.put, List.setIfInBounds_toArray, List.set_cons_zero, List.set_cons_succ]
        refine wpAnyH_ready (rs := [2]) (by kernel_rfl) (by simp) ?_
        refine AllReadyH.cons rfl (fun K hK => ?_) AllReadyH.nil
        go_simp
        refine (HCA.out _ (HRW.out.below (HBZ.out.trans (HSd.out.mono HBZ.out.size))) (Nat.le_trans HBZ.out.size HSd.out.size)).mono ?_
        rintro e v1 ⟨rfl, hbx⟩
        have HSv1 := Lib.hid (below_next HSd.out hbx)
        clear hbx
        dsimp only [styV]
        refine hK.out _ _ ?_ (fun hHeld => ?_)
        · exact HSv1.out
        clear hK K
        refine wpAnyH_take (i := 4) (v := ?vpb4) rfl (by kernel_rfl) (by kernel_rfl) (by kernel_rfl) (fun _ _ _ h => h) (Or.inl ⟨by rfl, ?hpb4⟩) (by assumption) ?_
        case hpb4 => intro w hSw; (try dsimp only at hSw); obtain ⟨x0, x1, x2, x3, x4, _, _, _, _, _⟩ := (HTZ.out.below hSw HTZ.out.lt).cells; obtain ⟨y0, y1, y2, y3, y4, _, _, _, _, _⟩ := (HOZ.out.below hSw HOZ.out.lt).cells; simp only at x0 x1 x2 x3 x4 y0 y1 y2 y3 y4; go_simp; try with_reducible rfl
        simp only [List.getElem_toArray, List.getElem_cons_succ, List.getElem_cons_zero, Act.put, List.setIfInBounds_toArray, List.set_cons_zero, List.set_cons_succ]
        refine wpAnyH_take (i := 5) (v := ?vpb5) rfl (by kernel_rfl) (by kernel_rfl) (by kernel_rfl) (fun _ _ _ h => h) (Or.inl ⟨by rfl, ?hpb5⟩) (by assumption) ?_
        case hpb5 => intro w hSw; (try dsimp only at hSw); obtain ⟨x0, x1, x2, x3, x4, _, _, _, _, _⟩ := (HTZ.out.below hSw HTZ.out.lt).cells; obtain ⟨y0, y1, y2, y3, y4, _, _, _, _, _⟩ := (HOZ.out.below hSw HOZ.out.lt).cells; simp only at x0 x1 x2 x3 x4 y0 y1 y2 y3 y4; go_simp; try with_reducible rfl
        simp only [List.getElem_toArray, List.getElem_cons_succ, List.getElem_cons_zero, Act.put, List.setIfInBounds_toArray, List.set_cons_zero, List.set_cons_succ]
        refine wpAnyH_take (i := 6) (v := ?vpb6) rfl (by kernel_rfl) (by kernel_rfl) (by kernel_rfl) (fun _ _ _ h => h) (Or.inl ⟨by rfl, ?hpb6⟩) (by assumption) ?_
        case hpb6 => intro w hSw; (try dsimp only at hSw); obtain ⟨x0, x1, x2, x3, x4, _, _, _, _, _⟩ := (HTZ.out.below hSw HTZ.out.lt).cells; obtain ⟨y0, y1, y2, y3, y4, _, _, _, _, _⟩ := (HOZ.out.below hSw HOZ.out.lt).cells; simp only at x0 x1 x2 x3 x4 y0 y1 y2 y3 y4; go_simp; try with_reducible rfl
        simp only [List.getElem_toArray, List.getElem_cons_succ, List.getElem_cons_zero, Act.put, List.setIfInBounds_toArray, List.set_cons_zero, List.set_cons_succ]
        refine wpAnyH_take (i := 7) (v := ?vpb7) rfl (by kernel_rfl) (by kernel_rfl) (by kernel_rfl) (fun _ _ _ h => h) (Or.inl ⟨by rfl, ?hpb7⟩) (by assumption) ?_
        case hpb7 => intro w hSw; (try dsimp only at hSw); obtain ⟨x0, x1, x2, x3, x4, _, _, _, _, _⟩ := (HTZ.out.below hSw HTZ.out.lt).cells; obtain ⟨y0, y1, y2, y3, y4, _, _, _, _, _⟩ := (HOZ.out.below hSw HOZ.out.lt).cells; simp only at x0 x1 x2 x3 x4 y0 y1 y2 y3 y4; go_simp; try with_reducible rfl
        simp only [List.getElem_toArray, List.getElem_cons_succ, List.getElem_cons_zero, Act.put, List.setIfInBounds_toArray, List.set_cons_zero, List.set_cons_succ]
        refine wpAnyH_take (i := 8) (v := ?vpb8) rfl (by kernel_rfl) (by kernel_rfl) (by kernel_rfl) (fun _ _ _ h => h) (Or.inl ⟨by rfl, ?hpb8⟩) (by assumption) ?_
        case hpb8 => intro w hSw; (try dsimp only at hSw); obtain ⟨x0, x1, x2, x3, x4, _, _, _, _, _⟩ := (HTZ.out.below hSw HTZ.out.lt).cells; obtain ⟨y0, y1, y2, y3, y4, _, _, _, _, _⟩ := (HOZ.out.below hSw HOZ.out.lt).cells; simp only at x0 x1 x2 x3 x4 y0 y1 y2 y3 y4; go_simp; try with_reducible rfl
        simp only [List.getElem_toArray, List.getElem_cons_succ, List.getElem_cons_zero, Act.put, List.setIfInBounds_toArray, List.set_cons_zero, List.set_cons_succ]
        refine wpAnyH_take (i := 9) (v := ?vpb9) rfl (by kernel_rfl) (by kernel_rfl) (by kernel_rfl) (fun _ _ _ h => h) (Or.inl ⟨by rfl, ?hpb9⟩) (by assumption) ?_
        case hpb9 => intro w hSw; (try dsimp only at hSw); obtain ⟨x0, x1, x2, x3, x4, _, _, _, _, _⟩ := (HTZ.out.below hSw HTZ.out.lt).cells; obtain ⟨y0, y1, y2, y3, y4, _, _, _, _, _⟩ := (HOZ.out.below hSw HOZ.out.lt).cells; simp only at x0 x1 x2 x3 x4 y0 y1 y2 y3 y4; go_simp; try with_reducible rfl
        simp only [List.getElem_toArray, List.getElem_cons_succ, List.getElem_cons_zero, Act.put, List.setIfInBounds_toArray, List.set_cons_zero, List.set_cons_succ]
        refine wpAnyH_take (i := 10) (v := ?vpb10) rfl (by kernel_rfl) (by kernel_rfl) (by kernel_rfl) (fun _ _ _ h => h) (Or.inl ⟨by rfl, ?hpb10⟩) (by assumption) ?_
        case hpb10 => intro w hSw; (try dsimp only at hSw); obtain ⟨x0, x1, x2, x3, x4, _, _, _, _, _⟩ := (HTZ.out.below hSw HTZ.out.lt).cells; obtain ⟨y0, y1, y2, y3, y4, _, _, _, _, _⟩ := (HOZ.out.below hSw HOZ.out.lt).cells; simp only at x0 x1 x2 x3 x4 y0 y1 y2 y3 y4; go_simp; try with_reducible rfl
        simp only [List.getElem_toArray, List.getElem_cons_succ, List.getElem_cons_zero, Act.put, List.setIfInBounds_toArray, List.set_cons_zero, List.set_cons_succ]
        refine wpAnyH_done (by kernel_rfl) ?_ _
        refine NoPanic.normal ?_
        go_wp2_with fail
        go_ret
        exact ⟨rfl, HBZ.out.trans (HSv1.out.mono HBZ.out.size)⟩
      · have gd : decide ((m : Int) < (l.length : Int)) = false := by simp; omega
        have gdn : decide (m < l.length) = false := by simp; omega
        have hE := HTWO.out
        rw [HTK.out hd, HONE.out] at hE
        simp only [Sty.mk.injEq] at hE
        obtain ⟨rfl, rfl, rfl, rfl, rfl⟩ := hE
        go_upto_region 15 with fail
        have HAZ := HA6
        have HOZ := HO6
        have HTZ := HT6
        have HBZ := HX6
        generalize w6 = wz at *
        go_wp2_with fail
        refine wp_region_noPanic ?_
        refine wp_region_held_drew (S := fun v => Below wz.heap.size wz v) (by kernel_rfl) (Below.refl _ _).drew (fun hHeld => ?_)
        have HSd := Lib.hid hHeld
        refine wpAnyH_take (i := 0) (v := ?vqa0) rfl (by kernel_rfl) (by kernel_rfl) (by kernel_rfl) (fun _ _ _ h => h) (Or.inl ⟨by rfl, ?hqa0⟩) (by assumption) ?_
        case hqa0 => intro w hSw; (try dsimp only at hSw); obtain ⟨x0, x1, x2, x3, x4, _, _, _, _, _⟩ := (HAZ.out.below hSw HAZ.out.lt).cells; obtain ⟨y0, y1, y2, y3, y4, _, _, _, _, _⟩ := (HOZ.out.below hSw HOZ.out.lt).cells; simp only at x0 x1 x2 x3 x4 y0 y1 y2 y3 y4; go_simp; try with_reducible rfl
        simp only [List.getElem_toArray, List.getElem_cons_zero, Act.put, List.setIfInBounds_toArray, List.set_cons_zero, List.set_cons_succ]
        refine wpAnyH_take (i := 1) (v := ?vqa1) rfl (by kernel_rfl) (by kernel_rfl) (by kernel_rfl) (fun _ _ _ h => h) (Or.inl ⟨by rfl, ?hqa1⟩) (by assumption) ?_
        case hqa1 => intro w hSw; (try dsimp only at hSw); obtain ⟨x0, x1, x2, x3, x4, _, _, _, _, _⟩ := (HAZ.out.below hSw HAZ.out.lt).cells; obtain ⟨y0, y1, y2, y3, y4, _, _, _, _, _⟩ := (HOZ.out.below hSw HOZ.out.lt).cells; simp only at x0 x1 x2 x3 x4 y0 y1 y2 y3 y4; go_simp; try with_reducible rfl
        simp only [List.getElem_toArray, List.getElem_cons_succ, List.getElem_cons_zero, Act.put, List.setIfInBounds_toArray, List.set_cons_zero, List.set_cons_succ]
        refine wpAnyH_take (i := 3) (v := ?vqa3) rfl (by kernel_rfl) (by kernel_rfl) (by kernel_rfl) (fun _ _ _ h => h) (Or.inl ⟨by rfl, ?hqa3⟩) (by assumption) ?_
        case hqa3 => intro w hSw; (try dsimp only at hSw); obtain ⟨x0, x1, x2, x3, x4, _, _, _, _, _⟩ := (HAZ.out.below hSw HAZ.out.lt).cells; obtain ⟨y0, y1, y2, y3, y4, _, _, _, _, _⟩ := (HOZ.out.below hSw HOZ.out.lt).cells; simp only at x0 x1 x2 x3 x4 y0 y1 y2 y3 y4; go_simp; try with_reducible rfl
        simp only [List.getElem_toArray, List.getElem_cons_succ, List.getElem_cons_zero, Act.put, List.setIfInBounds_toArray, List.set_cons_zero, List.set_cons_succ]
        refine wpAnyH_ready (rs := [2]) (by kernel_rfl) (by simp) ?_
        refine AllReadyH.cons rfl (fun K hK => ?_) AllReadyH.nil
        go_simp
        refine (HCA.out _ (HRW.out.below (HBZ.out.trans (HSd.out.mono HBZ.out.size))) (Nat.le_trans HBZ.out.size HSd.out.size)).mono ?_
        rintro e v1 ⟨rfl, hbx⟩
        have HSv1 := Lib.hid (below_next HSd.out hbx)
        clear hbx
        dsimp only [styV]
        refine hK.out _ _ ?_ (fun hHeld => ?_)
        · exact HSv1.out
        clear hK K
        refine wpAnyH_take (i := 4) (v := ?vqb4) rfl (by kernel_rfl) (by kernel_rfl) (by kernel_rfl) (fun _ _ _ h => h) (Or.inl ⟨by rfl, ?hqb4⟩) (by assumption) ?_
        case hqb4 => intro w hSw; (try dsimp only at hSw); obtain ⟨x0, x1, x2, x3, x4, _, _, _, _, _⟩ := (HTZ.out.below hSw HTZ.out.lt).cells; obtain ⟨y0, y1, y2, y3, y4, _, _, _, _, _⟩ := (HOZ.out.below hSw HOZ.out.lt).cells; simp only at x0 x1 x2 x3 x4 y0 y1 y2 y3 y4; go_simp; try with_reducible rfl
        simp only [List.getElem_toArray, List.getElem_cons_succ, List.getElem_cons_zero, Act.put, List.setIfInBounds_toArray, List.set_cons_zero, List.set_cons_succ]
        refine wpAnyH_take (i := 5) (v := ?vqb5) rfl (by kernel_rfl) (by kernel_rfl) (by kernel_rfl) (fun _ _ _ h => h) (Or.inl ⟨by rfl, ?hqb5⟩) (by assumption) ?_
        case hqb5 => intro w hSw; (try dsimp only at hSw); obtain ⟨x0, x1, x2, x3, x4, _, _, _, _, _⟩ := (HTZ.out.below hSw HTZ.out.lt).cells; obtain ⟨y0, y1, y2, y3, y4, _, _, _, _, _⟩ := (HOZ.out.below hSw HOZ.out.lt).cells; simp only at x0 x1 x2 x3 x4 y0 y1 y2 y3 y4; go_simp; try with_reducible rfl
        simp only [List.getElem_toArray, List.getElem_cons_succ, List.getElem_cons_zero, Act.put, List.setIfInBounds_toArray, List.set_cons_zero, List.set_cons_succ]
        refine wpAnyH_take (i := 6) (v := ?vqb6) rfl (by kernel_rfl) (by kernel_rfl) (by kernel_rfl) (fun _ _ _ h => h) (Or.inl ⟨by rfl, ?hqb6⟩) (by assumption) ?_
        case hqb6 => intro w hSw; (try dsimp only at hSw); obtain ⟨x0, x1, x2, x3, x4, _, _, _, _, _⟩ := (HTZ.out.below hSw HTZ.out.lt).cells; obtain ⟨y0, y1, y2, y3, y4, _, _, _, _, _⟩ := (HOZ.out.below hSw HOZ.out.lt).cells; simp only at x0 x1 x2 x3 x4 y0 y1 y2 y3 y4; go_simp; try with_reducible rfl
        simp only [List.getElem_toArray, List.getElem_cons_succ, List.getElem_cons_zero, Act.put, List.setIfInBounds_toArray, List.set_cons_zero, List.set_cons_succ]
        refine wpAnyH_take (i := 7) (v := ?vqb7) rfl (by kernel_rfl) (by kernel_rfl) (by kernel_rfl) (fun _ _ _ h => h) (Or.inl ⟨by rfl, ?hqb7⟩) (by assumption) ?_
        case hqb7 => intro w hSw; (try dsimp only at hSw); obtain ⟨x0, x1, x2, x3, x4, _, _, _, _, _⟩ := (HTZ.out.below hSw HTZ.out.lt).cells; obtain ⟨y0, y1, y2, y3, y4, _, _, _, _, _⟩ := (HOZ.out.below hSw HOZ.out.lt).cells; simp only at x0 x1 x2 x3 x4 y0 y1 y2 y3 y4; go_simp; try with_reducible rfl
        simp only [List.getElem_toArray, List.getElem_cons_succ, List.getElem_cons_zero, Act.put, List.setIfInBounds_toArray, List.set_cons_zero, List.set_cons_succ]
        refine wpAnyH_take (i := 8) (v := ?vqb8) rfl (by kernel_rfl) (by kernel_rfl) (by kernel_rfl) (fun _ _ _ h => h) (Or.inl ⟨by rfl, ?hqb8⟩) (by assumption) ?_
        case hqb8 => intro w hSw; (try dsimp only at hSw); obtain ⟨x0, x1, x2, x3, x4, _, _, _, _, _⟩ := (HTZ.out.below hSw HTZ.out.lt).cells; obtain ⟨y0, y1, y2, y3, y4, _, _, _, _, _⟩ := (HOZ.out.below hSw HOZ.out.lt).cells; simp only at x0 x1 x2 x3 x4 y0 y1 y2 y3 y4; go_simp; try with_reducible rfl
        simp only [List.getElem_toArray, List.getElem_cons_succ, List.getElem_cons_zero, Act.put, List.setIfInBounds_toArray, List.set_cons_zero, List.set_cons_succ]
        refine wpAnyH_take (i := 9) (v := ?vqb9) rfl (by kernel_rfl) (by kernel_rfl) (by kernel_rfl) (fun _ _ _ h => h) (Or.inl ⟨by rfl, ?hqb9⟩) (by assumption) ?_
        case hqb9 => intro w hSw; (try dsimp only at hSw); obtain ⟨x0, x1, x2, x3, x4, _, _, _, _, _⟩ := (HTZ.out.below hSw HTZ.out.lt).cells; obtain ⟨y0, y1, y2, y3, y4, _, _, _, _, _⟩ := (HOZ.out.below hSw HOZ.out.lt).cells; simp only at x0 x1 x2 x3 x4 y0 y1 y2 y3 y4; go_simp; try with_reducible rfl
        simp only [List.getElem_toArray, List.getElem_cons_succ, List.getElem_cons_zero, Act.put, List.setIfInBounds_toArray, List.set_cons_zero, List.set_cons_succ]
        refine wpAnyH_take (i := 10) (v := ?vqb10) rfl (by kernel_rfl) (by kernel_rfl) (by kernel_rfl) (fun _ _ _ h => h) (Or.inl ⟨by rfl, ?hqb10⟩) (by assumption) ?_
        case hqb10 => intro w hSw; (try dsimp only at hSw); obtain ⟨x0, x1, x2, x3, x4, _, _, _, _, _⟩ := (HTZ.out.below hSw HTZ.out.lt).cells; obtain ⟨y0, y1, y2, y3, y4, _, _, _, _, _⟩ := (HOZ.out.below hSw HOZ.out.lt).cells; simp only at x0 x1 x2 x3 x4 y0 y1 y2 y3 y4; go_simp; try with_reducible rfl
        simp only [List.getElem_toArray, List.getElem_cons_succ, List.getElem_cons_zero, Act.put, List.setIfInBounds_toArray, List.set_cons_zero, List.set_cons_succ]
        refine wpAnyH_done (by kernel_rfl) ?_ _
        refine NoPanic.normal ?_
        go_wp2_with fail
        go_ret
        exact ⟨rfl, HBZ.out.trans (HSv1.out.mono HBZ.out.size)⟩

theorem core (s : Sty) (A : Option Addr) (c : Nat) (l : List Int) (z : Int) (w : World) (hlc : l.length ≤ c) (hr : intE.Row w w.heap.size A l) (hi : ∀ z ∈ l, -9223372036854775808 ≤ z ∧ z ≤ 9223372036854775807) (hT : Tabs w) :
    Calls Tryd.prog 4 #[styV s, .slice A l.length c, .int .i64 z] w fun e w' => e = .returned (.bool true) ∧ Below w.heap.size w w' := by
  by_cases h0 : l.length = 0 ∨ 100 < l.length
  · exact core0 s A c l z w h0 hT
  · exact core1 s A c l z w hlc hr hi (by omega) (by omega) hT
theorem walk (s : Sty) (A : Option Addr) (len cap : Nat) (zs : List Int) (z : Int) (w : World) (hw : IsRow .i64 w A len cap zs) (_hz : (Lit.int .i64 z).wf = true) (hT : Tabs w) :
    Calls Tryd.prog 4 #[styV s, .slice A len cap, .int .i64 z] w fun e w' => e = .returned (.bool true) ∧ Below w.heap.size w w' := by
  obtain ⟨l, rfl, h1, _, h2, h3⟩ := ints_in hw
  exact core s A cap l z w h1 h2 h3 hT

theorem own : ownKnob Tryd.prog.godebug = none := by kernel_rfl
theorem laidOut : laidOutB Tryd.prog = true := by kernel_rfl

set_option maxRecDepth 100000 in
theorem lifted (os : Os) (started : os.Started) (H : Type) (enc : TypeId × Value → H) :
    ReturnsInHanded {} Tryd.checked os 4 .any (fun w args => (Rows.cellChangesSpec.pre enc Tryd.prog Tryd.f4 Rows.cellChangesRow.domain false w args ∧ laidMetH Tryd.prog Rows.cellChangesRow.laid w) ∧ sizedMet enc Tryd.prog Tryd.f4 (OpenSpec.ofChange Rows.cellChangesSpec) false w args)
      (Rows.cellChangesSpec.post enc Tryd.prog Tryd.f4 false true false false) := by
  refine returnsInHanded_of_change_and (C := Tryd.checked) (X := fun w _ => laidMetH Tryd.prog Rows.cellChangesRow.laid w) (fun _ _ _ hh h => h.of_heap hh) own started (by kernel_rfl) Tryd.func4
    (ChangeSpec.witness_shaped (enc := enc) (C := Tryd.checked) (os := os) (X := fun w _ => laidMetH Tryd.prog Rows.cellChangesRow.laid w) false (start8 os) #[.agg #[.bool false, .bool false, .bool false, .int .i64 0, .int .i64 0], .slice none 0 0, .int .i64 0] 8 rfl (World.shaped_of_RefB (by kernel_rfl) (by kernel_rfl)) (by kernel_rfl) (by kernel_rfl) (by kernel_rfl) (met_cellChanges os _)) ?_
  intro W base args ds gs before hval0 hW _ _ hL _
  have hval : ∀ (j : Nat) t v, Tryd.f4.params[j]? = some t → args[j]? = some v → Value.okWide Tryd.prog W .any base t v := hval0
  have hW' := hW
  obtain ⟨p, q, hA0, hV, rfl, hfz, hnd⟩ := hW
  have hA : DataW.TrodAll enc Tryd.prog W 0 (fun _ => true) true Tryd.f4.params.toList args.toList ds p := hA0
  rw [Tryd.params4] at hA hval
  obtain ⟨v0, vs0, d0, ds0, p0, q0, hargs, rfl, rfl, h0, r0⟩ := trodAll_cons hA
  obtain ⟨v1, vs1, d1, ds1, p1, q1, rfl, rfl, rfl, h1, r1⟩ := trodAll_cons r0
  obtain ⟨v2, vs2, d2, ds2, p2, q2, rfl, rfl, rfl, h2, r2⟩ := trodAll_cons r1
  obtain ⟨rfl, rfl, rfl⟩ := trodAll_nil r2
  obtain rfl : args = #[v0, v1, v2] := by cases args; simp_all
  obtain ⟨rfl, rfl⟩ := trodVars_none hV
  have k0 := h0
  have lt0 : ∀ x ∈ p0, x.block < W.heap.size := by obtain ⟨m, hm⟩ := k0; exact DataW.trod_lt m _ _ _ hm
  obtain ⟨a0, rfl⟩ := open_style (hval 0 23 v0 rfl rfl) h0
  obtain ⟨a1, len1, cap1, rfl⟩ := okWide_slice Tryd.underlying28 (hval 1 28 v1 rfl rfl)
  have k1 := h1
  have lt1 : ∀ x ∈ p1, x.block < W.heap.size := by obtain ⟨m, hm⟩ := k1; exact DataW.trod_lt m _ _ _ hm
  obtain ⟨z1, w1⟩ : ∃ zs, IsRow .i64 W a1 len1 cap1 zs := by
    obtain ⟨fuel, hf⟩ := h1
    rcases open_ints Tryd.underlying28 Tryd.underlying3 (by kernel_rfl) hf with ⟨hcs, _⟩ | ⟨x, l, c, zs, hcs, _, hl, hm, hz, _, hcell, hwz⟩
    · simp [Value.cells] at hcs
      obtain ⟨rfl, rfl, rfl⟩ := hcs
      exact ⟨[], .inl ⟨rfl, rfl, rfl, rfl⟩⟩
    · simp [Value.cells] at hcs
      obtain ⟨rfl, rfl, rfl⟩ := hcs
      exact ⟨zs, .inr ⟨_, rfl, hl, hm, by simpa using hz, hcell, hwz⟩⟩
  obtain ⟨a2, rfl, rfl, rfl, w2⟩ := open_int Tryd.underlying3 (hval 2 3 v2 rfl rfl) h2
  clear hA0 hval0
  refine (walk a0 a1 len1 cap1 z1 a2 W w1 w2 (tabs_cellChanges hL)).mono fun e W' ⟨he, bel⟩ => ?_
  subst he
  exact ⟨_, rfl, _, _, _, [], _, [], hW', trodAll_mk1 (shut_bool Tryd.underlying4 _), (trodAll_cons_mk (Below.trod laidOut (by kernel_rfl) (of_decide_eq_true (by kernel_rfl)) k0 bel lt0) (trodAll_cons_mk (Below.trod laidOut (by kernel_rfl) (of_decide_eq_true (by kernel_rfl)) k1 bel lt1) (trodAll_cons_mk (shut_int Tryd.underlying3 w2) trodAll_mk0))), rfl, bel.frame _, fun h => by cases h⟩

theorem over : Rows.cellChangesRow.holds Tryd.pinned (OpenSpec.ofChange Rows.cellChangesSpec) :=
  OpenClaim.holds_of_wide 4 Tryd.f4 rfl rfl rfl rfl rfl rfl rfl ⟨rfl, rfl, rfl, rfl, rfl⟩ rfl rfl rfl rfl rfl (by kernel_rfl) Tryd.func4 (by kernel_rfl)
    (of_decide_eq_true (by kernel_rfl)) (by unfold Func.isWrapper; first | (rw [if_pos (by decide +kernel)]; kernel_rfl) | (rw [if_neg (by decide +kernel)]; exact ⟨rfl, rfl⟩))
    (fun os started H enc _ => lifted os started H enc)

theorem cardOver : Rows.CellChangesCardSaid :=
  Claim7.holds_tied_plain_at .later [] [.data] true (true, "4f396e1d14b963e642369da60c586bea4ab32b1863cbf0082d54e6225053dd77") false
    over (fun _ h => by cases h) (by kernel_rfl) (fun _ h => by cases h) cellChanges_row_tie rfl ⟨rfl, rfl⟩ (by kernel_rfl) rfl
    (fun f fn hf hfn => by
      obtain rfl : f = 4 := Option.some.inj ((show Tryd.prog.funcNamed Rows.cellChangesRow.func = some 4 by kernel_rfl).symm.trans hf) |>.symm
      obtain rfl : fn = Tryd.f4 := (Option.some.inj (Tryd.func4.symm.trans hfn)).symm
      exact ⟨by kernel_rfl, fun j t ht => by
        rw [Tryd.params4] at ht
        have hm : t ∈ [23, 28, 3] := by simpa using Array.mem_of_getElem? ht
        have hall : ([23, 28, 3].all fun u => !Tryd.prog.wantsStandIn u) = true := by kernel_rfl
        exact (show Tryd.prog.wantsStandIn t = false by simpa using List.all_eq_true.1 hall t hm)⟩)
    (by kernel_rfl)

end Go.Proofs.YtalngmegenlfgaaDoor.cellChanges
namespace Go.Proofs.YtalngmegenlfgaaDoor
theorem cellChanges_holds : Rows.CellChangesCardSaid := cellChanges.cardOver
end Go.Proofs.YtalngmegenlfgaaDoor
