/-
  EventRights: an event, and a list, may be just as the document says. For every slice of events. No condition.
-/
import Derived.Test.YtfbfelfioikieaaEList
import Derived.Test.YtfbfelfioikieaaERList
import Derived.Test.YtfbfelfioikieaaETame
import Derived.Test.YtfbfelfioikieaaEFit
import Derived.Test.YtfbfelfioikieaaEOpen
import Derived.Deep.RegionHeld3
import Derived.ProofKit
import Derived.OpenShut
namespace Go.Proofs.Ytfbfelfioikieaa.eventRights
open Go.ChangeShapes Go.WideShapes Go.ChangeAt Go.RowKit Go.Lib EM
set_option maxRecDepth 100000

theorem big (A : Option Addr) (n c : Nat) (w : World) (h : 100 < n) :
    Calls Try.prog 3 #[.slice A n c] w fun e w' => e = .returned (.bool true) ∧ Below w.heap.size w w' := by
  have g : decide ((100 : Int) < (n : Int)) = true := by simp; omega
  have HF := Lib.hid (efit_ok w)
  go_enter Try.func3, Try.ntmps3
  go_wp2_with fail
  refine HF.out.mono ?_
  rintro e w1 ⟨rfl, b1⟩
  have HB1 := Lib.hid b1
  clear b1
  go_wp2_with fail
  go_ret
  exact ⟨rfl, HB1.out⟩

set_option maxHeartbeats 4000000 in
theorem core (A : Option Addr) (c : Nat) (l : List Ev) (w : World) (hl : l.length ≤ 100) (hr : evE.Row w w.heap.size A l) :
    Calls Try.prog 3 #[.slice A l.length c] w fun e w' => e = .returned (.bool true) ∧ Below w.heap.size w w' := by
  have g : decide ((100 : Int) < (l.length : Int)) = false := by simp; omega
  have HF := Lib.hid (efit_ok w)
  have HR := Lib.hid hr
  clear hr
  go_enter Try.func3, Try.ntmps3
  go_wp2_with fail
  refine HF.out.mono ?_
  rintro e wf ⟨rfl, b1⟩
  have HBF := Lib.hid b1
  have hzf := b1.size
  clear b1
  go_wp2_with fail
  go_loopw [12] (fun i wr => ∃ k : Nat, k ≤ l.length ∧ i = .int .i64 (k : Int) ∧ Below w.heap.size w wr) (fun i _ => l.length - (RowKit.intOf i).toNat)
  case atStart => exact ⟨0, Nat.zero_le _, rfl, HBF.out⟩
  case round =>
    obtain ⟨k, hk, rfl, hb⟩ := hrel
    have HB := Lib.hid hb
    have hz := hb.size
    clear hb
    by_cases hlt : k < l.length
    · have g1 : decide ((k : Int) < (l.length : Int)) = true := by simp; omega
      have gn : decide (k < l.length) = true := by simp; omega
      obtain ⟨b, off, rfl, hbl, c0, c1, c2, c3, c4⟩ := ev_at (HR.out.below HB.out) hlt
      generalize l[k] = y at *
      have HRT := Lib.hid (fun v => right_ok v y)
      have HRR := Lib.hid (fun v => rright_ok v y)
      have hlt' := fun (v : World) (A : Option Addr) (hr : evE.Row v v.heap.size A [y]) => list_ok v [y] A 1 v.heap.size hr (Nat.le_refl _) (by simp)
      rw [show listB 0 [y] = right y by
        simp only [listB, Bool.and_true]
        rcases h : right y with _ | _
        · rfl
        · rw [decide_eq_true (right_parts h).1]; rfl] at hlt'
      have HLT := Lib.hid hlt'
      clear hlt'
      generalize right y = rt at *
      obtain ⟨t, kk, d, x, z⟩ := y
      simp only [evV, List.length_singleton] at *
      obtain ⟨w1, hw1⟩ : ∃ w1, w1 = wr.alloc (.cells #[.int .i64 t, .int .i64 kk, .string d, .int .i64 x, .int .i64 z] 25) := ⟨_, rfl⟩
      have hb1 : Below wr.heap.size wr w1 := by rw [hw1]; exact (Below.refl _ _).alloc (Nat.le_refl _) _
      have hc1 : EvAt w1 wr.heap.size ⟨t, kk, d, x, z⟩ := by rw [hw1]; exact EvAt.new wr ⟨t, kk, d, x, z⟩
      have W1 := Lib.hid hw1
      have HB1 := Lib.hid hb1
      have HC1 := Lib.hid hc1
      have hz1 := hb1.size
      clear hw1 hb1 hc1
      have n1 : (rt != rt) = false := by cases rt <;> rfl
      go_upto_region 8 with fail
      rw [← W1.out]
      clear c0 c1 c2 c3 c4
      cases rt with
      | true =>
        refine wp_region_noPanic ?_
        refine wp_region_held_drew (S := fun v => Below w1.heap.size w1 v) (by kernel_rfl) (Below.refl _ _).drew (fun hHeld => ?_)
        have HSd := Lib.hid hHeld
        refine wpAnyH_take (i := 0) (v := ?va0) rfl (by kernel_rfl) (by kernel_rfl) (by kernel_rfl) (fun _ _ _ h => h) (Or.inl ⟨by rfl, ?ha0⟩) (by assumption) ?_
        case ha0 => intro w hSw; (try dsimp only at hSw); obtain ⟨e0, e1, e2, e3, e4⟩ := (HC1.out.dead hSw).cells; simp only at e0 e1 e2 e3 e4; go_simp; try with_reducible rfl
        simp only [List.getElem_toArray, List.getElem_cons_zero, Act.put, List.setIfInBounds_toArray, List.set_cons_zero, List.set_cons_succ]
        refine wpAnyH_take (i := 2) (v := ?va2) rfl (by kernel_rfl) (by kernel_rfl) (by kernel_rfl) (fun _ _ _ h => h) (Or.inl ⟨by rfl, ?ha2⟩) (by assumption) ?_
        case ha2 => intro w hSw; (try dsimp only at hSw); obtain ⟨e0, e1, e2, e3, e4⟩ := (HC1.out.dead hSw).cells; simp only at e0 e1 e2 e3 e4; go_simp; try with_reducible rfl
        simp only [List.getElem_toArray, List.getElem_cons_succ, List.getElem_cons_zero, Act.put, List.setIfInBounds_toArray, List.set_cons_zero, List.set_cons_succ]
        refine wpAnyH_ready (rs := [1]) (by kernel_rfl) (by simp) ?_
        refine AllReadyH.cons rfl (fun K hK => ?_) AllReadyH.nil
        rw [if_pos (by kernel_rfl)]
        go_simp
        refine (HRT.out w1.drew).mono ?_
        rintro e y1 ⟨rfl, hb⟩
        have HS1 := Lib.hid (below_next HSd.out hb)
        clear hb
        dsimp only
        refine hK.out _ _ ?_ (fun hHeld => ?_)
        · exact HS1.out
        clear hK K
        refine wpAnyH_ready (rs := [3]) (by kernel_rfl) (by simp) ?_
        refine AllReadyH.cons rfl (fun K hK => ?_) AllReadyH.nil
        rw [if_pos (by kernel_rfl)]
        go_simp
        refine (HRR.out y1).mono ?_
        rintro e y2 ⟨rfl, hb⟩
        have HS2 := Lib.hid (below_next HS1.out hb)
        clear hb
        dsimp only
        refine hK.out _ _ ?_ (fun hHeld => ?_)
        · exact HS2.out
        clear hK K
        refine wpAnyH_take (i := 4) (v := ?vb4) rfl (by kernel_rfl) (by kernel_rfl) (by kernel_rfl) (fun _ _ _ h => h) (Or.inl ⟨by rfl, ?hb4⟩) (by assumption) ?_
        case hb4 => intro w hSw; (try dsimp only at hSw); obtain ⟨e0, e1, e2, e3, e4⟩ := (HC1.out.dead hSw).cells; simp only at e0 e1 e2 e3 e4; go_simp; try with_reducible rfl
        simp only [List.getElem_toArray, List.getElem_cons_succ, List.getElem_cons_zero, Act.put, List.setIfInBounds_toArray, List.set_cons_zero, List.set_cons_succ]
        refine wpAnyH_take (i := 5) (v := ?vb5) rfl (by kernel_rfl) (by kernel_rfl) (by kernel_rfl) (fun _ _ _ h => h) (Or.inl ⟨by rfl, ?hb5⟩) (by assumption) ?_
        case hb5 => intro w hSw; (try dsimp only at hSw); obtain ⟨e0, e1, e2, e3, e4⟩ := (HC1.out.dead hSw).cells; simp only at e0 e1 e2 e3 e4; go_simp; try with_reducible rfl
        simp only [List.getElem_toArray, List.getElem_cons_succ, List.getElem_cons_zero, Act.put, List.setIfInBounds_toArray, List.set_cons_zero, List.set_cons_succ]
        refine wpAnyH_take (i := 6) (v := ?vb6) rfl (by kernel_rfl) (by kernel_rfl) (by kernel_rfl) (fun _ _ _ h => h) (Or.inl ⟨by rfl, ?hb6⟩) (by assumption) ?_
        case hb6 => intro w hSw; (try dsimp only at hSw); obtain ⟨e0, e1, e2, e3, e4⟩ := (HC1.out.dead hSw).cells; simp only at e0 e1 e2 e3 e4; go_simp; try with_reducible rfl
        simp only [List.getElem_toArray, List.getElem_cons_succ, List.getElem_cons_zero, Act.put, List.setIfInBounds_toArray, List.set_cons_zero, List.set_cons_succ]
        refine wpAnyH_take (i := 9) (v := ?vb9) rfl (by kernel_rfl) (by kernel_rfl) (by kernel_rfl) (fun _ _ _ h => h) (Or.inl ⟨by rfl, ?hb9⟩) (by assumption) ?_
        case hb9 => intro w hSw; (try dsimp only at hSw); obtain ⟨e0, e1, e2, e3, e4⟩ := (HC1.out.dead hSw).cells; simp only at e0 e1 e2 e3 e4; go_simp; try with_reducible rfl
        simp only [List.getElem_toArray, List.getElem_cons_succ, List.getElem_cons_zero, Act.put, List.setIfInBounds_toArray, List.set_cons_zero, List.set_cons_succ]
        refine wpAnyH_ready (rs := [7]) (by kernel_rfl) (by simp) ?_
        refine AllReadyH.cons rfl (fun K hK => ?_) AllReadyH.nil
        rw [if_pos (by kernel_rfl)]
        go_simp
        obtain ⟨y7, hy7⟩ : ∃ y7, y7 = y2.alloc (.cells #[.int .i64 t, .int .i64 kk, .string d, .int .i64 x, .int .i64 z] 25) := ⟨_, rfl⟩
        have hq : evE.Row y7 (y2.heap.size + 1) (some ⟨y2.heap.size, 0, none⟩) [⟨t, kk, d, x, z⟩] := by rw [hy7]; exact evE.row_new y2 ⟨t, kk, d, x, z⟩ _ _ rfl
        have hqs : y7.heap.size = y2.heap.size + 1 := by rw [hy7]; simp
        rw [← hqs] at hq
        have HQ := Lib.hid hq
        have hb : Below y2.heap.size y2 y7 := by rw [hy7]; exact (Below.refl _ _).alloc (Nat.le_refl _) _
        rw [← hy7]
        have HS7 := Lib.hid (below_next HS2.out hb)
        clear hq hqs hb hy7
        try dsimp only
        refine hK.out _ _ ?_ (fun hHeld => ?_)
        · exact HS7.out
        clear hK K
        refine wpAnyH_ready (rs := [8]) (by kernel_rfl) (by simp) ?_
        refine AllReadyH.cons rfl (fun K hK => ?_) AllReadyH.nil
        rw [if_pos (by kernel_rfl)]
        go_simp
        refine (HLT.out y7 _ HQ.out).mono ?_
        rintro e y8 ⟨rfl, hb⟩
        have HS8 := Lib.hid (below_next HS7.out hb)
        clear hb
        dsimp only
        refine hK.out _ _ ?_ (fun hHeld => ?_)
        · exact HS8.out
        clear hK K
        refine wpAnyH_ready (rs := [10]) (by kernel_rfl) (by simp) ?_
        refine AllReadyH.cons rfl (fun K hK => ?_) AllReadyH.nil
        rw [if_pos (by kernel_rfl)]
        go_simp
        refine (HRR.out y8).mono ?_
        rintro e y10 ⟨rfl, hb⟩
        have HSX := Lib.hid (below_next HS8.out hb)
        have HS10 := Lib.hid (below_next HB1.out HSX.out)
        clear hb
        dsimp only
        refine hK.out _ _ ?_ (fun hHeld => ?_)
        · exact HSX.out
        clear hK K
        refine wpAnyH_take (i := 11) (v := ?vc11) rfl (by kernel_rfl) (by kernel_rfl) (by kernel_rfl) (fun _ _ _ h => h) (Or.inl ⟨by rfl, ?hc11⟩) (by assumption) ?_
        case hc11 => intro w hSw; (try dsimp only at hSw); go_simp; try with_reducible rfl
        simp only [List.getElem_toArray, List.getElem_cons_succ, List.getElem_cons_zero, Act.put, List.setIfInBounds_toArray, List.set_cons_zero, List.set_cons_succ]
        refine wpAnyH_take (i := 12) (v := ?vc12) rfl (by kernel_rfl) (by kernel_rfl) (by kernel_rfl) (fun _ _ _ h => h) (Or.inl ⟨by rfl, ?hc12⟩) (by assumption) ?_
        case hc12 => intro w hSw; (try dsimp only at hSw); go_simp; try with_reducible rfl
        simp only [List.getElem_toArray, List.getElem_cons_succ, List.getElem_cons_zero, Act.put, List.setIfInBounds_toArray, List.set_cons_zero, List.set_cons_succ]
        refine wpAnyH_done (by kernel_rfl) ?_ _
        refine NoPanic.normal ?_
        go_wp2_with fail
        go_roundw
        case rel => exact ⟨k + 1, by omega, by simp, below_next HB.out HS10.out⟩
        case measure => simp [RowKit.intOf]; omega
      | false =>
        refine wp_region_noPanic ?_
        refine wp_region_held_drew (S := fun v => Below w1.heap.size w1 v) (by kernel_rfl) (Below.refl _ _).drew (fun hHeld => ?_)
        have HSd := Lib.hid hHeld
        refine wpAnyH_take (i := 0) (v := ?va0) rfl (by kernel_rfl) (by kernel_rfl) (by kernel_rfl) (fun _ _ _ h => h) (Or.inl ⟨by rfl, ?ha0⟩) (by assumption) ?_
        case ha0 => intro w hSw; (try dsimp only at hSw); obtain ⟨e0, e1, e2, e3, e4⟩ := (HC1.out.dead hSw).cells; simp only at e0 e1 e2 e3 e4; go_simp; try with_reducible rfl
        simp only [List.getElem_toArray, List.getElem_cons_zero, Act.put, List.setIfInBounds_toArray, List.set_cons_zero, List.set_cons_succ]
        refine wpAnyH_take (i := 2) (v := ?va2) rfl (by kernel_rfl) (by kernel_rfl) (by kernel_rfl) (fun _ _ _ h => h) (Or.inl ⟨by rfl, ?ha2⟩) (by assumption) ?_
        case ha2 => intro w hSw; (try dsimp only at hSw); obtain ⟨e0, e1, e2, e3, e4⟩ := (HC1.out.dead hSw).cells; simp only at e0 e1 e2 e3 e4; go_simp; try with_reducible rfl
        simp only [List.getElem_toArray, List.getElem_cons_succ, List.getElem_cons_zero, Act.put, List.setIfInBounds_toArray, List.set_cons_zero, List.set_cons_succ]
        refine wpAnyH_ready (rs := [1]) (by kernel_rfl) (by simp) ?_
        refine AllReadyH.cons rfl (fun K hK => ?_) AllReadyH.nil
        rw [if_pos (by kernel_rfl)]
        go_simp
        refine (HRT.out w1.drew).mono ?_
        rintro e y1 ⟨rfl, hb⟩
        have HS1 := Lib.hid (below_next HSd.out hb)
        clear hb
        dsimp only
        refine hK.out _ _ ?_ (fun hHeld => ?_)
        · exact HS1.out
        clear hK K
        refine wpAnyH_ready (rs := [3]) (by kernel_rfl) (by simp) ?_
        refine AllReadyH.cons rfl (fun K hK => ?_) AllReadyH.nil
        rw [if_pos (by kernel_rfl)]
        go_simp
        refine (HRR.out y1).mono ?_
        rintro e y2 ⟨rfl, hb⟩
        have HS2 := Lib.hid (below_next HS1.out hb)
        clear hb
        dsimp only
        refine hK.out _ _ ?_ (fun hHeld => ?_)
        · exact HS2.out
        clear hK K
        refine wpAnyH_take (i := 4) (v := ?vb4) rfl (by kernel_rfl) (by kernel_rfl) (by kernel_rfl) (fun _ _ _ h => h) (Or.inl ⟨by rfl, ?hb4⟩) (by assumption) ?_
        case hb4 => intro w hSw; (try dsimp only at hSw); obtain ⟨e0, e1, e2, e3, e4⟩ := (HC1.out.dead hSw).cells; simp only at e0 e1 e2 e3 e4; go_simp; try with_reducible rfl
        simp only [List.getElem_toArray, List.getElem_cons_succ, List.getElem_cons_zero, Act.put, List.setIfInBounds_toArray, List.set_cons_zero, List.set_cons_succ]
        refine wpAnyH_take (i := 5) (v := ?vb5) rfl (by kernel_rfl) (by kernel_rfl) (by kernel_rfl) (fun _ _ _ h => h) (Or.inl ⟨by rfl, ?hb5⟩) (by assumption) ?_
        case hb5 => intro w hSw; (try dsimp only at hSw); obtain ⟨e0, e1, e2, e3, e4⟩ := (HC1.out.dead hSw).cells; simp only at e0 e1 e2 e3 e4; go_simp; try with_reducible rfl
        simp only [List.getElem_toArray, List.getElem_cons_succ, List.getElem_cons_zero, Act.put, List.setIfInBounds_toArray, List.set_cons_zero, List.set_cons_succ]
        refine wpAnyH_take (i := 6) (v := ?vb6) rfl (by kernel_rfl) (by kernel_rfl) (by kernel_rfl) (fun _ _ _ h => h) (Or.inl ⟨by rfl, ?hb6⟩) (by assumption) ?_
        case hb6 => intro w hSw; (try dsimp only at hSw); obtain ⟨e0, e1, e2, e3, e4⟩ := (HC1.out.dead hSw).cells; simp only at e0 e1 e2 e3 e4; go_simp; try with_reducible rfl
        simp only [List.getElem_toArray, List.getElem_cons_succ, List.getElem_cons_zero, Act.put, List.setIfInBounds_toArray, List.set_cons_zero, List.set_cons_succ]
        refine wpAnyH_take (i := 9) (v := ?vb9) rfl (by kernel_rfl) (by kernel_rfl) (by kernel_rfl) (fun _ _ _ h => h) (Or.inl ⟨by rfl, ?hb9⟩) (by assumption) ?_
        case hb9 => intro w hSw; (try dsimp only at hSw); obtain ⟨e0, e1, e2, e3, e4⟩ := (HC1.out.dead hSw).cells; simp only at e0 e1 e2 e3 e4; go_simp; try with_reducible rfl
        simp only [List.getElem_toArray, List.getElem_cons_succ, List.getElem_cons_zero, Act.put, List.setIfInBounds_toArray, List.set_cons_zero, List.set_cons_succ]
        refine wpAnyH_ready (rs := [7]) (by kernel_rfl) (by simp) ?_
        refine AllReadyH.cons rfl (fun K hK => ?_) AllReadyH.nil
        rw [if_pos (by kernel_rfl)]
        go_simp
        obtain ⟨y7, hy7⟩ : ∃ y7, y7 = y2.alloc (.cells #[.int .i64 t, .int .i64 kk, .string d, .int .i64 x, .int .i64 z] 25) := ⟨_, rfl⟩
        have hq : evE.Row y7 (y2.heap.size + 1) (some ⟨y2.heap.size, 0, none⟩) [⟨t, kk, d, x, z⟩] := by rw [hy7]; exact evE.row_new y2 ⟨t, kk, d, x, z⟩ _ _ rfl
        have hqs : y7.heap.size = y2.heap.size + 1 := by rw [hy7]; simp
        rw [← hqs] at hq
        have HQ := Lib.hid hq
        have hb : Below y2.heap.size y2 y7 := by rw [hy7]; exact (Below.refl _ _).alloc (Nat.le_refl _) _
        rw [← hy7]
        have HS7 := Lib.hid (below_next HS2.out hb)
        clear hq hqs hb hy7
        try dsimp only
        refine hK.out _ _ ?_ (fun hHeld => ?_)
        · exact HS7.out
        clear hK K
        refine wpAnyH_ready (rs := [8]) (by kernel_rfl) (by simp) ?_
        refine AllReadyH.cons rfl (fun K hK => ?_) AllReadyH.nil
        rw [if_pos (by kernel_rfl)]
        go_simp
        refine (HLT.out y7 _ HQ.out).mono ?_
        rintro e y8 ⟨rfl, hb⟩
        have HS8 := Lib.hid (below_next HS7.out hb)
        clear hb
        dsimp only
        refine hK.out _ _ ?_ (fun hHeld => ?_)
        · exact HS8.out
        clear hK K
        refine wpAnyH_ready (rs := [10]) (by kernel_rfl) (by simp) ?_
        refine AllReadyH.cons rfl (fun K hK => ?_) AllReadyH.nil
        rw [if_pos (by kernel_rfl)]
        go_simp
        refine (HRR.out y8).mono ?_
        rintro e y10 ⟨rfl, hb⟩
        have HSX := Lib.hid (below_next HS8.out hb)
        have HS10 := Lib.hid (below_next HB1.out HSX.out)
        clear hb
        dsimp only
        refine hK.out _ _ ?_ (fun hHeld => ?_)
        · exact HSX.out
        clear hK K
        refine wpAnyH_take (i := 11) (v := ?vc11) rfl (by kernel_rfl) (by kernel_rfl) (by kernel_rfl) (fun _ _ _ h => h) (Or.inl ⟨by rfl, ?hc11⟩) (by assumption) ?_
        case hc11 => intro w hSw; (try dsimp only at hSw); go_simp; try with_reducible rfl
        simp only [List.getElem_toArray, List.getElem_cons_succ, List.getElem_cons_zero, Act.put, List.setIfInBounds_toArray, List.set_cons_zero, List.set_cons_succ]
        refine wpAnyH_take (i := 12) (v := ?vc12) rfl (by kernel_rfl) (by kernel_rfl) (by kernel_rfl) (fun _ _ _ h => h) (Or.inl ⟨by rfl, ?hc12⟩) (by assumption) ?_
        case hc12 => intro w hSw; (try dsimp only at hSw); go_simp; try with_reducible rfl
        simp only [List.getElem_toArray, List.getElem_cons_succ, List.getElem_cons_zero, Act.put, List.setIfInBounds_toArray, List.set_cons_zero, List.set_cons_succ]
        refine wpAnyH_done (by kernel_rfl) ?_ _
        refine NoPanic.normal ?_
        go_wp2_with fail
        go_roundw
        case rel => exact ⟨k + 1, by omega, by simp, below_next HB.out HS10.out⟩
        case measure => simp [RowKit.intOf]; omega
    · have g1 : decide ((k : Int) < (l.length : Int)) = false := by simp; omega
      have gn : decide (k < l.length) = false := by simp; omega
      have HL1 := Lib.hid (list_ok wr l A c w.heap.size (HR.out.below HB.out) hz (by omega))
      generalize hlr : listB 0 l = R at *
      have HLR := Lib.hid hlr
      clear hlr
      have hnn : (R == R) = true := by cases R <;> rfl
      go_wp2_with fail
      refine HL1.out.mono ?_
      rintro e w2 ⟨rfl, hb2⟩
      have hb2' := below_next HB.out hb2
      have HB2 := Lib.hid hb2'
      have hz2 := hb2'.size
      clear hb2 hb2'
      have HL2 := Lib.hid (rlist_ok w2 l A c w.heap.size (HR.out.below HB2.out) hz2 (by omega))
      rw [HLR.out] at HL2
      go_wp2_with fail
      refine HL2.out.mono ?_
      rintro e w3 ⟨rfl, hb3⟩
      have hb3' := below_next HB2.out hb3
      have HB3 := Lib.hid hb3'
      have hz3 := hb3'.size
      clear hb3 hb3' HL1 HL2
      have HTA := Lib.hid (tame_ok w3 l A c w.heap.size (HR.out.below HB3.out) hz3 (by omega))
      go_wp2_with fail
      refine HTA.out.mono ?_
      rintro e w4 ⟨v, rfl, ho, hb4⟩
      obtain ⟨A4, c4, hv, -, -, -, hr4⟩ := ho.row
      subst hv
      have hb4' := below_next HB3.out hb4
      have HB4 := Lib.hid hb4'
      have HL4 := Lib.hid (list_ok w4 (tameL 0 l) A4 c4 w4.heap.size hr4 (Nat.le_refl _) (by rw [tameL_len]; omega))
      rw [tameL_list l 0 (Int.le_refl _) (by omega)] at HL4
      clear ho hr4 hb4 hb4' HTA
      go_wp2_with fail
      refine HL4.out.mono ?_
      rintro e w5 ⟨rfl, hb5⟩
      have HB5 := Lib.hid (below_next HB4.out hb5)
      clear hb5
      go_wp2_with fail
      go_ret
      exact ⟨rfl, HB5.out⟩

theorem walk (A : Option Addr) (len cap : Nat) (w : World) (hw : IsEvs w A len cap) :
    Calls Try.prog 3 #[.slice A len cap] w fun e w' => e = .returned (.bool true) ∧ Below w.heap.size w w' := by
  obtain ⟨l, rfl, h2, h3⟩ := hw
  by_cases h : 100 < l.length
  · exact big A l.length cap w h
  · exact core A cap l w (by omega) h3

theorem own : ownKnob Try.prog.godebug = none := by kernel_rfl
theorem laidOut : laidOutB Try.prog = true := by kernel_rfl

set_option maxRecDepth 100000 in
theorem lifted (os : Os) (started : os.Started) (H : Type) (enc : TypeId × Value → H) :
    ReturnsInHanded {} Try.checked os 3 .any (Rows.eventRightsSpec.pre6 enc Try.prog Try.f3 Rows.eventRightsRow.domain false) (Rows.eventRightsSpec.post enc Try.prog Try.f3 false true false false) := by
  refine returnsInHanded_of_change (C := Try.checked) own started (by kernel_rfl) Try.func3
    (ChangeSpec.witness6 (enc := enc) (C := Try.checked) false ⟨#[], #[.slice none 0 0], []⟩ 8 (by kernel_rfl) (by kernel_rfl) (by kernel_rfl) (by kernel_rfl)) ?_
  intro W base args ds gs before hval0 hW hcnd _
  have hval : ∀ (j : Nat) t v, Try.f3.params[j]? = some t → args[j]? = some v → Value.okWide Try.prog W .any base t v := hval0
  have hW' := hW
  obtain ⟨p, q, hA0, hV, rfl, hfz, hnd⟩ := hW
  have hA : DataW.TrodAll enc Try.prog W 0 (fun _ => true) true Try.f3.params.toList args.toList ds p := hA0
  rw [Try.params3] at hA hval
  obtain ⟨v0, vs0, d0, ds0, p0, q0, hargs, rfl, rfl, h0, r0⟩ := trodAll_cons hA
  obtain ⟨rfl, rfl, rfl⟩ := trodAll_nil r0
  obtain rfl : args = #[v0] := by cases args; simp_all
  obtain ⟨rfl, rfl⟩ := trodVars_none hV
  obtain ⟨a0, len0, cap0, rfl⟩ := okWide_slice Try.underlying22 (hval 0 22 v0 rfl rfl)
  have k0 := h0
  have lt0 : ∀ x ∈ p0, x.block < W.heap.size := by obtain ⟨m, hm⟩ := k0; exact DataW.trod_lt m _ _ _ hm
  have w0 : IsEvs W a0 len0 cap0 := by
    obtain ⟨fuel, hf⟩ := h0
    exact evs_in hf
  clear hA0 hval0
  refine (walk a0 len0 cap0 W w0).mono fun e W' ⟨he, bel⟩ => ?_
  subst he
  exact ⟨_, rfl, _, _, _, [], _, [], hW', trodAll_mk1 (shut_bool Try.underlying4 _), (trodAll_cons_mk (Below.trod laidOut (by kernel_rfl) (of_decide_eq_true (by kernel_rfl)) k0 bel lt0) trodAll_mk0), rfl, bel.frame _, fun h => by cases h⟩

theorem over : Rows.eventRightsRow.holds Try.pinned (OpenSpec.ofChange Rows.eventRightsSpec) :=
  OpenClaim.holds_of_wide 3 Try.f3 rfl rfl rfl rfl rfl rfl rfl ⟨rfl, rfl, rfl, rfl, rfl⟩ rfl rfl rfl rfl rfl (by kernel_rfl) Try.func3 (by kernel_rfl)
    (of_decide_eq_true (by kernel_rfl)) (by unfold Func.isWrapper; first | (rw [if_pos (by decide +kernel)]; kernel_rfl) | (rw [if_neg (by decide +kernel)]; exact ⟨rfl, rfl⟩))
    (fun os started H enc _ => lifted os started H enc)

end Go.Proofs.Ytfbfelfioikieaa.eventRights
namespace Go.Proofs.Ytfbfelfioikieaa
theorem eventRights_holds : Rows.EventRightsSaid := eventRights.over
end Go.Proofs.Ytfbfelfioikieaa
