/-
  UtfFeeds' walk.
-/
import Derived.Test.YtdolekmifnenhaaDoorUFeedsM
import Derived.Deep.Cut
import Derived.IntWalk
namespace Go.Proofs.YtdolekmifnenhaaDoor.utfFeeds
open Go.RowKit Go.Lib

set_option maxRecDepth 100000 in
set_option maxHeartbeats 8000000 in
theorem walk (s : ByteArray) (w : World) (hs : s.size ≤ maxLen) (hT : Utf w) :
    Calls Tryd.prog 4 #[.string s] w fun e w' => e = .returned (.bool true) ∧ Below w.heap.size w w' := by
  have HT := Lib.hid hT
  clear hT
  unfold maxLen at hs
  by_cases h5 : 500 < s.size
  · have g : decide ((500 : Int) < (s.size : Int)) = true := by simp; omega
    go_enter Tryd.func4, Tryd.ntmps4
    go_wp2_with (go_at_call 7; refine (fit_ok _ HT.out).mono ?_; rintro e w1 ⟨rfl, b1⟩)
    go_ret
    exact ⟨rfl, b1⟩
  · have g : decide ((500 : Int) < (s.size : Int)) = false := by simp; omega
    go_enter Tryd.func4, Tryd.ntmps4
    go_wp2_with fail
    refine (fit_ok _ HT.out).mono ?_
    rintro e w1 ⟨rfl, b1⟩
    have HB1 := Lib.hid b1
    clear b1
    have HT1 := Lib.hid (HT.out.on HB1.out HT.out.room)
    have h0 : FF w1 (w1.alloc (.cells #[.int .u8 0, .int .u8 0, .int .u8 0, .int .i64 0] 29)) s 0 := by
      refine ⟨(Below.refl _ _).alloc (Nat.le_refl _) _, 0, 0, 0, rfl, ?_⟩
      exact (MapKept.heap_alloc w1 _).1
    have H0 := Lib.hid h0
    clear h0
    go_wp2
    go_loopw [4, 19] (fun a i wr => ∃ k : Nat, k ≤ s.size ∧ i = .int .i64 (k : Int) ∧ a = .int .i64 ((UM.feeds [] ((bytesOf s).take k)).1.length : Int) ∧ FF w1 wr s k) (fun _ i _ => s.size - (RowKit.intOf i).toNat)
    case atStart => exact ⟨0, Nat.zero_le _, rfl, rfl, H0.out⟩
    case round =>
      obtain ⟨k, hk, rfl, rfl, hA⟩ := hrel
      have HA := Lib.hid hA
      have hsz := hA.below.size
      obtain ⟨x, y, z, hd, hblk⟩ := hA.dec
      have hsz1 : w1.heap.size < wr.heap.size := (Array.getElem?_eq_some_iff.1 hblk).1
      clear hA
      by_cases hlt : k < s.size
      · obtain ⟨U, hU⟩ : ∃ U, U = UM.feeds [] ((bytesOf s).take k) := ⟨_, rfl⟩
        have hfl := UM.feeds_left ((bytesOf s).take k) [] UM.full_nil
        have hu3 := UM.full_long hfl
        have hfs := UM.feeds_snoc [] ((bytesOf s).take k) s[k]
        rw [← bytes_take s k hlt] at hfs
        have htl := told_le s k (by omega)
        obtain ⟨p, hp⟩ := UM.feeds_back ((bytesOf s).take (k + 1)) []
        rw [List.nil_append] at hp
        rw [hfs] at hp
        rw [← hU] at hd hblk hfs hu3 htl hp ⊢
        obtain ⟨E, hE⟩ : ∃ E, E = UM.eat (U.2 ++ [s[k]]) := ⟨_, rfl⟩
        have hEl := UM.eat_left (U.2 ++ [s[k]])
        have hEc := UM.eat_count (U.2 ++ [s[k]])
        have hcall := fun W h => feed1_ok W h U.2 hu3 s[k]
        have hlast := @UM.eat_last U.2 s[k]
        rw [← hE] at hEl hEc hfs hp hcall hlast
        rw [hd] at hcall
        have hE3 := UM.full_long hEl
        obtain ⟨x', y', z', hd', hrw⟩ := hold_is E.2 hE3
        have HRW := Lib.hid hrw
        clear hrw
        have hright := fun W h => right_true W h E.2 hEl
        rw [hd'] at hcall hright
        have hp : (bytesOf s).take (k + 1) = p ++ E.2 := hp
        have hEk : E.2.length ≤ k + 1 := by
          have := congrArg List.length hp
          rw [List.length_take, bytes_len, List.length_append] at this
          omega
        have hpart := run_part s k E.2.length E.2 p (by omega) hEk rfl hp
        rw [List.length_append, List.length_singleton] at hEc
        have d0 : wr.cell? ⟨w1.heap.size, 0, none⟩ = some (.int .u8 (x : Int)) := by simp only [World.cell?, hblk]; rfl
        have d1 : wr.cell? ⟨w1.heap.size, 1, none⟩ = some (.int .u8 (y : Int)) := by simp only [World.cell?, hblk]; rfl
        have d2 : wr.cell? ⟨w1.heap.size, 2, none⟩ = some (.int .u8 (z : Int)) := by simp only [World.cell?, hblk]; rfl
        have d3 : wr.cell? ⟨w1.heap.size, 3, none⟩ = some (.int .i64 (U.2.length : Int)) := by simp only [World.cell?, hblk]; rfl
        have HC := Lib.hid hcall; have HR := Lib.hid hright; have HP := Lib.hid hpart; have HL := Lib.hid @hlast; have HFS := Lib.hid hfs; have HD' := Lib.hid hd'; have HBLK := Lib.hid hblk
        clear hcall hright hpart hlast hfs hd' hd hblk hp hU hE hfl hEl
        go_wp2
        refine wp_region_noPanic ?_
        refine wp_region_held_drew (S := fun _ => True) (by kernel_rfl) trivial (fun hHeld => ?_)
        refine wpAnyH_take (i := 1) (v := ?va1) rfl (by kernel_rfl) (by kernel_rfl) (by kernel_rfl) (fun _ _ _ h => h) (Or.inl ⟨by rfl, ?ha1⟩) (by assumption) ?_
        case ha1 => intro w hSw; (try dsimp only at hSw); go_simp; try with_reducible rfl
        simp only [List.getElem_toArray, List.getElem_cons_succ, List.getElem_cons_zero, Act.put, List.setIfInBounds_toArray, List.set_cons_zero, List.set_cons_succ]
        refine wpAnyH_take (i := 2) (v := ?va2) rfl (by kernel_rfl) (by kernel_rfl) (by kernel_rfl) (fun _ _ _ h => h) (Or.inl ⟨by rfl, ?ha2⟩) (by assumption) ?_
        case ha2 => intro w hSw; (try dsimp only at hSw); go_simp; try with_reducible rfl
        simp only [List.getElem_toArray, List.getElem_cons_succ, List.getElem_cons_zero, Act.put, List.setIfInBounds_toArray, List.set_cons_zero, List.set_cons_succ]
        refine wpAnyH_take (i := 3) (v := ?va3) rfl (by kernel_rfl) (by kernel_rfl) (by kernel_rfl) (fun _ _ _ h => h) (Or.inl ⟨by rfl, ?ha3⟩) (by assumption) ?_
        case ha3 => intro w hSw; (try dsimp only at hSw); go_simp; try with_reducible rfl
        simp only [List.getElem_toArray, List.getElem_cons_succ, List.getElem_cons_zero, Act.put, List.setIfInBounds_toArray, List.set_cons_zero, List.set_cons_succ]
        refine wpAnyH_ready (rs := [0]) (by kernel_rfl) (by simp) ?_
        refine AllReadyH.cons rfl (fun K hK => ?_) AllReadyH.nil
        go_simp
        refine hK.out _ _ ?_ (fun hHeld => ?_)
        · trivial
        clear hK K
        refine wpAnyH_ready (rs := [4]) (by kernel_rfl) (by simp) ?_
        refine AllReadyH.cons rfl (fun K hK => ?_) AllReadyH.nil
        go_simp
        have hdrew : Below wr.heap.size wr wr.drew := (Below.refl _ wr).drew
        have hTr : Utf wr.drew := (HT1.out.on HA.out.below HT1.out.room).on hdrew (HT1.out.on HA.out.below HT1.out.room).room
        refine (HC.out wr.drew hTr).mono ?_
        rintro e w2 ⟨v', rfl, ho2, hb2⟩
        have hb02 : Below wr.heap.size wr w2 := hdrew.trans hb2
        have hbl2 := (hb02.block w1.heap.size (by omega)).trans HBLK.out
        have hb12 : Below w1.heap.size w1 w2 := HA.out.below.trans (hb02.mono hsz)
        obtain ⟨w3, hw3⟩ : ∃ w3, w3 = ((((w2.setCell ⟨w1.heap.size, 0, none⟩ (.int .u8 (x' : Int))).setCell ⟨w1.heap.size, 1, none⟩ (.int .u8 (y' : Int))).setCell ⟨w1.heap.size, 2, none⟩ (.int .u8 (z' : Int))).setCell ⟨w1.heap.size, 3, none⟩ (.int .i64 (E.2.length : Int))) := ⟨_, rfl⟩
        have hoth : ∀ k, k ≠ w1.heap.size → w3.heap[k]? = w2.heap[k]? := fun k hk => by
          rw [hw3, Below.heap_setCell _ _ _ _ (by simpa using hk), Below.heap_setCell _ _ _ _ (by simpa using hk), Below.heap_setCell _ _ _ _ (by simpa using hk), Below.heap_setCell _ _ _ _ (by simpa using hk)]
        have hdec3 : w3.heap[w1.heap.size]? = some (.cells #[.int .u8 (x' : Int), .int .u8 (y' : Int), .int .u8 (z' : Int), .int .i64 (E.2.length : Int)] 29) := by rw [hw3]; exact dec_set hbl2
        have hb13 : Below w1.heap.size w1 w3 := by rw [hw3]; exact (((hb12.setCell (by simp) _).setCell (by simp) _).setCell (by simp) _).setCell (by simp) _
        have ho3 : OwnR w3 wr.heap.size v' E.1 := ho2.keep fun k hk => hoth k (by have := (ho2.lt k hk).1; have h3 : wr.heap.size ≤ k := this; omega)
        have hs3 : wr.heap.size ≤ w3.heap.size := by have := hb02.size; rw [hw3]; simpa using this
        have c0 : w2.cell? ⟨w1.heap.size, 0, none⟩ = some (.int .u8 (x : Int)) := by simp only [World.cell?, hbl2]; rfl
        have c1 : w2.cell? ⟨w1.heap.size, 1, none⟩ = some (.int .u8 (y : Int)) := by simp only [World.cell?, hbl2]; rfl
        have c2 : w2.cell? ⟨w1.heap.size, 2, none⟩ = some (.int .u8 (z : Int)) := by simp only [World.cell?, hbl2]; rfl
        have c3 : w2.cell? ⟨w1.heap.size, 3, none⟩ = some (.int .i64 (U.2.length : Int)) := by simp only [World.cell?, hbl2]; rfl
        have g0 : w2.frozen? ⟨w1.heap.size, 0, none⟩ = false := by simp only [World.frozen?, hbl2]; rfl
        have g1 : w2.frozen? ⟨w1.heap.size, 1, none⟩ = false := by simp only [World.frozen?, hbl2]; rfl
        have g2 : w2.frozen? ⟨w1.heap.size, 2, none⟩ = false := by simp only [World.frozen?, hbl2]; rfl
        have g3 : w2.frozen? ⟨w1.heap.size, 3, none⟩ = false := by simp only [World.frozen?, hbl2]; rfl
        have HW3 := Lib.hid hw3; have HD3 := Lib.hid hdec3; have HB13 := Lib.hid hb13; have HO3 := Lib.hid ho3
        clear hdrew hTr ho2 hb2 hb02 hbl2 hb12 hoth hdec3 hb13 ho3 hw3 d0 d1 d2 d3
        unfold decV
        dsimp only
        refine hK.out _ _ ?_ (fun hHeld => ?_)
        · trivial
        clear hK K
        refine wpAnyH_take (i := 5) (v := ?vb5) rfl (by kernel_rfl) (by kernel_rfl) (by kernel_rfl) (fun _ _ _ h => h) (Or.inl ⟨by rfl, ?hb5⟩) (by assumption) ?_
        case hb5 => intro w hSw; (try dsimp only at hSw); go_simp; try with_reducible rfl
        simp only [List.getElem_toArray, List.getElem_cons_succ, List.getElem_cons_zero, Act.put, List.setIfInBounds_toArray, List.set_cons_zero, List.set_cons_succ]
        refine wpAnyH_take (i := 6) (v := ?vb6) rfl (by kernel_rfl) (by kernel_rfl) (by kernel_rfl) (fun _ _ _ h => h) (Or.inl ⟨by rfl, ?hb6⟩) (by assumption) ?_
        case hb6 => intro w hSw; (try dsimp only at hSw); go_simp; try with_reducible rfl
        simp only [List.getElem_toArray, List.getElem_cons_succ, List.getElem_cons_zero, Act.put, List.setIfInBounds_toArray, List.set_cons_zero, List.set_cons_succ]
        refine wpAnyH_take (i := 7) (v := ?vb7) rfl (by kernel_rfl) (by kernel_rfl) (by kernel_rfl) (fun _ _ _ h => h) (Or.inl ⟨by rfl, ?hb7⟩) (by assumption) ?_
        case hb7 => intro w hSw; (try dsimp only at hSw); go_simp; try with_reducible rfl
        simp only [List.getElem_toArray, List.getElem_cons_succ, List.getElem_cons_zero, Act.put, List.setIfInBounds_toArray, List.set_cons_zero, List.set_cons_succ]
        refine wpAnyH_ready (rs := [8]) (by kernel_rfl) (by simp) ?_
        refine AllReadyH.cons rfl (fun K hK => ?_) AllReadyH.nil
        go_simp
        rw [← HW3.out]
        refine hK.out _ _ ?_ (fun hHeld => ?_)
        · trivial
        clear hK K
        refine wpAnyH_take (i := 9) (v := ?vc9) rfl (by kernel_rfl) (by kernel_rfl) (by kernel_rfl) (fun _ _ _ h => h) (Or.inl ⟨by rfl, ?hc9⟩) (by assumption) ?_
        case hc9 => intro w hSw; (try dsimp only at hSw); go_simp; try with_reducible rfl
        simp only [List.getElem_toArray, List.getElem_cons_succ, List.getElem_cons_zero, Act.put, List.setIfInBounds_toArray, List.set_cons_zero, List.set_cons_succ]
        refine wpAnyH_done (by kernel_rfl) ?_ _
        refine NoPanic.normal ?_
        clear hHeld c0 c1 c2 c3 g0 g1 g2 g3
        obtain ⟨A3, k3, hv3, _, _, _, hr3⟩ := HO3.out.form
        subst hv3
        have HR3 := Lib.hid hr3
        clear hr3
        go_wp2
        have HTW := Lib.hid (HT1.out.on HB13.out HT1.out.room)
        have d0 : w3.cell? ⟨w1.heap.size, 0, none⟩ = some (.int .u8 (x' : Int)) := by simp only [World.cell?, HD3.out]; rfl
        have d1 : w3.cell? ⟨w1.heap.size, 1, none⟩ = some (.int .u8 (y' : Int)) := by simp only [World.cell?, HD3.out]; rfl
        have d2 : w3.cell? ⟨w1.heap.size, 2, none⟩ = some (.int .u8 (z' : Int)) := by simp only [World.cell?, HD3.out]; rfl
        have d3 : w3.cell? ⟨w1.heap.size, 3, none⟩ = some (.int .i64 (E.2.length : Int)) := by simp only [World.cell?, HD3.out]; rfl
        have hs13 := HB13.out.size
        have hs13' : w1.heap.size < w3.heap.size := (Array.getElem?_eq_some_iff.1 HD3.out).1
        rcases Nat.lt_or_ge s[k].toNat 128 with hc | hc
        · obtain ⟨rs, hrs⟩ := HL.out hc
          have hE1 : E.1 = rs ++ [s[k].toNat] := by rw [hrs]
          have hE2 : E.2.length = 0 := by rw [hrs]; rfl
          have hr3 := HR3.out
          rw [hE1] at hr3
          obtain ⟨b, off, rfl, hcl⟩ := row_last hr3
          obtain ⟨q, hq⟩ : ∃ q, q = rs.length := ⟨_, rfl⟩
          have hE1l : E.1.length = q + 1 := by rw [hE1, hq]; simp
          rw [← hq] at hcl
          rw [hE1l]
          have HE1L := Lib.hid hE1l
          have hq3 : q ≤ 3 := by omega
          clear hr3 hE1 hrs hq hE1l
          obtain ⟨m, hm⟩ : ∃ m, m = E.2.length := ⟨_, rfl⟩
          have t5 : ((m : Int) != 0) = false := by rw [hm, hE2]; rfl
          have t6 : ((q : Int) + 1 == 0) = false := by simp; omega
          have tw3 : IntKind.i64.wrap ((q : Int) + 1 - 1) = (q : Int) := IntWalk.i64_in _ (by omega) |>.trans (by omega)
          have tw4 : IntKind.i64.wrap (q : Int) = (q : Int) := IntWalk.i64_in _ (by omega)
          have t7 : (q : Int) < (q : Int) + 1 := by omega
          have t8 : ((s[k].toNat : Int) != (s[k].toNat : Int)) = false := by simp
          have tw5 : IntKind.i32.wrap (s[k].toNat : Int) = (s[k].toNat : Int) := by rw [IntKind.wrap_i32]; omega
          clear hE2
          have HM := Lib.hid hm.symm
          rw [← hm] at d3 hE3 hEk HR HD' HP HD3 hEc
          clear hm
          have t4 : decide ((s[k].toNat : Int) < 128) = true := decide_eq_true (by omega)
          have t1 : decide ((m : Int) < 0) = false := decide_eq_false (by omega)
          have t2 : decide ((3 : Int) < (m : Int)) = false := decide_eq_false (by omega)
          have t3 : decide ((k : Int) + 1 < (m : Int)) = false := decide_eq_false (by omega)
          have tw : IntKind.i64.wrap ((k : Int) + 1) = (k : Int) + 1 := IntWalk.i64_in _ (by omega)
          refine wp_region_noPanic ?_
          refine wp_region_held_drew (S := fun w' => w'.cell? ⟨w1.heap.size, 0, none⟩ = some (.int .u8 (x' : Int)) ∧ w'.cell? ⟨w1.heap.size, 1, none⟩ = some (.int .u8 (y' : Int)) ∧ w'.cell? ⟨w1.heap.size, 2, none⟩ = some (.int .u8 (z' : Int)) ∧ w'.cell? ⟨w1.heap.size, 3, none⟩ = some (.int .i64 (m : Int)) ∧ w'.cell? ⟨b, off + q, none⟩ = some (.int .i32 (s[k].toNat : Int))) (by kernel_rfl) ⟨d0, d1, d2, d3, hcl⟩ (fun hHeld => ?_)
          refine wpAnyH_take (i := 0) (v := ?vp0) rfl (by kernel_rfl) (by kernel_rfl) (by kernel_rfl) (fun _ _ _ h => h) (Or.inl ⟨by rfl, ?hp0⟩) (by assumption) ?_
          case hp0 => intro w hSw; (try dsimp only at hSw); go_simp; try with_reducible rfl
          simp only [List.getElem_toArray, List.getElem_cons_zero, Act.put, List.setIfInBounds_toArray, List.set_cons_zero, List.set_cons_succ]
          refine wpAnyH_ready (rs := [1]) (by kernel_rfl) (by simp) ?_
          refine AllReadyH.cons rfl (fun K hK => ?_) AllReadyH.nil
          go_simp
          have hdrew : Below w3.heap.size w3 w3.drew := (Below.refl _ w3).drew
          refine (HR.out w3.drew (HTW.out.on hdrew HTW.out.room)).mono ?_
          rintro e w4 ⟨rfl, hb4⟩
          have hb34 : Below w3.heap.size w3 w4 := hdrew.trans hb4
          have e0 := (hb34.cell (World.block_lt_of_cell? w3 _ d0)).trans d0
          have e1 := (hb34.cell (World.block_lt_of_cell? w3 _ d1)).trans d1
          have e2 := (hb34.cell (World.block_lt_of_cell? w3 _ d2)).trans d2
          have e3 := (hb34.cell (World.block_lt_of_cell? w3 _ d3)).trans d3
          have ecl := (hb34.cell (World.block_lt_of_cell? w3 _ hcl)).trans hcl
          have HB34 := Lib.hid hb34
          clear hdrew hb4 hb34
          dsimp only
          refine hK.out _ _ ?_ (fun hHeld => ?_)
          · exact ⟨e0, e1, e2, e3, ecl⟩
          clear hK K
          refine wpAnyH_take (i := 2) (v := ?vr2) rfl (by kernel_rfl) (by kernel_rfl) (by kernel_rfl) (fun _ _ _ h => h) (Or.inl ⟨by rfl, ?hr2⟩) (by assumption) ?_
          case hr2 => intro w hSw; (try dsimp only at hSw); go_simp; try with_reducible rfl
          simp only [List.getElem_toArray, List.getElem_cons_succ, List.getElem_cons_zero, Act.put, List.setIfInBounds_toArray, List.set_cons_zero, List.set_cons_succ]
          refine wpAnyH_take (i := 3) (v := ?vr3) rfl (by kernel_rfl) (by kernel_rfl) (by kernel_rfl) (fun _ _ _ h => h) (Or.inl ⟨by rfl, ?hr3⟩) (by assumption) ?_
          case hr3 => intro w hSw; (try dsimp only at hSw); go_simp; try with_reducible rfl
          simp only [List.getElem_toArray, List.getElem_cons_succ, List.getElem_cons_zero, Act.put, List.setIfInBounds_toArray, List.set_cons_zero, List.set_cons_succ]
          refine wpAnyH_take (i := 4) (v := ?vr4) rfl (by kernel_rfl) (by kernel_rfl) (by kernel_rfl) (fun _ _ _ h => h) (Or.inl ⟨by rfl, ?hr4⟩) (by assumption) ?_
          case hr4 => intro w hSw; (try dsimp only at hSw); go_simp; try with_reducible rfl
          simp only [List.getElem_toArray, List.getElem_cons_succ, List.getElem_cons_zero, Act.put, List.setIfInBounds_toArray, List.set_cons_zero, List.set_cons_succ]
          refine wpAnyH_take (i := 5) (v := ?vr5) rfl (by kernel_rfl) (by kernel_rfl) (by kernel_rfl) (fun _ _ _ h => h) (Or.inl ⟨by rfl, ?hr5⟩) (by assumption) ?_
          case hr5 => intro w hSw; (try dsimp only at hSw); go_simp; try with_reducible rfl
          simp only [List.getElem_toArray, List.getElem_cons_succ, List.getElem_cons_zero, Act.put, List.setIfInBounds_toArray, List.set_cons_zero, List.set_cons_succ]
          refine wpAnyH_take (i := 6) (v := ?vr6) rfl (by kernel_rfl) (by kernel_rfl) (by kernel_rfl) (fun _ _ _ h => h) (Or.inl ⟨by rfl, ?hr6⟩) (by assumption) ?_
          case hr6 => intro w hSw; (try dsimp only at hSw); go_simp; try with_reducible rfl
          simp only [List.getElem_toArray, List.getElem_cons_succ, List.getElem_cons_zero, Act.put, List.setIfInBounds_toArray, List.set_cons_zero, List.set_cons_succ]
          refine wpAnyH_take (i := 7) (v := ?vr7) rfl (by kernel_rfl) (by kernel_rfl) (by kernel_rfl) (fun _ _ _ h => h) (Or.inl ⟨by rfl, ?hr7⟩) (by assumption) ?_
          case hr7 => intro w hSw; (try dsimp only at hSw); go_simp; try with_reducible rfl
          simp only [List.getElem_toArray, List.getElem_cons_succ, List.getElem_cons_zero, Act.put, List.setIfInBounds_toArray, List.set_cons_zero, List.set_cons_succ]
          refine wpAnyH_take (i := 8) (v := ?vr8) rfl (by kernel_rfl) (by kernel_rfl) (by kernel_rfl) (fun _ _ _ h => h) (Or.inl ⟨by rfl, ?hr8⟩) (by assumption) ?_
          case hr8 => intro w hSw; (try dsimp only at hSw); go_simp; try with_reducible rfl
          simp only [List.getElem_toArray, List.getElem_cons_succ, List.getElem_cons_zero, Act.put, List.setIfInBounds_toArray, List.set_cons_zero, List.set_cons_succ]
          refine wpAnyH_take (i := 9) (v := ?vr9) rfl (by kernel_rfl) (by kernel_rfl) (by kernel_rfl) (fun _ _ _ h => h) (Or.inl ⟨by rfl, ?hr9⟩) (by assumption) ?_
          case hr9 => intro w hSw; (try dsimp only at hSw); go_simp; try with_reducible rfl
          simp only [List.getElem_toArray, List.getElem_cons_succ, List.getElem_cons_zero, Act.put, List.setIfInBounds_toArray, List.set_cons_zero, List.set_cons_succ]
          refine wpAnyH_take (i := 10) (v := ?vr10) rfl (by kernel_rfl) (by kernel_rfl) (by kernel_rfl) (fun _ _ _ h => h) (Or.inl ⟨by rfl, ?hr10⟩) (by assumption) ?_
          case hr10 => intro w hSw; (try dsimp only at hSw); go_simp; try with_reducible rfl
          simp only [List.getElem_toArray, List.getElem_cons_succ, List.getElem_cons_zero, Act.put, List.setIfInBounds_toArray, List.set_cons_zero, List.set_cons_succ]
          refine wpAnyH_take (i := 11) (v := ?vr11) rfl (by kernel_rfl) (by kernel_rfl) (by kernel_rfl) (fun _ _ _ h => h) (Or.inl ⟨by rfl, ?hr11⟩) (by assumption) ?_
          case hr11 => intro w hSw; (try dsimp only at hSw); go_simp; try with_reducible rfl
          simp only [List.getElem_toArray, List.getElem_cons_succ, List.getElem_cons_zero, Act.put, List.setIfInBounds_toArray, List.set_cons_zero, List.set_cons_succ]
          refine wpAnyH_take (i := 12) (v := ?vr12) rfl (by kernel_rfl) (by kernel_rfl) (by kernel_rfl) (fun _ _ _ h => h) (Or.inl ⟨by rfl, ?hr12⟩) (by assumption) ?_
          case hr12 => intro w hSw; (try dsimp only at hSw); go_simp; try with_reducible rfl
          simp only [List.getElem_toArray, List.getElem_cons_succ, List.getElem_cons_zero, Act.put, List.setIfInBounds_toArray, List.set_cons_zero, List.set_cons_succ]
          refine wpAnyH_take (i := 13) (v := ?vr13) rfl (by kernel_rfl) (by kernel_rfl) (by kernel_rfl) (fun _ _ _ h => h) (Or.inl ⟨by rfl, ?hr13⟩) (by assumption) ?_
          case hr13 => intro w hSw; (try dsimp only at hSw); go_simp; try with_reducible rfl
          simp only [List.getElem_toArray, List.getElem_cons_succ, List.getElem_cons_zero, Act.put, List.setIfInBounds_toArray, List.set_cons_zero, List.set_cons_succ]
          refine wpAnyH_take (i := 14) (v := ?vr14) rfl (by kernel_rfl) (by kernel_rfl) (by kernel_rfl) (fun _ _ _ h => h) (Or.inl ⟨by rfl, ?hr14⟩) (by assumption) ?_
          case hr14 => intro w hSw; (try dsimp only at hSw); go_simp; try with_reducible rfl
          simp only [List.getElem_toArray, List.getElem_cons_succ, List.getElem_cons_zero, Act.put, List.setIfInBounds_toArray, List.set_cons_zero, List.set_cons_succ]
          refine wpAnyH_take (i := 15) (v := ?vr15) rfl (by kernel_rfl) (by kernel_rfl) (by kernel_rfl) (fun _ _ _ h => h) (Or.inl ⟨by rfl, ?hr15⟩) (by assumption) ?_
          case hr15 => intro w hSw; (try dsimp only at hSw); go_simp; try with_reducible rfl
          simp only [List.getElem_toArray, List.getElem_cons_succ, List.getElem_cons_zero, Act.put, List.setIfInBounds_toArray, List.set_cons_zero, List.set_cons_succ]
          refine wpAnyH_take (i := 16) (v := ?vr16) rfl (by kernel_rfl) (by kernel_rfl) (by kernel_rfl) (fun _ _ _ h => h) (Or.inl ⟨by rfl, ?hr16⟩) (by assumption) ?_
          case hr16 => intro w hSw; (try dsimp only at hSw); go_simp; try with_reducible rfl
          simp only [List.getElem_toArray, List.getElem_cons_succ, List.getElem_cons_zero, Act.put, List.setIfInBounds_toArray, List.set_cons_zero, List.set_cons_succ]
          refine wpAnyH_take (i := 17) (v := ?vr17) rfl (by kernel_rfl) (by kernel_rfl) (by kernel_rfl) (fun _ _ _ h => h) (Or.inl ⟨by rfl, ?hr17⟩) (by assumption) ?_
          case hr17 => intro w hSw; (try dsimp only at hSw); go_simp; try with_reducible rfl
          simp only [List.getElem_toArray, List.getElem_cons_succ, List.getElem_cons_zero, Act.put, List.setIfInBounds_toArray, List.set_cons_zero, List.set_cons_succ]
          refine wpAnyH_take (i := 18) (v := ?vr18) rfl (by kernel_rfl) (by kernel_rfl) (by kernel_rfl) (fun _ _ _ h => h) (Or.inl ⟨by rfl, ?hr18⟩) (by assumption) ?_
          case hr18 => intro w hSw; (try dsimp only at hSw); go_simp; try with_reducible rfl
          simp only [List.getElem_toArray, List.getElem_cons_succ, List.getElem_cons_zero, Act.put, List.setIfInBounds_toArray, List.set_cons_zero, List.set_cons_succ]
          refine wpAnyH_take (i := 19) (v := ?vr19) rfl (by kernel_rfl) (by kernel_rfl) (by kernel_rfl) (fun _ _ _ h => h) (Or.inl ⟨by rfl, ?hr19⟩) (by assumption) ?_
          case hr19 => intro w hSw; (try dsimp only at hSw); go_simp; try with_reducible rfl
          simp only [List.getElem_toArray, List.getElem_cons_succ, List.getElem_cons_zero, Act.put, List.setIfInBounds_toArray, List.set_cons_zero, List.set_cons_succ]
          refine wpAnyH_take (i := 20) (v := ?vr20) rfl (by kernel_rfl) (by kernel_rfl) (by kernel_rfl) (fun _ _ _ h => h) (Or.inl ⟨by rfl, ?hr20⟩) (by assumption) ?_
          case hr20 => intro w hSw; (try dsimp only at hSw); go_simp; try with_reducible rfl
          simp only [List.getElem_toArray, List.getElem_cons_succ, List.getElem_cons_zero, Act.put, List.setIfInBounds_toArray, List.set_cons_zero, List.set_cons_succ]
          refine wpAnyH_take (i := 21) (v := ?vr21) rfl (by kernel_rfl) (by kernel_rfl) (by kernel_rfl) (fun _ _ _ h => h) (Or.inl ⟨by rfl, ?hr21⟩) (by assumption) ?_
          case hr21 => intro w hSw; (try dsimp only at hSw); go_simp; try with_reducible rfl
          simp only [List.getElem_toArray, List.getElem_cons_succ, List.getElem_cons_zero, Act.put, List.setIfInBounds_toArray, List.set_cons_zero, List.set_cons_succ]
          refine wpAnyH_take (i := 22) (v := ?vr22) rfl (by kernel_rfl) (by kernel_rfl) (by kernel_rfl) (fun _ _ _ h => h) (Or.inl ⟨by rfl, ?hr22⟩) (by assumption) ?_
          case hr22 => intro w hSw; (try dsimp only at hSw); go_simp; try with_reducible rfl
          simp only [List.getElem_toArray, List.getElem_cons_succ, List.getElem_cons_zero, Act.put, List.setIfInBounds_toArray, List.set_cons_zero, List.set_cons_succ]
          refine wpAnyH_take (i := 23) (v := ?vr23) rfl (by kernel_rfl) (by kernel_rfl) (by kernel_rfl) (fun _ _ _ h => h) (Or.inl ⟨by rfl, ?hr23⟩) (by assumption) ?_
          case hr23 => intro w hSw; (try dsimp only at hSw); go_simp; try with_reducible rfl
          simp only [List.getElem_toArray, List.getElem_cons_succ, List.getElem_cons_zero, Act.put, List.setIfInBounds_toArray, List.set_cons_zero, List.set_cons_succ]
          refine wpAnyH_take (i := 24) (v := ?vr24) rfl (by kernel_rfl) (by kernel_rfl) (by kernel_rfl) (fun _ _ _ h => h) (Or.inl ⟨by rfl, ?hr24⟩) (by assumption) ?_
          case hr24 => intro w hSw; (try dsimp only at hSw); go_simp; try with_reducible rfl
          simp only [List.getElem_toArray, List.getElem_cons_succ, List.getElem_cons_zero, Act.put, List.setIfInBounds_toArray, List.set_cons_zero, List.set_cons_succ]
          refine wpAnyH_take (i := 25) (v := ?vr25) rfl (by kernel_rfl) (by kernel_rfl) (by kernel_rfl) (fun _ _ _ h => h) (Or.inl ⟨by rfl, ?hr25⟩) (by assumption) ?_
          case hr25 => intro w hSw; (try dsimp only at hSw); go_simp; try with_reducible rfl
          simp only [List.getElem_toArray, List.getElem_cons_succ, List.getElem_cons_zero, Act.put, List.setIfInBounds_toArray, List.set_cons_zero, List.set_cons_succ]
          refine wpAnyH_take (i := 26) (v := ?vr26) rfl (by kernel_rfl) (by kernel_rfl) (by kernel_rfl) (fun _ _ _ h => h) (Or.inl ⟨by rfl, ?hr26⟩) (by assumption) ?_
          case hr26 => intro w hSw; (try dsimp only at hSw); go_simp; try with_reducible rfl
          simp only [List.getElem_toArray, List.getElem_cons_succ, List.getElem_cons_zero, Act.put, List.setIfInBounds_toArray, List.set_cons_zero, List.set_cons_succ]
          refine wpAnyH_take (i := 27) (v := ?vr27) rfl (by kernel_rfl) (by kernel_rfl) (by kernel_rfl) (fun _ _ _ h => h) (Or.inl ⟨by rfl, ?hr27⟩) (by assumption) ?_
          case hr27 => intro w hSw; (try dsimp only at hSw); go_simp; try with_reducible rfl
          simp only [List.getElem_toArray, List.getElem_cons_succ, List.getElem_cons_zero, Act.put, List.setIfInBounds_toArray, List.set_cons_zero, List.set_cons_succ]
          refine wpAnyH_take (i := 28) (v := ?vr28) rfl (by kernel_rfl) (by kernel_rfl) (by kernel_rfl) (fun _ _ _ h => h) (Or.inl ⟨by rfl, ?hr28⟩) (by assumption) ?_
          case hr28 => intro w hSw; (try dsimp only at hSw); go_simp; try with_reducible rfl
          simp only [List.getElem_toArray, List.getElem_cons_succ, List.getElem_cons_zero, Act.put, List.setIfInBounds_toArray, List.set_cons_zero, List.set_cons_succ]
          refine wpAnyH_take (i := 29) (v := ?vr29) rfl (by kernel_rfl) (by kernel_rfl) (by kernel_rfl) (fun _ _ _ h => h) (Or.inl ⟨by rfl, ?hr29⟩) (by assumption) ?_
          case hr29 => intro w hSw; (try dsimp only at hSw); go_simp; try with_reducible rfl
          simp only [List.getElem_toArray, List.getElem_cons_succ, List.getElem_cons_zero, Act.put, List.setIfInBounds_toArray, List.set_cons_zero, List.set_cons_succ]
          refine wpAnyH_take (i := 30) (v := ?vr30) rfl (by kernel_rfl) (by kernel_rfl) (by kernel_rfl) (fun _ _ _ h => h) (Or.inl ⟨by rfl, ?hr30⟩) (by assumption) ?_
          case hr30 => intro w hSw; (try dsimp only at hSw); go_simp; try with_reducible rfl
          simp only [List.getElem_toArray, List.getElem_cons_succ, List.getElem_cons_zero, Act.put, List.setIfInBounds_toArray, List.set_cons_zero, List.set_cons_succ]
          refine wpAnyH_take (i := 31) (v := ?vr31) rfl (by kernel_rfl) (by kernel_rfl) (by kernel_rfl) (fun _ _ _ h => h) (Or.inl ⟨by rfl, ?hr31⟩) (by assumption) ?_
          case hr31 => intro w hSw; (try dsimp only at hSw); go_simp; try with_reducible rfl
          simp only [List.getElem_toArray, List.getElem_cons_succ, List.getElem_cons_zero, Act.put, List.setIfInBounds_toArray, List.set_cons_zero, List.set_cons_succ]
          refine wpAnyH_take (i := 32) (v := ?vr32) rfl (by kernel_rfl) (by kernel_rfl) (by kernel_rfl) (fun _ _ _ h => h) (Or.inl ⟨by rfl, ?hr32⟩) (by assumption) ?_
          case hr32 => intro w hSw; (try dsimp only at hSw); go_simp; try with_reducible rfl
          simp only [List.getElem_toArray, List.getElem_cons_succ, List.getElem_cons_zero, Act.put, List.setIfInBounds_toArray, List.set_cons_zero, List.set_cons_succ]
          refine wpAnyH_take (i := 33) (v := ?vr33) rfl (by kernel_rfl) (by kernel_rfl) (by kernel_rfl) (fun _ _ _ h => h) (Or.inl ⟨by rfl, ?hr33⟩) (by assumption) ?_
          case hr33 => intro w hSw; (try dsimp only at hSw); go_simp; try with_reducible rfl
          simp only [List.getElem_toArray, List.getElem_cons_succ, List.getElem_cons_zero, Act.put, List.setIfInBounds_toArray, List.set_cons_zero, List.set_cons_succ]
          refine wpAnyH_take (i := 34) (v := ?vr34) rfl (by kernel_rfl) (by kernel_rfl) (by kernel_rfl) (fun _ _ _ h => h) (Or.inl ⟨by rfl, ?hr34⟩) (by assumption) ?_
          case hr34 => intro w hSw; (try dsimp only at hSw); go_simp; try with_reducible rfl
          simp only [List.getElem_toArray, List.getElem_cons_succ, List.getElem_cons_zero, Act.put, List.setIfInBounds_toArray, List.set_cons_zero, List.set_cons_succ]
          refine wpAnyH_take (i := 35) (v := ?vr35) rfl (by kernel_rfl) (by kernel_rfl) (by kernel_rfl) (fun _ _ _ h => h) (Or.inl ⟨by rfl, ?hr35⟩) (by assumption) ?_
          case hr35 => intro w hSw; (try dsimp only at hSw); go_simp; try with_reducible rfl
          simp only [List.getElem_toArray, List.getElem_cons_succ, List.getElem_cons_zero, Act.put, List.setIfInBounds_toArray, List.set_cons_zero, List.set_cons_succ]
          refine wpAnyH_take (i := 36) (v := ?vr36) rfl (by kernel_rfl) (by kernel_rfl) (by kernel_rfl) (fun _ _ _ h => h) (Or.inl ⟨by rfl, ?hr36⟩) (by assumption) ?_
          case hr36 => intro w hSw; (try dsimp only at hSw); go_simp; try with_reducible rfl
          simp only [List.getElem_toArray, List.getElem_cons_succ, List.getElem_cons_zero, Act.put, List.setIfInBounds_toArray, List.set_cons_zero, List.set_cons_succ]
          refine wpAnyH_take (i := 37) (v := ?vr37) rfl (by kernel_rfl) (by kernel_rfl) (by kernel_rfl) (fun _ _ _ h => h) (Or.inl ⟨by rfl, ?hr37⟩) (by assumption) ?_
          case hr37 => intro w hSw; (try dsimp only at hSw); go_simp; try with_reducible rfl
          simp only [List.getElem_toArray, List.getElem_cons_succ, List.getElem_cons_zero, Act.put, List.setIfInBounds_toArray, List.set_cons_zero, List.set_cons_succ]
          refine wpAnyH_take (i := 38) (v := ?vr38) rfl (by kernel_rfl) (by kernel_rfl) (by kernel_rfl) (fun _ _ _ h => h) (Or.inl ⟨by rfl, ?hr38⟩) (by assumption) ?_
          case hr38 => intro w hSw; (try dsimp only at hSw); go_simp; try with_reducible rfl
          simp only [List.getElem_toArray, List.getElem_cons_succ, List.getElem_cons_zero, Act.put, List.setIfInBounds_toArray, List.set_cons_zero, List.set_cons_succ]
          refine wpAnyH_take (i := 39) (v := ?vr39) rfl (by kernel_rfl) (by kernel_rfl) (by kernel_rfl) (fun _ _ _ h => h) (Or.inl ⟨by rfl, ?hr39⟩) (by assumption) ?_
          case hr39 => intro w hSw; (try dsimp only at hSw); go_simp; try with_reducible rfl
          simp only [List.getElem_toArray, List.getElem_cons_succ, List.getElem_cons_zero, Act.put, List.setIfInBounds_toArray, List.set_cons_zero, List.set_cons_succ]
          refine wpAnyH_take (i := 40) (v := ?vr40) rfl (by kernel_rfl) (by kernel_rfl) (by kernel_rfl) (fun _ _ _ h => h) (Or.inl ⟨by rfl, ?hr40⟩) (by assumption) ?_
          case hr40 => intro w hSw; (try dsimp only at hSw); go_simp; try with_reducible rfl
          simp only [List.getElem_toArray, List.getElem_cons_succ, List.getElem_cons_zero, Act.put, List.setIfInBounds_toArray, List.set_cons_zero, List.set_cons_succ]
          refine wpAnyH_take (i := 41) (v := ?vr41) rfl (by kernel_rfl) (by kernel_rfl) (by kernel_rfl) (fun _ _ _ h => h) (Or.inl ⟨by rfl, ?hr41⟩) (by assumption) ?_
          case hr41 => intro w hSw; (try dsimp only at hSw); go_simp; try with_reducible rfl
          simp only [List.getElem_toArray, List.getElem_cons_succ, List.getElem_cons_zero, Act.put, List.setIfInBounds_toArray, List.set_cons_zero, List.set_cons_succ]
          refine wpAnyH_take (i := 42) (v := ?vr42) rfl (by kernel_rfl) (by kernel_rfl) (by kernel_rfl) (fun _ _ _ h => h) (Or.inl ⟨by rfl, ?hr42⟩) (by assumption) ?_
          case hr42 => intro w hSw; (try dsimp only at hSw); go_simp; try with_reducible rfl
          simp only [List.getElem_toArray, List.getElem_cons_succ, List.getElem_cons_zero, Act.put, List.setIfInBounds_toArray, List.set_cons_zero, List.set_cons_succ]
          refine wpAnyH_take (i := 43) (v := ?vr43) rfl (by kernel_rfl) (by kernel_rfl) (by kernel_rfl) (fun _ _ _ h => h) (Or.inl ⟨by rfl, ?hr43⟩) (by assumption) ?_
          case hr43 => intro w hSw; (try dsimp only at hSw); go_simp; try with_reducible rfl
          simp only [List.getElem_toArray, List.getElem_cons_succ, List.getElem_cons_zero, Act.put, List.setIfInBounds_toArray, List.set_cons_zero, List.set_cons_succ]
          refine wpAnyH_take (i := 44) (v := ?vr44) rfl (by kernel_rfl) (by kernel_rfl) (by kernel_rfl) (fun _ _ _ h => h) (Or.inl ⟨by rfl, ?hr44⟩) (by assumption) ?_
          case hr44 => intro w hSw; (try dsimp only at hSw); go_simp; try with_reducible rfl
          simp only [List.getElem_toArray, List.getElem_cons_succ, List.getElem_cons_zero, Act.put, List.setIfInBounds_toArray, List.set_cons_zero, List.set_cons_succ]
          refine wpAnyH_take (i := 45) (v := ?vr45) rfl (by kernel_rfl) (by kernel_rfl) (by kernel_rfl) (fun _ _ _ h => h) (Or.inl ⟨by rfl, ?hr45⟩) (by assumption) ?_
          case hr45 => intro w hSw; (try dsimp only at hSw); go_simp; try with_reducible rfl
          simp only [List.getElem_toArray, List.getElem_cons_succ, List.getElem_cons_zero, Act.put, List.setIfInBounds_toArray, List.set_cons_zero, List.set_cons_succ]
          refine wpAnyH_take (i := 46) (v := ?vr46) rfl (by kernel_rfl) (by kernel_rfl) (by kernel_rfl) (fun _ _ _ h => h) (Or.inl ⟨by rfl, ?hr46⟩) (by assumption) ?_
          case hr46 => intro w hSw; (try dsimp only at hSw); go_simp; try with_reducible rfl
          simp only [List.getElem_toArray, List.getElem_cons_succ, List.getElem_cons_zero, Act.put, List.setIfInBounds_toArray, List.set_cons_zero, List.set_cons_succ]
          refine wpAnyH_take (i := 47) (v := ?vr47) rfl (by kernel_rfl) (by kernel_rfl) (by kernel_rfl) (fun _ _ _ h => h) (Or.inl ⟨by rfl, ?hr47⟩) (by assumption) ?_
          case hr47 => intro w hSw; (try dsimp only at hSw); go_simp; try with_reducible rfl
          simp only [List.getElem_toArray, List.getElem_cons_succ, List.getElem_cons_zero, Act.put, List.setIfInBounds_toArray, List.set_cons_zero, List.set_cons_succ]
          refine wpAnyH_take (i := 48) (v := ?vr48) rfl (by kernel_rfl) (by kernel_rfl) (by kernel_rfl) (fun _ _ _ h => h) (Or.inl ⟨by rfl, ?hr48⟩) (by assumption) ?_
          case hr48 => intro w hSw; (try dsimp only at hSw); go_simp; try with_reducible rfl
          simp only [List.getElem_toArray, List.getElem_cons_succ, List.getElem_cons_zero, Act.put, List.setIfInBounds_toArray, List.set_cons_zero, List.set_cons_succ]
          refine wpAnyH_done (by kernel_rfl) ?_ _
          refine NoPanic.normal ?_
          clear hHeld d0 d1 d2 d3 t1 t2 t3 t4 tw t5 t6 t7 t8 tw3 tw4 tw5
          go_wp2
          have hd4 : w4.heap[w1.heap.size]? = some (.cells #[.int .u8 (x' : Int), .int .u8 (y' : Int), .int .u8 (z' : Int), .int .i64 (m : Int)] 29) := (HB34.out.block _ hs13').trans HD3.out
          have hrow := HRW.out w4 _ _ hd4
          have hcv : ∀ q, (convert 32 9 (.slice (some ⟨w1.heap.size, 0, none⟩) m 3)).run Tryd.prog (w4.drewN q) = .ok (.string (str (nat8 E.2))) (w4.drewN q) := fun q => by
            have := run_string (some ⟨w1.heap.size, 0, none⟩) (nat8 E.2) 3 _ (w4.drewN q) (hrow.below (below_drewN (Below.refl _ _) q))
            rw [nat8_len, HM.out] at this
            exact this
          have hsl := run_first3 w1.heap.size m (by omega)
          have hpt := HP.out
          have tw : IntKind.i64.wrap ((k : Int) + 1) = (k : Int) + 1 := IntWalk.i64_in _ (by omega)
          have tw2 : IntKind.i64.wrap ((k : Int) + 1 - (m : Int)) = (k : Int) + 1 - (m : Int) := IntWalk.i64_in _ (by omega)
          have HD4 := Lib.hid hd4
          generalize str (nat8 E.2) = X at *
          clear hd4 hrow
          go_quiet (fail)
          clear hcv hsl hpt tw tw2 e0 e1 e2 e3 ecl hcl
          go_wp2
          go_roundw
          case rel =>
            refine ⟨k + 1, by omega, by go_num, ?_, below_drewN (HB13.out.trans (HB34.out.mono hs13)) _, x', y', z', ?_, ?_⟩
            · rw [HFS.out, List.length_append, HE1L.out]; go_num
            · rw [HFS.out]; show holdV (nat8 E.2) = decV x' y' z' (E.2.length : Int); rw [HM.out]; exact HD'.out
            · rw [HFS.out]; show w4.heap[w1.heap.size]? = some (.cells #[.int .u8 (x' : Int), .int .u8 (y' : Int), .int .u8 (z' : Int), .int .i64 (E.2.length : Int)] 29); rw [HM.out]; exact HD4.out
          case measure => simp [RowKit.intOf]; omega
        · obtain ⟨m, hm⟩ : ∃ m, m = E.2.length := ⟨_, rfl⟩
          have HM := Lib.hid hm.symm
          rw [← hm] at d3 hE3 hEk HR HD' HP HD3 hEc
          clear hm
          have t4 : decide ((s[k].toNat : Int) < 128) = false := decide_eq_false (by omega)
          have t1 : decide ((m : Int) < 0) = false := decide_eq_false (by omega)
          have t2 : decide ((3 : Int) < (m : Int)) = false := decide_eq_false (by omega)
          have t3 : decide ((k : Int) + 1 < (m : Int)) = false := decide_eq_false (by omega)
          have tw : IntKind.i64.wrap ((k : Int) + 1) = (k : Int) + 1 := IntWalk.i64_in _ (by omega)
          refine wp_region_noPanic ?_
          refine wp_region_held_drew (S := fun w' => w'.cell? ⟨w1.heap.size, 0, none⟩ = some (.int .u8 (x' : Int)) ∧ w'.cell? ⟨w1.heap.size, 1, none⟩ = some (.int .u8 (y' : Int)) ∧ w'.cell? ⟨w1.heap.size, 2, none⟩ = some (.int .u8 (z' : Int)) ∧ w'.cell? ⟨w1.heap.size, 3, none⟩ = some (.int .i64 (m : Int))) (by kernel_rfl) ⟨d0, d1, d2, d3⟩ (fun hHeld => ?_)
          refine wpAnyH_take (i := 0) (v := ?vd0) rfl (by kernel_rfl) (by kernel_rfl) (by kernel_rfl) (fun _ _ _ h => h) (Or.inl ⟨by rfl, ?hd0⟩) (by assumption) ?_
          case hd0 => intro w hSw; (try dsimp only at hSw); go_simp; try with_reducible rfl
          simp only [List.getElem_toArray, List.getElem_cons_zero, Act.put, List.setIfInBounds_toArray, List.set_cons_zero, List.set_cons_succ]
          refine wpAnyH_ready (rs := [1]) (by kernel_rfl) (by simp) ?_
          refine AllReadyH.cons rfl (fun K hK => ?_) AllReadyH.nil
          go_simp
          have hdrew : Below w3.heap.size w3 w3.drew := (Below.refl _ w3).drew
          refine (HR.out w3.drew (HTW.out.on hdrew HTW.out.room)).mono ?_
          rintro e w4 ⟨rfl, hb4⟩
          have hb34 : Below w3.heap.size w3 w4 := hdrew.trans hb4
          have e0 := (hb34.cell (World.block_lt_of_cell? w3 _ d0)).trans d0
          have e1 := (hb34.cell (World.block_lt_of_cell? w3 _ d1)).trans d1
          have e2 := (hb34.cell (World.block_lt_of_cell? w3 _ d2)).trans d2
          have e3 := (hb34.cell (World.block_lt_of_cell? w3 _ d3)).trans d3
          have HB34 := Lib.hid hb34
          clear hdrew hb4 hb34
          dsimp only
          refine hK.out _ _ ?_ (fun hHeld => ?_)
          · exact ⟨e0, e1, e2, e3⟩
          clear hK K
          refine wpAnyH_take (i := 2) (v := ?ve2) rfl (by kernel_rfl) (by kernel_rfl) (by kernel_rfl) (fun _ _ _ h => h) (Or.inl ⟨by rfl, ?he2⟩) (by assumption) ?_
          case he2 => intro w hSw; (try dsimp only at hSw); go_simp; try with_reducible rfl
          simp only [List.getElem_toArray, List.getElem_cons_succ, List.getElem_cons_zero, Act.put, List.setIfInBounds_toArray, List.set_cons_zero, List.set_cons_succ]
          refine wpAnyH_take (i := 3) (v := ?ve3) rfl (by kernel_rfl) (by kernel_rfl) (by kernel_rfl) (fun _ _ _ h => h) (Or.inl ⟨by rfl, ?he3⟩) (by assumption) ?_
          case he3 => intro w hSw; (try dsimp only at hSw); go_simp; try with_reducible rfl
          simp only [List.getElem_toArray, List.getElem_cons_succ, List.getElem_cons_zero, Act.put, List.setIfInBounds_toArray, List.set_cons_zero, List.set_cons_succ]
          refine wpAnyH_take (i := 4) (v := ?ve4) rfl (by kernel_rfl) (by kernel_rfl) (by kernel_rfl) (fun _ _ _ h => h) (Or.inl ⟨by rfl, ?he4⟩) (by assumption) ?_
          case he4 => intro w hSw; (try dsimp only at hSw); go_simp; try with_reducible rfl
          simp only [List.getElem_toArray, List.getElem_cons_succ, List.getElem_cons_zero, Act.put, List.setIfInBounds_toArray, List.set_cons_zero, List.set_cons_succ]
          refine wpAnyH_take (i := 5) (v := ?ve5) rfl (by kernel_rfl) (by kernel_rfl) (by kernel_rfl) (fun _ _ _ h => h) (Or.inl ⟨by rfl, ?he5⟩) (by assumption) ?_
          case he5 => intro w hSw; (try dsimp only at hSw); go_simp; try with_reducible rfl
          simp only [List.getElem_toArray, List.getElem_cons_succ, List.getElem_cons_zero, Act.put, List.setIfInBounds_toArray, List.set_cons_zero, List.set_cons_succ]
          refine wpAnyH_take (i := 6) (v := ?ve6) rfl (by kernel_rfl) (by kernel_rfl) (by kernel_rfl) (fun _ _ _ h => h) (Or.inl ⟨by rfl, ?he6⟩) (by assumption) ?_
          case he6 => intro w hSw; (try dsimp only at hSw); go_simp; try with_reducible rfl
          simp only [List.getElem_toArray, List.getElem_cons_succ, List.getElem_cons_zero, Act.put, List.setIfInBounds_toArray, List.set_cons_zero, List.set_cons_succ]
          refine wpAnyH_take (i := 7) (v := ?ve7) rfl (by kernel_rfl) (by kernel_rfl) (by kernel_rfl) (fun _ _ _ h => h) (Or.inl ⟨by rfl, ?he7⟩) (by assumption) ?_
          case he7 => intro w hSw; (try dsimp only at hSw); go_simp; try with_reducible rfl
          simp only [List.getElem_toArray, List.getElem_cons_succ, List.getElem_cons_zero, Act.put, List.setIfInBounds_toArray, List.set_cons_zero, List.set_cons_succ]
          refine wpAnyH_take (i := 8) (v := ?ve8) rfl (by kernel_rfl) (by kernel_rfl) (by kernel_rfl) (fun _ _ _ h => h) (Or.inl ⟨by rfl, ?he8⟩) (by assumption) ?_
          case he8 => intro w hSw; (try dsimp only at hSw); go_simp; try with_reducible rfl
          simp only [List.getElem_toArray, List.getElem_cons_succ, List.getElem_cons_zero, Act.put, List.setIfInBounds_toArray, List.set_cons_zero, List.set_cons_succ]
          refine wpAnyH_take (i := 9) (v := ?ve9) rfl (by kernel_rfl) (by kernel_rfl) (by kernel_rfl) (fun _ _ _ h => h) (Or.inl ⟨by rfl, ?he9⟩) (by assumption) ?_
          case he9 => intro w hSw; (try dsimp only at hSw); go_simp; try with_reducible rfl
          simp only [List.getElem_toArray, List.getElem_cons_succ, List.getElem_cons_zero, Act.put, List.setIfInBounds_toArray, List.set_cons_zero, List.set_cons_succ]
          refine wpAnyH_take (i := 10) (v := ?ve10) rfl (by kernel_rfl) (by kernel_rfl) (by kernel_rfl) (fun _ _ _ h => h) (Or.inl ⟨by rfl, ?he10⟩) (by assumption) ?_
          case he10 => intro w hSw; (try dsimp only at hSw); go_simp; try with_reducible rfl
          simp only [List.getElem_toArray, List.getElem_cons_succ, List.getElem_cons_zero, Act.put, List.setIfInBounds_toArray, List.set_cons_zero, List.set_cons_succ]
          refine wpAnyH_take (i := 11) (v := ?ve11) rfl (by kernel_rfl) (by kernel_rfl) (by kernel_rfl) (fun _ _ _ h => h) (Or.inl ⟨by rfl, ?he11⟩) (by assumption) ?_
          case he11 => intro w hSw; (try dsimp only at hSw); go_simp; try with_reducible rfl
          simp only [List.getElem_toArray, List.getElem_cons_succ, List.getElem_cons_zero, Act.put, List.setIfInBounds_toArray, List.set_cons_zero, List.set_cons_succ]
          refine wpAnyH_take (i := 12) (v := ?ve12) rfl (by kernel_rfl) (by kernel_rfl) (by kernel_rfl) (fun _ _ _ h => h) (Or.inl ⟨by rfl, ?he12⟩) (by assumption) ?_
          case he12 => intro w hSw; (try dsimp only at hSw); go_simp; try with_reducible rfl
          simp only [List.getElem_toArray, List.getElem_cons_succ, List.getElem_cons_zero, Act.put, List.setIfInBounds_toArray, List.set_cons_zero, List.set_cons_succ]
          refine wpAnyH_take (i := 13) (v := ?ve13) rfl (by kernel_rfl) (by kernel_rfl) (by kernel_rfl) (fun _ _ _ h => h) (Or.inl ⟨by rfl, ?he13⟩) (by assumption) ?_
          case he13 => intro w hSw; (try dsimp only at hSw); go_simp; try with_reducible rfl
          simp only [List.getElem_toArray, List.getElem_cons_succ, List.getElem_cons_zero, Act.put, List.setIfInBounds_toArray, List.set_cons_zero, List.set_cons_succ]
          refine wpAnyH_take (i := 14) (v := ?ve14) rfl (by kernel_rfl) (by kernel_rfl) (by kernel_rfl) (fun _ _ _ h => h) (Or.inl ⟨by rfl, ?he14⟩) (by assumption) ?_
          case he14 => intro w hSw; (try dsimp only at hSw); go_simp; try with_reducible rfl
          simp only [List.getElem_toArray, List.getElem_cons_succ, List.getElem_cons_zero, Act.put, List.setIfInBounds_toArray, List.set_cons_zero, List.set_cons_succ]
          refine wpAnyH_take (i := 15) (v := ?ve15) rfl (by kernel_rfl) (by kernel_rfl) (by kernel_rfl) (fun _ _ _ h => h) (Or.inl ⟨by rfl, ?he15⟩) (by assumption) ?_
          case he15 => intro w hSw; (try dsimp only at hSw); go_simp; try with_reducible rfl
          simp only [List.getElem_toArray, List.getElem_cons_succ, List.getElem_cons_zero, Act.put, List.setIfInBounds_toArray, List.set_cons_zero, List.set_cons_succ]
          refine wpAnyH_take (i := 16) (v := ?ve16) rfl (by kernel_rfl) (by kernel_rfl) (by kernel_rfl) (fun _ _ _ h => h) (Or.inl ⟨by rfl, ?he16⟩) (by assumption) ?_
          case he16 => intro w hSw; (try dsimp only at hSw); go_simp; try with_reducible rfl
          simp only [List.getElem_toArray, List.getElem_cons_succ, List.getElem_cons_zero, Act.put, List.setIfInBounds_toArray, List.set_cons_zero, List.set_cons_succ]
          refine wpAnyH_take (i := 17) (v := ?ve17) rfl (by kernel_rfl) (by kernel_rfl) (by kernel_rfl) (fun _ _ _ h => h) (Or.inl ⟨by rfl, ?he17⟩) (by assumption) ?_
          case he17 => intro w hSw; (try dsimp only at hSw); go_simp; try with_reducible rfl
          simp only [List.getElem_toArray, List.getElem_cons_succ, List.getElem_cons_zero, Act.put, List.setIfInBounds_toArray, List.set_cons_zero, List.set_cons_succ]
          refine wpAnyH_take (i := 18) (v := ?ve18) rfl (by kernel_rfl) (by kernel_rfl) (by kernel_rfl) (fun _ _ _ h => h) (Or.inl ⟨by rfl, ?he18⟩) (by assumption) ?_
          case he18 => intro w hSw; (try dsimp only at hSw); go_simp; try with_reducible rfl
          simp only [List.getElem_toArray, List.getElem_cons_succ, List.getElem_cons_zero, Act.put, List.setIfInBounds_toArray, List.set_cons_zero, List.set_cons_succ]
          refine wpAnyH_take (i := 19) (v := ?ve19) rfl (by kernel_rfl) (by kernel_rfl) (by kernel_rfl) (fun _ _ _ h => h) (Or.inl ⟨by rfl, ?he19⟩) (by assumption) ?_
          case he19 => intro w hSw; (try dsimp only at hSw); go_simp; try with_reducible rfl
          simp only [List.getElem_toArray, List.getElem_cons_succ, List.getElem_cons_zero, Act.put, List.setIfInBounds_toArray, List.set_cons_zero, List.set_cons_succ]
          refine wpAnyH_take (i := 20) (v := ?ve20) rfl (by kernel_rfl) (by kernel_rfl) (by kernel_rfl) (fun _ _ _ h => h) (Or.inl ⟨by rfl, ?he20⟩) (by assumption) ?_
          case he20 => intro w hSw; (try dsimp only at hSw); go_simp; try with_reducible rfl
          simp only [List.getElem_toArray, List.getElem_cons_succ, List.getElem_cons_zero, Act.put, List.setIfInBounds_toArray, List.set_cons_zero, List.set_cons_succ]
          refine wpAnyH_take (i := 21) (v := ?ve21) rfl (by kernel_rfl) (by kernel_rfl) (by kernel_rfl) (fun _ _ _ h => h) (Or.inl ⟨by rfl, ?he21⟩) (by assumption) ?_
          case he21 => intro w hSw; (try dsimp only at hSw); go_simp; try with_reducible rfl
          simp only [List.getElem_toArray, List.getElem_cons_succ, List.getElem_cons_zero, Act.put, List.setIfInBounds_toArray, List.set_cons_zero, List.set_cons_succ]
          refine wpAnyH_take (i := 22) (v := ?ve22) rfl (by kernel_rfl) (by kernel_rfl) (by kernel_rfl) (fun _ _ _ h => h) (Or.inl ⟨by rfl, ?he22⟩) (by assumption) ?_
          case he22 => intro w hSw; (try dsimp only at hSw); go_simp; try with_reducible rfl
          simp only [List.getElem_toArray, List.getElem_cons_succ, List.getElem_cons_zero, Act.put, List.setIfInBounds_toArray, List.set_cons_zero, List.set_cons_succ]
          refine wpAnyH_take (i := 23) (v := ?ve23) rfl (by kernel_rfl) (by kernel_rfl) (by kernel_rfl) (fun _ _ _ h => h) (Or.inl ⟨by rfl, ?he23⟩) (by assumption) ?_
          case he23 => intro w hSw; (try dsimp only at hSw); go_simp; try with_reducible rfl
          simp only [List.getElem_toArray, List.getElem_cons_succ, List.getElem_cons_zero, Act.put, List.setIfInBounds_toArray, List.set_cons_zero, List.set_cons_succ]
          refine wpAnyH_take (i := 24) (v := ?ve24) rfl (by kernel_rfl) (by kernel_rfl) (by kernel_rfl) (fun _ _ _ h => h) (Or.inl ⟨by rfl, ?he24⟩) (by assumption) ?_
          case he24 => intro w hSw; (try dsimp only at hSw); go_simp; try with_reducible rfl
          simp only [List.getElem_toArray, List.getElem_cons_succ, List.getElem_cons_zero, Act.put, List.setIfInBounds_toArray, List.set_cons_zero, List.set_cons_succ]
          refine wpAnyH_take (i := 25) (v := ?ve25) rfl (by kernel_rfl) (by kernel_rfl) (by kernel_rfl) (fun _ _ _ h => h) (Or.inl ⟨by rfl, ?he25⟩) (by assumption) ?_
          case he25 => intro w hSw; (try dsimp only at hSw); go_simp; try with_reducible rfl
          simp only [List.getElem_toArray, List.getElem_cons_succ, List.getElem_cons_zero, Act.put, List.setIfInBounds_toArray, List.set_cons_zero, List.set_cons_succ]
          refine wpAnyH_take (i := 26) (v := undef) rfl (by kernel_rfl) (by kernel_rfl) (by kernel_rfl) (fun _ _ _ h => h) (Or.inr ⟨by rfl, rfl⟩) (by assumption) ?_
          simp only [List.getElem_toArray, List.getElem_cons_succ, List.getElem_cons_zero, Act.put, List.setIfInBounds_toArray, List.set_cons_zero, List.set_cons_succ]
          refine wpAnyH_take (i := 27) (v := undef) rfl (by kernel_rfl) (by kernel_rfl) (by kernel_rfl) (fun _ _ _ h => h) (Or.inr ⟨by rfl, rfl⟩) (by assumption) ?_
          simp only [List.getElem_toArray, List.getElem_cons_succ, List.getElem_cons_zero, Act.put, List.setIfInBounds_toArray, List.set_cons_zero, List.set_cons_succ]
          refine wpAnyH_take (i := 28) (v := undef) rfl (by kernel_rfl) (by kernel_rfl) (by kernel_rfl) (fun _ _ _ h => h) (Or.inr ⟨by rfl, rfl⟩) (by assumption) ?_
          simp only [List.getElem_toArray, List.getElem_cons_succ, List.getElem_cons_zero, Act.put, List.setIfInBounds_toArray, List.set_cons_zero, List.set_cons_succ]
          refine wpAnyH_take (i := 29) (v := undef) rfl (by kernel_rfl) (by kernel_rfl) (by kernel_rfl) (fun _ _ _ h => h) (Or.inr ⟨by rfl, rfl⟩) (by assumption) ?_
          simp only [List.getElem_toArray, List.getElem_cons_succ, List.getElem_cons_zero, Act.put, List.setIfInBounds_toArray, List.set_cons_zero, List.set_cons_succ]
          refine wpAnyH_take (i := 30) (v := undef) rfl (by kernel_rfl) (by kernel_rfl) (by kernel_rfl) (fun _ _ _ h => h) (Or.inr ⟨by rfl, rfl⟩) (by assumption) ?_
          simp only [List.getElem_toArray, List.getElem_cons_succ, List.getElem_cons_zero, Act.put, List.setIfInBounds_toArray, List.set_cons_zero, List.set_cons_succ]
          refine wpAnyH_take (i := 31) (v := undef) rfl (by kernel_rfl) (by kernel_rfl) (by kernel_rfl) (fun _ _ _ h => h) (Or.inr ⟨by rfl, rfl⟩) (by assumption) ?_
          simp only [List.getElem_toArray, List.getElem_cons_succ, List.getElem_cons_zero, Act.put, List.setIfInBounds_toArray, List.set_cons_zero, List.set_cons_succ]
          refine wpAnyH_take (i := 32) (v := undef) rfl (by kernel_rfl) (by kernel_rfl) (by kernel_rfl) (fun _ _ _ h => h) (Or.inr ⟨by rfl, rfl⟩) (by assumption) ?_
          simp only [List.getElem_toArray, List.getElem_cons_succ, List.getElem_cons_zero, Act.put, List.setIfInBounds_toArray, List.set_cons_zero, List.set_cons_succ]
          refine wpAnyH_take (i := 33) (v := undef) rfl (by kernel_rfl) (by kernel_rfl) (by kernel_rfl) (fun _ _ _ h => h) (Or.inr ⟨by rfl, rfl⟩) (by assumption) ?_
          simp only [List.getElem_toArray, List.getElem_cons_succ, List.getElem_cons_zero, Act.put, List.setIfInBounds_toArray, List.set_cons_zero, List.set_cons_succ]
          refine wpAnyH_take (i := 34) (v := undef) rfl (by kernel_rfl) (by kernel_rfl) (by kernel_rfl) (fun _ _ _ h => h) (Or.inr ⟨by rfl, rfl⟩) (by assumption) ?_
          simp only [List.getElem_toArray, List.getElem_cons_succ, List.getElem_cons_zero, Act.put, List.setIfInBounds_toArray, List.set_cons_zero, List.set_cons_succ]
          refine wpAnyH_take (i := 35) (v := undef) rfl (by kernel_rfl) (by kernel_rfl) (by kernel_rfl) (fun _ _ _ h => h) (Or.inr ⟨by rfl, rfl⟩) (by assumption) ?_
          simp only [List.getElem_toArray, List.getElem_cons_succ, List.getElem_cons_zero, Act.put, List.setIfInBounds_toArray, List.set_cons_zero, List.set_cons_succ]
          refine wpAnyH_take (i := 36) (v := undef) rfl (by kernel_rfl) (by kernel_rfl) (by kernel_rfl) (fun _ _ _ h => h) (Or.inr ⟨by rfl, rfl⟩) (by assumption) ?_
          simp only [List.getElem_toArray, List.getElem_cons_succ, List.getElem_cons_zero, Act.put, List.setIfInBounds_toArray, List.set_cons_zero, List.set_cons_succ]
          refine wpAnyH_take (i := 37) (v := undef) rfl (by kernel_rfl) (by kernel_rfl) (by kernel_rfl) (fun _ _ _ h => h) (Or.inr ⟨by rfl, rfl⟩) (by assumption) ?_
          simp only [List.getElem_toArray, List.getElem_cons_succ, List.getElem_cons_zero, Act.put, List.setIfInBounds_toArray, List.set_cons_zero, List.set_cons_succ]
          refine wpAnyH_take (i := 38) (v := undef) rfl (by kernel_rfl) (by kernel_rfl) (by kernel_rfl) (fun _ _ _ h => h) (Or.inr ⟨by rfl, rfl⟩) (by assumption) ?_
          simp only [List.getElem_toArray, List.getElem_cons_succ, List.getElem_cons_zero, Act.put, List.setIfInBounds_toArray, List.set_cons_zero, List.set_cons_succ]
          refine wpAnyH_take (i := 39) (v := undef) rfl (by kernel_rfl) (by kernel_rfl) (by kernel_rfl) (fun _ _ _ h => h) (Or.inr ⟨by rfl, rfl⟩) (by assumption) ?_
          simp only [List.getElem_toArray, List.getElem_cons_succ, List.getElem_cons_zero, Act.put, List.setIfInBounds_toArray, List.set_cons_zero, List.set_cons_succ]
          refine wpAnyH_take (i := 40) (v := undef) rfl (by kernel_rfl) (by kernel_rfl) (by kernel_rfl) (fun _ _ _ h => h) (Or.inr ⟨by rfl, rfl⟩) (by assumption) ?_
          simp only [List.getElem_toArray, List.getElem_cons_succ, List.getElem_cons_zero, Act.put, List.setIfInBounds_toArray, List.set_cons_zero, List.set_cons_succ]
          refine wpAnyH_take (i := 41) (v := undef) rfl (by kernel_rfl) (by kernel_rfl) (by kernel_rfl) (fun _ _ _ h => h) (Or.inr ⟨by rfl, rfl⟩) (by assumption) ?_
          simp only [List.getElem_toArray, List.getElem_cons_succ, List.getElem_cons_zero, Act.put, List.setIfInBounds_toArray, List.set_cons_zero, List.set_cons_succ]
          refine wpAnyH_take (i := 42) (v := undef) rfl (by kernel_rfl) (by kernel_rfl) (by kernel_rfl) (fun _ _ _ h => h) (Or.inr ⟨by rfl, rfl⟩) (by assumption) ?_
          simp only [List.getElem_toArray, List.getElem_cons_succ, List.getElem_cons_zero, Act.put, List.setIfInBounds_toArray, List.set_cons_zero, List.set_cons_succ]
          refine wpAnyH_take (i := 43) (v := undef) rfl (by kernel_rfl) (by kernel_rfl) (by kernel_rfl) (fun _ _ _ h => h) (Or.inr ⟨by rfl, rfl⟩) (by assumption) ?_
          simp only [List.getElem_toArray, List.getElem_cons_succ, List.getElem_cons_zero, Act.put, List.setIfInBounds_toArray, List.set_cons_zero, List.set_cons_succ]
          refine wpAnyH_take (i := 44) (v := undef) rfl (by kernel_rfl) (by kernel_rfl) (by kernel_rfl) (fun _ _ _ h => h) (Or.inr ⟨by rfl, rfl⟩) (by assumption) ?_
          simp only [List.getElem_toArray, List.getElem_cons_succ, List.getElem_cons_zero, Act.put, List.setIfInBounds_toArray, List.set_cons_zero, List.set_cons_succ]
          refine wpAnyH_take (i := 45) (v := undef) rfl (by kernel_rfl) (by kernel_rfl) (by kernel_rfl) (fun _ _ _ h => h) (Or.inr ⟨by rfl, rfl⟩) (by assumption) ?_
          simp only [List.getElem_toArray, List.getElem_cons_succ, List.getElem_cons_zero, Act.put, List.setIfInBounds_toArray, List.set_cons_zero, List.set_cons_succ]
          refine wpAnyH_take (i := 46) (v := undef) rfl (by kernel_rfl) (by kernel_rfl) (by kernel_rfl) (fun _ _ _ h => h) (Or.inr ⟨by rfl, rfl⟩) (by assumption) ?_
          simp only [List.getElem_toArray, List.getElem_cons_succ, List.getElem_cons_zero, Act.put, List.setIfInBounds_toArray, List.set_cons_zero, List.set_cons_succ]
          refine wpAnyH_take (i := 47) (v := ?vf47) rfl (by kernel_rfl) (by kernel_rfl) (by kernel_rfl) (fun _ _ _ h => h) (Or.inl ⟨by rfl, ?hf47⟩) (by assumption) ?_
          case hf47 => intro w hSw; (try dsimp only at hSw); go_simp; try with_reducible rfl
          simp only [List.getElem_toArray, List.getElem_cons_succ, List.getElem_cons_zero, Act.put, List.setIfInBounds_toArray, List.set_cons_zero, List.set_cons_succ]
          refine wpAnyH_take (i := 48) (v := ?vf48) rfl (by kernel_rfl) (by kernel_rfl) (by kernel_rfl) (fun _ _ _ h => h) (Or.inl ⟨by rfl, ?hf48⟩) (by assumption) ?_
          case hf48 => intro w hSw; (try dsimp only at hSw); go_simp; try with_reducible rfl
          simp only [List.getElem_toArray, List.getElem_cons_succ, List.getElem_cons_zero, Act.put, List.setIfInBounds_toArray, List.set_cons_zero, List.set_cons_succ]
          refine wpAnyH_done (by kernel_rfl) ?_ _
          refine NoPanic.normal ?_
          clear hHeld d0 d1 d2 d3 t1 t2 t3 t4 tw
          go_wp2
          have hd4 : w4.heap[w1.heap.size]? = some (.cells #[.int .u8 (x' : Int), .int .u8 (y' : Int), .int .u8 (z' : Int), .int .i64 (m : Int)] 29) := (HB34.out.block _ hs13').trans HD3.out
          have hrow := HRW.out w4 _ _ hd4
          have hcv : ∀ q, (convert 32 9 (.slice (some ⟨w1.heap.size, 0, none⟩) m 3)).run Tryd.prog (w4.drewN q) = .ok (.string (str (nat8 E.2))) (w4.drewN q) := fun q => by
            have := run_string (some ⟨w1.heap.size, 0, none⟩) (nat8 E.2) 3 _ (w4.drewN q) (hrow.below (below_drewN (Below.refl _ _) q))
            rw [nat8_len, HM.out] at this
            exact this
          have hsl := run_first3 w1.heap.size m (by omega)
          have hpt := HP.out
          have tw : IntKind.i64.wrap ((k : Int) + 1) = (k : Int) + 1 := IntWalk.i64_in _ (by omega)
          have tw2 : IntKind.i64.wrap ((k : Int) + 1 - (m : Int)) = (k : Int) + 1 - (m : Int) := IntWalk.i64_in _ (by omega)
          have HD4 := Lib.hid hd4
          generalize str (nat8 E.2) = X at *
          clear hd4 hrow
          go_quiet (fail)
          clear hcv hsl hpt tw tw2 e0 e1 e2 e3
          go_wp2
          go_roundw
          case rel =>
            refine ⟨k + 1, by omega, by go_num, ?_, below_drewN (HB13.out.trans (HB34.out.mono hs13)) _, x', y', z', ?_, ?_⟩
            · rw [HFS.out, List.length_append, Int.natCast_add]
            · rw [HFS.out]; show holdV (nat8 E.2) = decV x' y' z' (E.2.length : Int); rw [HM.out]; exact HD'.out
            · rw [HFS.out]; show w4.heap[w1.heap.size]? = some (.cells #[.int .u8 (x' : Int), .int .u8 (y' : Int), .int .u8 (z' : Int), .int .i64 (E.2.length : Int)] 29); rw [HM.out]; exact HD4.out
          case measure => simp [RowKit.intOf]; omega
      · have htk : (bytesOf s).take k = bytesOf s := List.take_of_length_le (by rw [bytes_len]; omega)
        rw [htk] at hd hblk ⊢
        have hu3 := UM.full_long (UM.feeds_left (bytesOf s) [] UM.full_nil)
        have hall := UM.feeds_all (bytesOf s)
        have htl := told_le s k (by omega)
        rw [htk] at htl
        have hcall := flush1_ok wr _ hu3
        rw [hd] at hcall
        obtain ⟨m, hm⟩ : ∃ m, m = (UM.feeds [] (bytesOf s)).2.length := ⟨_, rfl⟩
        obtain ⟨t, ht⟩ : ∃ t, t = (UM.feeds [] (bytesOf s)).1.length := ⟨_, rfl⟩
        have hlen : (JM.runes (bytesOf s)).length = t + m := by rw [hall, List.length_append, List.length_replicate, ht, hm]
        rw [← hm] at hblk hcall hu3
        rw [← ht] at htl ⊢
        have d0 : wr.cell? ⟨w1.heap.size, 0, none⟩ = some (.int .u8 (x : Int)) := by simp only [World.cell?, hblk]; rfl
        have d1 : wr.cell? ⟨w1.heap.size, 1, none⟩ = some (.int .u8 (y : Int)) := by simp only [World.cell?, hblk]; rfl
        have d2 : wr.cell? ⟨w1.heap.size, 2, none⟩ = some (.int .u8 (z : Int)) := by simp only [World.cell?, hblk]; rfl
        have d3 : wr.cell? ⟨w1.heap.size, 3, none⟩ = some (.int .i64 (m : Int)) := by simp only [World.cell?, hblk]; rfl
        have HC := Lib.hid hcall; have HLN := Lib.hid hlen
        clear hcall hd hblk hall hlen hm ht htk
        unfold decV at HC
        go_wp2_with fail
        refine HC.out.mono ?_
        rintro e w2 ⟨v2, rfl, ho2, hb2⟩
        rw [show holdV [] = (.agg #[.int .u8 0, .int .u8 0, .int .u8 0, .int .i64 0] : Value) from rfl]
        obtain ⟨A2, k2, hv2, _, _, _, hr2⟩ := ho2.form
        rw [List.length_replicate] at hv2
        obtain ⟨w3, hw3⟩ : ∃ w3, w3 = w2.alloc (.cells #[.int .u8 0, .int .u8 0, .int .u8 0, .int .i64 0] 29) := ⟨_, rfl⟩
        have hb23 : Below w2.heap.size w2 w3 := by rw [hw3]; exact (Below.refl _ _).alloc (Nat.le_refl _) _
        have hd3 : w3.heap[w2.heap.size]? = some (.cells #[.int .u8 0, .int .u8 0, .int .u8 0, .int .i64 0] 29) := by rw [hw3]; exact (MapKept.heap_alloc w2 _).1
        have hr3 := hr2.below hb23
        have HB3 := Lib.hid (HA.out.below.trans ((below_next hb2 hb23).mono hsz))
        have HW3 := Lib.hid hw3; have HR3 := Lib.hid hr3
        have e0 : w3.cell? ⟨w2.heap.size, 0, none⟩ = some (.int .u8 0) := by simp only [World.cell?, hd3]; rfl
        have e1 : w3.cell? ⟨w2.heap.size, 1, none⟩ = some (.int .u8 0) := by simp only [World.cell?, hd3]; rfl
        have e2 : w3.cell? ⟨w2.heap.size, 2, none⟩ = some (.int .u8 0) := by simp only [World.cell?, hd3]; rfl
        have e3 : w3.cell? ⟨w2.heap.size, 3, none⟩ = some (.int .i64 0) := by simp only [World.cell?, hd3]; rfl
        subst hv2
        clear ho2 hb2 hr2 hw3 hb23 hd3 hr3 d0 d1 d2 d3
        go_upto_region 20 with fail
        rw [← HW3.out]
        go_wp2
        go_loop [108] (fun i => ∃ j : Nat, j ≤ m ∧ i = .int .i64 (j : Int)) (fun i => m - (RowKit.intOf i).toNat)
        case atStart => exact ⟨0, Nat.zero_le _, rfl⟩
        case round =>
          obtain ⟨j, hj, rfl⟩ := hrel
          by_cases hjm : j < m
          · obtain ⟨b, off, rfl, _, hcj⟩ := HR3.out.at_ (j := j) (by rw [List.length_replicate]; exact hjm)
            have hgj : (List.replicate m 65533).getD j 0 = 65533 := by simp [hjm]
            rw [hgj] at hcj
            go_wp2
            go_round
            case rel => exact ⟨j + 1, by omega, by go_num⟩
            case measure => simp [RowKit.intOf]; omega
          · obtain ⟨A4, k4, w4, hrun, hb4, _⟩ := run_runes w3 s (by omega)
            rw [HLN.out] at hrun
            have heq := run_eq3 w3 0 0 0 0 0 0
            rw [show decide ((0 : Int) = 0 ∧ (0 : Int) = 0 ∧ (0 : Int) = 0) = true from rfl] at heq
            have HB4 := Lib.hid (HB3.out.trans (hb4.mono HB3.out.size))
            clear hb4
            go_wp2
            go_ret
            exact ⟨rfl, HB1.out.trans (HB4.out.mono HB1.out.size)⟩
end Go.Proofs.YtdolekmifnenhaaDoor.utfFeeds
