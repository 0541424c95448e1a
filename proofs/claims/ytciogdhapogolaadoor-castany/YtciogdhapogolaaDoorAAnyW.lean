/-
  CastAny's walk: any text is what is exported of the numbers and the right list that are told, or of none.
-/
import Derived.Test.YtciogdhapogolaaDoorAFit
import Derived.Test.YtciogdhapogolaaDoorAWhole
import Derived.Test.YtciogdhapogolaaDoorAImp
import Derived.Test.YtciogdhapogolaaDoorAWrite
import Derived.Test.YtciogdhapogolaaDoorERList
set_option linter.unusedVariables false
namespace Go.Proofs.YtciogdhapogolaaDoor.castAny
open Go.RowKit Go.Lib EM
set_option maxRecDepth 100000

theorem big (s : ByteArray) (w : World) (h : 2000 < s.size) (hF : Fms w) :
    Calls Tryd.prog 5 #[.string s] w fun e w' => e = .returned (.bool true) ∧ Below w.heap.size w w' := by
  have g : decide ((2000 : Int) < (s.size : Int)) = true := by simp; omega
  have HF := Lib.hid (afit_ok w hF)
  clear h hF
  go_enter Tryd.func5, Tryd.ntmps5
  go_wp2_with fail
  refine HF.out.mono ?_
  rintro e w1 ⟨rfl, b1⟩
  have HB1 := Lib.hid b1
  clear b1
  go_wp2_with fail
  go_ret
  exact ⟨rfl, HB1.out⟩

set_option maxHeartbeats 4000000 in
theorem core (HIMP : ImpSpec) (S : List UInt8) (w : World) (hS : S.length ≤ 2000) (hF : Fms w) (hN : Num w) (hU : Utf w) :
    Calls Tryd.prog 5 #[.string (tx S)] w fun e w' => e = .returned (.bool true) ∧ Below w.heap.size w w' := by
  have g : decide ((2000 : Int) < (S.length : Int)) = false := by simp; omega
  have g' : decide (2000 < S.length) = false := by simp; omega
  have HFit := Lib.hid (afit_ok w hF)
  have HIS := Lib.hid HIMP
  have HF := Lib.hid hF
  have HN := Lib.hid hN
  have HU := Lib.hid hU
  clear hF hN hU HIMP
  go_enter Tryd.func5, Tryd.ntmps5
  go_wp2_with fail
  refine HFit.out.mono ?_
  rintro e wf ⟨rfl, b1⟩
  have HBF := Lib.hid b1
  have hzf := b1.size
  clear b1 HFit
  cases hI : AM.imp S with
  | none =>
    have HI := Lib.hid (HIS.out.none (w := wf) (by omega) (HF.out.on HBF.out) (HN.out.on HBF.out) (HU.out.on HBF.out) hI)
    clear hI
    go_wp2_with fail
    refine HI.out.mono ?_
    rintro e wi ⟨A, c, rfl, bI⟩
    have HB := Lib.hid (below_next HBF.out bI)
    clear bI HI
    go_wp2_with fail
    go_ret
    exact ⟨by simp, HB.out⟩
  | some p =>
    obtain ⟨x, y, l⟩ := p
    have HI := Lib.hid (HIS.out.some (w := wf) (by omega) (HF.out.on HBF.out) (HN.out.on HBF.out) (HU.out.on HBF.out) hI)
    obtain ⟨hcast, hlist, hutf, hx, hy⟩ := AM.imp_back hI
    have hll : l.length ≤ 2000 := by
      have := AM.cast_ge x y l
      rw [hcast] at this
      omega
    have HC := Lib.hid hcast
    have HL := Lib.hid hlist
    have HUT := Lib.hid hutf
    clear hI hcast hlist hutf
    go_wp2_with fail
    refine HI.out.mono ?_
    rintro e wi ⟨A, c, rfl, -, hrI, bI⟩
    have HB := Lib.hid (below_next HBF.out bI)
    have HR := Lib.hid hrI
    have hzi := bI.size
    clear bI HI hrI
    have gx : decide ((0 : Int) ≤ (x : Int)) = true := by simp
    have gy : decide ((0 : Int) ≤ (y : Int)) = true := by simp
    go_wp2_with fail
    go_loopw [40] (fun i wr => ∃ k : Nat, k ≤ l.length ∧ i = .int .i64 (k : Int) ∧ Below wi.heap.size wi wr) (fun i _ => l.length - (RowKit.intOf i).toNat)
    case atStart => exact ⟨0, Nat.zero_le _, rfl, Below.refl _ _⟩
    case round =>
      obtain ⟨k, hk, rfl, hb⟩ := hrel
      have HBR := Lib.hid hb
      have hz := hb.size
      clear hb
      by_cases hlt : k < l.length
      · have g1 : decide ((k : Int) < (l.length : Int)) = true := by simp; omega
        have gn : decide (k < l.length) = true := by simp; omega
        obtain ⟨bb, off, rfl, hbl, c0, c1, c2, c3, c4⟩ := ev_at (HR.out.below HBR.out) hlt
        have hut : JM.whole l[k].d.data.toList = l[k].d.data.toList := HUT.out l[k] (List.getElem_mem hlt)
        have hrt := AM.listB_right HL.out l[k] (List.getElem_mem hlt)
        have hdl : l[k].d.data.toList.length ≤ 1000 := by
          have := (right_parts hrt).2.2.2.2.2.2.2.2.1
          rw [Array.length_toList]
          have e : l[k].d.data.size = l[k].d.size := rfl
          omega
        clear hrt
        generalize l[k] = z at *
        obtain ⟨t, kk, d, a1, b1⟩ := z
        simp only at c0 c1 c2 c3 c4 hut hdl
        obtain ⟨W, hW⟩ : ∃ W, W = wr.alloc (.cells #[.int .i64 t, .int .i64 kk, .string d, .int .i64 a1, .int .i64 b1] 27) := ⟨_, rfl⟩
        have hb1 : Below wr.heap.size wr W := by rw [hW]; exact (Below.refl _ _).alloc (Nat.le_refl _) _
        have hc1 : EvAt W wr.heap.size ⟨t, kk, d, a1, b1⟩ := by rw [hW]; exact EvAt.new wr ⟨t, kk, d, a1, b1⟩
        have HW := Lib.hid hW
        have HB1 := Lib.hid hb1
        have HC1 := Lib.hid hc1
        clear hW hb1 hc1
        go_upto_region 11 with fail
        rw [← HW.out]
        obtain ⟨e0, e1, e2, e3, e4⟩ := HC1.out.cells
        simp only at e0 e1 e2 e3 e4
        clear c0 c1 c2 c3 c4
        have hltW : wr.heap.size < W.heap.size := HC1.out.lt
        have x2 : ∀ u : Wd (Below W.heap.size W), u.w.cell? ⟨wr.heap.size, 2, none⟩ = some (.string d) := fun u => (u.h.cell (p := ⟨wr.heap.size, 2, none⟩) hltW).trans e2
        have HWH : ∀ u : Wd (Below W.heap.size W), Calls Tryd.prog 10 #[.string d] u.w fun e w' => e = .returned (.string d) ∧ ∃ u' : Wd (Below W.heap.size W), w' = u'.w := fun u => by
          have := awhole_ok d.data.toList (by omega) u.w
          rw [hut, tx_of] at this
          exact this.mono fun e w' h => ⟨h.1, ⟨⟨w', below_next u.h h.2⟩, rfl⟩⟩
        have HWH := Lib.hid HWH
        haveI : Nonempty (Wd (Below W.heap.size W)) := ⟨⟨W, Below.refl _ _⟩⟩
        clear hut e0 e1 e2 e3 e4
        refine region_in (Below W.heap.size W) (by kernel_rfl) (by kernel_rfl) (Below.refl _ _).drew ?_
        repeat (go_big_quiet_step (exact HWH.out _))
        refine wpQuiet_nil ?_
        rintro _ ⟨u, rfl⟩
        have HBu := Lib.hid (HBR.out.trans ((HB1.out.trans (u.h.mono HB1.out.size)).mono hz))
        clear x2 HWH
        go_wp2_with fail
        go_roundw
        case rel => exact ⟨k + 1, by omega, by simp, HBu.out⟩
        case measure => simp [RowKit.intOf]; omega
      · have g1 : decide ((k : Int) < (l.length : Int)) = false := by simp; omega
        have gn : decide (k < l.length) = false := by simp; omega
        have HBB := Lib.hid (HB.out.trans (HBR.out.mono HB.out.size))
        have HLI := Lib.hid (rlist_ok wr l A c wi.heap.size (HR.out.below HBR.out) hz (by omega))
        rw [HL.out] at HLI
        have HWR := Lib.hid (fun w2 (h : Below wr.heap.size wr w2) => write_ok w2 x y (by omega) (by omega) (by omega) (by omega) ((HF.out.on HBB.out).on h) l A c wi.heap.size (HR.out.below (HBR.out.trans (h.mono hz))) (Nat.le_trans hz h.size) (by omega) (fits_list HL.out))
        rw [Int.toNat_natCast, Int.toNat_natCast, HC.out] at HWR
        go_wp2_with fail
        refine HLI.out.mono ?_
        rintro e w2 ⟨rfl, b2⟩
        have HB2 := Lib.hid (below_next HBB.out b2)
        have HW2 := Lib.hid (HWR.out w2 b2)
        clear b2 HLI HWR
        go_wp2_with fail
        refine HW2.out.mono ?_
        rintro e w3 ⟨rfl, b3⟩
        have HB3 := Lib.hid (below_next HB2.out b3)
        clear b3 HW2
        go_wp2_with fail
        go_ret
        exact ⟨by simp, HB3.out⟩
end Go.Proofs.YtciogdhapogolaaDoor.castAny
