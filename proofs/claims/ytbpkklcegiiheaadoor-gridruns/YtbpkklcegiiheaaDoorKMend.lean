/-
  Layer 8 (cell): slices.Clone of cells, Mend.
-/
import Derived.Test.YtbpkklcegiiheaaDoorKLine
import Derived.Lib.SliceRun
namespace Go.Proofs.YtbpkklcegiiheaaDoor
open Go.RowKit Go.Lib KM

/-- A new block of no cells, as an empty row of the call's own. -/
theorem El.own_new0 {α : Type} (E : El α) (w : World) (base : Nat) (hbase : base ≤ w.heap.size) : E.Own (w.alloc (.cells #[] E.ty)) base (.slice (some ⟨w.heap.size, 0, none⟩) 0 0) [] := by
  refine ⟨by rw [E.cells_len], .inr ⟨w.heap.size, 0, #[], rfl, hbase, heap_alloc_new w _, Nat.le_refl _, by unfold maxLen; omega, by simp, by simp [El.cells]⟩⟩
/-- A new row of cells that reads so. -/
def CelsPost (w : World) (l : List Cel) (e : Ending) (w' : World) : Prop := ∃ v, e = .returned v ∧ celE.Own w' w.heap.size v l ∧ Below w.heap.size w w'

set_option maxRecDepth 100000 in
theorem clone_ok (w : World) (l : List Cel) (A : Option Addr) (c B : Nat) (hr : celE.Row w B A l) (hA : A = none → c = 0) (hB : B ≤ w.heap.size) (hl : l.length ≤ 1000) :
    Calls Tryd.prog 33 #[.slice A l.length c] w (CelsPost w l) := by
  rcases A with _ | a
  · have h0 : l = [] := by
      rcases l with _ | ⟨x, l⟩
      · rfl
      · obtain ⟨b, off, h, _⟩ := hr (by simp)
        cases h
    subst h0
    obtain rfl := hA rfl
    clear hr hA
    have hn : ∀ w, (binOp .eql 23 (.slice none 0 0) (.slice none 0 0)).run Tryd.prog w = .ok (.bool true) w := fun w => by
      rw [Lib.run_eql_slice_nil w 23 37 none 0 0 0 0 Tryd.underlying23]; rfl
    simp only [List.length_nil]
    go_enter Tryd.func33, Tryd.ntmps33
    go_wp2
    go_ret
    exact ⟨_, rfl, El.Own.nil _ _, Below.refl _ _⟩
  · have HR := Lib.hid hr
    clear hr hA
    have hn : ∀ w, (binOp .eql 23 (.slice (some a) l.length c) (.slice none 0 0)).run Tryd.prog w = .ok (.bool false) w := fun w => by
      rw [Lib.run_eql_slice_nil w 23 37 (some a) l.length c 0 0 Tryd.underlying23]; rfl
    go_enter Tryd.func33, Tryd.ntmps33
    go_wp2_with (at_builtin; refine celE.wp_append rfl (.tmp 5) (.tmp 6) rfl w.heap.size _ [] rfl (celE.own_new0 w w.heap.size (Nat.le_refl _)) _ l l.length c B rfl rfl (HR.out.below ((Below.refl B w).alloc hB _)) (by simp) ?c1 ?c2 (by simp) ?_)
    case c1 => simp [celE]; omega
    case c2 => simp [maxLen]; omega
    intro v1 w1 ho1 hg1
    have hbb : Below w.heap.size (w.alloc (.cells #[] 37)) w1 := (celE.own_new0 w w.heap.size (Nat.le_refl _)).grow_below hg1 (by simp)
    have HO := Lib.hid ho1
    have HB := Lib.hid (((Below.refl w.heap.size w).alloc (Nat.le_refl _) _).trans hbb)
    clear ho1 hg1 hbb
    go_wp2
    go_ret
    exact ⟨v1, rfl, HO.out, HB.out⟩

set_option maxRecDepth 100000 in
set_option maxHeartbeats 1000000 in
theorem mend_ok (w : World) (hT : Tabs w) (l : List Cel) (A : Option Addr) (c B : Nat) (hr : celE.Row w B A l) (hA : A = none → c = 0) (hB : B ≤ w.heap.size) (hl : l.length ≤ 1000) :
    Calls Tryd.prog 54 #[.slice A l.length c] w (CelsPost w (mend l)) := by
  have HT := Lib.hid hT
  have HR := Lib.hid hr
  have HA := Lib.hid hA
  clear hT hr hA
  go_enter Tryd.func54, Tryd.ntmps54
  go_wp2_with fail
  refine (clone_ok w l A c B HR.out HA.out hB hl).mono ?_
  rintro e w1 ⟨v, rfl, ho, hb1⟩
  have HO := Lib.hid ho
  have HB1 := Lib.hid hb1
  clear ho hb1
  go_wp2_with fail
  go_loopw [9] (fun i wr => ∃ k : Nat, k ≤ l.length ∧ i = .int .i64 (k : Int) ∧ Below w.heap.size w wr ∧ celE.Own wr w.heap.size v (mendK l k)) (fun i _ => l.length - (RowKit.intOf i).toNat)
  case atStart => exact ⟨0, Nat.zero_le _, rfl, HB1.out, HO.out⟩
  case round =>
    obtain ⟨k, hk, rfl, hb, ho⟩ := hrel
    have HB := Lib.hid hb
    have HOK := Lib.hid ho
    have hz := hb.size
    clear hb ho
    by_cases hlt : k < l.length
    · have g1 : decide ((k : Int) < (l.length : Int)) = true := by simp; omega
      have gn : decide (k < l.length) = true := by simp; omega
      have HRR := Lib.hid (HR.out.below (HB.out.mono hB))
      have HTR := Lib.hid (HT.out.on HB.out HT.out.room)
      rcases ha : aloneI l k with _ | _
      · have HAL := Lib.hid ha
        clear ha
        go_wp2_with fail
        refine (alone_ok wr HTR.out l A c B k HRR.out (by omega) hl hlt).mono ?_
        rw [HAL.out]
        rintro e w2 ⟨rfl, hb2⟩
        have HB2 := Lib.hid hb2
        clear hb2
        go_wp2_with fail
        go_roundw
        case rel => exact ⟨k + 1, by omega, by simp, below_next HB.out HB2.out, by rw [mendK_same l k hlt HAL.out]; exact HOK.out.below HB2.out⟩
        case measure => simp [RowKit.intOf]; omega
      · have HAL := Lib.hid ha
        clear ha
        go_wp2_with fail
        refine (alone_ok wr HTR.out l A c B k HRR.out (by omega) hl hlt).mono ?_
        rw [HAL.out]
        rintro e w2 ⟨rfl, hb2⟩
        have ho2 := HOK.out.below hb2
        have hm := mendK_len l k
        obtain ⟨g, cap, hv, hgb, hgl, hcap, hmx, hfr, hcells⟩ := ho2.place (by omega)
        rw [hm] at hv hcap
        have hcell := hcells k (by omega) 0 (by decide)
        have hf0 := hfr (k * 6)
        have hset := ho2.set (i := k) (j := 0) (a' := mendI l k) (u := .int .i32 32) (by rw [hm]; exact hv) (by omega) (by decide) (by
          rw [mendK_at l k hlt]
          have : mendI l k = ⟨32, l[k].sty⟩ := by unfold mendI; rw [HAL.out]; simp [hlt, KM.blank]
          rw [this]
          rfl)
        rw [← mendK_succ l k hlt] at hset
        rw [mendK_at l k hlt] at hcell
        have hc0 : w2.cell? ⟨g, k * 6, none⟩ = some (.int .i32 l[k].rune) := hcell
        have HSET := Lib.hid hset
        have HB2 := Lib.hid (below_next HB.out hb2)
        clear hb2 ho2 hfr hcells hset hcell
        subst hv
        go_wp2_with fail
        go_roundw
        case rel => exact ⟨k + 1, by omega, by simp, HB2.out.setCell (p := ⟨g, k * 6, none⟩) hgb _, HSET.out⟩
        case measure => simp [RowKit.intOf]; omega
    · have g1 : decide ((k : Int) < (l.length : Int)) = false := by simp; omega
      have gn : decide (k < l.length) = false := by simp; omega
      obtain rfl : k = l.length := by omega
      have ho := HOK.out
      rw [mendK_all] at ho
      have HO2 := Lib.hid ho
      clear ho
      go_wp2_with fail
      go_ret
      exact ⟨v, rfl, HO2.out, HB.out⟩
end Go.Proofs.YtbpkklcegiiheaaDoor
