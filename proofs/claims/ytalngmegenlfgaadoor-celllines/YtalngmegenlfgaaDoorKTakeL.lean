/-
  Layer 8 (cell): TakeLine.
-/
import Derived.Test.YtalngmegenlfgaaDoorKTakeR
namespace Go.Proofs.YtalngmegenlfgaaDoor
open Go.RowKit Go.Lib KM

/-- The line that is told of runs: none where there are none, or where it isn't whole. -/
def lineOf (R : Option (List (Nat × Cel) × List Nat × Bool)) : Option (List Cel × List Nat × Bool) := R.bind fun T => if whole (cells T.1) = true then some (cells T.1, T.2.1, T.2.2) else none
theorem tabs_only {w : World} {g : Nat} (h : Tabs w) (hg : 1 ≤ g) : ∀ v, w.grownBy v (some g) → Tabs v := fun _ hv => h.on (only_below hv hg h.room) (Nat.le_refl 1)
/-- What TakeLine answers. -/
def LineTPost (w : World) (g : Nat) (R : Option (List Cel × List Nat × Bool)) (e : Ending) (w' : World) : Prop :=
  (R = none ∧ e = .returned (.tuple #[.slice none 0 0, .bool false]) ∧ w.grownBy w' (some g)) ∨
  ∃ T v, R = some T ∧ e = .returned (.tuple #[v, .bool true]) ∧ celE.Own w' w.heap.size v T.1 ∧ Rd w' g T.2.1 T.2.2 ∧ w.grownBy w' (some g)

set_option maxRecDepth 100000 in
set_option maxHeartbeats 1000000 in
theorem takeLine_ok (w : World) (g : Nat) (l : List Nat) (bad : Bool) (W : Nat) (hW : W ≤ 1000) (h : Rd w g l bad) (hT : ∀ v, w.grownBy v (some g) → Tabs v) :
    Calls Tryd.prog 29 #[.pointer (some ⟨g, 0, none⟩), .int .i64 (W : Int)] w (LineTPost w g (lineOf (tr [] W l bad))) := by
  have hby : ∀ x ∈ l, x < 256 := by obtain ⟨_, _, _, _, _, _, h⟩ := h; exact h
  have hgl := h.lt
  have HT := Lib.hid hT
  have HTR := Lib.hid (takeRuns_ok w g l bad W hW h)
  have HBK := Lib.hid (fun T => tr_back W [] l bad hby trivial T)
  have g0 : decide ((W : Int) < 0) = false := by simp
  clear hT h hby
  generalize tr [] W l bad = R at *
  rcases R with _ | T
  · have e : lineOf none = none := rfl
    rw [e]
    clear e HBK
    go_enter Tryd.func29, Tryd.ntmps29
    go_wp2_with fail
    refine HTR.out.mono ?_
    rintro e w1 (⟨_, rfl, hg1⟩ | ⟨T, v, hn, _⟩)
    · have HG1 := Lib.hid hg1
      clear hg1
      go_wp2_with fail
      go_ret2
      exact .inl ⟨rfl, rfl, HG1.out⟩
    · cases hn
  · obtain ⟨more, m1, m2, m3, m4, m5, m6⟩ := HBK.out T rfl
    obtain ⟨rs, l2, bad2⟩ := T
    simp only [List.nil_append] at m1 m2 m3 m6
    subst m1
    have hpos := apart_pos rs m6
    have hlen := apart_len rs hpos
    have hw2 : whole (spread rs 2) = whole (cells rs) := whole_spread rs hpos none
    have hs2 := spread_len2 rs 2
    have hsW : spread rs W = cells rs := spread_all rs W fun x hx => by have := le_sumR rs x hx; omega
    have hcl := cells_len rs
    have HLO := Lib.hid (show lineOf (some (rs, l2, bad2)) = if whole (cells rs) = true then some (cells rs, l2, bad2) else none from rfl)
    rw [m4] at hlen hs2 hcl
    have HSP2 := Lib.hid (fun (v : World) (A : Option Addr) (c B : Nat) (hr : runE.Row v B A rs) (hB : B ≤ v.heap.size) => spread_ok v rs A c B 2 hr hB (by omega) (by omega))
    have HSPW := Lib.hid (fun (v : World) (A : Option Addr) (c B : Nat) (hr : runE.Row v B A rs) (hB : B ≤ v.heap.size) => spread_ok v rs A c B W hr hB (by omega) (by rw [hsW]; omega))
    rw [hsW] at HSPW
    have HW2 := Lib.hid hw2
    clear hpos m2 m3 m5 m6 hw2 hsW HBK
    generalize cells rs = L at *
    generalize spread rs 2 = S at *
    generalize lineOf (some (rs, l2, bad2)) = R at *
    go_enter Tryd.func29, Tryd.ntmps29
    go_wp2_with fail
    refine HTR.out.mono ?_
    rintro e w1 (⟨hn, _⟩ | ⟨T, v, hn, rfl, ho, hrd, hg1⟩)
    · cases hn
    injection hn with hn
    subst hn
    have HG1 := Lib.hid hg1
    have HR1 := Lib.hid hrd
    have z1 := hg1.size
    obtain ⟨A1, c1, rfl, _, _, _, hr1⟩ := ho.row
    have HRW1 := Lib.hid hr1
    have HT1 := Lib.hid (HT.out w1 hg1)
    clear hg1 hrd hr1 ho
    simp only
    go_wp2_with fail
    refine (HSP2.out w1 A1 c1 w1.heap.size HRW1.out (Nat.le_refl _)).mono ?_
    rintro e w2 ⟨v2, rfl, o2, b2⟩
    have HG2 := Lib.hid (only_next HG1.out (b2.mono z1))
    have HR2 := Lib.hid (HR1.out.on b2 HR1.out.lt)
    have HRW2 := Lib.hid (HRW1.out.below b2)
    have HT2 := Lib.hid (HT1.out.on b2 HT1.out.room)
    have z2 := b2.size
    obtain ⟨A2, c2, rfl, _, _, _, hr2⟩ := o2.row
    have HWH := Lib.hid (whole_ok w2 HT2.out S A2 c2 w2.heap.size hr2 (Nat.le_refl _) (by omega))
    clear b2 o2 hr2
    rcases hq : whole L with _ | _
    · have HQ : Hid (whole S = false) := Lib.hid (HW2.out.trans hq)
      obtain rfl : R = none := by rw [HLO.out, hq]; rfl
      clear hq
      go_wp2_with fail
      refine HWH.out.mono ?_
      rw [HQ.out]
      rintro e w3 ⟨rfl, b3⟩
      have HG3 := Lib.hid (only_next HG2.out (b3.mono (by omega)))
      clear b3
      go_wp2_with fail
      go_ret2
      exact .inl ⟨rfl, rfl, HG3.out⟩
    · have HQ : Hid (whole S = true) := Lib.hid (HW2.out.trans hq)
      obtain rfl : R = some (L, l2, bad2) := by rw [HLO.out, hq]; rfl
      clear hq
      go_wp2_with fail
      refine HWH.out.mono ?_
      rw [HQ.out]
      rintro e w3 ⟨rfl, b3⟩
      have HG3 := Lib.hid (only_next HG2.out (b3.mono (by omega)))
      have HR3 := Lib.hid (HR2.out.on b3 HR2.out.lt)
      have HRW3 := Lib.hid (HRW2.out.below (b3.mono z2))
      have z3 := b3.size
      clear b3
      go_wp2_with fail
      refine (HSPW.out w3 A1 c1 w1.heap.size HRW3.out (by omega)).mono ?_
      rintro e w4 ⟨v4, rfl, o4, b4⟩
      have HG4 := Lib.hid (only_next HG3.out (b4.mono (by omega)))
      have HR4 := Lib.hid (HR3.out.on b4 HR3.out.lt)
      have HO4 := Lib.hid (o4.mono (show w.heap.size ≤ w3.heap.size by omega))
      clear o4 b4
      go_wp2_with fail
      go_ret2
      exact .inr ⟨(L, l2, bad2), v4, rfl, rfl, HO4.out, HR4.out, HG4.out⟩
end Go.Proofs.YtalngmegenlfgaaDoor
