/-
  Layer 9's laws: a grid made greater, and back again. No program walked.
-/
import Derived.Test.YtbpkklcegiiheaaDoorDFit
namespace Go.Proofs.YtbpkklcegiiheaaDoor
open Go.RowKit Go.Lib KM

theorem gup_none {g : Gr} (hok : g.Ok) (n : Int) (hn : n ≤ 0) : gup g 0 g.h n zero = (g, []) := by
  have hlen := hok.len
  unfold gup
  have h0 : (nr n 0 (min (g.h : Int) g.h - max 0 0)).toNat = 0 := by unfold nr; omega
  have e2 : (min (g.h : Int) (g.h : Int)).toNat = g.h := by omega
  split
  · rw [h0, e2]
    have e1 : (max (0 : Int) 0).toNat = 0 := rfl
    rw [e1]
    have : upL g.ls g.w 0 g.h 0 zero = g.ls := by
      unfold upL
      have hd : g.ls.drop g.h = [] := List.drop_of_length_le (by omega)
      have ht : g.ls.take g.h = g.ls := List.take_of_length_le (by omega)
      simp [hd, ht]
    rw [this]
    simp
  · rfl
/-- A grid made greater. -/
def big (g : Gr) (W H : Nat) : Gr := ⟨W, H, fitG g.ls W H⟩
theorem gresize_big {g : Gr} (hok : g.Ok) {W H : Nat} (h1 : 1 ≤ W) (h2 : W ≤ 60) (h3 : 1 ≤ H) (h4 : H ≤ 60) : gresize g (W : Int) (H : Int) 0 = (big g W H, []) := by
  unfold gresize
  rw [gup_none hok 0 (Int.le_refl _), show (nr (W : Int) 1 60).toNat = W by unfold nr; omega, show (nr (H : Int) 1 60).toNat = H by unfold nr; omega]
  rfl
theorem fitL_more {w : Nat} {l : List Cel} (h : LineOk w l) {W : Nat} (hW : w ≤ W) : fitL l W = l ++ KM.blanks (W - w) zero := by
  unfold fitL
  rw [List.take_of_length_le (by rw [h.len]; exact hW), h.mend, h.len]
theorem fitL_back {w : Nat} {l : List Cel} (h : LineOk w l) {W : Nat} (hW : w ≤ W) : fitL (fitL l W) w = l := by
  have h1 := fitL_more h hW
  rw [h1]
  unfold fitL
  rw [List.take_append_of_le_length (by rw [h.len]; exact Nat.le_refl _), List.take_of_length_le (by rw [h.len]; exact Nat.le_refl _), h.mend, List.length_append, h.len, show w - (w + (KM.blanks (W - w) zero).length) = 0 by omega]
  simp [KM.blanks]
theorem big_ls {g : Gr} (hok : g.Ok) {W H : Nat} (hH : g.h ≤ H) : (big g W H).ls = g.ls.map (fun x => fitL x W) ++ List.replicate (H - g.h) (KM.blanks W zero) := by
  show fitG g.ls W H = _
  unfold fitG
  rw [List.take_of_length_le (by rw [hok.len]; exact hH), hok.len]
theorem big_ok {g : Gr} (hok : g.Ok) {W H : Nat} (h1 : 1 ≤ W) (h2 : W ≤ 60) (h3 : 1 ≤ H) (h4 : H ≤ 60) : (big g W H).Ok := by
  have := (gresize_ok hok (W : Int) (H : Int) 0).1
  rw [gresize_big hok h1 h2 h3 h4] at this
  exact this
theorem big_back {g : Gr} (hok : g.Ok) {W H : Nat} (hw : g.w ≤ W) (h2 : W ≤ 60) (hh : g.h ≤ H) (h4 : H ≤ 60) : gresize (big g W H) (g.w : Int) (g.h : Int) (-1) = (g, []) := by
  have h1 := hok.w1
  have h3 := hok.h1
  have hb := big_ok hok (W := W) (H := H) (by omega) h2 (by omega) h4
  unfold gresize
  rw [gup_none hb (-1) (by omega), show (nr (g.w : Int) 1 60).toNat = g.w by have := hok.w2; unfold nr; omega, show (nr (g.h : Int) 1 60).toNat = g.h by have := hok.h2; unfold nr; omega]
  have : fitG (big g W H).ls g.w g.h = g.ls := by
    unfold fitG
    have hl : (g.ls.map (fun x => fitL x W)).length = g.h := by rw [List.length_map, hok.len]
    rw [big_ls hok hh, List.length_append, hl, show g.h - (g.h + (List.replicate (H - g.h) (KM.blanks W zero)).length) = 0 by omega, List.take_append_of_le_length (by omega), List.take_of_length_le (by omega), List.map_map]
    simp only [List.replicate_zero, List.append_nil]
    have : ∀ l ∈ g.ls, ((fun x => fitL x g.w) ∘ fun x => fitL x W) l = id l := fun l hl => fitL_back (hok.row l hl) hw
    rw [List.map_congr_left this, List.map_id]
  simp only [this]
theorem big_line {g : Gr} (hok : g.Ok) {W H : Nat} (hh : g.h ≤ H) {y : Nat} (hy : y < H) : (big g W H).line y = if y < g.h then fitL (g.line y) W else KM.blanks W zero := by
  have hlen := hok.len
  unfold Gr.line
  rw [big_ls hok hh, List.getD_eq_getElem?_getD, List.getD_eq_getElem?_getD]
  by_cases h : y < g.h
  · rw [if_pos h, List.getElem?_append_left (by rw [List.length_map]; omega), List.getElem?_map, List.getElem?_eq_getElem (by omega)]
    rfl
  · rw [if_neg h, List.getElem?_append_right (by rw [List.length_map]; omega), List.getElem?_replicate, if_pos (by rw [List.length_map]; omega)]
    rfl
theorem gat_nat {g : Gr} {x y : Nat} (hx : x < g.w) (hy : y < g.h) : gat g (x : Int) (y : Int) = (g.line y).getD x ⟨0, zero⟩ := by
  unfold gat
  rw [if_pos ((g.there_iff _ _).2 ⟨⟨by omega, by omega⟩, by omega, by omega⟩), Int.toNat_natCast, Int.toNat_natCast]
theorem gat_big {g : Gr} (hok : g.Ok) {W H : Nat} (hw : g.w ≤ W) (hh : g.h ≤ H) {x y : Nat} (hx : x < W) (hy : y < H) :
    gat (big g W H) (x : Int) (y : Int) = if x < g.w ∧ y < g.h then gat g (x : Int) (y : Int) else ⟨32, zero⟩ := by
  rw [gat_nat (g := big g W H) hx hy, big_line hok hh hy]
  by_cases hy' : y < g.h
  · have hl := hok.line hy'
    rw [if_pos hy', fitL_more hl hw]
    by_cases hx' : x < g.w
    · rw [if_pos ⟨hx', hy'⟩, gat_nat hx' hy', List.getD_eq_getElem?_getD, List.getD_eq_getElem?_getD, List.getElem?_append_left (by rw [hl.len]; exact hx')]
    · rw [if_neg (by omega), List.getD_eq_getElem?_getD, List.getElem?_append_right (by rw [hl.len]; omega), blanks_at (by rw [hl.len]; omega)]
      rfl
  · rw [if_neg hy', if_neg (by omega), List.getD_eq_getElem?_getD, blanks_at hx]
    rfl
theorem gat_left (g : Gr) (y : Int) : gat g (-1) y = ⟨0, zero⟩ := by
  unfold gat
  rw [if_neg (by rw [g.there_iff]; omega)]
theorem gat_low (g : Gr) (x : Int) : gat g x (g.h : Int) = ⟨0, zero⟩ := by
  unfold gat
  rw [if_neg (by rw [g.there_iff]; omega)]
end Go.Proofs.YtbpkklcegiiheaaDoor
