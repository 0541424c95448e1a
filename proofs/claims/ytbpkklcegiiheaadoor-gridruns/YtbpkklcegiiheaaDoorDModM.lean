/-
  Layer 9's laws: the model of a grid's deeds, cell by cell, is what is done (no program); the model's read; lines of the model in memory: headers, and what each of them leads to.
-/
import Derived.Test.YtbpkklcegiiheaaDoorDFit
import Derived.Test.YtbpkklcegiiheaaDoorDSame
import Derived.Test.YtbpkklcegiiheaaDoorDLawK
import Derived.Test.YtbpkklcegiiheaaDoorDFill
namespace Go.Proofs.YtbpkklcegiiheaaDoor
open Go.RowKit Go.Lib KM

/-- The model's look: a cell, or a blank one of a style. -/
def mread (LL : List (List Cel)) (x y : Int) (s : Sty) : Cel :=
  if 0 ≤ y ∧ y < LL.length ∧ 0 ≤ x ∧ x < (LL.getD y.toNat []).length then (LL.getD y.toNat []).getD x.toNat ⟨0, zero⟩ else KM.blankS s
theorem mread_left (LL : List (List Cel)) (y : Int) (s : Sty) : mread LL (-1) y s = KM.blankS s := by
  unfold mread; rw [if_neg (by omega)]
theorem mread_in {g : Gr} (hok : g.Ok) {x y : Nat} (hx : x < g.w) (hy : y < g.h) (s : Sty) : mread g.ls (x : Int) (y : Int) s = (g.line y).getD x ⟨0, zero⟩ := by
  have hl := (hok.line hy).len
  unfold Gr.line at hl ⊢
  unfold mread
  rw [Int.toNat_natCast, Int.toNat_natCast, if_pos ⟨by omega, by rw [hok.len]; omega, by omega, by rw [hl]; omega⟩]
theorem mread_out {g : Gr} (hok : g.Ok) {x y : Int} (h : ¬ (0 ≤ x ∧ x < g.w ∧ 0 ≤ y ∧ y < g.h)) (s : Sty) : mread g.ls x y s = KM.blankS s := by
  unfold mread
  by_cases hy : 0 ≤ y ∧ y < g.h
  · have hl := (hok.line (y := y.toNat) (by omega)).len
    unfold Gr.line at hl
    rw [if_neg (by rw [hl]; omega)]
  · rw [if_neg (by rw [hok.len]; omega)]
theorem map_range_eq {α : Type} (n : Nat) (f : Nat → α) (l : List α) (hl : l.length = n) (h : ∀ j, j < n → l[j]? = some (f j)) : (List.range n).map f = l := by
  apply List.ext_getElem?
  intro j
  by_cases hj : j < n
  · rw [h j hj, List.getElem?_map, List.getElem?_range hj]
    rfl
  · rw [List.getElem?_eq_none (by simp; omega), List.getElem?_eq_none (by omega)]
theorem getD_at {α : Type} {l : List α} {j : Nat} (h : j < l.length) (z : α) : l[j]? = some (l.getD j z) := by
  rw [List.getD_eq_getElem?_getD, List.getElem?_eq_getElem h]; rfl
/-- A line of the model, cell by cell. -/
theorem mrow_eq {g : Gr} (hok : g.Ok) (f : Int) (s : Sty) : (List.range g.w).map (fun x : Nat => mread g.ls (x : Int) f s) = if 0 ≤ f ∧ f < g.h then g.line f.toNat else KM.blanks g.w s := by
  by_cases h : 0 ≤ f ∧ f < g.h
  · rw [if_pos h]
    have hlo := hok.line (y := f.toNat) (by omega)
    refine map_range_eq _ _ _ hlo.len fun j hj => ?_
    obtain ⟨F, rfl⟩ := Int.eq_ofNat_of_zero_le h.1
    rw [Int.toNat_natCast] at hlo ⊢
    rw [mread_in hok hj (by omega)]
    exact getD_at (by rw [hlo.len]; exact hj) _
  · rw [if_neg h]
    refine map_range_eq _ _ _ (blanks_len _ _) fun j hj => ?_
    rw [mread_out hok (by omega)]
    exact blanks_at hj

/-! ### lines that go up and down -/
/-- From where a line comes. -/
def mfrom (dn : Bool) (T E N y : Nat) : Int :=
  if T ≤ y ∧ y < E then (if dn then (if (y : Int) - N < T then -1 else (y : Int) - N) else (if y + N < E then ((y + N : Nat) : Int) else -1)) else (y : Int)
/-- A line, by where it comes from. -/
def mline0 (g : Gr) (s : Sty) (f : Int) : List Cel := if 0 ≤ f ∧ f < g.h then g.line f.toNat else KM.blanks g.w s
theorem mfrom_out (dn : Bool) {T E N y : Nat} (h : ¬ (T ≤ y ∧ y < E)) : mfrom dn T E N y = (y : Int) := by unfold mfrom; rw [if_neg h]
theorem mfrom_up {T E N y : Nat} (h : T ≤ y) (h2 : y + N < E) : mfrom false T E N y = ((y + N : Nat) : Int) := by
  unfold mfrom
  simp only [Bool.false_eq_true, if_false]
  rw [if_pos (by omega), if_pos h2]
theorem mfrom_upb {T E N y : Nat} (h : T ≤ y) (h1 : y < E) (h2 : ¬ y + N < E) : mfrom false T E N y = -1 := by
  unfold mfrom
  simp only [Bool.false_eq_true, if_false]
  rw [if_pos (by omega), if_neg h2]
theorem mfrom_dn {T E N y : Nat} (h1 : y < E) (h2 : T + N ≤ y) : mfrom true T E N y = ((y - N : Nat) : Int) := by
  unfold mfrom
  simp only [if_true]
  rw [if_pos (by omega), if_neg (by omega)]
  omega
theorem mfrom_dnb {T E N y : Nat} (h : T ≤ y) (h1 : y < E) (h2 : ¬ T + N ≤ y) : mfrom true T E N y = -1 := by
  unfold mfrom
  simp only [if_true]
  rw [if_pos (by omega), if_pos (by omega)]
theorem mline0_at {g : Gr} {y : Nat} (hy : y < g.h) (s : Sty) : mline0 g s (y : Int) = g.line y := by
  unfold mline0
  rw [if_pos (by omega), Int.toNat_natCast]
theorem mline0_none (g : Gr) (s : Sty) : mline0 g s (-1) = KM.blanks g.w s := by
  unfold mline0
  rw [if_neg (by omega)]
theorem line_get {g : Gr} (hok : g.Ok) {y : Nat} (hy : y < g.h) : g.ls[y]? = some (g.line y) := by
  unfold Gr.line
  exact getD_at (by rw [hok.len]; exact hy) _
theorem mup_eq {g : Gr} (hok : g.Ok) (a b n : Int) (s : Sty) {T E N : Nat} (hT : min (max a 0) (g.h : Int) = T) (hE : min (max b 0) (g.h : Int) = E) (hN : min (max n 0) (max ((E : Int) - T) 0) = N) :
    (List.range g.h).map (fun y => mline0 g s (mfrom false T E N y)) = (gup g a b n s).1.ls ∧ (gup g a b n s).2 = (g.ls.drop T).take N := by
  have hlen := hok.len
  unfold gup
  by_cases h : max a 0 < min b (g.h : Int)
  · have e1 : (max a 0).toNat = T := by omega
    have e2 : (min b (g.h : Int)).toNat = E := by omega
    have e3 : (nr n 0 (min b (g.h : Int) - max a 0)).toNat = N := by unfold nr; omega
    rw [if_pos h, e1, e2, e3]
    refine ⟨?_, rfl⟩
    have hTN : T + N ≤ E := by omega
    have hEh : E ≤ g.h := by omega
    refine map_range_eq _ _ _ ((upL_len _ _ _ _ _ _ hTN (by omega)).trans hlen) fun y hy => ?_
    show (upL g.ls g.w T E N s)[y]? = _
    unfold upL
    have l1 : (g.ls.take T).length = T := by simp; omega
    have l2 : ((g.ls.drop (T + N)).take (E - T - N)).length = E - T - N := by simp; omega
    have l3 : (g.ls.take T ++ ((g.ls.drop (T + N)).take (E - T - N) ++ List.replicate N (KM.blanks g.w s))).length = E := by
      rw [List.length_append, List.length_append, l1, l2, List.length_replicate]; omega
    by_cases c1 : y < T
    · rw [mfrom_out _ (by omega), mline0_at hy, List.getElem?_append_left (by omega), List.getElem?_append_left (by omega), List.getElem?_take, if_pos c1, line_get hok hy]
    · by_cases c2 : y < E
      · rw [List.getElem?_append_left (by omega), List.getElem?_append_right (by omega), l1]
        by_cases c3 : y + N < E
        · rw [mfrom_up (by omega) c3, mline0_at (by omega), List.getElem?_append_left (by omega), List.getElem?_take, if_pos (by omega), List.getElem?_drop, show T + N + (y - T) = y + N by omega, line_get hok (by omega)]
        · rw [mfrom_upb (by omega) c2 c3, mline0_none, List.getElem?_append_right (by omega), List.getElem?_replicate, if_pos (by omega)]
      · rw [mfrom_out _ (by omega), mline0_at hy, List.getElem?_append_right (by omega), l3, List.getElem?_drop, show E + (y - E) = y by omega, line_get hok hy]
  · have hN0 : N = 0 := by omega
    rw [if_neg h]
    refine ⟨?_, by rw [hN0]; simp⟩
    refine map_range_eq _ _ _ hlen fun y hy => ?_
    have : mfrom false T E N y = (y : Int) := mfrom_out _ (by omega)
    rw [this, mline0_at hy]
    exact line_get hok hy
theorem mdown_eq {g : Gr} (hok : g.Ok) (a b n : Int) (s : Sty) {T E N : Nat} (hT : min (max a 0) (g.h : Int) = T) (hE : min (max b 0) (g.h : Int) = E) (hN : min (max n 0) (max ((E : Int) - T) 0) = N) :
    (List.range g.h).map (fun y => mline0 g s (mfrom true T E N y)) = (gdown g a b n s).ls := by
  have hlen := hok.len
  unfold gdown
  by_cases h : max a 0 < min b (g.h : Int)
  · have e1 : (max a 0).toNat = T := by omega
    have e2 : (min b (g.h : Int)).toNat = E := by omega
    have e3 : (nr n 0 (min b (g.h : Int) - max a 0)).toNat = N := by unfold nr; omega
    rw [if_pos h, e1, e2, e3]
    have hTN : T + N ≤ E := by omega
    have hEh : E ≤ g.h := by omega
    refine map_range_eq _ _ _ ((downL_len _ _ _ _ _ _ hTN (by omega)).trans hlen) fun y hy => ?_
    show (downL g.ls g.w T E N s)[y]? = _
    unfold downL
    have l1 : (g.ls.take T).length = T := by simp; omega
    have l2 : ((g.ls.drop T).take (E - T - N)).length = E - T - N := by simp; omega
    have l3 : (g.ls.take T ++ (List.replicate N (KM.blanks g.w s) ++ (g.ls.drop T).take (E - T - N))).length = E := by
      rw [List.length_append, List.length_append, l1, l2, List.length_replicate]; omega
    by_cases c1 : y < T
    · rw [mfrom_out _ (by omega), mline0_at hy, List.getElem?_append_left (by omega), List.getElem?_append_left (by omega), List.getElem?_take, if_pos c1, line_get hok hy]
    · by_cases c2 : y < E
      · rw [List.getElem?_append_left (by omega), List.getElem?_append_right (by omega), l1]
        by_cases c3 : T + N ≤ y
        · rw [mfrom_dn c2 c3, mline0_at (by omega), List.getElem?_append_right (by rw [List.length_replicate]; omega), List.length_replicate, List.getElem?_take, if_pos (by omega), List.getElem?_drop, show T + (y - T - N) = y - N by omega, line_get hok (by omega)]
        · rw [mfrom_dnb (by omega) c2 c3, mline0_none, List.getElem?_append_left (by rw [List.length_replicate]; omega), List.getElem?_replicate, if_pos (by omega)]
      · rw [mfrom_out _ (by omega), mline0_at hy, List.getElem?_append_right (by omega), l3, List.getElem?_drop, show E + (y - E) = y by omega, line_get hok hy]
  · have hN0 : N = 0 := by omega
    rw [if_neg h]
    refine map_range_eq _ _ _ hlen fun y hy => ?_
    have : mfrom true T E N y = (y : Int) := mfrom_out _ (by omega)
    rw [this, mline0_at hy]
    exact line_get hok hy

/-! ### other sides -/
def mfit (g : Gr) (W away y : Nat) : List Cel := (List.range W).map (fun x : Nat => mread g.ls (x : Int) ((y + away : Nat) : Int) zero)
theorem mfit_eq {g : Gr} (hok : g.Ok) (W away y : Nat) : mend (mfit g W away y) = if y + away < g.h then fitL (g.line (y + away)) W else KM.blanks W zero := by
  by_cases h : y + away < g.h
  · have hlo := hok.line h
    rw [if_pos h, fitL_eq]
    congr 1
    refine map_range_eq _ _ _ (by simp [KM.blanks]; omega) fun j hj => ?_
    by_cases hw : j < g.w
    · rw [List.getElem?_append_left (by rw [List.length_take, hlo.len]; omega), List.getElem?_take, if_pos hj, mread_in hok hw h]
      exact getD_at (by rw [hlo.len]; exact hw) _
    · have hl : ((g.line (y + away)).take W).length = g.w := by rw [List.length_take, hlo.len]; omega
      rw [List.getElem?_append_right (by omega), hl, blanks_at (by rw [hlo.len]; omega), mread_out hok (by omega)]
  · rw [if_neg h]
    have : mfit g W away y = KM.blanks W zero := by
      refine map_range_eq _ _ _ (blanks_len _ _) fun j hj => ?_
      rw [mread_out hok (by omega), blanks_at hj]
    rw [this, mend_blanks]
theorem mresize_eq {g : Gr} (hok : g.Ok) (a b n : Int) {W H N : Nat} (hW : min (max a 1) 60 = (W : Int)) (hH : min (max b 1) 60 = (H : Int)) (hN : min (max n 0) (g.h : Int) = N) :
    (gresize g a b n).1 = ⟨W, H, (List.range H).map (fun y => mend (mfit g W N y))⟩ ∧ (gresize g a b n).2 = g.ls.take N := by
  have hlen := hok.len
  have h1 := hok.h1
  have e1 : (nr a 1 60).toNat = W := by unfold nr; omega
  have e2 : (nr b 1 60).toNat = H := by unfold nr; omega
  have hp : max (0 : Int) 0 < min (g.h : Int) (g.h : Int) := by omega
  have e3 : (nr n 0 (min (g.h : Int) (g.h : Int) - max 0 0)).toNat = N := by unfold nr; omega
  have e4 : (max (0 : Int) 0).toNat = 0 := rfl
  have e5 : (min (g.h : Int) (g.h : Int)).toNat = g.h := by omega
  have hu : gup g 0 g.h n zero = (⟨g.w, g.h, upL g.ls g.w 0 g.h N zero⟩, (g.ls.drop 0).take N) := by
    unfold gup
    rw [if_pos hp, e3, e4, e5]
  unfold gresize
  rw [hu, e1, e2]
  refine ⟨?_, by simp⟩
  show (⟨W, H, fitG (upL g.ls g.w 0 g.h N zero) W H⟩ : Gr) = _
  have hul : upL g.ls g.w 0 g.h N zero = g.ls.drop N ++ List.replicate N (KM.blanks g.w zero) := by
    unfold upL
    rw [List.drop_of_length_le (l := g.ls) (i := g.h) (by omega), List.take_zero, List.nil_append, List.append_nil, Nat.zero_add, List.take_of_length_le (by simp; omega)]
  have hl : (upL g.ls g.w 0 g.h N zero).length = g.h := by rw [hul]; simp; omega
  have : (List.range H).map (fun y => mend (mfit g W N y)) = fitG (upL g.ls g.w 0 g.h N zero) W H := by
    refine map_range_eq _ _ _ (by unfold fitG; simp; omega) fun y hy => ?_
    rw [mfit_eq hok]
    unfold fitG
    rw [hl]
    by_cases c1 : y < g.h
    · rw [List.getElem?_append_left (by simp; omega), List.getElem?_map, List.getElem?_take, if_pos hy, hul]
      by_cases c2 : y + N < g.h
      · rw [List.getElem?_append_left (by simp; omega), List.getElem?_drop, if_pos c2, Nat.add_comm N y, line_get hok c2]
        rfl
      · rw [List.getElem?_append_right (by simp; omega), List.getElem?_replicate, if_pos (by simp; omega), if_neg c2]
        show some (fitL (KM.blanks g.w zero) W) = _
        rw [fitL_blanks]
    · rw [List.getElem?_append_right (by simp; omega), List.getElem?_replicate, if_pos (by simp; omega), if_neg (by omega)]
  rw [this]

/-! ### one line -/
/-- A cell of a line that is changed. -/
def mcell (d : De) (l : List Cel) (n : Nat) (x : Nat) : Cel :=
  if d.k = 0 ∧ (x : Int) = d.a then d.cel
  else if d.k = 0 ∧ (x : Int) - 1 = d.a ∧ GM.wide d.cel.rune = true then ⟨0, d.cel.sty⟩
  else if d.k = 1 ∧ d.b ≤ (x : Int) ∧ (x : Int) < d.c then KM.blankS (stame d.cel.sty)
  else if d.k = 4 ∧ d.a ≤ (x : Int) then (if d.a ≤ (x : Int) - n then l.getD (x - n) ⟨0, zero⟩ else KM.blankS (stame d.cel.sty))
  else if d.k = 5 ∧ d.a ≤ (x : Int) then (if x + n < l.length then l.getD (x + n) ⟨0, zero⟩ else KM.blankS (stame d.cel.sty))
  else l.getD x ⟨0, zero⟩
def mline (d : De) (l : List Cel) (n : Nat) : List Cel := (List.range l.length).map (mcell d l n)
theorem mline_put {d : De} {l : List Cel} {n X : Nat} (hk : d.k = 0) (hX : d.a = (X : Int)) : mline d l n = putC l X d.cel := by
  refine map_range_eq _ _ _ (putC_len _ _ _) fun j hj => ?_
  unfold putC mcell
  simp only [hk, hX, true_and, Nat.zero_ne_one, false_and, if_false, show (0 : Nat) ≠ 4 by decide, show (0 : Nat) ≠ 5 by decide]
  split
  · rename_i hh
    rw [List.getElem?_set]
    by_cases c1 : X + 1 = j
    · subst c1
      rw [if_pos rfl, if_pos (by rw [List.length_set]; exact hj), if_neg (by omega), if_pos ⟨by omega, hh.1⟩]
    · rw [if_neg c1, List.getElem?_set]
      by_cases c2 : X = j
      · subst c2
        rw [if_pos rfl, if_pos hj, if_pos rfl]
      · rw [if_neg c2, if_neg (by omega), if_neg (by omega)]
        exact getD_at hj _
  · rename_i hh
    rw [List.getElem?_set]
    by_cases c2 : X = j
    · subst c2
      rw [if_pos rfl, if_pos hj, if_pos rfl]
    · have : ¬ ((j : Int) - 1 = (X : Int) ∧ GM.wide d.cel.rune = true) := fun h => hh ⟨h.2, by omega⟩
      rw [if_neg c2, if_neg (by omega), if_neg this]
      exact getD_at hj _
theorem mline_clear {d : De} {l : List Cel} {n : Nat} (hk : d.k = 1) : mline d l n = if max d.b 0 < min d.c l.length then clearC l (max d.b 0).toNat (min d.c l.length).toNat (stame d.cel.sty) else l := by
  split
  · rename_i h
    obtain ⟨a, ha⟩ := Int.eq_ofNat_of_zero_le (show 0 ≤ max d.b 0 by omega)
    obtain ⟨b, hb⟩ := Int.eq_ofNat_of_zero_le (show 0 ≤ min d.c (l.length : Int) by omega)
    rw [ha, hb, Int.toNat_natCast, Int.toNat_natCast]
    have hab : a < b := by omega
    have hbl : b ≤ l.length := by omega
    refine map_range_eq _ _ _ (clearC_len _ _ _ _ (by omega) hbl) fun j hj => ?_
    unfold clearC mcell
    simp only [hk, false_and, if_false, true_and, Nat.one_ne_zero, show (1 : Nat) ≠ 4 by decide, show (1 : Nat) ≠ 5 by decide]
    have l1 : (l.take a).length = a := by simp; omega
    have l2 : (l.take a ++ KM.blanks (b - a) (stame d.cel.sty)).length = b := by rw [List.length_append, l1, blanks_len]; omega
    by_cases c1 : j < a
    · rw [List.getElem?_append_left (by omega), List.getElem?_append_left (by omega), List.getElem?_take, if_pos c1, if_neg (by omega)]
      exact getD_at hj _
    · by_cases c2 : j < b
      · rw [List.getElem?_append_left (by omega), List.getElem?_append_right (by omega), blanks_at (by omega), if_pos (by omega)]
      · rw [List.getElem?_append_right (by omega), l2, List.getElem?_drop, show b + (j - b) = j by omega, if_neg (by omega)]
        exact getD_at hj _
  · rename_i h
    refine map_range_eq _ _ _ rfl fun j hj => ?_
    unfold mcell
    simp only [hk, false_and, if_false, true_and, Nat.one_ne_zero, show (1 : Nat) ≠ 4 by decide, show (1 : Nat) ≠ 5 by decide]
    rw [if_neg (by omega)]
    exact getD_at hj _
theorem mline_open {d : De} {l : List Cel} {N X : Nat} (hk : d.k = 4) (hX : d.a = (X : Int)) (hl : X < l.length) (hN : min (max d.c 0) (l.length : Int) = N) : mline d l N = openC l X (nr d.c 0 ((l.length : Int) - X)).toNat (stame d.cel.sty) := by
  obtain ⟨m, hm⟩ : ∃ m, m = (nr d.c 0 ((l.length : Int) - X)).toNat := ⟨_, rfl⟩
  rw [← hm]
  have hmN : m = min N (l.length - X) := by rw [hm]; unfold nr; omega
  refine map_range_eq _ _ _ (openC_len _ _ _ _ (by omega)) fun j hj => ?_
  unfold openC mcell
  simp only [hk, hX, false_and, if_false, true_and, show (4 : Nat) ≠ 0 by decide, show (4 : Nat) ≠ 1 by decide, show (4 : Nat) ≠ 5 by decide]
  have l1 : (l.take X).length = X := by simp; omega
  have l2 : (l.take X ++ KM.blanks m (stame d.cel.sty)).length = X + m := by rw [List.length_append, l1, blanks_len]
  by_cases c1 : j < X
  · rw [List.getElem?_append_left (by omega), List.getElem?_append_left (by omega), List.getElem?_take, if_pos c1, if_neg (by omega)]
    exact getD_at hj _
  · rw [if_pos (by omega)]
    by_cases c2 : j < X + m
    · rw [List.getElem?_append_left (by omega), List.getElem?_append_right (by omega), blanks_at (by omega), if_neg (by omega)]
    · rw [List.getElem?_append_right (by omega), l2, List.getElem?_take, if_pos (by omega), List.getElem?_drop, if_pos (by omega), show X + (j - (X + m)) = j - N by omega]
      exact getD_at (by omega) _
theorem mline_shut {d : De} {l : List Cel} {N X : Nat} (hk : d.k = 5) (hX : d.a = (X : Int)) (hl : X < l.length) (hN : min (max d.c 0) (l.length : Int) = N) : mline d l N = shutC l X (nr d.c 0 ((l.length : Int) - X)).toNat (stame d.cel.sty) := by
  obtain ⟨m, hm⟩ : ∃ m, m = (nr d.c 0 ((l.length : Int) - X)).toNat := ⟨_, rfl⟩
  rw [← hm]
  have hmN : m = min N (l.length - X) := by rw [hm]; unfold nr; omega
  refine map_range_eq _ _ _ (shutC_len _ _ _ _ (by omega)) fun j hj => ?_
  unfold shutC mcell
  simp only [hk, hX, false_and, if_false, true_and, show (5 : Nat) ≠ 0 by decide, show (5 : Nat) ≠ 1 by decide, show (5 : Nat) ≠ 4 by decide]
  have l1 : (l.take X).length = X := by simp; omega
  have l2 : (l.take X ++ l.drop (X + m)).length = l.length - m := by rw [List.length_append, l1, List.length_drop]; omega
  by_cases c1 : j < X
  · rw [List.getElem?_append_left (by omega), List.getElem?_append_left (by omega), List.getElem?_take, if_pos c1, if_neg (by omega)]
    exact getD_at hj _
  · rw [if_pos (by omega)]
    by_cases c2 : j + m < l.length
    · rw [List.getElem?_append_left (by omega), List.getElem?_append_right (by omega), List.getElem?_drop, if_pos (by omega), show X + m + (j - (l.take X).length) = j + N by omega]
      exact getD_at (by omega) _
    · rw [List.getElem?_append_right (by omega), blanks_at (by omega), if_neg (by omega)]
theorem setL_line {g : Gr} (hok : g.Ok) {y : Nat} (hy : y < g.h) : g.setL y (g.line y) = g := by
  have h := line_get hok hy
  have hl : y < g.ls.length := by rw [hok.len]; exact hy
  unfold Gr.setL
  have : g.ls.set y (g.line y) = g.ls := by
    apply List.ext_getElem?
    intro j
    rw [List.getElem?_set]
    split
    · rename_i e
      subst e
      rw [h]
    · rfl
  rw [this]
/-- A deed on one line. -/
def mX (d : De) : Int := if d.k = 1 then 0 else d.a
def mY (d : De) : Int := if d.k = 1 then d.a else d.b
theorem mstep_eq {g : Gr} (hok : g.Ok) (d : De) (hk : d.k = 0 ∨ d.k = 1 ∨ d.k = 4 ∨ d.k = 5) {N : Nat} (hN : min (max d.c 0) (g.w : Int) = N) :
    gdo g d = (if g.there (mX d) (mY d) = true ∧ (d.k = 0 → cright d.cel = true) then g.setL (mY d).toNat (mend (mline d (g.line (mY d).toNat) N)) else g, []) := by
  have hw1 := hok.w1
  unfold gdo mX mY
  rcases hk with hk | hk | hk | hk
  · simp only [hk, if_true, Nat.zero_ne_one, if_false, true_imp_iff]
    unfold gput
    simp only [Bool.and_eq_true]
    split
    · rename_i h
      have hp := (g.there_iff _ _).1 h.1
      obtain ⟨X, hX⟩ := Int.eq_ofNat_of_zero_le hp.1.1
      have hl := (hok.line (y := d.b.toNat) (by omega)).len
      rw [mline_put hk hX, hX, Int.toNat_natCast]
    · rfl
  · simp only [hk, if_true, Nat.one_ne_zero, if_false, false_imp_iff, and_true]
    unfold gclear
    by_cases h : g.there 0 d.a = true
    · have hp := (g.there_iff _ _).1 h
      have hlo := hok.line (y := d.a.toNat) (by omega)
      rw [if_pos h, mline_clear hk, hlo.len]
      by_cases c : max d.b 0 < min d.c (g.w : Int)
      · rw [if_pos ⟨h, c⟩, if_pos c]
      · rw [if_neg (fun x => c x.2), if_neg c, hlo.mend, setL_line hok (by omega)]
    · rw [if_neg h, if_neg (fun x => h x.1)]
  · simp only [hk, show (4 : Nat) ≠ 0 by decide, show (4 : Nat) ≠ 1 by decide, show (4 : Nat) ≠ 2 by decide, show (4 : Nat) ≠ 3 by decide, if_true, if_false, false_imp_iff, and_true]
    unfold gopen
    split
    · rename_i h
      have hp := (g.there_iff _ _).1 h
      obtain ⟨X, hX⟩ := Int.eq_ofNat_of_zero_le hp.1.1
      have hl := (hok.line (y := d.b.toNat) (by omega)).len
      rw [mline_open hk hX (by rw [hl]; omega) (by rw [hl]; exact hN), hX, Int.toNat_natCast, hl]
    · rfl
  · simp only [hk, show (5 : Nat) ≠ 0 by decide, show (5 : Nat) ≠ 1 by decide, show (5 : Nat) ≠ 2 by decide, show (5 : Nat) ≠ 3 by decide, show (5 : Nat) ≠ 4 by decide, if_true, if_false, false_imp_iff, and_true]
    unfold gshut
    split
    · rename_i h
      have hp := (g.there_iff _ _).1 h
      obtain ⟨X, hX⟩ := Int.eq_ofNat_of_zero_le hp.1.1
      have hl := (hok.line (y := d.b.toNat) (by omega)).len
      rw [mline_shut hk hX (by rw [hl]; omega) (by rw [hl]; exact hN), hX, Int.toNat_natCast, hl]
    · rfl
end Go.Proofs.YtbpkklcegiiheaaDoor
namespace Go.Proofs.YtbpkklcegiiheaaDoor
open Go.RowKit Go.Lib KM

theorem mread_yes {LL : List (List Cel)} {Y X : Nat} (hY : Y < LL.length) (hX : X < (LL[Y]).length) (s : Sty) : mread LL (X : Int) (Y : Int) s = LL[Y][X] := by
  have h1 : LL.getD Y [] = LL[Y] := by simp [hY]
  unfold mread
  rw [Int.toNat_natCast, Int.toNat_natCast, h1, if_pos (by omega)]
  simp [hX]
theorem mread_no {LL : List (List Cel)} {Y : Nat} (hY : Y < LL.length) {x : Int} (hx : ¬ (0 ≤ x ∧ x < (LL[Y]).length)) (s : Sty) : mread LL x (Y : Int) s = KM.blankS s := by
  have h1 : LL.getD Y [] = LL[Y] := by simp [hY]
  unfold mread
  rw [Int.toNat_natCast, h1, if_neg (by omega)]
theorem mread_off {LL : List (List Cel)} {x y : Int} (hy : ¬ (0 ≤ y ∧ y < LL.length)) (s : Sty) : mread LL x y s = KM.blankS s := by
  unfold mread
  rw [if_neg (by omega)]

set_option maxRecDepth 100000 in
set_option maxHeartbeats 2000000 in
theorem read_ok (w : World) {N : Nat → Prop} {A : Option Addr} {LL : List (List Cel)} (h : LinesAt w N A LL) (c : Nat) (x y : Int) (s : Sty) :
    Calls Tryd.prog 36 #[.slice A LL.length c, .int .i64 x, .int .i64 y, styV s] w fun e w' => e = .returned (celV (mread LL x y s)) ∧ Below w.heap.size w w' := by
  obtain ⟨w1, hw1⟩ : ∃ w1, w1 = w.alloc (.cells #[.bool s.bold, .bool s.under, .bool s.turned, .int .i64 s.fore, .int .i64 s.back] 35) := ⟨_, rfl⟩
  have hb1 : Below w.heap.size w w1 := by rw [hw1]; exact (Below.refl _ _).alloc (Nat.le_refl _) _
  have hz1 : w1.heap.size = w.heap.size + 1 := by rw [hw1]; simp
  have hs1 : StyIn w1 w.heap.size s := by rw [hw1]; exact StyIn.fresh w s
  obtain ⟨w2, hw2⟩ : ∃ w2, w2 = w1.alloc (.cells #[.int .i32 0, .bool false, .bool false, .bool false, .int .i64 0, .int .i64 0] 37) := ⟨_, rfl⟩
  have hb2 : Below w1.heap.size w1 w2 := by rw [hw2]; exact (Below.refl _ _).alloc (Nat.le_refl _) _
  have hc2 : CelAt w2 (w.heap.size + 1) ⟨0, zero⟩ := by rw [← hz1, hw2]; exact CelAt.fresh w1 ⟨0, zero⟩
  have hs2 := hs1.below hb2
  have hb02 := below_next hb1 hb2
  have HL := Lib.hid (h.below hb02)
  have hset : ∀ c : Cel, Below w.heap.size w (setCel w2 (w.heap.size + 1) 0 c) ∧ CelAt (setCel w2 (w.heap.size + 1) 0 c) (w.heap.size + 1) c := fun c => by
    refine ⟨?_, setCel_at hc2 c⟩
    exact hb02.trans ((setCel_fr (S := fun k => w.heap.size ≤ k) w2 (w.heap.size + 1) 0 c (by omega)).below hb02.size (fun k hk => hk))
  have HSET := Lib.hid hset
  obtain ⟨k0, k1, k2, k3, k4, k5⟩ := hc2.cells
  have f0 := hc2.thaw 0; have f1 := hc2.thaw 1; have f2 := hc2.thaw 2; have f3 := hc2.thaw 3; have f4 := hc2.thaw 4; have f5 := hc2.thaw 5
  simp only [zero] at k0 k1 k2 k3 k4 k5
  have sb := hs2.cells.2.2.2.2
  have hbb := fun w => build_back w s.back
  have hbc := fun w => build_cell w 32 false false false 0 s.back
  have W1 := Lib.hid hw1
  have W2 := Lib.hid hw2
  clear hw1 hb1 hw2 hb2 hc2 hs1 hs2 hb02 hset h
  by_cases hy : 0 ≤ y ∧ y < LL.length
  · obtain ⟨Y, rfl⟩ := Int.eq_ofNat_of_zero_le hy.1
    have hYL : Y < LL.length := by omega
    obtain ⟨b, off, A', c', hA, -, d0, r0, -⟩ := HL.out.at_ hYL
    subst hA
    have t1 : decide ((0 : Int) ≤ (Y : Int)) = true := by simp
    have t2 : decide ((Y : Int) < (LL.length : Int)) = true := by simp; omega
    have t2n : decide (Y < LL.length) = true := by simp; omega
    by_cases hx : 0 ≤ x ∧ x < (LL[Y]).length
    · obtain ⟨X, rfl⟩ := Int.eq_ofNat_of_zero_le hx.1
      have hXl : X < (LL[Y]).length := by omega
      rw [mread_yes hYL hXl]
      obtain ⟨b', off', e', hb', q0, q1, q2, q3, q4, q5⟩ := cel_at r0 hXl
      subst e'
      have t3 : decide ((X : Int) < ((LL[Y]).length : Int)) = true := by simp; omega
      have t3n : decide (X < (LL[Y]).length) = true := by simp; omega
      have hYI : (Y : Int) < (LL.length : Int) := by omega
      have hXI : (X : Int) < ((LL[Y]).length : Int) := by omega
      clear hy hx hb' r0 HL hbb hbc sb
      generalize LL[Y][X] = cc at *
      generalize (LL[Y]).length = ll at *
      generalize LL.length = n at *
      obtain ⟨r, ⟨bo, u, t, f, k⟩⟩ := cc
      obtain ⟨sbo, su, st, sf, sk⟩ := s
      simp only [celV, styV] at *
      go_enter Tryd.func36, Tryd.ntmps36
      go_upto_region 1 with fail
      rw [← W1.out, ← W2.out]
      go_wp2_with fail
      obtain ⟨s1, s2⟩ := HSET.out ⟨r, ⟨bo, u, t, f, k⟩⟩
      obtain ⟨j0, j1, j2, j3, j4, j5⟩ := s2.cells
      unfold setCel at s1 j0 j1 j2 j3 j4 j5
      simp only [Nat.zero_add] at s1 j0 j1 j2 j3 j4 j5
      refine bodyPost_ret (v := .agg #[.int .i32 r, .bool bo, .bool u, .bool t, .int .i64 f, .int .i64 k]) ?_ rfl ⟨rfl, s1⟩
      simp [results, Tryd.results36, go_sem, j0, j1, j2, j3, j4, j5]
    · rw [mread_no hYL hx]
      have hYI : (Y : Int) < (LL.length : Int) := by omega
      clear r0 HL
      generalize (LL[Y]).length = ll at *
      generalize LL.length = n at *
      obtain ⟨sbo, su, st, sf, sk⟩ := s
      simp only [celV, styV, KM.blankS] at *
      obtain ⟨s1, s2⟩ := HSET.out ⟨32, ⟨false, false, false, 0, sk⟩⟩
      obtain ⟨j0, j1, j2, j3, j4, j5⟩ := s2.cells
      unfold setCel at s1 j0 j1 j2 j3 j4 j5
      simp only [Nat.zero_add] at s1 j0 j1 j2 j3 j4 j5
      have S1 := Lib.hid s1
      have J := Lib.hid (And.intro j0 (And.intro j1 (And.intro j2 (And.intro j3 (And.intro j4 j5)))))
      clear s1 s2 j0 j1 j2 j3 j4 j5
      by_cases hx0 : 0 ≤ x
      · have t3 : decide ((0 : Int) ≤ x) = true := by simp; omega
        have t4 : decide (x < (ll : Int)) = false := by simp; omega
        clear hx hy
        go_enter Tryd.func36, Tryd.ntmps36
        go_upto_region 1 with fail
        rw [← W1.out, ← W2.out]
        go_wp2_with fail
        obtain ⟨j0, j1, j2, j3, j4, j5⟩ := J.out
        refine bodyPost_ret (v := .agg #[.int .i32 32, .bool false, .bool false, .bool false, .int .i64 0, .int .i64 sk]) ?_ rfl ⟨rfl, S1.out⟩
        simp [results, Tryd.results36, go_sem, j0, j1, j2, j3, j4, j5]
      · have t3 : decide ((0 : Int) ≤ x) = false := by simp; omega
        clear hx hy
        go_enter Tryd.func36, Tryd.ntmps36
        go_upto_region 1 with fail
        rw [← W1.out, ← W2.out]
        go_wp2_with fail
        obtain ⟨j0, j1, j2, j3, j4, j5⟩ := J.out
        refine bodyPost_ret (v := .agg #[.int .i32 32, .bool false, .bool false, .bool false, .int .i64 0, .int .i64 sk]) ?_ rfl ⟨rfl, S1.out⟩
        simp [results, Tryd.results36, go_sem, j0, j1, j2, j3, j4, j5]
  · rw [mread_off hy]
    clear HL
    generalize LL.length = n at *
    obtain ⟨sbo, su, st, sf, sk⟩ := s
    simp only [celV, styV, KM.blankS] at *
    obtain ⟨s1, s2⟩ := HSET.out ⟨32, ⟨false, false, false, 0, sk⟩⟩
    obtain ⟨j0, j1, j2, j3, j4, j5⟩ := s2.cells
    unfold setCel at s1 j0 j1 j2 j3 j4 j5
    simp only [Nat.zero_add] at s1 j0 j1 j2 j3 j4 j5
    have S1 := Lib.hid s1
    have J := Lib.hid (And.intro j0 (And.intro j1 (And.intro j2 (And.intro j3 (And.intro j4 j5)))))
    clear s1 s2 j0 j1 j2 j3 j4 j5
    by_cases hy0 : 0 ≤ y
    · have t3 : decide ((0 : Int) ≤ y) = true := by simp; omega
      have t4 : decide (y < (n : Int)) = false := by simp; omega
      clear hy
      go_enter Tryd.func36, Tryd.ntmps36
      go_upto_region 1 with fail
      rw [← W1.out, ← W2.out]
      go_wp2_with fail
      obtain ⟨j0, j1, j2, j3, j4, j5⟩ := J.out
      refine bodyPost_ret (v := .agg #[.int .i32 32, .bool false, .bool false, .bool false, .int .i64 0, .int .i64 sk]) ?_ rfl ⟨rfl, S1.out⟩
      simp [results, Tryd.results36, go_sem, j0, j1, j2, j3, j4, j5]
    · have t3 : decide ((0 : Int) ≤ y) = false := by simp; omega
      clear hy
      go_enter Tryd.func36, Tryd.ntmps36
      go_upto_region 1 with fail
      rw [← W1.out, ← W2.out]
      go_wp2_with fail
      obtain ⟨j0, j1, j2, j3, j4, j5⟩ := J.out
      refine bodyPost_ret (v := .agg #[.int .i32 32, .bool false, .bool false, .bool false, .int .i64 0, .int .i64 sk]) ?_ rfl ⟨rfl, S1.out⟩
      simp [results, Tryd.results36, go_sem, j0, j1, j2, j3, j4, j5]
end Go.Proofs.YtbpkklcegiiheaaDoor
namespace Go.Proofs.YtbpkklcegiiheaaDoor
open Go.RowKit Go.Lib KM

/-- Headers as elements of the law's own type of lines. -/
def linM : El Sl where
  ty := 23
  sl := 30
  s := 1
  bytes := 24
  z := .slice none 0 0
  f := fun s => [s.v]
  pos := by decide
  len := fun _ => rfl
  one := fun a u hu => by
    simp only [List.mem_cons, List.not_mem_nil, or_false] at hu
    subst hu; rfl
  und := by kernel_rfl
  info := by kernel_rfl
  zs := rfl

/-- A header that leads to a line. -/
structure SlOk (w : World) (N : Nat → Prop) (s : Sl) (l : List Cel) : Prop where
  n : s.n = l.length
  row : celE.Row w w.heap.size s.a l
  out : 0 < l.length → ∀ a, s.a = some a → N a.block
  cap : s.a = none → s.c = 0
structure HeadsOk (w : World) (N : Nat → Prop) (SL : List Sl) (LL : List (List Cel)) : Prop where
  len : SL.length = LL.length
  at_ : ∀ (j : Nat) (s : Sl) (l : List Cel), SL[j]? = some s → LL[j]? = some l → SlOk w N s l
section
variable {w w' : World} {N N' : Nat → Prop} {s : Sl} {l : List Cel} {SL : List Sl} {LL : List (List Cel)} {A : Option Addr}
theorem SlOk.keep (h : SlOk w N s l) (hk : ∀ k, k < w.heap.size → N k → w'.heap[k]? = w.heap[k]?) (hs : w.heap.size ≤ w'.heap.size) : SlOk w' N s l := ⟨h.n, row_keep h.row h.out hk hs, h.out, h.cap⟩
theorem SlOk.mono (h : SlOk w N s l) (hN : ∀ k, k < w.heap.size → N k → N' k) : SlOk w N' s l := by
  refine ⟨h.n, h.row, fun hp a ha => ?_, h.cap⟩
  obtain ⟨b, off, e, hb, _⟩ := h.row hp
  rw [e] at ha
  injection ha with ha
  subst ha
  exact hN _ hb (h.out hp _ e)
theorem SlOk.below (h : SlOk w N s l) (hb : Below w.heap.size w w') : SlOk w' N s l := h.keep (fun k hk _ => hb.block k hk) hb.size
theorem HeadsOk.nil : HeadsOk w N [] [] := ⟨rfl, fun j s l h => by simp at h⟩
theorem HeadsOk.keep (h : HeadsOk w N SL LL) (hk : ∀ k, k < w.heap.size → N k → w'.heap[k]? = w.heap[k]?) (hs : w.heap.size ≤ w'.heap.size) : HeadsOk w' N SL LL := ⟨h.len, fun j s l h1 h2 => (h.at_ j s l h1 h2).keep hk hs⟩
theorem HeadsOk.mono (h : HeadsOk w N SL LL) (hN : ∀ k, k < w.heap.size → N k → N' k) : HeadsOk w N' SL LL := ⟨h.len, fun j s l h1 h2 => (h.at_ j s l h1 h2).mono hN⟩
theorem HeadsOk.below (h : HeadsOk w N SL LL) (hb : Below w.heap.size w w') : HeadsOk w' N SL LL := h.keep (fun k hk _ => hb.block k hk) hb.size
theorem HeadsOk.grow {v v' : Value} (h : HeadsOk w N SL LL) (hg : Grow w w' v v') (hN : ∀ k, N k → v.ownBlock ≠ some k) : HeadsOk w' N SL LL := h.keep (fun k hk hn => hg.grown.block k hk (fun e => hN k hn e.symm)) hg.grown.size
theorem HeadsOk.snoc (h : HeadsOk w N SL LL) (hs : SlOk w N s l) : HeadsOk w N (SL ++ [s]) (LL ++ [l]) := by
  refine ⟨by rw [List.length_append, List.length_append, h.len]; rfl, fun j s' l' h1 h2 => ?_⟩
  by_cases hj : j < SL.length
  · rw [List.getElem?_append_left hj] at h1
    rw [List.getElem?_append_left (by rw [← h.len]; exact hj)] at h2
    exact h.at_ j s' l' h1 h2
  · rw [List.getElem?_append_right (by omega)] at h1
    rw [List.getElem?_append_right (by rw [← h.len]; omega), ← h.len] at h2
    have e : j - SL.length = 0 := by
      rcases Nat.eq_zero_or_pos (j - SL.length) with e | e
      · exact e
      · rw [List.getElem?_eq_none (by simp only [List.length_singleton]; omega)] at h1; cases h1
    rw [e] at h1 h2
    simp only [List.getElem?_cons_zero, Option.some.injEq] at h1 h2
    subst h1 h2
    exact hs
theorem HeadsOk.set (h : HeadsOk w N SL LL) (hs : SlOk w N s l) (y : Nat) : HeadsOk w N (SL.set y s) (LL.set y l) := by
  refine ⟨by rw [List.length_set, List.length_set, h.len], fun j s' l' h1 h2 => ?_⟩
  rw [List.getElem?_set] at h1 h2
  by_cases hj : y = j
  · subst hj
    rw [if_pos rfl] at h1 h2
    by_cases hl : y < SL.length
    · rw [if_pos hl] at h1
      rw [if_pos (by rw [← h.len]; exact hl)] at h2
      injection h1 with h1
      injection h2 with h2
      subst h1 h2
      exact hs
    · rw [if_neg hl] at h1
      cases h1
  · rw [if_neg hj] at h1 h2
    exact h.at_ j s' l' h1 h2
theorem HeadsOk.drop (h : HeadsOk w N SL LL) (k : Nat) : HeadsOk w N (SL.drop k) (LL.drop k) := by
  refine ⟨by rw [List.length_drop, List.length_drop, h.len], fun j s l h1 h2 => ?_⟩
  rw [List.getElem?_drop] at h1 h2
  exact h.at_ _ s l h1 h2
theorem HeadsOk.take (h : HeadsOk w N SL LL) (k : Nat) : HeadsOk w N (SL.take k) (LL.take k) := by
  refine ⟨by rw [List.length_take, List.length_take, h.len], fun j s l h1 h2 => ?_⟩
  rw [List.getElem?_take] at h1 h2
  split at h1
  · rename_i hj
    rw [if_pos hj] at h2
    exact h.at_ _ s l h1 h2
  · cases h1
theorem linM_cell {SL : List Sl} {j : Nat} (hj : j < SL.length) : (linM.cells SL)[j]? = some SL[j].v := by
  have := linM.cells_at SL j hj 0 (by decide)
  simpa [linM] using this
theorem LinesAt.of_heads (h : HeadsOk w N SL LL) (hr : linM.Row w w.heap.size A SL) (hN : 0 < LL.length → ∀ a, A = some a → N a.block) : LinesAt w N A LL := fun hp => by
  obtain ⟨b, off, e, hb, hc⟩ := hr (by rw [h.len]; exact hp)
  refine ⟨b, off, e, hb, hN hp _ e, fun j hj => ?_⟩
  have hjs : j < SL.length := by rw [h.len]; exact hj
  have hs := h.at_ j SL[j] LL[j] (List.getElem?_eq_getElem hjs) (List.getElem?_eq_getElem hj)
  refine ⟨SL[j].a, SL[j].c, ?_, hs.row, hs.out, hs.cap⟩
  rw [hc j (by simpa [linM] using hjs), linM_cell hjs, ← hs.n]
  rfl
theorem LinesAt.heads (h : LinesAt w N A LL) : ∃ SL, HeadsOk w N SL LL ∧ linM.Row w w.heap.size A SL ∧ (0 < LL.length → ∀ a, A = some a → N a.block) := by
  by_cases hp : 0 < LL.length
  · obtain ⟨b, off, e, hb, hn, hc⟩ := h hp
    have hex : ∀ j : Nat, ∃ s : Sl, ∀ hj : j < LL.length, w.cell? ⟨b, off + j, none⟩ = some s.v ∧ SlOk w N s LL[j] := fun j => by
      by_cases hj : j < LL.length
      · obtain ⟨A', c', h1, h2, h3, h4⟩ := hc j hj
        exact ⟨⟨A', LL[j].length, c'⟩, fun _ => ⟨h1, rfl, h2, h3, h4⟩⟩
      · exact ⟨⟨none, 0, 0⟩, fun h => absurd h hj⟩
    obtain ⟨f, hf⟩ := Classical.skolem.1 hex
    have hl : ((List.range LL.length).map f).length = LL.length := by simp
    refine ⟨(List.range LL.length).map f, ⟨hl, fun j s l h1 h2 => ?_⟩, fun _ => ⟨b, off, e, hb, fun j hj => ?_⟩, fun _ a ha => ?_⟩
    · have hj : j < LL.length := (List.getElem?_eq_some_iff.1 h2).1
      have e1 : LL[j] = l := (List.getElem?_eq_some_iff.1 h2).2
      rw [List.getElem?_map, List.getElem?_range hj] at h1
      simp only [Option.map_some, Option.some.injEq] at h1
      rw [← h1, ← e1]
      exact (hf j hj).2
    · have hj' : j < ((List.range LL.length).map f).length := by simpa [linM] using hj
      have hjl : j < LL.length := by rw [hl] at hj'; exact hj'
      rw [linM_cell hj']
      simp only [List.getElem_map, List.getElem_range]
      exact (hf j hjl).1
    · rw [e] at ha
      injection ha with ha
      subst ha
      exact hn
  · have : LL = [] := List.eq_nil_of_length_eq_zero (by omega)
    subst this
    exact ⟨[], HeadsOk.nil, El.Row.nil, fun h => absurd h (by simp)⟩
theorem LinesAt.take (h : LinesAt w N A LL) (k : Nat) : LinesAt w N A (LL.take k) := by
  obtain ⟨SL, h1, h2, h3⟩ := h.heads
  exact LinesAt.of_heads (h1.take k) (h2.take k) (fun hp => h3 (by rw [List.length_take] at hp; omega))
end

/-! ### lines that are put together -/
/-- New lines, in rows of the call's own: none of them in a block of X, nor in the headers' one. -/
def NextAt (w : World) (base : Nat) (v : Value) (X : Nat → Prop) (LL : List (List Cel)) : Prop :=
  ∃ SL, linM.Own w base v SL ∧ HeadsOk w (fun k => base ≤ k ∧ v.ownBlock ≠ some k ∧ ¬ X k) SL LL ∧ ∀ k, v.ownBlock = some k → ¬ X k
section
variable {w w' : World} {base : Nat} {v v' : Value} {X X' : Nat → Prop} {LL : List (List Cel)} {s : Sl} {l : List Cel}
theorem NextAt.nil (w : World) (base : Nat) (X : Nat → Prop) : NextAt w base (.slice none 0 0) X [] := ⟨[], El.Own.nil _ _, HeadsOk.nil, fun k h => by cases h⟩
theorem NextAt.below (h : NextAt w base v X LL) (hb : Below w.heap.size w w') : NextAt w' base v X LL := by
  obtain ⟨SL, h1, h2, h3⟩ := h
  exact ⟨SL, h1.below hb, h2.below hb, h3⟩
theorem NextAt.lt (h : NextAt w base v X LL) : ∀ k, v.ownBlock = some k → base ≤ k ∧ k < w.heap.size := by
  obtain ⟨SL, h1, _, _⟩ := h
  exact h1.lt
/-- Blocks of X alone changed, and new ones. -/
theorem NextAt.keep (h : NextAt w base v X LL) (hk : ∀ k, k < w.heap.size → ¬ X k → w'.heap[k]? = w.heap[k]?) (hs : w.heap.size ≤ w'.heap.size) : NextAt w' base v X LL := by
  obtain ⟨SL, h1, h2, h3⟩ := h
  exact ⟨SL, h1.keep (fun k e => hk k (h1.lt k e).2 (h3 k e)), h2.keep (fun k hl hn => hk k hl hn.2.2) hs, h3⟩
/-- X for another one that holds no more of what there is. -/
theorem NextAt.mono (h : NextAt w base v X LL) (hX : ∀ k, k < w.heap.size → X' k → X k) : NextAt w base v X' LL := by
  obtain ⟨SL, h1, h2, h3⟩ := h
  exact ⟨SL, h1, h2.mono (fun k hk hn => ⟨hn.1, hn.2.1, fun hx => hn.2.2 (hX k hk hx)⟩), fun k e hx => h3 k e (hX k (h1.lt k e).2 hx)⟩
/-- A line more: its header appended. -/
theorem NextAt.snoc {SL : List Sl} (hSL : linM.Own w base v SL ∧ HeadsOk w (fun k => base ≤ k ∧ v.ownBlock ≠ some k ∧ ¬ X k) SL LL ∧ ∀ k, v.ownBlock = some k → ¬ X k) (hs : SlOk w (fun k => base ≤ k ∧ v.ownBlock ≠ some k ∧ ¬ X k) s l)
    (ho : linM.Own w' base v' (SL ++ [s])) (hg : Grow w w' v v') (hX : ∀ k, w.heap.size ≤ k → ¬ X k) : NextAt w' base v' X (LL ++ [l]) := by
  obtain ⟨h1, h2, h3⟩ := hSL
  have h4 := (h2.snoc hs)
  refine ⟨SL ++ [s], ho, ?_, fun k e => ?_⟩
  · have h5 := h4.mono (N' := fun k => base ≤ k ∧ v.ownBlock ≠ some k ∧ v'.ownBlock ≠ some k ∧ ¬ X k) (fun k hk hn => ⟨hn.1, hn.2.1, fun e => ?_, hn.2.2⟩)
    · exact (h5.grow hg (fun k hn => hn.2.1)).mono (fun k _ hn => ⟨hn.1, hn.2.2.1, hn.2.2.2⟩)
    · rcases hg.place with e2 | e2
      · rw [e2] at e; exact hn.2.1 e
      · have := e2 k e; omega
  · rcases hg.place with e2 | e2
    · rw [e2] at e; exact h3 k e
    · exact hX k (e2 k e)
end
theorem NextAt.lines {w : World} {base : Nat} {v : Value} {X : Nat → Prop} {LL : List (List Cel)} (h : NextAt w base v X LL) : ∃ A c, v = .slice A LL.length c ∧ LL.length ≤ c ∧ LinesAt w (fun k => base ≤ k) A LL := by
  obtain ⟨SL, h1, h2, h3⟩ := h
  obtain ⟨A, c, hv, hlc, _, _, hr⟩ := h1.row
  rw [h2.len] at hv hlc
  refine ⟨A, c, hv, hlc, LinesAt.of_heads (h2.mono (fun k _ hn => hn.1)) hr (fun hp a ha => ?_)⟩
  subst ha
  subst hv
  exact (h1.lt a.block (by rfl)).1

theorem setCel_below' {w w0 : World} {b B : Nat} (h : Below B w0 w) (hb : B ≤ b) (c : Cel) : Below B w0 (setCel w b 0 c) := by
  unfold setCel
  exact (((((h.setCell (p := ⟨b, 0, none⟩) hb _).setCell (p := ⟨b, 0 + 1, none⟩) hb _).setCell (p := ⟨b, 0 + 2, none⟩) hb _).setCell (p := ⟨b, 0 + 3, none⟩) hb _).setCell (p := ⟨b, 0 + 4, none⟩) hb _).setCell (p := ⟨b, 0 + 5, none⟩) hb _
/-- A style stored. -/
def setSty (w : World) (b : Nat) (s' : Sty) : World := (((((w.setCell ⟨b, 0, none⟩ (.bool s'.bold)).setCell ⟨b, 1, none⟩ (.bool s'.under)).setCell ⟨b, 2, none⟩ (.bool s'.turned)).setCell ⟨b, 3, none⟩ (.int .i64 s'.fore)).setCell ⟨b, 4, none⟩ (.int .i64 s'.back))
theorem setSty_below {w w0 : World} {b B : Nat} (h : Below B w0 w) (hb : B ≤ b) (s : Sty) : Below B w0 (setSty w b s) := by
  unfold setSty
  exact ((((h.setCell (p := ⟨b, 0, none⟩) hb _).setCell (p := ⟨b, 1, none⟩) hb _).setCell (p := ⟨b, 2, none⟩) hb _).setCell (p := ⟨b, 3, none⟩) hb _).setCell (p := ⟨b, 4, none⟩) hb _
theorem StyIn.thaw {w : World} {g : Nat} {s : Sty} (h : StyIn w g s) (j : Nat) : w.frozen? ⟨g, j, none⟩ = false := by
  unfold StyIn at h
  simp [World.frozen?, h]
theorem map_range_succ {α : Type} (F : Nat → α) (k : Nat) : (List.range (k + 1)).map F = (List.range k).map F ++ [F k] := by
  rw [List.range_succ, List.map_append]
  rfl
/-- What the model's do answers: the lines behind it, and those that go out. -/
def ModPost (w : World) (N : Nat → Prop) (g' : Gr) (out : List (List Cel)) (e : Ending) (w' : World) : Prop :=
  ∃ A1 c1 A2 c2, e = .returned (.tuple #[.slice A1 g'.ls.length c1, .slice A2 out.length c2]) ∧ g'.ls.length ≤ c1 ∧ LinesAt w' (fun k => N k ∨ w.heap.size ≤ k) A1 g'.ls ∧ LinesAt w' (fun k => N k ∨ w.heap.size ≤ k) A2 out ∧ Below w.heap.size w w'
end Go.Proofs.YtbpkklcegiiheaaDoor
