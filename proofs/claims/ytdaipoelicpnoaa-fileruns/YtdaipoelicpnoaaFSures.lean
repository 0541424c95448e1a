/-
  Layer 4's laws: what is sure lasts. No walk.
-/
import Derived.Test.YtdaipoelicpnoaaFFuse
namespace Go.Proofs.Ytdaipoelicpnoaa
open Go.RowKit Go.Maps FM

/-- The file n begins with the bytes W, and they are sure. -/
def Lasts (s : St) (n : Name) (W : List Nat) : Prop := ∃ f, get n s.fs = some f ∧ W.length ≤ f.sure ∧ f.sure ≤ f.data.length ∧ f.data.take W.length = W

theorem crashed_get {α : Type} {f : Nat → α → α} {n : Name} {x : α} : ∀ {i : Nat} {l : List (Name × α)}, get n l = some x → ∃ j, get n (crashed f i l) = some (f j x)
  | i, p :: r, h => by
    by_cases e : p.1 = n
    · have hp : p.2 = x := by unfold FM.get at h; rw [List.find?_cons_of_pos (by simpa using e)] at h; simpa using h
      refine ⟨i, ?_⟩
      unfold FM.get crashed
      rw [List.find?_cons_of_pos (by simpa using e)]
      simp [hp]
    · have h' : get n r = some x := by unfold FM.get at *; rwa [List.find?_cons_of_neg (by simpa using e)] at h
      obtain ⟨j, hj⟩ := crashed_get (f := f) (i := i + 1) h'
      refine ⟨j, ?_⟩
      rw [← hj]
      unfold FM.get
      rw [crashed, List.find?_cons_of_neg (by simpa using e)]

theorem Lasts.crash {s : St} {n : Name} {W : List Nat} (h : Lasts s n W) (keep : List Int) : Lasts (crash s keep) n W := by
  obtain ⟨f, h1, h2, h3, h4⟩ := h
  obtain ⟨j, hj⟩ := crashed_get (f := fun i f => lasts f (more keep i)) (i := 0) h1
  have hl := lasts_length f (more keep j) h3
  refine ⟨_, hj, ?_, ?_, ?_⟩
  · show W.length ≤ f.sure + _
    omega
  · show f.sure + min (more keep j) (f.data.length - f.sure) ≤ (lasts f (more keep j)).data.length
    omega
  · show (f.data.take (f.sure + min (more keep j) (f.data.length - f.sure))).take W.length = W
    rw [List.take_take, Nat.min_eq_left (by omega), h4]
theorem Lasts.fuse {s : St} {n : Name} {W : List Nat} (h : Lasts s n W) (k : Int) : Lasts (setFuse s k) n W := h
theorem Lasts.append {s : St} {n : Name} {W : List Nat} (h : Lasts s n W) (m : Name) (b : List Nat) : Lasts (append s m b).2 n W := by
  obtain ⟨f, h1, h2, h3, h4⟩ := h
  unfold Lasts FM.append
  rw [doing_fs]
  split
  · by_cases e : m = n
    · subst e
      refine ⟨_, get_put_same _ _ _, ?_, ?_, ?_⟩
      · rw [h1]; exact h2
      · rw [h1]; simp; omega
      · rw [h1]
        show (f.data ++ b).take W.length = W
        rw [List.take_append_of_le_length (by omega), h4]
    · exact ⟨f, by rw [get_put_other _ e]; exact h1, h2, h3, h4⟩
  · exact ⟨f, h1, h2, h3, h4⟩
theorem Lasts.step {s : St} {n : Name} {W : List Nat} (h : Lasts s n W) {c : CallV} (hk : c.k < 2 ∨ 5 < c.k) : Lasts (step s c).2 n W := by
  rcases hk with hk | hk
  · rw [step_append hk]; exact h.append _ _
  · have h8 : c.k < 8 := by unfold CallV.k; omega
    unfold Proofs.Ytdaipoelicpnoaa.step
    rw [if_neg (by omega), if_neg (by omega), if_neg (by omega), if_neg (by omega)]
    by_cases h6 : c.k = 6
    · rw [if_pos h6]; exact h.fuse _
    · rw [if_neg h6, if_pos (by omega)]; exact h.crash _

/-- What a file has behind an append and a sync on a store that is up, without a fuse. -/
theorem sync_ok0 {s : St} {n : Name} (hd : s.down = false) (hf : s.fuse < 0) (hg : (get n s.fs).isSome = true) : sync s n = (0, { s with fs := put n ⟨(fileOf s n).data, (fileOf s n).data.length⟩ s.fs }) := by
  have he : missing s n = 0 := by unfold missing; rw [if_pos hg]
  have hc : change s 0 = (0, s) := by unfold change; rw [hd, if_neg (by simp), if_neg (by simp), if_neg (by omega), if_neg (by omega)]
  unfold FM.sync
  rw [he, doing_ok (by rw [hc]), hc]
  rfl
theorem append_ok0 {s : St} {n : Name} (hd : s.down = false) (hf : s.fuse < 0) (hn : isName n = true) (b : List Nat) (hr : b.length ≤ s.quota - used s) : append s n b = (0, { s with fs := put n ⟨(fileOf s n).data ++ b, (fileOf s n).sure⟩ s.fs }) := by
  have he : appendErr s n b = 0 := by unfold appendErr; rw [if_pos hn, if_neg (by omega)]
  have hc : change s 0 = (0, s) := by unfold change; rw [hd, if_neg (by simp), if_neg (by simp), if_neg (by omega), if_neg (by omega)]
  unfold FM.append
  rw [he, doing_ok (by rw [hc]), hc]
  rfl
/-- The two of them: the errors, and what the file has. -/
theorem saved {s : St} {n : Name} (hd : s.down = false) (hf : s.fuse < 0) (hn : isName n = true) (b : List Nat) (hr : b.length ≤ s.quota - used s) :
    (append s n b).1 = 0 ∧ (sync (append s n b).2 n).1 = 0 ∧ readV (sync (append s n b).2 n).2 n = ((fileOf s n).data ++ b, 0) ∧ Lasts (sync (append s n b).2 n).2 n ((fileOf s n).data ++ b) := by
  have h1 := append_ok0 hd hf hn b hr
  have hg : get n (append s n b).2.fs = some ⟨(fileOf s n).data ++ b, (fileOf s n).sure⟩ := by rw [h1]; exact get_put_same _ _ _
  have hfo : fileOf (append s n b).2 n = ⟨(fileOf s n).data ++ b, (fileOf s n).sure⟩ := by unfold fileOf at *; rw [hg]; rfl
  have h2 := sync_ok0 (s := (append s n b).2) (n := n) (by rw [h1]; exact hd) (by rw [h1]; exact hf) (by rw [hg]; rfl)
  have hg2 : get n (sync (append s n b).2 n).2.fs = some ⟨(fileOf s n).data ++ b, ((fileOf s n).data ++ b).length⟩ := by rw [h2, hfo]; exact get_put_same _ _ _
  refine ⟨by rw [h1], by rw [h2], ?_, _, hg2, Nat.le_refl _, Nat.le_refl _, List.take_length⟩
  unfold readV fileOf
  rw [hg2]
  have : (sync (append s n b).2 n).2.down = false := by rw [h2, h1]; exact hd
  rw [this]
  rfl
theorem Lasts.read {s : St} {n : Name} {W : List Nat} (h : Lasts s n W) (hd : s.down = false) : (readV s n).2 = 0 ∧ W.length ≤ (readV s n).1.length ∧ (readV s n).1.take W.length = W := by
  obtain ⟨f, h1, h2, h3, h4⟩ := h
  unfold readV fileOf
  rw [hd, h1]
  exact ⟨rfl, Nat.le_trans h2 h3, h4⟩

theorem Row.drewN {w : World} {B : Nat} {k : IntKind} {A : Option Addr} {l : List Nat} (h : Row w B k A l) (n : Nat) : Row (w.drewN n) B k A l := h.keep fun p _ => by simp
theorem below_drewN {B : Nat} {a w : World} (h : Below B a w) (n : Nat) : Below B a (w.drewN n) := ⟨h.os, h.tape, h.output, h.size, h.block⟩

/-- A row of the law's own that the store does not hold. -/
structure Kept (wr : World) (S : Nat → Prop) (v : Value) (l : List Nat) : Prop where
  own : Own wr 0 v l
  apart : ∀ k, v.ownBlock = some k → ¬ S k
theorem Kept.below {w w' : World} {S : Nat → Prop} {v : Value} {l : List Nat} (h : Kept w S v l) (hb : Below w.heap.size w w') : Kept w' S v l := ⟨h.own.below hb, h.apart⟩
theorem Kept.fr {w w' : World} {S : Nat → Prop} {v : Value} {l : List Nat} (h : Kept w S v l) (hf : Fr S w w') : Kept w' (wider S w w') v l := by
  have hlt : ∀ k, v.ownBlock = some k → k < w.heap.size := fun k hk => (World.ownsRow.lt h.own k hk).2
  refine ⟨h.own.setOther fun k hk => hf.block k (hlt k hk) (h.apart k hk), fun k hk => ?_⟩
  rintro (h1 | h1)
  · exact h.apart k hk h1
  · have := hlt k hk; omega
end Go.Proofs.Ytdaipoelicpnoaa
