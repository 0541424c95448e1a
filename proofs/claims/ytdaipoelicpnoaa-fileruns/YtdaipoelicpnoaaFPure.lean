/-
  Layer 4's laws: what one call does to the number of files, to the bytes in all, to the quota. No walk.
-/
import Derived.Test.YtdaipoelicpnoaaFDo
namespace Go.Proofs.Ytdaipoelicpnoaa
open Go.RowKit Go.Maps FM

theorem Sto.rise {w : World} {S : Nat → Prop} {sb : Nat} {s : St} (h : Sto w S sb s) : Rise s.fs := by
  obtain ⟨mb, L, h, _⟩ := h
  rw [h.fs]
  exact (mapV_rise Prod.snd).2 h.rise
theorem Sto.sures {w : World} {S : Nat → Prop} {sb : Nat} {s : St} (h : Sto w S sb s) : ∀ p ∈ s.fs, p.2.sure ≤ p.2.data.length := by
  obtain ⟨mb, L, h, _⟩ := h
  intro p hp
  rw [h.fs] at hp
  obtain ⟨q, hq, rfl⟩ := List.mem_map.1 hp
  exact h.sure q hq
theorem Sto.small {w : World} {S : Nat → Prop} {sb : Nat} {s : St} (h : Sto w S sb s) : ∀ p ∈ s.fs, ∀ x ∈ p.2.data, x < 256 := by
  obtain ⟨mb, L, h, _⟩ := h
  intro p hp
  rw [h.fs] at hp
  obtain ⟨q, hq, rfl⟩ := List.mem_map.1 hp
  exact h.small q hq

def len (f : File) : Nat := f.data.length
theorem used_len (s : St) : used s = sum len s.fs := rfl

theorem crashed_sum {f : Nat → File → File} (h : ∀ i x, len (f i x) ≤ len x) : ∀ (i : Nat) (l : List (Name × File)), sum len (crashed f i l) ≤ sum len l
  | _, [] => Nat.le_refl _
  | i, p :: r => by
    have h1 := crashed_sum h (i + 1) r
    have h2 := h i p.2
    show len (f i p.2) + sum len (crashed f (i + 1) r) ≤ len p.2 + sum len r
    omega
theorem lasts_le (f : File) (m : Nat) : len (lasts f m) ≤ len f := by unfold lasts len; simp; omega

theorem put_same {l : List (Name × File)} (h : Rise l) (n : Name) (x : File) (hx : len x ≤ len ((get n l).getD noFile)) : sum len (put n x l) ≤ sum len l := by
  have := sum_put len h n x
  rcases hg : get n l with _ | y
  · rw [hg] at this hx; simp only [Option.map_none, Option.getD_none, show len noFile = 0 from rfl] at this hx; omega
  · rw [hg] at this hx; simp at this hx; omega
theorem put_more {l : List (Name × File)} (h : Rise l) (n : Name) (x : File) (k : Nat) (hx : len x ≤ len ((get n l).getD noFile) + k) : sum len (put n x l) ≤ sum len l + k := by
  have := sum_put len h n x
  rcases hg : get n l with _ | y
  · rw [hg] at this hx; simp only [Option.map_none, Option.getD_none, show len noFile = 0 from rfl] at this hx; omega
  · rw [hg] at this hx; simp at this hx; omega

theorem step_quota (s : St) (c : CallV) : (step s c).2.quota = s.quota := by
  unfold step
  split
  · exact doing_quota _ _ _
  split
  · exact doing_quota _ _ _
  split
  · exact doing_quota _ _ _
  split
  · exact doing_quota _ _ _
  split
  · rfl
  split
  · rfl
  exact doing_quota _ _ _

theorem doing_len (s : St) (e : Nat) (f) (h : (f s.fs).length ≤ s.fs.length + 1) : (doing s e f).2.fs.length ≤ s.fs.length + 1 := by
  rw [doing_fs]; split
  · exact h
  · omega
theorem doing_sum (s : St) (e : Nat) (f) (k : Nat) (h : sum len (f s.fs) ≤ sum len s.fs + k) : used (doing s e f).2 ≤ used s + k := by
  rw [used_len, used_len, doing_fs]; split
  · exact h
  · omega

theorem step_len (s : St) (c : CallV) : (step s c).2.fs.length ≤ s.fs.length + 1 := by
  unfold step
  split
  · exact doing_len _ _ _ (length_put_le _ _ _)
  split
  · refine doing_len _ _ _ (Nat.le_trans (length_put_le _ _ _) ?_)
    have := length_del_le c.name.data.toList s.fs
    omega
  split
  · refine doing_len _ _ _ (Nat.le_trans (length_del_le _ _) (by omega))
  split
  · exact doing_len _ _ _ (length_put_le _ _ _)
  split
  · exact Nat.le_succ _
  split
  · show (crashed _ 0 s.fs).length ≤ _
    rw [crashed_length]; omega
  exact doing_len _ _ _ (length_put_le _ _ _)

theorem rename_sum {l : List (Name × File)} (h : Rise l) (a b : Name) : sum len (put b ((get a l).getD noFile) (del a l)) ≤ sum len l := by
  have h1 := sum_put len (h.del a) b ((get a l).getD noFile)
  rcases hg : get a l with _ | x
  · rw [hg] at h1
    simp only [Option.getD_none, show len noFile = 0 from rfl] at h1 ⊢
    have := sum_del_le len a l
    omega
  · rw [hg] at h1
    simp only [Option.getD_some] at h1 ⊢
    have := sum_del len h hg
    omega

/-- All calls but Append leave no more bytes. -/
theorem step_sum {s : St} (h : Rise s.fs) (c : CallV) (hk : 2 ≤ c.k) : used (step s c).2 ≤ used s := by
  unfold step
  split
  · exact doing_sum _ _ _ 0 (put_same h _ _ (Nat.le_refl _))
  split
  · exact doing_sum _ _ _ 0 (rename_sum h _ _)
  split
  · exact doing_sum _ _ _ 0 (sum_del_le _ _ _)
  split
  · exact doing_sum _ _ _ 0 (put_same h _ _ (by unfold cutTo len; simp; omega))
  split
  · exact Nat.le_refl _
  split
  · exact crashed_sum (fun _ _ => lasts_le _ _) 0 s.fs
  have : c.k < 8 := by unfold CallV.k; omega
  omega
theorem append_sum {s : St} (h : Rise s.fs) (n : Name) (b : List Nat) : used (append s n b).2 ≤ used s + b.length :=
  doing_sum _ _ _ b.length (put_more h _ _ _ (by unfold len; simp))
theorem change_zero {s : St} {e : Nat} (h : (change s e).1 = 0) : e = 0 := by
  unfold change at h
  split at h
  · cases h
  · split at h
    · exact h
    · omega
theorem append_room {s : St} (h : Rise s.fs) (n : Name) (b : List Nat) (hr : used s ≤ s.quota) : used (append s n b).2 ≤ s.quota := by
  by_cases hc : (change s (appendErr s n b)).1 = 0
  · have he := change_zero hc
    have h1 := append_sum h n b
    unfold appendErr at he
    split at he
    · split at he
      · cases he
      · omega
    · cases he
  · unfold append
    rw [used_len, doing_fs]
    have : (doing s (appendErr s n b) fun fs => put n ⟨((get n fs).getD noFile).data ++ b, ((get n fs).getD noFile).sure⟩ fs).1 ≠ 0 := hc
    rw [if_neg this]
    exact hr
theorem step_append {s : St} {c : CallV} (hk : c.k < 2) : step s c = append s c.name.data.toList c.data := by
  unfold step
  rw [if_neg (by omega), if_neg (by omega), if_neg (by omega), if_neg (by omega), if_neg (by omega), if_neg (by omega)]
theorem step_used {s : St} (h : Rise s.fs) (c : CallV) : used (step s c).2 ≤ used s + c.data.length := by
  by_cases hk : c.k < 2
  · rw [step_append hk]; exact append_sum h _ _
  · have := step_sum h c (by omega); omega
theorem step_room {s : St} (h : Rise s.fs) (c : CallV) (hr : used s ≤ s.quota) : used (step s c).2 ≤ s.quota := by
  by_cases hk : c.k < 2
  · rw [step_append hk]; exact append_room h _ _ hr
  · have := step_sum h c (by omega); omega
/-- A store that is up refuses bytes for want of room just where there would be too many. -/
theorem append_full {s : St} {n : Name} {b : List Nat} (hd : s.down = false) (hn : isName n = true) : (append s n b).1 = 5 ↔ s.quota - used s < b.length := by
  show (change s (appendErr s n b)).1 = 5 ↔ _
  unfold appendErr
  rw [if_pos hn]
  by_cases h : s.quota - used s < b.length
  · rw [if_pos h]
    refine ⟨fun _ => h, fun _ => ?_⟩
    unfold change
    rw [hd]
    rfl
  · rw [if_neg h]
    refine ⟨fun h5 => ?_, fun h5 => absurd h5 h⟩
    exfalso
    revert h5
    unfold change
    rw [hd, if_neg (by simp), if_neg (by simp)]
    split
    · simp
    · split <;> simp

/-- The state of a law's loop over calls: the store's world wr, all of it above what came in. -/
structure Loop (w wr : World) (S : Nat → Prop) (sb : Nat) (s : St) (k : Nat) : Prop where
  sto : Sto wr S sb s
  new : ∀ j, S j → w.heap.size ≤ j
  below : Below w.heap.size w wr
  files : s.fs.length ≤ k + 10
  used : FM.used s ≤ 300 * k + 1000
  room : FM.used s ≤ s.quota

theorem CallV.Ok.below {w w' : World} {B : Nat} {c : CallV} (h : c.Ok w B) (hb : Below B w w') : c.Ok w' B := ⟨h.n, h.name, h.to, h.row.below hb, h.nil, h.small, h.long⟩
theorem Row.block_lt {w : World} {B : Nat} {k : IntKind} {A : Option Addr} {l : List Nat} (h : Row w B k A l) (hl : 0 < l.length) {a : Addr} (ha : A = some a) : a.block < B := by
  obtain ⟨b, off, e, hb, _⟩ := h hl
  rw [ha] at e
  injection e with e
  subst e
  exact hb
theorem Loop.fits {w wr : World} {S : Nat → Prop} {sb : Nat} {s : St} {k : Nat} (h : Loop w wr S sb s k) {c : CallV} (hc : c.Ok w w.heap.size) (hs : c.data.length ≤ 200) (hk : k ≤ 1000) : Fits wr S s c w.heap.size :=
  { ok := hc.below h.below
    B := h.below.size
    files := by have := h.files; omega
    used := by have := h.used; omega
    room := h.room
    data := by omega
    apart := fun hp a ha hS => by
      have h1 := hc.row.block_lt hp ha
      have h2 := h.new _ hS
      omega }
theorem Loop.moved {w wr w1 : World} {S : Nat → Prop} {sb : Nat} {s : St} {k : Nat} (h : Loop w wr S sb s k) (hb : Below wr.heap.size wr w1) : Loop w w1 S sb s k :=
  { h with sto := h.sto.below hb, below := h.below.trans (hb.mono h.below.size) }
theorem Loop.later {w wr : World} {S : Nat → Prop} {sb : Nat} {s : St} {k : Nat} (h : Loop w wr S sb s k) : Loop w wr S sb s (k + 1) :=
  { h with files := by have := h.files; omega, used := by have := h.used; omega }
theorem Loop.step {w wr w1 : World} {S : Nat → Prop} {sb : Nat} {s : St} {k : Nat} (h : Loop w wr S sb s k) {c : CallV} (hs : c.data.length ≤ 200) {e : Ending} (ha : After wr S sb (step s c) e w1) : Loop w w1 (wider S wr w1) sb (Proofs.Ytdaipoelicpnoaa.step s c).2 (k + 1) :=
  { sto := ha.2.1
    new := fun j hj => by
      rcases hj with hj | hj
      · exact h.new j hj
      · have := h.below.size; omega
    below := h.below.trans (ha.2.2.below h.below.size h.new)
    files := by have := step_len s c; have := h.files; omega
    used := by have := step_used h.sto.rise c; have := h.used; omega
    room := by rw [step_quota]; exact step_room h.sto.rise c h.room }
theorem Loop.start {w w1 w0 : World} {sb : Nat} {q : Int} (hb0 : Below w.heap.size w w0) (h : Sto w1 (wider (fun _ => False) w0 w1) sb (fresh q)) (hb : Below w0.heap.size w0 w1) : Loop w w1 (wider (fun _ => False) w0 w1) sb (fresh q) 0 :=
  { sto := h
    new := fun j hj => by
      rcases hj with hj | hj
      · exact hj.elim
      · have := hb0.size; omega
    below := hb0.trans (hb.mono hb0.size)
    files := Nat.zero_le _
    used := Nat.zero_le _
    room := Nat.zero_le _ }
end Go.Proofs.Ytdaipoelicpnoaa
