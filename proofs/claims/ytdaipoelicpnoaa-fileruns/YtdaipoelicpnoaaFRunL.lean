/-
  FileRuns: what a call keeps of the store's names and of its fuse; the store beside the model. No walk.
-/
import Derived.Test.YtdaipoelicpnoaaFSame
namespace Go.Proofs.Ytdaipoelicpnoaa
open Go.RowKit Go.Maps FM

/-- All files have names that may be. -/
def Named (s : St) : Prop := ∀ p ∈ s.fs, isName p.1 = true
theorem crashed_names {f : Nat → File → File} : ∀ {i : Nat} {l : List (Name × File)} {p : Name × File}, p ∈ crashed f i l → ∃ q ∈ l, q.1 = p.1
  | i, q :: r, p, h => by
    rcases List.mem_cons.1 h with rfl | h
    · exact ⟨q, by simp, rfl⟩
    · obtain ⟨t, ht, e⟩ := crashed_names h
      exact ⟨t, by simp [ht], e⟩
theorem doing_named {s : St} (h : Named s) {e : Nat} {f : List (Name × File) → List (Name × File)} (hf : e = 0 → ∀ p ∈ f s.fs, isName p.1 = true) : Named (doing s e f).2 := by
  unfold Named
  rw [doing_fs]
  split
  · rename_i h0
    exact hf (change_zero h0)
  · exact h
theorem put_named {n : Name} {a : File} {l : List (Name × File)} (hn : isName n = true) (h : ∀ p ∈ l, isName p.1 = true) : ∀ p ∈ put n a l, isName p.1 = true := by
  intro p hp
  unfold FM.put at hp
  rcases mem_ins.1 hp with rfl | hp
  · exact hn
  · exact h p (mem_del.1 hp).1
theorem get_named {s : St} (h : Named s) {n : Name} (hg : missing s n = 0) : isName n = true := by
  unfold missing at hg
  split at hg
  · rename_i hs
    obtain ⟨a, ha⟩ := Option.isSome_iff_exists.1 hs
    unfold FM.get at ha
    obtain ⟨p, hp, _⟩ := Option.map_eq_some_iff.1 ha
    have h1 := List.find?_some hp
    have h2 := List.mem_of_find?_eq_some hp
    have e : p.1 = n := by simpa using h1
    rw [← e]
    exact h p h2
  · cases hg
theorem Named.step {s : St} (h : Named s) (c : CallV) : Named (step s c).2 := by
  unfold Proofs.Ytdaipoelicpnoaa.step
  split
  · exact doing_named h fun e => put_named (get_named h e) h
  split
  · refine doing_named h fun e => ?_
    unfold renameErr at e
    split at e
    · rename_i hn
      exact put_named hn fun p hp => h p (mem_del.1 hp).1
    · cases e
  split
  · exact doing_named h fun _ p hp => h p (mem_del.1 hp).1
  split
  · exact doing_named h fun e => put_named (get_named h e) h
  split
  · exact h
  split
  · intro p hp
    obtain ⟨q, hq, e⟩ := crashed_names (show p ∈ crashed _ 0 s.fs from hp)
    rw [← e]
    exact h q hq
  · refine doing_named h fun e => ?_
    unfold appendErr at e
    split at e
    · rename_i hn
      exact put_named hn h
    · cases e
theorem Named.none {s : St} (h : Named s) {n : Name} (hn : isName n = false) : (fileOf s n).sure = 0 := by
  unfold fileOf
  rcases hg : FM.get n s.fs with _ | a
  · rfl
  · exfalso
    have : missing s n = 0 := by unfold missing; rw [hg]; rfl
    rw [get_named h this] at hn
    cases hn

/-- A fuse that a number of the language may be. -/
def Fused (s : St) : Prop := -9223372036854775808 ≤ s.fuse ∧ s.fuse < 9223372036854775808
theorem doing_fused {s : St} (h : Fused s) (e : Nat) (f) : Fused (doing s e f).2 := by
  have hc : Fused (change s e).2 := by
    unfold change Fused at *
    split
    · exact h
    split
    · exact h
    split
    · exact h
    split
    · constructor <;> dsimp only <;> omega
    · exact h
  unfold doing
  dsimp only
  split
  · exact hc
  · exact hc
theorem Fused.step {s : St} (h : Fused s) (c : CallV) (hn : -9223372036854775808 ≤ c.n ∧ c.n < 9223372036854775808) : Fused (step s c).2 := by
  unfold Proofs.Ytdaipoelicpnoaa.step
  split
  · exact doing_fused h _ _
  split
  · exact doing_fused h _ _
  split
  · exact doing_fused h _ _
  split
  · exact doing_fused h _ _
  split
  · exact hn
  split
  · constructor
    · show (-9223372036854775808 : Int) ≤ -1; omega
    · show (-1 : Int) < 9223372036854775808; omega
  · exact doing_fused h _ _

/-- The store and the model side by side. -/
structure Both (w wr : World) (S T : Nat → Prop) (sb pb : Nat) (s : St) (k q : Nat) : Prop where
  loop : Loop w wr S sb s k
  mod : Mod wr T pb s
  newT : ∀ j, T j → w.heap.size ≤ j
  apart : ∀ j, S j → ¬ T j
  quota : s.quota = q
  named : Named s
  fused : Fused s
theorem Both.moved {w wr w1 : World} {S T : Nat → Prop} {sb pb : Nat} {s : St} {k q : Nat} (h : Both w wr S T sb pb s k q) (hb : Below wr.heap.size wr w1) : Both w w1 S T sb pb s k q :=
  { h with loop := h.loop.moved hb, mod := h.mod.below hb }
theorem Both.fits {w wr : World} {S T : Nat → Prop} {sb pb : Nat} {s : St} {k q : Nat} (h : Both w wr S T sb pb s k q) {c : CallV} (hc : c.Ok w w.heap.size) (hs : c.data.length ≤ 200) (hk : k ≤ 500) (hq : q < 9223372036854775808) : MFits wr s c w.heap.size :=
  { ok := hc.below h.loop.below
    B := h.loop.below.size
    rise := h.loop.sto.rise
    sures := h.loop.sto.sures
    files := by have := h.loop.files; omega
    used := by have := h.loop.used; omega
    room := h.loop.room
    quota := by rw [h.quota]; exact hq
    fuse := h.fused
    data := by omega }
/-- Behind the model's call: the store is as it was. -/
theorem Both.store {w wr w1 : World} {S T : Nat → Prop} {sb pb : Nat} {s : St} {k q : Nat} (h : Both w wr S T sb pb s k q) (hf : Fr T wr w1) : Loop w w1 S sb s k :=
  { h.loop with
    sto := h.loop.sto.keep (fun j hj => hf.block j (h.loop.sto.lt j hj) (h.apart j hj)) hf.size
    below := h.loop.below.trans (hf.below h.loop.below.size h.newT) }
/-- Behind the store's call: both are one step on. -/
theorem Both.step {w wr w1 w2 : World} {S T : Nat → Prop} {sb pb : Nat} {s : St} {k q : Nat} (h : Both w wr S T sb pb s k q) {c : CallV} (hs : c.data.length ≤ 200) (hn : -9223372036854775808 ≤ c.n ∧ c.n < 9223372036854775808)
    (hm : Mod w1 (wider T wr w1) pb (Proofs.Ytdaipoelicpnoaa.step s c).2) (hf : Fr T wr w1) {e : Ending} (ha : After w1 S sb (Proofs.Ytdaipoelicpnoaa.step s c) e w2) :
    Both w w2 (wider S w1 w2) (wider T wr w1) sb pb (Proofs.Ytdaipoelicpnoaa.step s c).2 (k + 1) q := by
  have hL := h.store hf
  have hS := h.loop.sto.lt
  have hsz := hf.size
  have hTl := h.mod.lt
  refine ⟨hL.step hs ha, ?_, ?_, ?_, by rw [step_quota]; exact h.quota, h.named.step c, h.fused.step c hn⟩
  · refine hm.keep (fun j hj => ha.2.2.block j (hm.lt j hj) fun hSj => ?_) ha.2.2.size
    rcases hj with hj | hj
    · exact h.apart j hSj hj
    · have := hS j hSj; omega
  · intro j hj
    rcases hj with hj | hj
    · exact h.newT j hj
    · have := h.loop.below.size; omega
  · intro j hj hTj
    rcases hj with hj | hj
    · rcases hTj with hT | hT
      · exact h.apart j hj hT
      · have := hS j hj; omega
    · rcases hTj with hT | hT
      · have := hTl j hT; omega
      · omega
end Go.Proofs.Ytdaipoelicpnoaa
