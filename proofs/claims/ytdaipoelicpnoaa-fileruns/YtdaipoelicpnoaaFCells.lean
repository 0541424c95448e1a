/-
  Rows of the law's own whose elements are one cell each; a store while they are written.
-/
import Derived.Test.YtdaipoelicpnoaaFSures
namespace Go.Proofs.Ytdaipoelicpnoaa
open Go.RowKit Go.Maps FM

theorem Try.info9 : (Try.prog.info? 9).map (fun i => (i.zero, i.size, i.bytes)) = some (some (.string ByteArray.empty), 1, 16) := by kernel_rfl

/-- The slice value v, in a row of the call's own from block 'base' on, holds just these cells. -/
def OwnC (w : World) (base : Nat) (e : TypeId) (v : Value) (cs : List Value) : Prop := w.ownsRow base e 1 v cs.length cs
section
variable {w w' : World} {base : Nat} {e : TypeId} {v : Value} {cs : List Value}
theorem OwnC.nil (w : World) (base : Nat) (e : TypeId) : OwnC w base e (.slice none 0 0) [] := World.ownsRow_nil _ _ _ _
theorem OwnC.lt (h : OwnC w base e v cs) : ∀ k, v.ownBlock = some k → base ≤ k ∧ k < w.heap.size := fun k hk => World.ownsRow.lt h k hk
theorem OwnC.keep (h : OwnC w base e v cs) (hb : ∀ k, v.ownBlock = some k → w'.heap[k]? = w.heap[k]?) : OwnC w' base e v cs := by
  refine ⟨h.1, ?_⟩
  rcases h.2 with h1 | ⟨g, cap, cur, h1, h2, h3, h4⟩
  · exact .inl h1
  · exact .inr ⟨g, cap, cur, h1, h2, (hb g (by rw [h1]; rfl)).trans h3, h4⟩
theorem OwnC.below (h : OwnC w base e v cs) (hb : Below w.heap.size w w') : OwnC w' base e v cs := h.keep fun k hk => hb.block k (h.lt k hk).2
theorem OwnC.form (h : OwnC w base e v cs) : ∃ A c, v = .slice A cs.length c ∧ (A = none → c = 0) ∧ ∀ j, j < cs.length → ∃ g, A = some ⟨g, 0, none⟩ ∧ w.cell? ⟨g, j, none⟩ = cs[j]? := by
  rcases h.2 with ⟨rfl, h0⟩ | ⟨g, cap, cur, rfl, _, hh, h1, h3, _⟩
  · exact ⟨none, 0, by rw [h0], fun _ => rfl, fun j hj => by omega⟩
  · refine ⟨_, _, rfl, by simp, fun j hj => ⟨g, rfl, ?_⟩⟩
    rw [List.getElem?_eq_getElem hj]
    have := World.ownsRow.cells h (g := g) rfl j cs[j] (by simp [hj])
    rw [← this]
    unfold Addr.add
    split <;> simp_all
theorem OwnC.snoc {x : Value} (h : w.ownsRow base e 1 v (cs.length + 1) (cs ++ [x])) : OwnC w base e v (cs ++ [x]) := by
  unfold OwnC
  rw [List.length_append]
  exact h
end

/-- A store stays while only blocks that are none of its own are written. -/
theorem Sto.keep {w w' : World} {S : Nat → Prop} {sb : Nat} {s : St} (h : Sto w S sb s) (hb : ∀ k, S k → w'.heap[k]? = w.heap[k]?) (hs : w.heap.size ≤ w'.heap.size) : Sto w' S sb s := by
  obtain ⟨mb, L, g1, g2, g3, g4, g5⟩ := h
  refine ⟨mb, L, ?_, g2, g3, g4, fun k hk => Nat.lt_of_lt_of_le (g5 k hk) hs⟩
  exact { g1 with
    cells := (hb sb g2).trans g1.cells
    map := by
      obtain ⟨es, cl, hm, r⟩ := g1.map
      exact ⟨es, cl, (hb mb g3).trans hm, r⟩
    own := fun p hp => (g1.own p hp).setOther fun k hk => hb k (g4 p hp k hk) }
theorem Loop.keep {w wr w1 : World} {S : Nat → Prop} {sb : Nat} {s : St} {k : Nat} (h : Loop w wr S sb s k) {B : Nat} (hS : ∀ j, S j → j < B) (hw : w.heap.size ≤ B) (hb : Below B wr w1) : Loop w w1 S sb s k :=
  { h with sto := h.sto.keep (fun j hj => hb.block j (hS j hj)) hb.size, below := h.below.trans (hb.mono hw) }

theorem str_cut (l : List Nat) (k : Nat) : (str l).extract 0 k = str (l.take k) := by
  have h1 : ((str l).extract 0 k).data.toList = (str l).data.toList.take k := by simp
  have h2 : (str (l.take k)).data.toList = (str l).data.toList.take k := by rw [str_list, str_list, List.map_take]
  exact ByteArray.ext (Array.toList_inj.1 (h1.trans h2.symm))

theorem run_cut_str (l : List Nat) (k : Nat) (hk : k ≤ l.length) (w : World) : (Instr.slice 9 (.string (str l)) none (some (.int .i64 (k : Int))) none).run Try.prog w = .ok (.string (str (l.take k))) w := by
  rw [← str_cut]
  have hs : (str l).size = l.length := str_size l
  rw [run_slice_string_to_if (P := Try.prog) (w := w) 9 (str l) .i64 (k : Int) Try.underlying9, if_pos ⟨by omega, by omega⟩]
  rfl
theorem came_i {w : World} {A : Option Addr} {len cap : Nat} {zs : List Int} (h : IsRow .i64 w A len cap zs) : ∃ l : List Int, len = l.length ∧ len ≤ maxLen ∧ RowI w w.heap.size A l ∧ ∀ x ∈ l, x ≤ 9223372036854775807 := by
  rcases h with ⟨rfl, rfl, rfl, rfl⟩ | ⟨x, rfl, h1, h2, h3, h4, h5⟩
  · exact ⟨[], rfl, Nat.zero_le _, fun hp => absurd hp (by simp), by simp⟩
  · refine ⟨zs.take len, by simp; omega, by omega, fun hp => ?_, fun y hy => ?_⟩
    · simp only [List.length_take] at hp
      obtain ⟨b, off, rfl, h⟩ := ints_at h4 (by omega)
      have hlt := World.block_lt_of_cell? w ⟨b, off + 0, none⟩ (h 0 (by omega))
      refine ⟨b, off, rfl, hlt, fun j hj => ?_⟩
      simp only [List.length_take] at hj
      rw [h j (by omega)]
      simp [show j < len by omega]
    · have := bounds_i64 (h5 y (List.mem_of_mem_take hy))
      omega

theorem sto_sure' {w : World} {S : Nat → Prop} {sb : Nat} {s : St} (h : Sto w S sb s) (n : ByteArray) (hn : n.size ≤ maxLen) {k : Nat} (hk : (fileOf s n.data.toList).sure = k) :
    Calls Try.prog 14 #[.pointer (some ⟨sb, 0, none⟩), .string n] w fun e w' => e = .returned (.int .i64 (k : Int)) ∧ w' = w := by
  have := sto_sure h n hn
  rw [hk] at this
  exact this

/-! ### crashes, place by place -/
theorem crashed_at {α : Type} {f : Nat → α → α} : ∀ {j : Nat} {l : List (Name × α)} {i : Nat} (hi : i < l.length), (crashed f j l)[i]? = some ((l[i]).1, f (j + i) (l[i]).2)
  | j, p :: r, 0, _ => rfl
  | j, p :: r, i + 1, hi => by
    have := crashed_at (f := f) (j := j + 1) (l := r) (i := i) (by simpa using hi)
    show (crashed f (j + 1) r)[i]? = _
    rw [this]
    have e : j + 1 + i = j + (i + 1) := by omega
    rw [e]
    rfl
/-- A store that stays up: no fuse, not down. -/
def Calm (s : St) : Prop := s.down = false ∧ s.fuse < 0
theorem calm_change {s : St} (h : Calm s) (e : Nat) : (change s e).2 = s := by
  unfold change
  rw [h.1, if_neg (by simp)]
  split
  · rfl
  · rw [if_neg (by have := h.2; omega), if_neg (by have := h.2; omega)]
theorem calm_doing {s : St} (h : Calm s) (e : Nat) (f) : Calm (doing s e f).2 := by
  unfold doing
  dsimp only
  split
  · rw [calm_change h]; exact h
  · rw [calm_change h]; exact h
theorem calm_crash (s : St) (keep : List Int) : Calm (crash s keep) := ⟨rfl, by show (-1 : Int) < 0; omega⟩
theorem calm_step {s : St} (h : Calm s) {c : CallV} (hk : c.k ≠ 6) : Calm (step s c).2 := by
  unfold step
  split
  · exact calm_doing h _ _
  split
  · exact calm_doing h _ _
  split
  · exact calm_doing h _ _
  split
  · exact calm_doing h _ _
  split
  · exact calm_crash s _
  exact calm_doing h _ _
theorem calm_read {s : St} (h : Calm s) (hr : Rise s.fs) {i : Nat} (hi : i < s.fs.length) : readV s (s.fs[i]).1 = ((s.fs[i]).2.data, 0) ∧ fileOf s (s.fs[i]).1 = (s.fs[i]).2 := by
  have hg := get_of_mem hr (n := (s.fs[i]).1) (a := (s.fs[i]).2) (List.getElem_mem hi)
  unfold readV fileOf
  rw [h.1, hg]
  exact ⟨rfl, rfl⟩
theorem crash_at {s : St} {keep : List Int} {i : Nat} (hi : i < s.fs.length) : ∃ h : i < (crash s keep).fs.length, ((crash s keep).fs[i]).1 = (s.fs[i]).1 ∧ ((crash s keep).fs[i]).2 = lasts (s.fs[i]).2 (more keep i) := by
  have hl : i < (crash s keep).fs.length := by rw [crash_len]; exact hi
  have := crashed_at (f := fun i f => lasts f (more keep i)) (j := 0) hi
  rw [Nat.zero_add] at this
  have e : (crash s keep).fs[i] = ((s.fs[i]).1, lasts (s.fs[i]).2 (more keep i)) := by
    have h2 : (crash s keep).fs[i]? = some ((s.fs[i]).1, lasts (s.fs[i]).2 (more keep i)) := this
    rw [List.getElem?_eq_getElem hl] at h2
    exact Option.some.inj h2
  exact ⟨hl, by rw [e], by rw [e]⟩
theorem lasts_again (f : File) (m m' : Nat) (h : f.sure ≤ f.data.length) : lasts (lasts f m) m' = lasts f m := by
  have hl := lasts_length f m h
  obtain ⟨k, hk⟩ : ∃ k, k = f.sure + min m (f.data.length - f.sure) := ⟨_, rfl⟩
  have e : lasts f m = ⟨f.data.take k, k⟩ := by unfold lasts; rw [← hk]
  have hkl : k ≤ f.data.length := by omega
  rw [e]
  unfold lasts
  have ht : (f.data.take k).length = k := by rw [List.length_take]; omega
  simp only [ht, Nat.sub_self, Nat.min_zero, Nat.add_zero]
  rw [List.take_take, Nat.min_self]
theorem crashed_again {f : Nat → File → File} (hf : ∀ i x, x.sure ≤ x.data.length → f i (f i x) = f i x) : ∀ (i : Nat) (l : List (Name × File)), (∀ p ∈ l, p.2.sure ≤ p.2.data.length) → crashed f i (crashed f i l) = crashed f i l
  | _, [], _ => rfl
  | i, p :: r, h => by
    show (p.1, f i (f i p.2)) :: crashed f (i + 1) (crashed f (i + 1) r) = (p.1, f i p.2) :: crashed f (i + 1) r
    rw [hf i p.2 (h p (by simp)), crashed_again hf (i + 1) r fun q hq => h q (by simp [hq])]
theorem crash_again {s : St} (h : ∀ p ∈ s.fs, p.2.sure ≤ p.2.data.length) (keep : List Int) : crash (crash s keep) keep = crash s keep := by
  show ({ fs := crashed _ 0 (crashed _ 0 s.fs), quota := s.quota, fuse := -1, down := false } : St) = _
  rw [crashed_again (fun i x hx => lasts_again x _ _ hx) 0 s.fs h]
  rfl
end Go.Proofs.Ytdaipoelicpnoaa
