/-
  FileRuns' model in memory: a row of files (name, bytes as a text, how many are sure), behind a pointer.
-/
import Derived.Test.YtdaipoelicpnoaaFCells
namespace Go.Proofs.Ytdaipoelicpnoaa
open Go.RowKit Go.Maps FM

theorem Try.info62 : (Try.prog.info? 62).map (fun i => (i.zero, i.size, i.bytes)) = some (some (.agg #[.string ByteArray.empty, .string ByteArray.empty, .int .i64 0]), 3, 40) := by kernel_rfl

def nm (n : Name) : ByteArray := ⟨⟨n⟩⟩
theorem nm_list (n : Name) : (nm n).data.toList = n := rfl
theorem nm_of (n : ByteArray) : nm n.data.toList = n := rfl
def oneC (p : Name × File) : List Value := [.string (nm p.1), .string (str p.2.data), .int .i64 (p.2.sure : Int)]
def ones : List (Name × File) → List Value
  | [] => []
  | p :: r => oneC p ++ ones r
theorem ones_len : ∀ fs, (ones fs).length = fs.length * 3
  | [] => rfl
  | p :: r => by simp [ones, oneC, ones_len r]; omega
theorem ones_append : ∀ a b, ones (a ++ b) = ones a ++ ones b
  | [], _ => rfl
  | p :: r, b => by simp [ones, ones_append r b]
theorem ones_at : ∀ {fs : List (Name × File)} {i : Nat} (hi : i < fs.length), (ones fs)[i * 3]? = some (.string (nm (fs[i]).1)) ∧ (ones fs)[i * 3 + 1]? = some (.string (str (fs[i]).2.data)) ∧ (ones fs)[i * 3 + 2]? = some (.int .i64 ((fs[i]).2.sure : Int))
  | p :: r, 0, _ => ⟨rfl, rfl, rfl⟩
  | p :: r, i + 1, hi => by
    obtain ⟨h1, h2, h3⟩ := ones_at (fs := r) (i := i) (by simpa using hi)
    refine ⟨?_, ?_, ?_⟩
    · rw [show (i + 1) * 3 = i * 3 + 3 by omega]; exact h1
    · rw [show (i + 1) * 3 + 1 = (i * 3 + 1) + 3 by omega]; exact h2
    · rw [show (i + 1) * 3 + 2 = (i * 3 + 2) + 3 by omega]; exact h3
theorem ones_one : ∀ {fs : List (Name × File)}, ∀ u ∈ ones fs, u.oneCell' = true
  | p :: r, u, hu => by
    rcases List.mem_append.1 hu with h | h
    · simp [oneC] at h
      rcases h with rfl | rfl | rfl <;> rfl
    · exact ones_one u h
/-- Two cells of one file are stored. -/
theorem ones_set : ∀ {fs : List (Name × File)} {i : Nat} (hi : i < fs.length) (f : File), ones (fs.set i ((fs[i]).1, f)) = ((ones fs).set (i * 3 + 1) (.string (str f.data))).set (i * 3 + 2) (.int .i64 (f.sure : Int))
  | p :: r, 0, _, f => rfl
  | p :: r, i + 1, hi, f => by
    have := ones_set (fs := r) (i := i) (by simpa using hi) f
    rw [show (i + 1) * 3 + 1 = (i * 3 + 1) + 3 by omega, show (i + 1) * 3 + 2 = (i * 3 + 2) + 3 by omega]
    show oneC p ++ ones (r.set i ((r[i]'(by simpa using hi)).1, f)) = _
    rw [this]
    rfl
theorem set_same {α : Type} {l : List α} {j : Nat} {x : α} (h : l[j]? = some x) : l.set j x = l := by
  obtain ⟨hj, e⟩ := List.getElem?_eq_some_iff.1 h
  rw [← e]
  exact List.set_getElem_self hj
theorem ones_set1 {fs : List (Name × File)} {i : Nat} (hi : i < fs.length) (d : List Nat) : ones (fs.set i ((fs[i]).1, ⟨d, (fs[i]).2.sure⟩)) = (ones fs).set (i * 3 + 1) (.string (str d)) := by
  rw [ones_set hi]
  refine set_same ?_
  rw [List.getElem?_set_ne (by omega)]
  exact (ones_at hi).2.2
theorem ones_set2 {fs : List (Name × File)} {i : Nat} (hi : i < fs.length) (k : Nat) : ones (fs.set i ((fs[i]).1, ⟨(fs[i]).2.data, k⟩)) = (ones fs).set (i * 3 + 2) (.int .i64 (k : Int)) := by
  rw [ones_set hi, set_same (ones_at hi).2.1]

/-- The slice value v, in a row of the call's own from block 'base' on, holds just these files. -/
def OwnO (w : World) (base : Nat) (v : Value) (fs : List (Name × File)) : Prop := w.ownsRow base 62 3 v fs.length (ones fs)
section
variable {w w' : World} {base : Nat} {v : Value} {fs : List (Name × File)}
theorem OwnO.nil (w : World) (base : Nat) : OwnO w base (.slice none 0 0) [] := World.ownsRow_nil _ _ _ _
theorem OwnO.lt (h : OwnO w base v fs) : ∀ k, v.ownBlock = some k → base ≤ k ∧ k < w.heap.size := fun k hk => World.ownsRow.lt h k hk
theorem OwnO.keep (h : OwnO w base v fs) (hb : ∀ k, v.ownBlock = some k → w'.heap[k]? = w.heap[k]?) : OwnO w' base v fs := by
  refine ⟨h.1, ?_⟩
  rcases h.2 with h1 | ⟨g, cap, cur, h1, h2, h3, h4⟩
  · exact .inl h1
  · exact .inr ⟨g, cap, cur, h1, h2, (hb g (by rw [h1]; rfl)).trans h3, h4⟩
theorem OwnO.mono {base' : Nat} (h : OwnO w base v fs) (hb : base' ≤ base) : OwnO w base' v fs := by
  refine ⟨h.1, ?_⟩
  rcases h.2 with h1 | ⟨g, cap, cur, h1, h2, h3⟩
  · exact .inl h1
  · exact .inr ⟨g, cap, cur, h1, by omega, h3⟩
theorem OwnO.notCells {k : Nat} (h : OwnO w base v fs) (hk : v.ownBlock = some k) : ∃ cur, w.heap[k]? = some (.cells cur 62) := by
  rcases h.2 with ⟨rfl, _⟩ | ⟨g, cap, cur, rfl, _, hh, _⟩
  · cases hk
  · cases hk; exact ⟨cur, hh⟩
/-- What a walk reads of it. -/
theorem OwnO.form (h : OwnO w base v fs) : ∃ A c, v = .slice A fs.length c ∧ fs.length ≤ c ∧ c ≤ maxLen ∧ (A = none → c = 0) ∧ ∀ i (hi : i < fs.length), ∃ g, A = some ⟨g, 0, none⟩ ∧ g < w.heap.size ∧ w.cell? ⟨g, i * 3, none⟩ = some (.string (nm (fs[i]).1)) ∧ w.cell? ⟨g, i * 3 + 1, none⟩ = some (.string (str (fs[i]).2.data)) ∧
    w.cell? ⟨g, i * 3 + 2, none⟩ = some (.int .i64 ((fs[i]).2.sure : Int)) ∧ w.frozen? ⟨g, i * 3 + 1, none⟩ = false ∧ w.frozen? ⟨g, i * 3 + 2, none⟩ = false := by
  rcases h.2 with ⟨rfl, h0⟩ | ⟨g, cap, cur, rfl, _, hh, h1, h3, h4, h5⟩
  · exact ⟨none, 0, by rw [h0], by omega, by unfold maxLen; omega, fun _ => rfl, fun i hi => by omega⟩
  · refine ⟨_, _, rfl, h1, h3, by simp, fun i hi => ⟨g, rfl, (Array.getElem?_eq_some_iff.1 hh).1, ?_⟩⟩
    obtain ⟨e1, e2, e3⟩ := ones_at hi
    have key : ∀ j, j < fs.length * 3 → w.cell? ⟨g, j, none⟩ = (ones fs)[j]? := fun j hj => by
      rw [← h5, List.getElem?_take_of_lt hj]
      simp [World.cell?, hh]
    rw [key _ (by omega), key _ (by omega), key _ (by omega)]
    exact ⟨e1, e2, e3, by simp [World.frozen?, hh], by simp [World.frozen?, hh]⟩
theorem OwnO.shape (h : OwnO w base v fs) : ∃ A n c, v = .slice A n c := by
  rcases h.2 with ⟨rfl, h0⟩ | ⟨g, cap, cur, rfl, _⟩
  · exact ⟨_, _, _, rfl⟩
  · exact ⟨_, _, _, rfl⟩
/-- A cell of it is stored. -/
theorem OwnO.set {g n c : Nat} {xs : List Value} (h : w.ownsRow base 62 3 (.slice (some ⟨g, 0, none⟩) n c) n xs) (j : Nat) (x : Value) : (w.setCell ⟨g, j, none⟩ x).ownsRow base 62 3 (.slice (some ⟨g, 0, none⟩) n c) n (xs.set j x) := by
  refine ⟨by rw [List.length_set]; exact h.1, ?_⟩
  rcases h.2 with ⟨h1, _⟩ | ⟨g', cap, cur, h1, h2, h3, h4, h5, h6, h7⟩
  · cases h1
  · simp only [Value.slice.injEq, Option.some.injEq, Addr.mk.injEq] at h1
    obtain ⟨⟨rfl, _⟩, _, rfl⟩ := h1
    refine .inr ⟨g, c, cur.setIfInBounds j x, rfl, h2, heap_setCell_same w g j cur _ x h3, h4, h5, by simpa using h6, ?_⟩
    rw [← h7, Array.toList_setIfInBounds, List.take_set]

/-- A slice of files, wherever it lies. -/
def Row3 (w : World) (A : Option Addr) (fs : List (Name × File)) : Prop := 0 < fs.length → ∃ b off, A = some ⟨b, off, none⟩ ∧ b < w.heap.size ∧ ∀ j, j < fs.length * 3 → w.cell? ⟨b, off + j, none⟩ = (ones fs)[j]?
theorem Row3.nil (w : World) (A : Option Addr) : Row3 w A [] := fun h => absurd h (by simp)
theorem Row3.below {A : Option Addr} (h : Row3 w A fs) (hb : Below w.heap.size w w') : Row3 w' A fs := fun hp => by
  obtain ⟨b, off, e, hlt, hc⟩ := h hp
  exact ⟨b, off, e, Nat.lt_of_lt_of_le hlt hb.size, fun j hj => (hb.cell (p := ⟨b, off + j, none⟩) hlt).trans (hc j hj)⟩
theorem OwnO.row (h : OwnO w base v fs) : ∃ A c, v = .slice A fs.length c ∧ fs.length ≤ c ∧ (A = none → c = 0) ∧ Row3 w A fs := by
  rcases h.2 with ⟨rfl, h0⟩ | ⟨g, cap, cur, rfl, _, hh, h1, h3, h4, h5⟩
  · exact ⟨none, 0, by rw [h0], by omega, fun _ => rfl, fun hp => by omega⟩
  · refine ⟨_, _, rfl, h1, by simp, fun _ => ⟨g, 0, rfl, (Array.getElem?_eq_some_iff.1 hh).1, fun j hj => ?_⟩⟩
    rw [← h5, List.getElem?_take_of_lt hj, Nat.zero_add]
    simp [World.cell?, hh]
theorem Row3.take {A : Option Addr} (h : Row3 w A fs) (k : Nat) : Row3 w A (fs.take k) := fun hp => by
  rw [List.length_take] at hp
  obtain ⟨b, off, e, hlt, hc⟩ := h (by omega)
  refine ⟨b, off, e, hlt, fun j hj => ?_⟩
  rw [List.length_take] at hj
  rw [hc j (by omega)]
  have e1 : ones fs = ones (fs.take k) ++ ones (fs.drop k) := by rw [← ones_append, List.take_append_drop]
  rw [e1, List.getElem?_append_left (by rw [ones_len, List.length_take]; exact hj)]
theorem Row3.cut {A : Option Addr} (h : Row3 w A fs) {k cap : Nat} (hk : k ≤ fs.length) (hc : fs.length ≤ cap) : Row3 w (if cap = k then A else A.map (·.add (k * 3))) (fs.drop k) := fun hp => by
  rw [List.length_drop] at hp
  obtain ⟨b, off, rfl, hlt, hcell⟩ := h (by omega)
  rw [if_neg (by omega)]
  refine ⟨b, off + k * 3, by simp only [Option.map_some, Option.some.injEq]; unfold Addr.add; split <;> simp_all, hlt, fun j hj => ?_⟩
  rw [List.length_drop] at hj
  rw [Nat.add_assoc, hcell (k * 3 + j) (by omega)]
  have e1 : ones fs = ones (fs.take k) ++ ones (fs.drop k) := by rw [← ones_append, List.take_append_drop]
  rw [e1, List.getElem?_append_right (by rw [ones_len, List.length_take]; omega), ones_len, List.length_take]
  congr 1
  omega

theorem row3_new (w : World) (p : Name × File) : Row3 (w.alloc (.cells #[.string (nm p.1), .string (str p.2.data), .int .i64 (p.2.sure : Int)] 62)) (some ⟨w.heap.size, 0, none⟩) [p] := fun _ => by
  refine ⟨w.heap.size, 0, rfl, by simp, fun j hj => ?_⟩
  have hj' : j < 3 := by simpa using hj
  match j, hj' with
  | 0, _ => simp [ones, oneC]
  | 1, _ => simp [ones, oneC]
  | 2, _ => simp [ones, oneC]

theorem run_append_ones (w : World) (base : Nat) (ty : TypeId) (v : Value) (fs : List (Name × File)) (hown : OwnO w base v fs) (A : Option Addr) (gs : List (Name × File)) (c : Nat) (hr : Row3 w A gs) (hA : A = none → c = 0)
    (hlen : fs.length + gs.length ≤ 1000000) (hbase : base ≤ w.heap.size) :
    ∃ v' w', (Builtin.append_ #[28, 28] ty #[v, .slice A gs.length c]).run Try.prog w = .ok v' w' ∧ OwnO w' base v' (fs ++ gs) ∧ Grow w w' v v' := by
  obtain ⟨i0, hi, hz0, hz1, hz2⟩ := info_parts Try.info62
  rcases A with _ | a
  · have : gs = [] := by
      rcases gs with _ | ⟨x, l⟩
      · rfl
      · obtain ⟨b, off, h, _⟩ := hr (by simp)
        cases h
    subst this
    obtain rfl := hA rfl
    exact ⟨v, w, run_append_owned_none (P := Try.prog) (w := w) base 28 ty 62 i0 3 Try.underlying28 hi v fs.length _ hown, by simpa using hown, Grow.refl _ _⟩
  · obtain ⟨v', w', h1, h2, h3, _, h5⟩ := run_append_own_at (P := Try.prog) w base 28 ty 62 i0 _ 3 40 Try.underlying28 hi hz0 hz1 hz2 rfl (by decide) v fs.length _ hown a gs.length c (ones gs) (ones_len gs)
      (fun j u hu => by
        have hj : j < gs.length * 3 := by
          rcases Nat.lt_or_ge j (gs.length * 3) with h | h
          · exact h
          · rw [List.getElem?_eq_none (by rw [ones_len]; exact h)] at hu; cases hu
        obtain ⟨b, off, h, _, hc⟩ := hr (by omega)
        injection h with h
        subst h
        have hplain : (⟨b, off, none⟩ : Addr).add j = ⟨b, off + j, none⟩ := by unfold Addr.add; split <;> simp_all
        rw [hplain, hc j hj, hu])
      ones_one (by unfold maxLen; omega) (by omega) hbase
    refine ⟨v', w', h1, ?_, ⟨h3, ?_⟩⟩
    · unfold OwnO
      rw [ones_append, List.length_append]
      exact h2
    · rcases h5 with h5 | h5
      · exact .inl h5
      · exact .inr fun k hk => by rw [h5] at hk; injection hk with hk; omega
/-- An append of files, as one step of a region that draws. -/
theorem step_append_ones {ops : Array Oper} {o : Oper} {a : Act} {w : World} {K : Act → World → Prop} {Q : Exit → Act → World → Prop} {E : Prop} (hgd : o.guard = none) (s x : Operand)
    (ho : o.op = .call { callee := .builtin .append, args := #[s, x], argTypes := #[28, 28] }) (base : Nat) (v : Value) (fs : List (Name × File)) (hs : a.eval s = v) (hown : OwnO w base v fs)
    (A : Option Addr) (gs : List (Name × File)) (n c : Nat) (hn : n = gs.length) (hx : a.eval x = .slice A n c) (hr : Row3 w A gs) (hA : A = none → c = 0) (hlen : fs.length + gs.length ≤ 1000000) (hbase : base ≤ w.heap.size)
    (h : ∀ v' w', OwnO w' base v' (fs ++ gs) → Grow w w' v v' → K (a.put o.dst v') w') : if Region.wanted o (yielded ops a.tmps) = true then Oper.wp Try.prog o a w K Q else E := by
  subst hn
  have hw : Region.wanted o (yielded ops a.tmps) = true := by simp [Region.wanted, hgd]
  rw [if_pos hw]
  obtain ⟨v', w', hrun, h2, h3⟩ := run_append_ones w base o.type v fs hown A gs c hr hA hlen hbase
  unfold Oper.wp execOp
  simp only [ho, resolve, invoke, builtin, Sem.run_bind, Sem.run_pure, Result.andThen_ok, List.map_toArray, List.map_cons, List.map_nil, hs, hx, hrun]
  exact h v' w' h2 h3
end
end Go.Proofs.Ytdaipoelicpnoaa
