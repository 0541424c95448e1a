/-
  Layer 4's laws: the reading calls at a store; a call's block in a law's round.
-/
import Derived.Test.YtdaipoelicpnoaaFPure
import Derived.Test.YtdaipoelicpnoaaFFit
import Derived.Test.YtdaipoelicpnoaaFOpen
namespace Go.Proofs.Ytdaipoelicpnoaa
open Go.RowKit Go.Maps Go.Sort Go.Shelf FM

theorem sto_used {w : World} {S : Nat → Prop} {sb : Nat} {s : St} (h : Sto w S sb s) (hu : used s ≤ 1000000) :
    Calls Try.prog 21 #[.pointer (some ⟨sb, 0, none⟩)] w fun e w' => e = .returned (.int .i64 (used s : Int)) ∧ Below w.heap.size w w' := by
  obtain ⟨mb, L, h, _⟩ := h
  exact used_ok w sb mb L s h (by omega)
theorem sto_up {w : World} {S : Nat → Prop} {sb : Nat} {s : St} (h : Sto w S sb s) :
    Calls Try.prog 22 #[.pointer (some ⟨sb, 0, none⟩)] w fun e w' => e = .returned (.bool (!s.down)) ∧ w' = w := by
  obtain ⟨mb, L, h, _⟩ := h
  exact up_ok w sb mb L s h
theorem sto_sure {w : World} {S : Nat → Prop} {sb : Nat} {s : St} (h : Sto w S sb s) (n : ByteArray) (hn : n.size ≤ maxLen) :
    Calls Try.prog 14 #[.pointer (some ⟨sb, 0, none⟩), .string n] w fun e w' => e = .returned (.int .i64 ((fileOf s n.data.toList).sure : Int)) ∧ w' = w := by
  obtain ⟨mb, L, h, _⟩ := h
  exact sure_ok w sb mb L s n hn h
theorem sto_file_le {w : World} {S : Nat → Prop} {sb : Nat} {s : St} (h : Sto w S sb s) (n : Name) : (fileOf s n).data.length ≤ used s := by
  obtain ⟨mb, L, h, _⟩ := h
  rw [← fileIn_of h]
  exact (h.file n).2.2
theorem sto_read {w : World} {S : Nat → Prop} {sb : Nat} {s : St} (h : Sto w S sb s) (n : ByteArray) (hn : n.size ≤ maxLen) (hu : used s ≤ 1000000) :
    Calls Try.prog 18 #[.pointer (some ⟨sb, 0, none⟩), .string n] w fun e w' => ∃ v, e = .returned (.tuple #[v, .int .i64 ((readV s n.data.toList).2 : Int)]) ∧ Own w' w.heap.size v (readV s n.data.toList).1 ∧ Below w.heap.size w w' := by
  have h0 := sto_file_le h n.data.toList
  obtain ⟨mb, L, h, _⟩ := h
  exact read_ok w sb mb L s n hn h (by omega)
theorem sto_names {w : World} {S : Nat → Prop} {sb : Nat} {s : St} (h : Sto w S sb s) (hn : s.fs.length ≤ 1000000) :
    Calls Try.prog 24 #[.pointer (some ⟨sb, 0, none⟩)] w fun e w' => ∃ v, e = .returned v ∧ w'.ownsRow w.heap.size 9 1 v s.fs.length ((s.fs.map Prod.fst).map encStr) ∧ Below w.heap.size w w' := by
  obtain ⟨mb, L, h, _⟩ := h
  have e : L.map Prod.fst = s.fs.map Prod.fst := by rw [h.fs]; unfold mapV; rw [List.map_map]; rfl
  have hl := h.len
  have := names_ok w sb mb L s h (by omega)
  rw [e, ← hl] at this
  exact this

/-- A call's cells in a block of the law's own. -/
def CallAt (w : World) (b : Nat) (c : CallV) : Prop := w.heap[b]? = some (.cells #[.int .i64 c.kind, .int .i64 c.n, .string c.name, .string c.to, .slice c.A c.data.length c.cap] 33)
theorem CallAt.k0 {w : World} {b : Nat} {c : CallV} (h : CallAt w b c) : w.cell? ⟨b, 0, none⟩ = some (.int .i64 c.kind) := by unfold CallAt at h; simp only [World.cell?, h]; rfl
theorem CallAt.k1 {w : World} {b : Nat} {c : CallV} (h : CallAt w b c) : w.cell? ⟨b, 1, none⟩ = some (.int .i64 c.n) := by unfold CallAt at h; simp only [World.cell?, h]; rfl
theorem CallAt.k2 {w : World} {b : Nat} {c : CallV} (h : CallAt w b c) : w.cell? ⟨b, 2, none⟩ = some (.string c.name) := by unfold CallAt at h; simp only [World.cell?, h]; rfl
theorem CallAt.k3 {w : World} {b : Nat} {c : CallV} (h : CallAt w b c) : w.cell? ⟨b, 3, none⟩ = some (.string c.to) := by unfold CallAt at h; simp only [World.cell?, h]; rfl
theorem CallAt.k4 {w : World} {b : Nat} {c : CallV} (h : CallAt w b c) : w.cell? ⟨b, 4, none⟩ = some (.slice c.A c.data.length c.cap) := by unfold CallAt at h; simp only [World.cell?, h]; rfl
theorem CallAt.alloc (w : World) (c : CallV) : CallAt (w.alloc (.cells #[.int .i64 c.kind, .int .i64 c.n, .string c.name, .string c.to, .slice c.A c.data.length c.cap] 33)) w.heap.size c := (MapKept.heap_alloc w _).1
theorem CallAt.lt {w : World} {b : Nat} {c : CallV} (h : CallAt w b c) : b < w.heap.size := (Array.getElem?_eq_some_iff.1 h).1
theorem CallAt.below {w w' : World} {b : Nat} {c : CallV} (h : CallAt w b c) (hb : Below w.heap.size w w') : CallAt w' b c := (hb.block b h.lt).trans h
theorem CallAt.fr {w w' : World} {b : Nat} {c : CallV} {S : Nat → Prop} (h : CallAt w b c) (hf : Fr S w w') (hS : ¬ S b) : CallAt w' b c := (hf.block b h.lt hS).trans h

/-- The call of a law's round, as it came in. -/
theorem Row5.call {w wr : World} {A : Option Addr} {cs : List CallV} (h : Row5 w w.heap.size A cs) (hb : Below w.heap.size w wr) {i : Nat} (hi : i < cs.length) :
    ∃ b off, A = some ⟨b, off, none⟩ ∧ wr.cell? ⟨b, off + i * 5, none⟩ = some (.int .i64 cs[i].kind) ∧ wr.cell? ⟨b, off + i * 5 + 1, none⟩ = some (.int .i64 cs[i].n) ∧ wr.cell? ⟨b, off + i * 5 + 2, none⟩ = some (.string cs[i].name) ∧
      wr.cell? ⟨b, off + i * 5 + 3, none⟩ = some (.string cs[i].to) ∧ wr.cell? ⟨b, off + i * 5 + 4, none⟩ = some (.slice cs[i].A cs[i].data.length cs[i].cap) ∧ cs[i].Ok w w.heap.size := by
  obtain ⟨b, off, rfl, hlt, hc⟩ := h (by omega)
  obtain ⟨h1, h2, h3, h4, h5, hok⟩ := hc i hi
  exact ⟨b, off, rfl, (hb.cell (p := ⟨b, off + i * 5, none⟩) hlt).trans h1, (hb.cell (p := ⟨b, off + i * 5 + 1, none⟩) hlt).trans h2, (hb.cell (p := ⟨b, off + i * 5 + 2, none⟩) hlt).trans h3,
    (hb.cell (p := ⟨b, off + i * 5 + 3, none⟩) hlt).trans h4, (hb.cell (p := ⟨b, off + i * 5 + 4, none⟩) hlt).trans h5, hok⟩
theorem short_all {cs : List CallV} (h : shortL cs = true) : cs.length ≤ 100 ∧ ∀ i (hi : i < cs.length), (cs[i]).data.length ≤ 100 ∧ (cs[i]).name.size ≤ 50 ∧ (cs[i]).to.size ≤ 50 := by
  unfold shortL at h
  simp only [Bool.and_eq_true, decide_eq_true_eq, List.all_eq_true] at h
  refine ⟨h.1, fun i hi => ?_⟩
  have := h.2 _ (List.getElem_mem hi)
  simp only [shortC, Bool.and_eq_true, decide_eq_true_eq] at this
  exact ⟨this.1.1, this.1.2, this.2⟩
end Go.Proofs.Ytdaipoelicpnoaa
