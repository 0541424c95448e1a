/-
  Layer 4's laws: a slice of calls that came in.
-/
import Derived.Test.YtdaipoelicpnoaaFCall
import Derived.Deep.Slices
namespace Go.Proofs.Ytdaipoelicpnoaa
open Go.RowKit Go.Maps FM Go.ChangeShapes Go.WideShapes

/-- What a walk is told of a slice of calls that came in. -/
def IsCalls (w : World) (a : Option Addr) (len : Nat) : Prop := ∃ cs : List CallV, len = cs.length ∧ len ≤ maxLen ∧ Row5 w w.heap.size a cs

instance : Inhabited CallV := ⟨⟨0, 0, ByteArray.empty, ByteArray.empty, none, 0, []⟩⟩

section
variable {H : Type} {enc : TypeId × Value → H} {w : World}

theorem open_call {fuel : Nat} {l : List Value} {x : DataW H × List MemPlace} (h : DataW.trod enc Try.prog w 0 (fun _ => true) true fuel 33 l = some x) :
    ∃ c : CallV, l = [.int .i64 c.kind, .int .i64 c.n, .string c.name, .string c.to, .slice c.A c.data.length c.cap] ∧ c.Ok w w.heap.size := by
  obtain ⟨xs, n, _, _, hl, hlen, hf⟩ := DataW.trod_struct Try.underlying33 h
  have hl5 : l.length = 5 := hl.trans (by kernel_rfl)
  have e3 : Try.prog.cellsOf 3 = 1 := by kernel_rfl
  have e9 : Try.prog.cellsOf 9 = 1 := by kernel_rfl
  have e31 : Try.prog.cellsOf 31 = 1 := by kernel_rfl
  match l, hl5 with
  | [v0, v1, v2, v3, v4], _ =>
  match xs, hlen with
  | [y0, y1, y2, y3, y4], _ =>
    have g0 : DataW.trod enc Try.prog w 0 (fun _ => true) true n 3 (([v0, v1, v2, v3, v4].drop 0).take (Try.prog.cellsOf 3)) = some y0 := hf 0 _ rfl
    rw [e3] at g0
    have h0 : DataW.trod enc Try.prog w 0 (fun _ => true) true n 3 [v0] = some y0 := g0
    have g1 : DataW.trod enc Try.prog w 0 (fun _ => true) true n 3 (([v0, v1, v2, v3, v4].drop 1).take (Try.prog.cellsOf 3)) = some y1 := hf 1 _ rfl
    rw [e3] at g1
    have h1 : DataW.trod enc Try.prog w 0 (fun _ => true) true n 3 [v1] = some y1 := g1
    have g2 : DataW.trod enc Try.prog w 0 (fun _ => true) true n 9 (([v0, v1, v2, v3, v4].drop 2).take (Try.prog.cellsOf 9)) = some y2 := hf 2 _ rfl
    rw [e9] at g2
    have h2 : DataW.trod enc Try.prog w 0 (fun _ => true) true n 9 [v2] = some y2 := g2
    have g3 : DataW.trod enc Try.prog w 0 (fun _ => true) true n 9 (([v0, v1, v2, v3, v4].drop 3).take (Try.prog.cellsOf 9)) = some y3 := hf 3 _ rfl
    rw [e9] at g3
    have h3 : DataW.trod enc Try.prog w 0 (fun _ => true) true n 9 [v3] = some y3 := g3
    have g4 : DataW.trod enc Try.prog w 0 (fun _ => true) true n 31 (([v0, v1, v2, v3, v4].drop 4).take (Try.prog.cellsOf 31)) = some y4 := hf 4 _ rfl
    rw [e31] at g4
    have h4 : DataW.trod enc Try.prog w 0 (fun _ => true) true n 31 [v4] = some y4 := g4
    obtain ⟨k, hk, _, wk⟩ := DataW.trod_int Try.underlying3 h0
    obtain ⟨m, hm, _, wm⟩ := DataW.trod_int Try.underlying3 h1
    obtain ⟨nm, hn, _, wn⟩ := DataW.trod_string Try.underlying9 h2
    obtain ⟨to, ht, _, wt⟩ := DataW.trod_string Try.underlying9 h3
    simp only [List.cons.injEq, and_true] at hk hm hn ht
    subst hk hm hn ht
    have hbm := bounds_i64 wm
    obtain ⟨A, d, cap, hv, hr, hA, hd, hmx⟩ : ∃ (A : Option Addr) (d : List Nat) (cap : Nat), v4 = .slice A d.length cap ∧ Row w w.heap.size .u8 A d ∧ (A = none → cap = 0) ∧ (∀ x ∈ d, x < 256) ∧ d.length ≤ maxLen := by
      rcases open_ints Try.underlying31 Try.underlying5 (by kernel_rfl) h4 with ⟨hcs, _⟩ | ⟨x, len, cp, zs, hcs, _, hll, hmm, hz, _, hcell, hwz⟩
      · simp only [List.cons.injEq, and_true] at hcs
        exact ⟨none, [], 0, hcs, Row.nil, fun _ => rfl, by simp, Nat.zero_le _⟩
      · simp only [List.cons.injEq, and_true] at hcs
        obtain ⟨d, hd1, hd2, hd3, hd4, hd5, hd6⟩ := came (w := w) (A := some x) (len := len) (cap := cp) (zs := zs) (k := .u8) (.inr ⟨x, rfl, hll, hmm, by simpa using hz, hcell, hwz⟩) top_u8
        exact ⟨some x, d, cp, by rw [hcs, hd1], hd5, hd4, hd6, by rw [← hd1]; omega⟩
    exact ⟨⟨k, m, nm, to, A, cap, d⟩, by rw [hv], ⟨by simp only; omega, wn, wt, hr, hA, hd, hmx⟩⟩

theorem calls_in {fuel : Nat} {a : Option Addr} {len cap : Nat} {x : DataW H × List MemPlace} (h : DataW.trod enc Try.prog w 0 (fun _ => true) true fuel 22 [.slice a len cap] = some x) : IsCalls w a len := by
  have e5 : Try.prog.cellsOf 33 = 5 := by kernel_rfl
  rcases Go.Deep.open_slice Try.underlying22 h with ⟨hcs, _⟩ | ⟨a', len', cap', m, n, D, Pl, hcs, _, hl, hm, hmm, _, hx⟩
  · simp at hcs
    obtain ⟨rfl, rfl, rfl⟩ := hcs
    exact ⟨[], rfl, Nat.zero_le _, fun hp => absurd hp (by simp)⟩
  · simp at hcs
    obtain ⟨rfl, rfl, rfl⟩ := hcs
    simp only [if_true] at hmm
    subst hmm
    rw [e5] at hx
    obtain ⟨F, hF⟩ := Go.Deep.choose_lt (α := CallV) (n := len) (p := fun i c => w.cells? 0 (a'.add (i * 5)) 5 = some [.int .i64 c.kind, .int .i64 c.n, .string c.name, .string c.to, .slice c.A c.data.length c.cap] ∧ c.Ok w w.heap.size) (fun i hi => by
      obtain ⟨cs', h1, h2⟩ := hx i (by omega)
      obtain ⟨c, rfl, hc⟩ := open_call h2
      exact ⟨c, h1, hc⟩)
    refine ⟨(List.range len).map F, by simp, by omega, fun hp => ?_⟩
    simp only [List.length_map, List.length_range] at hp
    have h00 := (World.cells?_some (hF 0 hp).1).2.2 0 (by omega)
    obtain ⟨b, off, spot⟩ := a'
    have hspot : spot = none := by
      have := World.cell?_spot h00
      simpa [Addr.add] using this
    subst hspot
    have hlt := World.block_lt_of_cell? w _ h00
    refine ⟨b, off, rfl, by simpa [Addr.add] using hlt, fun j hj => ?_⟩
    simp only [List.length_map, List.length_range] at hj
    have hc := (World.cells?_some (hF j hj).1).2.2
    have c0 := hc 0 (by omega); have c1 := hc 1 (by omega); have c2 := hc 2 (by omega); have c3 := hc 3 (by omega); have c4 := hc 4 (by omega)
    simp only [add_plain, List.getElem?_cons_zero, List.getElem?_cons_succ, Nat.add_zero] at c0 c1 c2 c3 c4
    simp only [List.getElem_map, List.getElem_range]
    exact ⟨c0, c1, c2, c3, c4, (hF j hj).2⟩
end
end Go.Proofs.Ytdaipoelicpnoaa
