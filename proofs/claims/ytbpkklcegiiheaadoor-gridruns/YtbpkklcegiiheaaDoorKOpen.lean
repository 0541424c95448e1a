/-
  Layer 8's laws: arguments that are a style, a cell, a slice of cells.
-/
import Derived.Test.YtbpkklcegiiheaaDoorKRow
import Derived.Deep.Slices
import Derived.ChangeSame
import Derived.OpenShut
namespace Go.Proofs.YtbpkklcegiiheaaDoor
open Go.RowKit Go.ChangeShapes Go.WideShapes KM
set_option maxRecDepth 100000

section
variable {H : Type} {enc : TypeId × Value → H} {w : World}
theorem trod_style {fuel : Nat} {l : List Value} {x : DataW H × List MemPlace} (h : DataW.trod enc Tryd.prog w 0 (fun _ => true) true fuel 35 l = some x) : ∃ s : Sty, l = styL s := by
  obtain ⟨xs, n, _, _, hl, hlen, hf⟩ := DataW.trod_struct Tryd.underlying35 h
  have hl5 : l.length = 5 := hl.trans (by kernel_rfl)
  have eb : Tryd.prog.cellsOf 4 = 1 := by kernel_rfl
  have ei : Tryd.prog.cellsOf 3 = 1 := by kernel_rfl
  match l, hl5 with
  | [v0, v1, v2, v3, v4], _ =>
  match xs, hlen with
  | [y0, y1, y2, y3, y4], _ =>
    have g0 : DataW.trod enc Tryd.prog w 0 (fun _ => true) true n 4 (([v0, v1, v2, v3, v4].drop 0).take (Tryd.prog.cellsOf 4)) = some y0 := hf 0 _ rfl
    have g1 : DataW.trod enc Tryd.prog w 0 (fun _ => true) true n 4 (([v0, v1, v2, v3, v4].drop 1).take (Tryd.prog.cellsOf 4)) = some y1 := hf 1 _ rfl
    have g2 : DataW.trod enc Tryd.prog w 0 (fun _ => true) true n 4 (([v0, v1, v2, v3, v4].drop 2).take (Tryd.prog.cellsOf 4)) = some y2 := hf 2 _ rfl
    have g3 : DataW.trod enc Tryd.prog w 0 (fun _ => true) true n 3 (([v0, v1, v2, v3, v4].drop 3).take (Tryd.prog.cellsOf 3)) = some y3 := hf 3 _ rfl
    have g4 : DataW.trod enc Tryd.prog w 0 (fun _ => true) true n 3 (([v0, v1, v2, v3, v4].drop 4).take (Tryd.prog.cellsOf 3)) = some y4 := hf 4 _ rfl
    rw [eb] at g0 g1 g2
    rw [ei] at g3 g4
    obtain ⟨b, hb, _⟩ := DataW.trod_bool Tryd.underlying4 g0
    obtain ⟨u, hu, _⟩ := DataW.trod_bool Tryd.underlying4 g1
    obtain ⟨t, ht, _⟩ := DataW.trod_bool Tryd.underlying4 g2
    obtain ⟨f, hf', _⟩ := DataW.trod_int Tryd.underlying3 g3
    obtain ⟨k, hk, _⟩ := DataW.trod_int Tryd.underlying3 g4
    simp at hb hu ht hf' hk
    subst hb hu ht hf' hk
    exact ⟨⟨b, u, t, f, k⟩, rfl⟩
theorem trod_cell {fuel : Nat} {l : List Value} {x : DataW H × List MemPlace} (h : DataW.trod enc Tryd.prog w 0 (fun _ => true) true fuel 37 l = some x) : ∃ c : Cel, l = celL c := by
  obtain ⟨xs, n, _, _, hl, hlen, hf⟩ := DataW.trod_struct Tryd.underlying37 h
  have hl6 : l.length = 6 := hl.trans (by kernel_rfl)
  have e5 : Tryd.prog.cellsOf 35 = 5 := by kernel_rfl
  have ei : Tryd.prog.cellsOf 21 = 1 := by kernel_rfl
  match l, hl6 with
  | [v0, v1, v2, v3, v4, v5], _ =>
  match xs, hlen with
  | [y0, y1], _ =>
    have g0 : DataW.trod enc Tryd.prog w 0 (fun _ => true) true n 21 (([v0, v1, v2, v3, v4, v5].drop 0).take (Tryd.prog.cellsOf 21)) = some y0 := hf 0 _ rfl
    have g1 : DataW.trod enc Tryd.prog w 0 (fun _ => true) true n 35 (([v0, v1, v2, v3, v4, v5].drop 1).take (Tryd.prog.cellsOf 35)) = some y1 := hf 1 _ rfl
    rw [ei] at g0
    rw [e5] at g1
    obtain ⟨r, hr, _⟩ := DataW.trod_int Tryd.underlying21 g0
    obtain ⟨s, hs⟩ := trod_style g1
    simp [styL] at hr hs
    obtain ⟨rfl, rfl, rfl, rfl, rfl⟩ := hs
    subst hr
    exact ⟨⟨r, s⟩, rfl⟩
theorem open_style {r : Reach} {b0 : Nat} {v : Value} {d : DataW H} {ps : List MemPlace} (hval : Value.okWide Tryd.prog w r b0 35 v) (hd : DataW.Trod enc Tryd.prog w 0 (fun _ => true) true 35 v d ps) : ∃ s : Sty, v = styV s := by
  obtain ⟨fuel, hf⟩ := hd
  obtain ⟨s, hs⟩ := trod_style hf
  have hu := Tryd.underlying35
  simp only [Value.okWide, hu] at hval
  obtain ⟨cs, e1, e2, _⟩ := hval
  subst e1
  refine ⟨s, ?_⟩
  have : cs.toList = styL s := by simpa [Value.cells] using hs
  unfold styV
  congr 1
  exact Array.toList_inj.1 this
theorem open_cell {r : Reach} {b0 : Nat} {v : Value} {d : DataW H} {ps : List MemPlace} (hval : Value.okWide Tryd.prog w r b0 37 v) (hd : DataW.Trod enc Tryd.prog w 0 (fun _ => true) true 37 v d ps) : ∃ c : Cel, v = celV c := by
  obtain ⟨fuel, hf⟩ := hd
  obtain ⟨s, hs⟩ := trod_cell hf
  have hu := Tryd.underlying37
  simp only [Value.okWide, hu] at hval
  obtain ⟨cs, e1, e2, _⟩ := hval
  subst e1
  refine ⟨s, ?_⟩
  have : cs.toList = celL s := by simpa [Value.cells] using hs
  unfold celV
  congr 1
  exact Array.toList_inj.1 this
instance : Inhabited Cel := ⟨⟨0, zero⟩⟩
/-- What a walk is told of a slice of cells that came in. -/
def IsCels (w : World) (a : Option Addr) (len cap : Nat) : Prop := ∃ l : List Cel, len = l.length ∧ (a = none → cap = 0) ∧ celE.Row w w.heap.size a l
theorem cels_in {fuel : Nat} {a : Option Addr} {len cap : Nat} {x : DataW H × List MemPlace} (h : DataW.trod enc Tryd.prog w 0 (fun _ => true) true fuel 23 [.slice a len cap] = some x) : IsCels w a len cap := by
  have e6 : Tryd.prog.cellsOf 37 = 6 := by kernel_rfl
  rcases Go.Deep.open_slice Tryd.underlying23 h with ⟨hcs, _⟩ | ⟨a', len', cap', m, n, D, Pl, hcs, _, hl, hm, hmm, _, hx⟩
  · simp at hcs
    obtain ⟨rfl, rfl, rfl⟩ := hcs
    exact ⟨[], rfl, fun _ => rfl, El.Row.nil⟩
  · simp at hcs
    obtain ⟨rfl, rfl, rfl⟩ := hcs
    simp only [if_true] at hmm
    subst hmm
    rw [e6] at hx
    obtain ⟨F, hF⟩ := Go.Deep.choose_lt (α := Cel) (n := len) (p := fun i c => w.cells? 0 (a'.add (i * 6)) 6 = some (celL c)) (fun i hi => by
      obtain ⟨cs', h1, h2⟩ := hx i (by omega)
      obtain ⟨c, rfl⟩ := trod_cell h2
      exact ⟨c, h1⟩)
    refine ⟨(List.range len).map F, by simp, by simp, fun hp => ?_⟩
    simp only [List.length_map, List.length_range] at hp
    have h00 := (World.cells?_some (hF 0 hp)).2.2 0 (by omega)
    obtain ⟨b, off, spot⟩ := a'
    have hspot : spot = none := by
      have := World.cell?_spot h00
      simpa [Addr.add] using this
    subst hspot
    have hlt := World.block_lt_of_cell? w _ h00
    refine ⟨b, off, rfl, by simpa [Addr.add] using hlt, fun j hj => ?_⟩
    simp only [List.length_map, List.length_range] at hj
    have hj6 : j < len * 6 := hj
    have hc := (World.cells?_some (hF (j / 6) (by omega))).2.2 (j % 6) (by omega)
    have hp1 : ∀ o j : Nat, (⟨b, o, none⟩ : Addr).add j = ⟨b, o + j, none⟩ := fun o j => by unfold Addr.add; split <;> simp_all
    have hplain : ∀ p q : Nat, ((⟨b, off, none⟩ : Addr).add p).add q = ⟨b, off + p + q, none⟩ := fun p q => by rw [hp1, hp1]
    rw [hplain, show off + j / 6 * 6 + j % 6 = off + j by omega] at hc
    rw [hc]
    have := celE.cells_at ((List.range len).map F) (j / 6) (by simp; omega) (j % 6) (by show j % 6 < 6; omega)
    rw [show j / 6 * celE.s + j % 6 = j by show j / 6 * 6 + j % 6 = j; omega] at this
    rw [this]
    simp [celE]
end
end Go.Proofs.YtbpkklcegiiheaaDoor
