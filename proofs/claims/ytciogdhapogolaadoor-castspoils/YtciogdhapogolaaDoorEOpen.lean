/-
  Layer 12's laws: an argument that is a slice of events.
-/
import Derived.Test.YtciogdhapogolaaDoorEEv
import Derived.Deep.Slices
import Derived.ChangeSame
import Derived.OpenShut
namespace Go.Proofs.YtciogdhapogolaaDoor
open Go.RowKit Go.ChangeShapes Go.WideShapes EM
set_option maxRecDepth 100000

section
variable {H : Type} {enc : TypeId × Value → H} {w : World}
theorem trod_ev {fuel : Nat} {l : List Value} {x : DataW H × List MemPlace} (h : DataW.trod enc Tryd.prog w 0 (fun _ => true) true fuel 27 l = some x) : ∃ e : Ev, l = evL e := by
  obtain ⟨xs, n, _, _, hl, hlen, hf⟩ := DataW.trod_struct Tryd.underlying27 h
  have hl5 : l.length = 5 := hl.trans (by kernel_rfl)
  have es : Tryd.prog.cellsOf 9 = 1 := by kernel_rfl
  have ei : Tryd.prog.cellsOf 3 = 1 := by kernel_rfl
  match l, hl5 with
  | [v0, v1, v2, v3, v4], _ =>
  match xs, hlen with
  | [y0, y1, y2, y3, y4], _ =>
    have g0 : DataW.trod enc Tryd.prog w 0 (fun _ => true) true n 3 (([v0, v1, v2, v3, v4].drop 0).take (Tryd.prog.cellsOf 3)) = some y0 := hf 0 _ rfl
    have g1 : DataW.trod enc Tryd.prog w 0 (fun _ => true) true n 3 (([v0, v1, v2, v3, v4].drop 1).take (Tryd.prog.cellsOf 3)) = some y1 := hf 1 _ rfl
    have g2 : DataW.trod enc Tryd.prog w 0 (fun _ => true) true n 9 (([v0, v1, v2, v3, v4].drop 2).take (Tryd.prog.cellsOf 9)) = some y2 := hf 2 _ rfl
    have g3 : DataW.trod enc Tryd.prog w 0 (fun _ => true) true n 3 (([v0, v1, v2, v3, v4].drop 3).take (Tryd.prog.cellsOf 3)) = some y3 := hf 3 _ rfl
    have g4 : DataW.trod enc Tryd.prog w 0 (fun _ => true) true n 3 (([v0, v1, v2, v3, v4].drop 4).take (Tryd.prog.cellsOf 3)) = some y4 := hf 4 _ rfl
    rw [ei] at g0 g1 g3 g4
    rw [es] at g2
    obtain ⟨t, ht, _⟩ := DataW.trod_int Tryd.underlying3 g0
    obtain ⟨k, hk, _⟩ := DataW.trod_int Tryd.underlying3 g1
    obtain ⟨d, hd, _⟩ := DataW.trod_string Tryd.underlying9 g2
    obtain ⟨a, ha, _⟩ := DataW.trod_int Tryd.underlying3 g3
    obtain ⟨b, hb, _⟩ := DataW.trod_int Tryd.underlying3 g4
    simp at ht hk hd ha hb
    subst ht hk hd ha hb
    exact ⟨⟨t, k, d, a, b⟩, rfl⟩
instance : Inhabited Ev := ⟨zero⟩
/-- What a walk is told of a slice of events that came in. -/
def IsEvs (w : World) (a : Option Addr) (len cap : Nat) : Prop := ∃ l : List Ev, len = l.length ∧ (a = none → cap = 0) ∧ evE.Row w w.heap.size a l
theorem evs_in {fuel : Nat} {a : Option Addr} {len cap : Nat} {x : DataW H × List MemPlace} (h : DataW.trod enc Tryd.prog w 0 (fun _ => true) true fuel 22 [.slice a len cap] = some x) : IsEvs w a len cap := by
  have e6 : Tryd.prog.cellsOf 27 = 5 := by kernel_rfl
  rcases Go.Deep.open_slice Tryd.underlying22 h with ⟨hcs, _⟩ | ⟨a', len', cap', m, n, D, Pl, hcs, _, hl, hm, hmm, _, hx⟩
  · simp at hcs
    obtain ⟨rfl, rfl, rfl⟩ := hcs
    exact ⟨[], rfl, fun _ => rfl, El.Row.nil⟩
  · simp at hcs
    obtain ⟨rfl, rfl, rfl⟩ := hcs
    simp only [if_true] at hmm
    subst hmm
    rw [e6] at hx
    obtain ⟨F, hF⟩ := Go.Deep.choose_lt (α := Ev) (n := len) (p := fun i c => w.cells? 0 (a'.add (i * 5)) 5 = some (evL c)) (fun i hi => by
      obtain ⟨cs', h1, h2⟩ := hx i (by omega)
      obtain ⟨c, rfl⟩ := trod_ev h2
      exact ⟨c, h1⟩)
    refine ⟨(List.range len).map F, by simp, by simp, fun hp => ?_⟩
    simp only [List.length_map, List.length_range] at hp
    have h00 := (World.cells?_some (hF 0 hp)).2.2 0 (by omega)
    obtain ⟨b, off, spot⟩ := a'
    have hspot : spot = none := by
      have := World.cell?_spot h00
      simpa [Addr.add] using this
    subst hspot
    have hlt := World.block_lt_of_cell? w _ h00
    refine ⟨b, off, rfl, by simpa [Addr.add] using hlt, fun j hj => ?_⟩
    simp only [List.length_map, List.length_range] at hj
    have hj6 : j < len * 5 := hj
    have hc := (World.cells?_some (hF (j / 5) (by omega))).2.2 (j % 5) (by omega)
    have hp1 : ∀ o j : Nat, (⟨b, o, none⟩ : Addr).add j = ⟨b, o + j, none⟩ := fun o j => by unfold Addr.add; split <;> simp_all
    have hplain : ∀ p q : Nat, ((⟨b, off, none⟩ : Addr).add p).add q = ⟨b, off + p + q, none⟩ := fun p q => by rw [hp1, hp1]
    rw [hplain, show off + j / 5 * 5 + j % 5 = off + j by omega] at hc
    rw [hc]
    have := evE.cells_at ((List.range len).map F) (j / 5) (by simp; omega) (j % 5) (by show j % 5 < 5; omega)
    rw [show j / 5 * evE.s + j % 5 = j by show j / 5 * 5 + j % 5 = j; omega] at this
    rw [this]
    simp [evE]
end
end Go.Proofs.YtciogdhapogolaaDoor
