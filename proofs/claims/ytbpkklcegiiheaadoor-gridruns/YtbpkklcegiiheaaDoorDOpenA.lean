/-
  Layer 9's laws: arguments that are two or three numbers, a deed, deeds.
-/
import Derived.Test.YtbpkklcegiiheaaDoorKOpen
import Derived.Test.YtbpkklcegiiheaaDoorDLawK
namespace Go.Proofs.YtbpkklcegiiheaaDoor
open Go.RowKit Go.ChangeShapes Go.WideShapes KM
set_option maxRecDepth 100000

section
variable {H : Type} {enc : TypeId × Value → H} {w : World}
theorem open_two {r : Reach} {b0 : Nat} {v : Value} {d : DataW H} {ps : List MemPlace} (hval : Value.okWide Tryd.prog w r b0 22 v) (hd : DataW.Trod enc Tryd.prog w 0 (fun _ => true) true 22 v d ps) : ∃ a b : Int, v = .agg #[.int .i64 a, .int .i64 b] := by
  have hu := Tryd.underlying22
  have hs : Tryd.prog.cellsOf 22 = 2 := by kernel_rfl
  have h1 : Tryd.prog.cellsOf 3 = 1 := by kernel_rfl
  obtain ⟨c0, c1, rfl⟩ : ∃ c0 c1, v = .agg #[c0, c1] := by
    simp only [Value.okWide, hu] at hval
    obtain ⟨cs, e1, e2, _⟩ := hval
    rw [hs] at e2
    obtain ⟨l⟩ := cs
    match l, e2 with
    | [c0, c1], _ => exact ⟨c0, c1, e1⟩
  obtain ⟨fuel, hf⟩ := hd
  cases fuel with
  | zero => simp [DataW.trod] at hf
  | succ n =>
    rw [DataW.trod_step] at hf
    unfold DataW.trodStep at hf
    simp only [hu, Value.cells] at hf
    rw [if_pos (by rw [hs]; rfl)] at hf
    simp only [Option.map_eq_some_iff] at hf
    obtain ⟨xs, hx, e1⟩ := hf
    rw [show List.range 2 = [0, 1] from rfl, List.mapM_cons, List.mapM_cons, List.mapM_nil] at hx
    simp only [bind, Option.bind_eq_some_iff, pure, Option.some.injEq, h1] at hx
    obtain ⟨y0, k0, _, ⟨y1, k1, _, rfl, rfl⟩, rfl⟩ := hx
    obtain ⟨a, ea, rfl, wa⟩ := DataW.trod_int Tryd.underlying3 k0
    obtain ⟨b, eb, rfl, wb⟩ := DataW.trod_int Tryd.underlying3 k1
    simp at ea eb
    subst ea; subst eb
    exact ⟨a, b, rfl⟩
theorem open_three {r : Reach} {b0 : Nat} {v : Value} {d : DataW H} {ps : List MemPlace} (hval : Value.okWide Tryd.prog w r b0 46 v) (hd : DataW.Trod enc Tryd.prog w 0 (fun _ => true) true 46 v d ps) : ∃ a b c : Int, v = .agg #[.int .i64 a, .int .i64 b, .int .i64 c] := by
  have hu := Tryd.underlying46
  have hs : Tryd.prog.cellsOf 46 = 3 := by kernel_rfl
  have h1 : Tryd.prog.cellsOf 3 = 1 := by kernel_rfl
  obtain ⟨c0, c1, c2, rfl⟩ : ∃ c0 c1 c2, v = .agg #[c0, c1, c2] := by
    simp only [Value.okWide, hu] at hval
    obtain ⟨cs, e1, e2, _⟩ := hval
    rw [hs] at e2
    obtain ⟨l⟩ := cs
    match l, e2 with
    | [c0, c1, c2], _ => exact ⟨c0, c1, c2, e1⟩
  obtain ⟨fuel, hf⟩ := hd
  cases fuel with
  | zero => simp [DataW.trod] at hf
  | succ n =>
    rw [DataW.trod_step] at hf
    unfold DataW.trodStep at hf
    simp only [hu, Value.cells] at hf
    rw [if_pos (by rw [hs]; rfl)] at hf
    simp only [Option.map_eq_some_iff] at hf
    obtain ⟨xs, hx, e1⟩ := hf
    rw [show List.range 3 = [0, 1, 2] from rfl, List.mapM_cons, List.mapM_cons, List.mapM_cons, List.mapM_nil] at hx
    simp only [bind, Option.bind_eq_some_iff, pure, Option.some.injEq, h1] at hx
    obtain ⟨y0, k0, _, ⟨y1, k1, _, ⟨y2, k2, _, rfl, rfl⟩, rfl⟩, rfl⟩ := hx
    obtain ⟨a, ea, rfl, wa⟩ := DataW.trod_int Tryd.underlying3 k0
    obtain ⟨b, eb, rfl, wb⟩ := DataW.trod_int Tryd.underlying3 k1
    obtain ⟨c, ec, rfl, wc⟩ := DataW.trod_int Tryd.underlying3 k2
    simp at ea eb ec
    subst ea; subst eb; subst ec
    exact ⟨a, b, c, rfl⟩
theorem trod_deed {fuel : Nat} {l : List Value} {x : DataW H × List MemPlace} (h : DataW.trod enc Tryd.prog w 0 (fun _ => true) true fuel 39 l = some x) : ∃ d : De, l = deL d := by
  obtain ⟨xs, n, _, _, hl, hlen, hf⟩ := DataW.trod_struct Tryd.underlying39 h
  have hl10 : l.length = 10 := hl.trans (by kernel_rfl)
  have ec : Tryd.prog.cellsOf 37 = 6 := by kernel_rfl
  have ei : Tryd.prog.cellsOf 3 = 1 := by kernel_rfl
  match l, hl10 with
  | [v0, v1, v2, v3, v4, v5, v6, v7, v8, v9], _ =>
  match xs, hlen with
  | [y0, y1, y2, y3, y4], _ =>
    have g0 : DataW.trod enc Tryd.prog w 0 (fun _ => true) true n 3 (([v0, v1, v2, v3, v4, v5, v6, v7, v8, v9].drop 0).take (Tryd.prog.cellsOf 3)) = some y0 := hf 0 _ rfl
    have g1 : DataW.trod enc Tryd.prog w 0 (fun _ => true) true n 3 (([v0, v1, v2, v3, v4, v5, v6, v7, v8, v9].drop 1).take (Tryd.prog.cellsOf 3)) = some y1 := hf 1 _ rfl
    have g2 : DataW.trod enc Tryd.prog w 0 (fun _ => true) true n 3 (([v0, v1, v2, v3, v4, v5, v6, v7, v8, v9].drop 2).take (Tryd.prog.cellsOf 3)) = some y2 := hf 2 _ rfl
    have g3 : DataW.trod enc Tryd.prog w 0 (fun _ => true) true n 3 (([v0, v1, v2, v3, v4, v5, v6, v7, v8, v9].drop 3).take (Tryd.prog.cellsOf 3)) = some y3 := hf 3 _ rfl
    have g4 : DataW.trod enc Tryd.prog w 0 (fun _ => true) true n 37 (([v0, v1, v2, v3, v4, v5, v6, v7, v8, v9].drop 4).take (Tryd.prog.cellsOf 37)) = some y4 := hf 4 _ rfl
    rw [ei] at g0 g1 g2 g3
    rw [ec] at g4
    obtain ⟨q, hq, _⟩ := DataW.trod_int Tryd.underlying3 g0
    obtain ⟨a, ha, _⟩ := DataW.trod_int Tryd.underlying3 g1
    obtain ⟨b, hb, _⟩ := DataW.trod_int Tryd.underlying3 g2
    obtain ⟨c, hc, _⟩ := DataW.trod_int Tryd.underlying3 g3
    obtain ⟨z, hz⟩ := trod_cell g4
    simp [celL] at hq ha hb hc hz
    obtain ⟨rfl, rfl, rfl, rfl, rfl, rfl⟩ := hz
    subst hq ha hb hc
    exact ⟨⟨q, a, b, c, z⟩, rfl⟩
theorem open_deed {r : Reach} {b0 : Nat} {v : Value} {d : DataW H} {ps : List MemPlace} (hval : Value.okWide Tryd.prog w r b0 39 v) (hd : DataW.Trod enc Tryd.prog w 0 (fun _ => true) true 39 v d ps) : ∃ e : De, v = deV e := by
  obtain ⟨fuel, hf⟩ := hd
  obtain ⟨s, hs⟩ := trod_deed hf
  have hu := Tryd.underlying39
  simp only [Value.okWide, hu] at hval
  obtain ⟨cs, e1, e2, _⟩ := hval
  subst e1
  refine ⟨s, ?_⟩
  have : cs.toList = deL s := by simpa [Value.cells] using hs
  unfold deV
  congr 1
  exact Array.toList_inj.1 this
/-- Deeds. -/
def deE : El De where
  ty := 39
  sl := 24
  s := 10
  bytes := 64
  z := .agg #[.int .i64 0, .int .i64 0, .int .i64 0, .int .i64 0, .int .i32 0, .bool false, .bool false, .bool false, .int .i64 0, .int .i64 0]
  f := deL
  pos := by decide
  len := fun _ => rfl
  one := fun a u hu => by
    simp only [deL, List.mem_cons, List.not_mem_nil, or_false] at hu
    rcases hu with rfl | rfl | rfl | rfl | rfl | rfl | rfl | rfl | rfl | rfl <;> rfl
  und := Tryd.underlying24
  info := by kernel_rfl
  zs := rfl
instance : Inhabited De := ⟨⟨0, 0, 0, 0, ⟨0, zero⟩⟩⟩
/-- What a walk is told of a slice of deeds that came in. -/
def IsDeeds (w : World) (a : Option Addr) (len cap : Nat) : Prop := ∃ l : List De, len = l.length ∧ (a = none → cap = 0) ∧ deE.Row w w.heap.size a l
theorem deeds_in {fuel : Nat} {a : Option Addr} {len cap : Nat} {x : DataW H × List MemPlace} (h : DataW.trod enc Tryd.prog w 0 (fun _ => true) true fuel 24 [.slice a len cap] = some x) : IsDeeds w a len cap := by
  have e6 : Tryd.prog.cellsOf 39 = 10 := by kernel_rfl
  rcases Go.Deep.open_slice Tryd.underlying24 h with ⟨hcs, _⟩ | ⟨a', len', cap', m, n, D, Pl, hcs, _, hl, hm, hmm, _, hx⟩
  · simp at hcs
    obtain ⟨rfl, rfl, rfl⟩ := hcs
    exact ⟨[], rfl, fun _ => rfl, El.Row.nil⟩
  · simp at hcs
    obtain ⟨rfl, rfl, rfl⟩ := hcs
    simp only [if_true] at hmm
    subst hmm
    rw [e6] at hx
    obtain ⟨F, hF⟩ := Go.Deep.choose_lt (α := De) (n := len) (p := fun i c => w.cells? 0 (a'.add (i * 10)) 10 = some (deL c)) (fun i hi => by
      obtain ⟨cs', h1, h2⟩ := hx i (by omega)
      obtain ⟨c, rfl⟩ := trod_deed h2
      exact ⟨c, h1⟩)
    refine ⟨(List.range len).map F, by simp, by simp, fun hp => ?_⟩
    simp only [List.length_map, List.length_range] at hp
    have h00 := (World.cells?_some (hF 0 hp)).2.2 0 (by omega)
    obtain ⟨b, off, spot⟩ := a'
    have hspot : spot = none := by
      have := World.cell?_spot h00
      simpa [Addr.add] using this
    subst hspot
    have hlt := World.block_lt_of_cell? w _ h00
    refine ⟨b, off, rfl, by simpa [Addr.add] using hlt, fun j hj => ?_⟩
    simp only [List.length_map, List.length_range] at hj
    have hj6 : j < len * 10 := hj
    have hc := (World.cells?_some (hF (j / 10) (by omega))).2.2 (j % 10) (by omega)
    have hp1 : ∀ o j : Nat, (⟨b, o, none⟩ : Addr).add j = ⟨b, o + j, none⟩ := fun o j => by unfold Addr.add; split <;> simp_all
    have hplain : ∀ p q : Nat, ((⟨b, off, none⟩ : Addr).add p).add q = ⟨b, off + p + q, none⟩ := fun p q => by rw [hp1, hp1]
    rw [hplain, show off + j / 10 * 10 + j % 10 = off + j by omega] at hc
    rw [hc]
    have := deE.cells_at ((List.range len).map F) (j / 10) (by simp; omega) (j % 10) (by show j % 10 < 10; omega)
    rw [show j / 10 * deE.s + j % 10 = j by show j / 10 * 10 + j % 10 = j; omega] at this
    rw [this]
    simp [deE]
/-- A deed of a row, cell by cell. -/
theorem de_at {B : Nat} {A : Option Addr} {l : List De} (h : deE.Row w B A l) {i : Nat} (hi : i < l.length) : ∃ b off, A = some ⟨b, off, none⟩ ∧ b < B ∧
    w.cell? ⟨b, off + i * 10, none⟩ = some (.int .i64 l[i].kind) ∧ w.cell? ⟨b, off + i * 10 + 1, none⟩ = some (.int .i64 l[i].a) ∧ w.cell? ⟨b, off + i * 10 + 2, none⟩ = some (.int .i64 l[i].b) ∧ w.cell? ⟨b, off + i * 10 + 3, none⟩ = some (.int .i64 l[i].c) ∧
    w.cell? ⟨b, off + i * 10 + 4, none⟩ = some (.int .i32 l[i].cel.rune) ∧ w.cell? ⟨b, off + i * 10 + 5, none⟩ = some (.bool l[i].cel.sty.bold) ∧ w.cell? ⟨b, off + i * 10 + 6, none⟩ = some (.bool l[i].cel.sty.under) ∧ w.cell? ⟨b, off + i * 10 + 7, none⟩ = some (.bool l[i].cel.sty.turned) ∧
    w.cell? ⟨b, off + i * 10 + 8, none⟩ = some (.int .i64 l[i].cel.sty.fore) ∧ w.cell? ⟨b, off + i * 10 + 9, none⟩ = some (.int .i64 l[i].cel.sty.back) := by
  obtain ⟨b, off, rfl, hb, q⟩ := h.at_ hi
  exact ⟨b, off, rfl, hb, q 0 (by decide), q 1 (by decide), q 2 (by decide), q 3 (by decide), q 4 (by decide), q 5 (by decide), q 6 (by decide), q 7 (by decide), q 8 (by decide), q 9 (by decide)⟩
end
end Go.Proofs.YtbpkklcegiiheaaDoor
