/-
  Layer 15's laws: arguments that are three numbers, a slice of deeds; three numbers in memory.
-/
import Derived.Test.YtdbnpdbnjipjiaaEOpen
namespace Go.Proofs.Ytdbnpdbnjipjiaa
open Go.RowKit Go.ChangeShapes Go.WideShapes EM
set_option maxRecDepth 100000

/-- A deed of a player. -/
structure Dp where
  k : Int
  n : Int
  m : Int
def dpL (d : Dp) : List Value := [.int .i64 d.k, .int .i64 d.n, .int .i64 d.m]
def dpV (d : Dp) : Value := .agg #[.int .i64 d.k, .int .i64 d.n, .int .i64 d.m]
section
variable {H : Type} {enc : TypeId × Value → H} {w : World}
theorem open_three {r : Reach} {b0 : Nat} {v : Value} {d : DataW H} {ps : List MemPlace} (hval : Value.okWide Try.prog w r b0 23 v) (hd : DataW.Trod enc Try.prog w 0 (fun _ => true) true 23 v d ps) : ∃ a b c : Int, v = .agg #[.int .i64 a, .int .i64 b, .int .i64 c] := by
  have hu := Try.underlying23
  have hs : Try.prog.cellsOf 23 = 3 := by kernel_rfl
  have h1 : Try.prog.cellsOf 3 = 1 := by kernel_rfl
  obtain ⟨c0, c1, c2, rfl⟩ : ∃ c0 c1 c2, v = .agg #[c0, c1, c2] := by
    simp only [Value.okWide, hu] at hval
    obtain ⟨cs, e1, e2, _⟩ := hval
    rw [hs] at e2
    obtain ⟨l⟩ := cs
    match l, e2 with
    | [c0, c1, c2], _ => exact ⟨c0, c1, c2, e1⟩
  obtain ⟨fuel, hf⟩ := hd
  cases fuel with
  | zero => simp [DataW.trod] at hf
  | succ n =>
    rw [DataW.trod_step] at hf
    unfold DataW.trodStep at hf
    simp only [hu, Value.cells] at hf
    rw [if_pos (by rw [hs]; rfl)] at hf
    simp only [Option.map_eq_some_iff] at hf
    obtain ⟨xs, hx, e1⟩ := hf
    rw [show List.range 3 = [0, 1, 2] from rfl, List.mapM_cons, List.mapM_cons, List.mapM_cons, List.mapM_nil] at hx
    simp only [bind, Option.bind_eq_some_iff, pure, Option.some.injEq, h1] at hx
    obtain ⟨y0, k0, _, ⟨y1, k1, _, ⟨y2, k2, _, rfl, rfl⟩, rfl⟩, rfl⟩ := hx
    obtain ⟨a, ea, rfl, wa⟩ := DataW.trod_int Try.underlying3 k0
    obtain ⟨b, eb, rfl, wb⟩ := DataW.trod_int Try.underlying3 k1
    obtain ⟨c, ec, rfl, wc⟩ := DataW.trod_int Try.underlying3 k2
    simp at ea eb ec
    subst ea; subst eb; subst ec
    exact ⟨a, b, c, rfl⟩
theorem trod_dp {fuel : Nat} {l : List Value} {x : DataW H × List MemPlace} (h : DataW.trod enc Try.prog w 0 (fun _ => true) true fuel 37 l = some x) : ∃ d : Dp, l = dpL d := by
  obtain ⟨xs, n, _, _, hl, hlen, hf⟩ := DataW.trod_struct Try.underlying37 h
  have hl3 : l.length = 3 := hl.trans (by kernel_rfl)
  have ei : Try.prog.cellsOf 3 = 1 := by kernel_rfl
  match l, hl3 with
  | [v0, v1, v2], _ =>
  match xs, hlen with
  | [y0, y1, y2], _ =>
    have g0 : DataW.trod enc Try.prog w 0 (fun _ => true) true n 3 (([v0, v1, v2].drop 0).take (Try.prog.cellsOf 3)) = some y0 := hf 0 _ rfl
    have g1 : DataW.trod enc Try.prog w 0 (fun _ => true) true n 3 (([v0, v1, v2].drop 1).take (Try.prog.cellsOf 3)) = some y1 := hf 1 _ rfl
    have g2 : DataW.trod enc Try.prog w 0 (fun _ => true) true n 3 (([v0, v1, v2].drop 2).take (Try.prog.cellsOf 3)) = some y2 := hf 2 _ rfl
    rw [ei] at g0 g1 g2
    obtain ⟨a, ha, _⟩ := DataW.trod_int Try.underlying3 g0
    obtain ⟨b, hb, _⟩ := DataW.trod_int Try.underlying3 g1
    obtain ⟨c, hc, _⟩ := DataW.trod_int Try.underlying3 g2
    simp at ha hb hc
    subst ha hb hc
    exact ⟨⟨a, b, c⟩, rfl⟩
/-- Deeds. -/
def dpE : El Dp where
  ty := 37
  sl := 24
  s := 3
  bytes := 24
  z := .agg #[.int .i64 0, .int .i64 0, .int .i64 0]
  f := dpL
  pos := by decide
  len := fun _ => rfl
  one := fun a u hu => by
    simp only [dpL, List.mem_cons, List.not_mem_nil, or_false] at hu
    rcases hu with rfl | rfl | rfl <;> rfl
  und := Try.underlying24
  info := by kernel_rfl
  zs := rfl
instance : Inhabited Dp := ⟨⟨0, 0, 0⟩⟩
/-- What a walk is told of a slice of deeds that came in. -/
def IsDps (w : World) (a : Option Addr) (len cap : Nat) : Prop := ∃ l : List Dp, len = l.length ∧ (a = none → cap = 0) ∧ dpE.Row w w.heap.size a l
theorem dps_in {fuel : Nat} {a : Option Addr} {len cap : Nat} {x : DataW H × List MemPlace} (h : DataW.trod enc Try.prog w 0 (fun _ => true) true fuel 24 [.slice a len cap] = some x) : IsDps w a len cap := by
  have e6 : Try.prog.cellsOf 37 = 3 := by kernel_rfl
  rcases Go.Deep.open_slice Try.underlying24 h with ⟨hcs, _⟩ | ⟨a', len', cap', m, n, D, Pl, hcs, _, hl, hm, hmm, _, hx⟩
  · simp at hcs
    obtain ⟨rfl, rfl, rfl⟩ := hcs
    exact ⟨[], rfl, fun _ => rfl, El.Row.nil⟩
  · simp at hcs
    obtain ⟨rfl, rfl, rfl⟩ := hcs
    simp only [if_true] at hmm
    subst hmm
    rw [e6] at hx
    obtain ⟨F, hF⟩ := Go.Deep.choose_lt (α := Dp) (n := len) (p := fun i c => w.cells? 0 (a'.add (i * 3)) 3 = some (dpL c)) (fun i hi => by
      obtain ⟨cs', h1, h2⟩ := hx i (by omega)
      obtain ⟨c, rfl⟩ := trod_dp h2
      exact ⟨c, h1⟩)
    refine ⟨(List.range len).map F, by simp, by simp, fun hp => ?_⟩
    simp only [List.length_map, List.length_range] at hp
    have h00 := (World.cells?_some (hF 0 hp)).2.2 0 (by omega)
    obtain ⟨b, off, spot⟩ := a'
    have hspot : spot = none := by
      have := World.cell?_spot h00
      simpa [Addr.add] using this
    subst hspot
    have hlt := World.block_lt_of_cell? w _ h00
    refine ⟨b, off, rfl, by simpa [Addr.add] using hlt, fun j hj => ?_⟩
    simp only [List.length_map, List.length_range] at hj
    have hj6 : j < len * 3 := hj
    have hc := (World.cells?_some (hF (j / 3) (by omega))).2.2 (j % 3) (by omega)
    have hp1 : ∀ o j : Nat, (⟨b, o, none⟩ : Addr).add j = ⟨b, o + j, none⟩ := fun o j => by unfold Addr.add; split <;> simp_all
    have hplain : ∀ p q : Nat, ((⟨b, off, none⟩ : Addr).add p).add q = ⟨b, off + p + q, none⟩ := fun p q => by rw [hp1, hp1]
    rw [hplain, show off + j / 3 * 3 + j % 3 = off + j by omega] at hc
    rw [hc]
    have := dpE.cells_at ((List.range len).map F) (j / 3) (by simp; omega) (j % 3) (by show j % 3 < 3; omega)
    rw [show j / 3 * dpE.s + j % 3 = j by show j / 3 * 3 + j % 3 = j; omega] at this
    rw [this]
    simp [dpE]
/-- A deed of a row, cell by cell. -/
theorem dp_at {B : Nat} {A : Option Addr} {l : List Dp} (h : dpE.Row w B A l) {i : Nat} (hi : i < l.length) : ∃ b off, A = some ⟨b, off, none⟩ ∧ b < B ∧
    w.cell? ⟨b, off + i * 3, none⟩ = some (.int .i64 l[i].k) ∧ w.cell? ⟨b, off + i * 3 + 1, none⟩ = some (.int .i64 l[i].n) ∧ w.cell? ⟨b, off + i * 3 + 2, none⟩ = some (.int .i64 l[i].m) := by
  obtain ⟨b, off, rfl, hb, q⟩ := h.at_ hi
  exact ⟨b, off, rfl, hb, q 0 (by decide), q 1 (by decide), q 2 (by decide)⟩
/-- A block that holds just this deed. -/
def DpAt (w : World) (g : Nat) (d : Dp) : Prop := w.heap[g]? = some (.cells #[.int .i64 d.k, .int .i64 d.n, .int .i64 d.m] 37 (0, 0))
theorem DpAt.cells {g : Nat} {d : Dp} (h : DpAt w g d) : w.cell? ⟨g, 0, none⟩ = some (.int .i64 d.k) ∧ w.cell? ⟨g, 1, none⟩ = some (.int .i64 d.n) ∧ w.cell? ⟨g, 2, none⟩ = some (.int .i64 d.m) := by
  unfold DpAt at h
  simp [World.cell?, h]
theorem DpAt.lt {g : Nat} {d : Dp} (h : DpAt w g d) : g < w.heap.size := (Array.getElem?_eq_some_iff.1 h).1
theorem DpAt.keep {w' : World} {g : Nat} {d : Dp} (h : DpAt w g d) (hk : w'.heap[g]? = w.heap[g]?) : DpAt w' g d := hk.trans h
theorem DpAt.next {w' : World} {g : Nat} {d : Dp} (h : DpAt w g d) (hb : Below w.heap.size w w') : DpAt w' g d := h.keep (hb.block g h.lt)
theorem DpAt.new (w : World) (d : Dp) : DpAt (w.alloc (.cells #[.int .i64 d.k, .int .i64 d.n, .int .i64 d.m] 37)) w.heap.size d := heap_alloc_new w _
end
/-- Three. -/
def ThreeIn (w : World) (b : Nat) (x y z : Int) : Prop := w.heap[b]? = some (.cells #[.int .i64 x, .int .i64 y, .int .i64 z] 23 (0, 0))
theorem ThreeIn.cells {w : World} {b : Nat} {x y z : Int} (h : ThreeIn w b x y z) : w.cell? ⟨b, 0, none⟩ = some (.int .i64 x) ∧ w.cell? ⟨b, 1, none⟩ = some (.int .i64 y) ∧ w.cell? ⟨b, 2, none⟩ = some (.int .i64 z) := by
  unfold ThreeIn at h
  refine ⟨?_, ?_, ?_⟩ <;> simp [World.cell?, h]
theorem ThreeIn.lt {w : World} {b : Nat} {x y z : Int} (h : ThreeIn w b x y z) : b < w.heap.size := (Array.getElem?_eq_some_iff.1 h).1
theorem ThreeIn.keep {w w' : World} {b : Nat} {x y z : Int} (h : ThreeIn w b x y z) (hk : w'.heap[b]? = w.heap[b]?) : ThreeIn w' b x y z := hk.trans h
theorem ThreeIn.below {w w' : World} {b : Nat} {x y z : Int} (h : ThreeIn w b x y z) (hb : Below w.heap.size w w') : ThreeIn w' b x y z := h.keep (hb.block b h.lt)
theorem ThreeIn.low {w w' : World} {b B : Nat} {x y z : Int} (h : ThreeIn w b x y z) (hb : Below B w w') (hB : b < B) : ThreeIn w' b x y z := h.keep (hb.block b hB)
theorem ThreeIn.fresh (w : World) (x y z : Int) : ThreeIn (w.alloc (.cells #[.int .i64 x, .int .i64 y, .int .i64 z] 23)) w.heap.size x y z := heap_alloc_new w _
end Go.Proofs.Ytdbnpdbnjipjiaa
