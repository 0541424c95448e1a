/-
  A grid's line changed in its place, or replaced; what a call that changes a grid answers for.
-/
import Derived.Test.YtbpkklcegiiheaaDoorDBase
namespace Go.Proofs.YtbpkklcegiiheaaDoor
open Go.RowKit Go.Lib KM

/-- Behind a call that changed the grid at p, whose blocks were F. -/
structure GPost (w : World) (F : List Nat) (p : Nat) (g : Gr) (w' : World) : Prop where
  at_ : ∃ F', GridAt w' F' p g ∧ ∀ k ∈ F', k ∈ F ∨ w.heap.size ≤ k
  fr : Fr (· ∈ F) w w'
theorem GPost.of_below {w w' : World} {F : List Nat} {p : Nat} {g : Gr} (h : GridAt w F p g) (hb : Below w.heap.size w w') : GPost w F p g w' :=
  ⟨⟨F, h.below hb, fun _ hk => .inl hk⟩, Fr.of_below hb⟩

section
variable {w w' : World} {p hb hc : Nat} {L : List Ln} {g : Gr}
theorem foot_set {y : Nat} (x : Ln) : ∀ k ∈ foot p hb (L.set y x), k ∈ foot p hb L ∨ k = x.b := by
  intro k hk
  simp only [foot, List.mem_cons, List.mem_map] at hk ⊢
  rcases hk with rfl | rfl | ⟨z, hz, rfl⟩
  · exact .inl (.inl rfl)
  · exact .inl (.inr (.inl rfl))
  · rcases List.mem_or_eq_of_mem_set hz with hz | rfl
    · exact .inl (.inr (.inr ⟨z, hz, rfl⟩))
    · exact .inr rfl
theorem nodup_set {y : Nat} (hy : y < L.length) (x : Ln) (hn : (foot p hb L).Nodup) (hx : x.b = L[y].b ∨ x.b ∉ foot p hb L) : (foot p hb (L.set y x)).Nodup := by
  rcases hx with hx | hx
  · have e : (L.set y x).map Ln.b = L.map Ln.b := by
      rw [List.map_set, hx]
      apply List.ext_getElem?
      intro j
      rw [List.getElem?_set]
      split
      · rename_i h
        subst h
        simp [hy]
      · rfl
    unfold foot
    rw [e]
    exact hn
  · simp only [foot, List.nodup_cons, List.mem_cons, List.mem_map, not_or, not_exists, not_and] at hn hx ⊢
    refine ⟨⟨hn.1.1, fun z hz e => ?_⟩, fun z hz e => ?_, ?_⟩
    · rcases List.mem_or_eq_of_mem_set hz with hz | rfl
      · exact hn.1.2 z hz e
      · exact hx.1 e
    · rcases List.mem_or_eq_of_mem_set hz with hz | rfl
      · exact hn.2.1 z hz e
      · exact hx.2.1 e
    · rw [List.map_set]
      have := hn.2.2
      rw [List.nodup_iff_pairwise_ne, List.pairwise_iff_getElem] at this ⊢
      intro i j hi hj hij
      simp only [List.length_set] at hi hj
      rw [List.getElem_set, List.getElem_set]
      split <;> split
      · omega
      · intro e
        exact hx.2.2 (L[j]'(by simpa using hj)) (List.getElem_mem _) (by rw [e]; simp)
      · intro e
        exact hx.2.2 (L[i]'(by simpa using hi)) (List.getElem_mem _) (by rw [← e]; simp)
      · exact this i j hi hj hij
/-- A line changed in its place. -/
theorem GridB.setRow (h : GridB w p hb hc L g) {y : Nat} (hy : y < L.length) {l' : List Cel} (hl : l'.length = L[y].l.length) (ho : celE.Own w' 0 L[y].s.v l') (hk : ∀ k ∈ foot p hb L, k ≠ L[y].b → w'.heap[k]? = w.heap[k]?) :
    GridB w' p hb hc (L.set y ⟨L[y].b, L[y].c, l'⟩) (g.setL y l') := by
  have hrn := h.row_ne (List.getElem_mem (h := hy))
  have hs : (⟨L[y].b, L[y].c, l'⟩ : Ln).s = L[y].s := by unfold Ln.s; simp only [hl]
  have hm : (L.set y ⟨L[y].b, L[y].c, l'⟩).map Ln.s = L.map Ln.s := by
    rw [List.map_set, hs]
    apply List.ext_getElem?
    intro j
    rw [List.getElem?_set]
    split
    · rename_i h
      subst h
      simp [hy]
    · rfl
  refine ⟨?_, ?_, fun x hx => ?_, ?_, nodup_set hy _ h.nodup (.inl rfl)⟩
  · rw [List.length_set]
    exact (hk p (by simp [foot]) hrn.1.symm).trans h.cells
  · rw [hm, List.length_set]
    exact h.head.keep fun k e => by cases e; exact hk hb (by simp [foot]) hrn.2.symm
  · obtain ⟨j, hj, rfl⟩ := List.getElem_of_mem hx
    rw [List.length_set] at hj
    by_cases e : y = j
    · subst e
      simp only [List.getElem_set_self]
      rw [hs]; exact ho
    · have e1 : (L.set y ⟨L[y].b, L[y].c, l'⟩)[j]'(by simpa using hj) = L[j] := by rw [List.getElem_set_ne e]
      rw [e1]
      exact (h.row hj).keep fun k ek => by
        cases ek
        exact hk L[j].b (by simp only [foot, List.mem_cons, List.mem_map]; exact .inr (.inr ⟨_, List.getElem_mem _, rfl⟩)) (h.row_apart hj hy (fun e2 => e e2.symm))
  · simp only [Gr.setL, h.lines, List.map_set]
/-- A line's header written anew. -/
theorem GridB.setHead (h : GridB w p hb hc L g) {y : Nat} (hy : y < L.length) (x : Ln) (ho : celE.Own w 0 x.s.v x.l) (hx : x.b ∉ foot p hb L) : GridB (w.setCell ⟨hb, y, none⟩ x.s.v) p hb hc (L.set y x) (g.setL y x.l) := by
  have hxh : x.b ≠ hb := fun e => hx (by rw [e]; simp [foot])
  have hk : ∀ k, k ≠ hb → (w.setCell ⟨hb, y, none⟩ x.s.v).heap[k]? = w.heap[k]? := fun k hk => Below.heap_setCell _ _ _ _ hk
  refine ⟨?_, ?_, fun z hz => ?_, ?_, nodup_set hy _ h.nodup (.inr hx)⟩
  · rw [List.length_set]
    exact (hk p h.ne_hb).trans h.cells
  · have hh : linE.Own w 0 (.slice (some ⟨hb, 0, none⟩) (L.map Ln.s).length hc) (L.map Ln.s) := by rw [List.length_map]; exact h.head
    have h2 := hh.set (i := y) (j := 0) (a' := x.s) (u := x.s.v) rfl (by simpa using hy) (by decide) (by simp [linE])
    rw [← List.map_set, List.length_map] at h2
    rw [List.length_set]
    simpa [linE] using h2
  · rcases List.mem_or_eq_of_mem_set hz with hz | rfl
    · exact (h.rows z hz).keep fun k e => by cases e; exact hk z.b (h.row_ne hz).2
    · exact ho.keep fun k e => by cases e; exact hk _ hxh
  · simp only [Gr.setL, h.lines, List.map_set]
theorem Gr.setL_setL (g : Gr) (y : Nat) (a b : List Cel) : (g.setL y a).setL y b = g.setL y b := by simp [Gr.setL]
theorem Gr.line_setL (g : Gr) (y : Nat) (a : List Cel) (hy : y < g.ls.length) : (g.setL y a).line y = a := by simp [Gr.setL, Gr.line, hy]
end

/-! ### a cell stored -/
def setCel (w : World) (b o : Nat) (c : Cel) : World :=
  (((((w.setCell ⟨b, o, none⟩ (.int .i32 c.rune)).setCell ⟨b, o + 1, none⟩ (.bool c.sty.bold)).setCell ⟨b, o + 2, none⟩ (.bool c.sty.under)).setCell ⟨b, o + 3, none⟩ (.bool c.sty.turned)).setCell ⟨b, o + 4, none⟩ (.int .i64 c.sty.fore)).setCell ⟨b, o + 5, none⟩ (.int .i64 c.sty.back)
theorem setCel_other (w : World) (b o : Nat) (c : Cel) (k : Nat) (h : k ≠ b) : (setCel w b o c).heap[k]? = w.heap[k]? := by
  unfold setCel
  rw [Below.heap_setCell _ _ _ _ h, Below.heap_setCell _ _ _ _ h, Below.heap_setCell _ _ _ _ h, Below.heap_setCell _ _ _ _ h, Below.heap_setCell _ _ _ _ h, Below.heap_setCell _ _ _ _ h]
theorem setCel_fr {S : Nat → Prop} (w : World) (b o : Nat) (c : Cel) (h : S b) : Fr S w (setCel w b o c) := by
  unfold setCel
  exact (((((Fr.setCell (a := ⟨b, o, none⟩) _ h).trans' (Fr.setCell (a := ⟨b, o + 1, none⟩) _ h)).trans' (Fr.setCell (a := ⟨b, o + 2, none⟩) _ h)).trans' (Fr.setCell (a := ⟨b, o + 3, none⟩) _ h)).trans' (Fr.setCell (a := ⟨b, o + 4, none⟩) _ h)).trans' (Fr.setCell (a := ⟨b, o + 5, none⟩) _ h)
theorem setCel_own {w : World} {base : Nat} {v : Value} {L : List Cel} (h : celE.Own w base v L) {b c0 : Nat} (hv : v = .slice (some ⟨b, 0, none⟩) L.length c0) {i : Nat} (hi : i < L.length) (c : Cel) : celE.Own (setCel w b (i * 6) c) base v (L.set i c) := by
  have e1 : (L.set i c) = (((((L.set i ⟨c.rune, L[i].sty⟩).set i ⟨c.rune, ⟨c.sty.bold, L[i].sty.under, L[i].sty.turned, L[i].sty.fore, L[i].sty.back⟩⟩).set i ⟨c.rune, ⟨c.sty.bold, c.sty.under, L[i].sty.turned, L[i].sty.fore, L[i].sty.back⟩⟩).set i ⟨c.rune, ⟨c.sty.bold, c.sty.under, c.sty.turned, L[i].sty.fore, L[i].sty.back⟩⟩).set i ⟨c.rune, ⟨c.sty.bold, c.sty.under, c.sty.turned, c.sty.fore, L[i].sty.back⟩⟩).set i c := by simp
  rw [e1]
  have h0 := h.set (i := i) (j := 0) (a' := ⟨c.rune, L[i].sty⟩) (u := .int .i32 c.rune) hv hi (by decide) rfl
  have h1 := h0.set (i := i) (j := 1) (a' := ⟨c.rune, ⟨c.sty.bold, L[i].sty.under, L[i].sty.turned, L[i].sty.fore, L[i].sty.back⟩⟩) (u := .bool c.sty.bold) (by simpa using hv) (by simpa using hi) (by decide) (by simp [celE, celL])
  have h2 := h1.set (i := i) (j := 2) (a' := ⟨c.rune, ⟨c.sty.bold, c.sty.under, L[i].sty.turned, L[i].sty.fore, L[i].sty.back⟩⟩) (u := .bool c.sty.under) (by simpa using hv) (by simpa using hi) (by decide) (by simp [celE, celL])
  have h3 := h2.set (i := i) (j := 3) (a' := ⟨c.rune, ⟨c.sty.bold, c.sty.under, c.sty.turned, L[i].sty.fore, L[i].sty.back⟩⟩) (u := .bool c.sty.turned) (by simpa using hv) (by simpa using hi) (by decide) (by simp [celE, celL])
  have h4 := h3.set (i := i) (j := 4) (a' := ⟨c.rune, ⟨c.sty.bold, c.sty.under, c.sty.turned, c.sty.fore, L[i].sty.back⟩⟩) (u := .int .i64 c.sty.fore) (by simpa using hv) (by simpa using hi) (by decide) (by simp [celE, celL])
  have h5 := h4.set (i := i) (j := 5) (a' := c) (u := .int .i64 c.sty.back) (by simpa using hv) (by simpa using hi) (by decide) (by simp [celE, celL])
  exact h5
theorem CelAt.other {w : World} {g : Nat} {c : Cel} (h : CelAt w g c) {b o : Nat} {d : Cel} (hne : g ≠ b) : CelAt (setCel w b o d) g c := (setCel_other w b o d g hne).trans h
theorem CelAt.fresh (w : World) (c : Cel) : CelAt (w.alloc (.cells #[.int .i32 c.rune, .bool c.sty.bold, .bool c.sty.under, .bool c.sty.turned, .int .i64 c.sty.fore, .int .i64 c.sty.back] 37)) w.heap.size c := heap_alloc_new w _

section
variable {w w5 w6 : World} {p hb hc : Nat} {L L5 : List Ln} {g : Gr}
theorem foot_same {y : Nat} (hy : y < L.length) (c : Nat) (l : List Cel) : foot p hb (L.set y ⟨L[y].b, c, l⟩) = foot p hb L := by
  have e : (L.set y ⟨L[y].b, c, l⟩).map Ln.b = L.map Ln.b := by
    rw [List.map_set]
    apply List.ext_getElem?
    intro j
    rw [List.getElem?_set]
    split
    · rename_i h
      subst h
      simp [hy]
    · rfl
  unfold foot
  rw [e]
/-- A line's mended copy laid in its place: the end of each call that changes one line. -/
theorem GPost.finish {y : Nat} {l' : List Cel} (hf : Fr (· ∈ foot p hb L) w w5) (h5 : GridB w5 p hb hc L5 (g.setL y l')) (hL : foot p hb L5 = foot p hb L) (hy : y < L5.length) (x : Ln) (ho : celE.Own w6 w5.heap.size x.s.v x.l) (hb6 : Below w5.heap.size w5 w6) :
    GPost w (foot p hb L) p (g.setL y x.l) (w6.setCell ⟨hb, y, none⟩ x.s.v) := by
  have hxb := (ho.lt x.b rfl).1
  have hlt := h5.lt
  have h6 := (h5.below hb6).setHead hy x (ho.mono (Nat.zero_le _)) (fun hm => by have := hlt _ hm; omega)
  rw [Gr.setL_setL] at h6
  have hs := hf.size
  refine ⟨⟨_, ⟨_, _, _, h6, rfl⟩, fun k hk => ?_⟩, ?_⟩
  · rcases foot_set x k hk with hk | rfl
    · exact .inl (by rw [← hL]; exact hk)
    · exact .inr (by omega)
  · exact (hf.trans' (Fr.of_below hb6)).trans' (Fr.setCell (a := ⟨hb, y, none⟩) _ (by simp [foot]))
end
theorem Tabs.of_block {w w' : World} (h : Tabs w) (hb : w'.heap[0]? = w.heap[0]?) (hs : w.heap.size ≤ w'.heap.size) : Tabs w' :=
  ⟨fun j v hv => (World.cell?_of_block (w := w) (a := ⟨0, 0 + j, none⟩) hb).trans (h.wide j v hv), Nat.lt_of_lt_of_le h.room hs⟩
/-- No block of a grid is the table's. -/
theorem GridB.pos {w : World} {p hb hc : Nat} {L : List Ln} {g : Gr} (h : GridB w p hb hc L g) (hT : Tabs w) (hok : g.Ok) : 0 ∉ foot p hb L := by
  have t0 : w.cell? ⟨0, 0, none⟩ = some (.int .i32 4352) := hT.wide 0 _ rfl
  have t1 : w.cell? ⟨0, 1, none⟩ = some (.int .i32 4447) := hT.wide 1 _ rfl
  intro hm
  simp only [foot, List.mem_cons, List.mem_map] at hm
  have hl : L.length = g.h := h.len.trans hok.len
  rcases hm with e | e | ⟨x, hx, e⟩
  · have := h.cell0
    rw [← e, t0] at this
    cases this
  · have := h.hcell (y := 0) (by have := hok.h1; omega)
    rw [← e, t0] at this
    cases this
  · obtain ⟨j, hj, rfl⟩ := List.getElem_of_mem hx
    have hlj := h.line_at hj
    have hlo := hok.line (y := j) (by omega)
    have hlen : 0 < L[j].l.length := by rw [hlj, hlo.len]; exact hok.w1
    obtain ⟨b, off, e2, _, q⟩ := (row_of_own (h.row hj)).at_ (i := 0) hlen
    simp only [Option.some.injEq, Addr.mk.injEq, and_true] at e2
    obtain ⟨rfl, rfl⟩ := e2
    have := q 1 (by decide)
    rw [e] at this
    simp only [Nat.zero_mul, Nat.zero_add] at this
    rw [t1] at this
    simp [celE, celL] at this
theorem GridB.tabs {w w' : World} {p hb hc : Nat} {L : List Ln} {g : Gr} (h : GridB w p hb hc L g) (hT : Tabs w) (hok : g.Ok) (hf : Fr (· ∈ foot p hb L) w w') : Tabs w' :=
  hT.of_block (hf.block 0 hT.room (h.pos hT hok)) hf.size
theorem GridAt.tabs {w w' : World} {F : List Nat} {p : Nat} {g : Gr} (h : GridAt w F p g) (hT : Tabs w) (hok : g.Ok) (hf : Fr (· ∈ F) w w') : Tabs w' := by
  obtain ⟨hb, hc, L, h, rfl⟩ := h
  exact h.tabs hT hok hf
section
variable {w : World} {p hb hc : Nat} {L : List Ln} {g : Gr}
theorem GridB.row_in (_h : GridB w p hb hc L g) {Y : Nat} (hY : Y < L.length) : L[Y].b ∈ foot p hb L := by
  simp only [foot, List.mem_cons, List.mem_map]
  exact .inr (.inr ⟨_, List.getElem_mem _, rfl⟩)
theorem GridB.hcell' (h : GridB w p hb hc L g) {Y : Nat} (hY : Y < L.length) : w.cell? ⟨hb, Y, none⟩ = some (.slice (some ⟨L[Y].b, 0, none⟩) (g.line Y).length L[Y].c) := by
  rw [h.hcell hY]
  unfold Ln.s Sl.v
  rw [h.line_at hY]
theorem GridB.row' (h : GridB w p hb hc L g) {Y : Nat} (hY : Y < L.length) : celE.Own w 0 (.slice (some ⟨L[Y].b, 0, none⟩) (g.line Y).length L[Y].c) (g.line Y) := by
  have := h.row hY
  unfold Ln.s Sl.v at this
  rw [h.line_at hY] at this
  exact this
theorem GridB.rowR (h : GridB w p hb hc L g) {Y : Nat} (hY : Y < L.length) : celE.Row w w.heap.size (some ⟨L[Y].b, 0, none⟩) (g.line Y) := El.Row.of_own (h.row' hY)
theorem GridB.rfrozen (h : GridB w p hb hc L g) {Y : Nat} (hY : Y < L.length) (j : Nat) : w.frozen? ⟨L[Y].b, j, none⟩ = false := by
  obtain ⟨cur, hg, _⟩ := (h.row' hY).block rfl
  simp [World.frozen?, hg]
/-- What a store of a cell wants to know. -/
theorem GridB.room (h : GridB w p hb hc L g) {Y : Nat} (hY : Y < L.length) {X : Nat} (hX : X < (g.line Y).length) : ∃ v0 v1 v2 v3 v4 v5, w.cell? ⟨L[Y].b, X * 6, none⟩ = some v0 ∧ w.cell? ⟨L[Y].b, X * 6 + 1, none⟩ = some v1 ∧ w.cell? ⟨L[Y].b, X * 6 + 2, none⟩ = some v2 ∧
    w.cell? ⟨L[Y].b, X * 6 + 3, none⟩ = some v3 ∧ w.cell? ⟨L[Y].b, X * 6 + 4, none⟩ = some v4 ∧ w.cell? ⟨L[Y].b, X * 6 + 5, none⟩ = some v5 := by
  obtain ⟨b', off', e', hb', q0, q1, q2, q3, q4, q5⟩ := cel_at (h.rowR hY) hX
  simp only [Option.some.injEq, Addr.mk.injEq, and_true] at e'
  obtain ⟨rfl, rfl⟩ := e'
  simp only [Nat.zero_add] at q0 q1 q2 q3 q4 q5
  exact ⟨_, _, _, _, _, _, q0, q1, q2, q3, q4, q5⟩
theorem GridB.store (h : GridB w p hb hc L g) {Y : Nat} (hY : Y < L.length) {X : Nat} (hX : X < (g.line Y).length) (c : Cel) :
    GridB (setCel w L[Y].b (X * 6) c) p hb hc (L.set Y ⟨L[Y].b, L[Y].c, (g.line Y).set X c⟩) (g.setL Y ((g.line Y).set X c)) ∧ Fr (· ∈ foot p hb L) w (setCel w L[Y].b (X * 6) c) := by
  refine ⟨h.setRow hY (by rw [List.length_set, h.line_at hY]) ?_ (fun k _ hne => setCel_other _ _ _ _ _ hne), setCel_fr _ _ _ _ (h.row_in hY)⟩
  have := setCel_own (h.row' hY) rfl hX c
  unfold Ln.s Sl.v
  rw [h.line_at hY]
  exact this
/-- copy into a line of a grid. -/
theorem GridB.copy (h : GridB w p hb hc L g) {Y : Nat} (hY : Y < L.length) (ty : TypeId) (D : Option Addr) (dLen dCap : Nat) (A : Option Addr) (M : List Cel) (n c B o k : Nat) (hr : celE.Row w B A M) (hn : n = M.length) (hk : k = min M.length dLen) (hD : 0 < k → D = some ⟨L[Y].b, o * 6, none⟩) (ho : o + k ≤ (g.line Y).length) :
    ∃ w', (Builtin.copy_ #[23, 23] ty #[.slice D dLen dCap, .slice A n c]).run Tryd.prog w = .ok (.int .i64 (k : Int)) w' ∧
      GridB w' p hb hc (L.set Y ⟨L[Y].b, L[Y].c, (g.line Y).take o ++ M.take k ++ (g.line Y).drop (o + k)⟩) (g.setL Y ((g.line Y).take o ++ M.take k ++ (g.line Y).drop (o + k))) ∧ Fr (· ∈ foot p hb L) w w' ∧ w'.heap.size = w.heap.size := by
  obtain ⟨w', h1, h2, h3, h4⟩ := copyC (h.row' hY) rfl ty D dLen dCap A M n c B o k hr hn hk hD ho
  have hlen : ((g.line Y).take o ++ M.take k ++ (g.line Y).drop (o + k)).length = (g.line Y).length := by simp; omega
  refine ⟨w', h1, h.setRow hY (by rw [hlen, h.line_at hY]) ?_ (fun j hj hne => h3.block j (h.lt j hj) (fun e => hne e)), h3.mono (fun j e => by rw [e]; exact h.row_in hY), h4⟩
  unfold Ln.s Sl.v
  rw [h.line_at hY]
  exact h2
end
end Go.Proofs.YtbpkklcegiiheaaDoor
