/-
  DBase, DStep, DCopy, in one text.
-/
import Derived.Test.YtdolapobkhhanaaDoorM09
import Derived.Lib.MinMax
/-
  Layer 9 (grid): nearest, there, part, blankLines, New.
-/
namespace Go.Proofs.YtdolapobkhhanaaDoor
open Go.RowKit Go.Lib KM

set_option maxRecDepth 100000 in
theorem nearest_ok (w : World) (n a b : Int) : Calls Tryd.prog 50 #[.int .i64 n, .int .i64 a, .int .i64 b] w fun e w' => e = .returned (.int .i64 (nr n a b)) ∧ w' = w := by
  unfold nr
  go_enter Tryd.func50, Tryd.ntmps50
  go_wp2
  go_ret
  exact ⟨rfl, rfl⟩

/-- Lines made anew since w0, under way: the header's block g has room for n. -/
structure BL (w0 w : World) (g n : Nat) (L : List Ln) : Prop where
  head : linE.Own w w0.heap.size (.slice (some ⟨g, 0, none⟩) n n) (L.map Ln.s ++ List.replicate (n - L.length) ⟨none, 0, 0⟩)
  rows : ∀ x ∈ L, celE.Own w w0.heap.size x.s.v x.l
  nodup : (L.map Ln.b).Nodup
  after : ∀ x ∈ L, g < x.b
  base : w0.heap.size ≤ g
  len : L.length ≤ n
  below : Below w0.heap.size w0 w
theorem set_rep {α : Type} (M : List α) (n : Nat) (z a : α) (h : M.length < n) : (M ++ List.replicate (n - M.length) z).set M.length a = (M ++ [a]) ++ List.replicate (n - (M.length + 1)) z := by
  rw [List.set_append_right _ _ (Nat.le_refl _), Nat.sub_self, show n - M.length = (n - (M.length + 1)) + 1 by omega, List.replicate_succ, List.set_cons_zero]
  simp
theorem BL.step {w0 w w1 : World} {g n : Nat} {L : List Ln} (h : BL w0 w g n L) (hk : L.length < n) (x : Ln) (ho : celE.Own w1 w.heap.size x.s.v x.l) (hb : Below w.heap.size w w1) : BL w0 (w1.setCell ⟨g, L.length, none⟩ x.s.v) g n (L ++ [x]) := by
  have hxb := (ho.lt x.b rfl).1
  have hgl := (h.head.lt g rfl).2
  have hs := h.below.size
  have hne : x.b ≠ g := by omega
  have hrow : ∀ y ∈ L, celE.Own (w1.setCell ⟨g, L.length, none⟩ x.s.v) w0.heap.size y.s.v y.l := fun y hy => by
    have hy1 := (h.rows y hy).below (hb.mono (Nat.le_refl _))
    refine hy1.keep fun k e => ?_
    cases e
    have := h.after y hy
    exact Below.heap_setCell _ _ _ _ (by show y.b ≠ g; omega)
  refine ⟨?_, ?_, ?_, ?_, h.base, by simp; omega, (h.below.trans (hb.mono hs)).setCell (p := ⟨g, L.length, none⟩) h.base _⟩
  · have h1 := h.head.below hb
    have hl : (L.map Ln.s ++ List.replicate (n - L.length) (⟨none, 0, 0⟩ : Sl)).length = n := by simp; have := h.len; omega
    have h2 := h1.set (i := L.length) (j := 0) (a' := x.s) (u := x.s.v) (by rw [hl]) (by rw [hl]; exact hk) (by decide) (by simp [linE])
    have e := set_rep (L.map Ln.s) n (⟨none, 0, 0⟩ : Sl) x.s (by simpa using hk)
    rw [List.length_map] at e
    rw [e] at h2
    have e2 : (L ++ [x]).map Ln.s = L.map Ln.s ++ [x.s] := by simp
    rw [e2, List.length_append, List.length_singleton]
    simpa [linE] using h2
  · intro y hy
    rcases List.mem_append.1 hy with hy | hy
    · exact hrow y hy
    · simp only [List.mem_singleton] at hy
      subst hy
      refine (ho.mono hs).keep fun k e => ?_
      cases e
      exact Below.heap_setCell _ _ _ _ hne
  · rw [List.map_append, List.map_singleton, List.nodup_append]
    refine ⟨h.nodup, by simp, fun a ha b hb' => ?_⟩
    obtain ⟨y, hy, rfl⟩ := List.mem_map.1 ha
    simp only [List.mem_singleton] at hb'
    subst hb'
    have := ((h.rows y hy).lt y.b rfl).2
    omega
  · intro y hy
    rcases List.mem_append.1 hy with hy | hy
    · exact h.after y hy
    · simp only [List.mem_singleton] at hy
      subst hy
      omega
theorem BL.cell {w0 w : World} {g n : Nat} {L : List Ln} (h : BL w0 w g n L) (hk : L.length < n) : w.cell? ⟨g, L.length, none⟩ = some (.slice none 0 0) ∧ w.frozen? ⟨g, L.length, none⟩ = false := by
  have hl : (L.map Ln.s ++ List.replicate (n - L.length) (⟨none, 0, 0⟩ : Sl)).length = n := by simp; have := h.len; omega
  obtain ⟨g', c, e, _, _, _, _, hf, hc⟩ := h.head.place (by rw [hl]; omega)
  simp only [Value.slice.injEq, Option.some.injEq, Addr.mk.injEq, and_true] at e
  obtain ⟨rfl, _⟩ := e
  have := hc L.length (by rw [hl]; exact hk) 0 (by decide)
  refine ⟨?_, hf _⟩
  rw [List.getElem_append_right (by simp)] at this
  simpa [linE, Sl.v] using this

set_option maxRecDepth 100000 in
set_option maxHeartbeats 1000000 in
/-- So many lines of blanks, each in a row of its own. -/
theorem blankLines_ok (w : World) (n wd : Nat) (hn : n ≤ 60) (hw : wd ≤ 60) (hw1 : 1 ≤ wd) (s : Sty) :
    Calls Tryd.prog 51 #[.int .i64 (n : Int), .int .i64 (wd : Int), styV s] w fun e w' => ∃ g L, e = .returned (.slice (some ⟨g, 0, none⟩) n n) ∧ BL w w' g n L ∧ L.length = n ∧ (∀ x ∈ L, x.l = KM.blanks wd s) := by
  have HBK := Lib.hid (fun v => blanks_ok v wd (by omega) s)
  obtain ⟨b, u, t, f, k0⟩ := s
  obtain ⟨mk, hmk0⟩ : ∃ mk, mk = madeCells linE.z.cells (n * linE.s) := ⟨_, rfl⟩
  have hmk : ∀ w, (Instr.makeSlice 35 (.int .i64 (n : Int)) (.int .i64 (n : Int))).run Tryd.prog w = .ok (.slice (some ⟨w.heap.size, 0, none⟩) n n) (w.alloc (.cells mk 48)) := fun w => by
    rw [hmk0]; exact linE.run_made w n (by omega) (by decide)
  obtain ⟨w1, hw1⟩ : ∃ w1, w1 = w.alloc (.cells #[.bool b, .bool u, .bool t, .int .i64 f, .int .i64 k0] 30) := ⟨_, rfl⟩
  have hb1 : Below w.heap.size w w1 := by rw [hw1]; exact (Below.refl _ _).alloc (Nat.le_refl _) _
  have hz1 : w1.heap.size = w.heap.size + 1 := by rw [hw1]; simp
  have hs1 : w1.heap[w.heap.size]? = some (.cells #[.bool b, .bool u, .bool t, .int .i64 f, .int .i64 k0] 30 (0, 0)) := by rw [hw1]; exact heap_alloc_new w _
  obtain ⟨w2, hw2⟩ : ∃ w2, w2 = w1.alloc (.cells mk 48) := ⟨_, rfl⟩
  have hown := linE.own_made w1 w.heap.size n ⟨none, 0, 0⟩ rfl (by omega) (by unfold maxLen; omega)
  rw [← hmk0] at hown
  have hbl : BL w w2 w1.heap.size n [] := by
    refine ⟨?_, by simp, by simp, by simp, by omega, by simp, by rw [hw2]; exact hb1.alloc (by omega) _⟩
    rw [hw2]
    exact hown
  have hs2 : w2.heap[w.heap.size]? = some (.cells #[.bool b, .bool u, .bool t, .int .i64 f, .int .i64 k0] 30 (0, 0)) := by rw [hw2, heap_alloc_old _ _ (by omega)]; exact hs1
  have W1 := Lib.hid hw1
  have W2 := Lib.hid hw2
  have HBL := Lib.hid hbl
  have HS2 := Lib.hid hs2
  clear hw1 hb1 hs1 hw2 hown hbl hmk0 hs2
  simp only [styV] at HBK ⊢
  go_enter Tryd.func51, Tryd.ntmps51
  go_wp2_with fail
  rw [← W1.out, ← W2.out]
  obtain ⟨g, hg⟩ : ∃ g, g = w.heap.size + 1 := ⟨_, rfl⟩
  rw [hz1, ← hg] at HBL
  rw [← hg]
  have hwg : w.heap.size < g := by omega
  clear hg
  go_loopw [13] (fun i wr => ∃ L : List Ln, L.length ≤ n ∧ i = .int .i64 (L.length : Int) ∧ BL w wr g n L ∧ (∀ x ∈ L, x.l = KM.blanks wd ⟨b, u, t, f, k0⟩) ∧ wr.heap[w.heap.size]? = some (.cells #[.bool b, .bool u, .bool t, .int .i64 f, .int .i64 k0] 30 (0, 0))) (fun i _ => n - (RowKit.intOf i).toNat)
  case atStart => exact ⟨[], Nat.zero_le _, rfl, HBL.out, by simp, HS2.out⟩
  case round =>
    obtain ⟨L, hk, rfl, hbl, hx, hs⟩ := hrel
    have HB := Lib.hid hbl
    have HX := Lib.hid hx
    have HS := Lib.hid hs
    obtain ⟨p0, p1, p2, p3, p4⟩ : wr.cell? ⟨w.heap.size, 0, none⟩ = some (.bool b) ∧ wr.cell? ⟨w.heap.size, 1, none⟩ = some (.bool u) ∧ wr.cell? ⟨w.heap.size, 2, none⟩ = some (.bool t) ∧ wr.cell? ⟨w.heap.size, 3, none⟩ = some (.int .i64 f) ∧ wr.cell? ⟨w.heap.size, 4, none⟩ = some (.int .i64 k0) := by
      refine ⟨?_, ?_, ?_, ?_, ?_⟩ <;> simp [World.cell?, hs]
    have hgr : g < wr.heap.size := (hbl.head.lt g rfl).2
    clear hbl hx hs
    by_cases hlt : L.length < n
    · have g1 : decide ((L.length : Int) < (n : Int)) = true := by simp; omega
      have gn : decide (L.length < n) = true := by simp; omega
      have hin : (L.length : Int) < (n : Int) := by omega
      go_wp2_with fail
      refine (HBK.out wr).mono ?_
      rintro e w3 ⟨v, rfl, ho, hb3⟩
      obtain ⟨gx, cx, hv, _, _, _, _, _, _⟩ := ho.place (by rw [blanks_len]; omega)
      obtain ⟨x, hxd⟩ : ∃ x : Ln, x = ⟨gx, cx, KM.blanks wd ⟨b, u, t, f, k0⟩⟩ := ⟨_, rfl⟩
      have hvs : v = x.s.v := by rw [hv, hxd]; rfl
      have hxl : x.l = KM.blanks wd ⟨b, u, t, f, k0⟩ := by rw [hxd]
      rw [hvs, ← hxl] at ho
      have hstep := HB.out.step hlt x ho hb3
      obtain ⟨k1, k2⟩ := HB.out.cell hlt
      have q1 := (hb3.cell (p := ⟨g, L.length, none⟩) hgr).trans k1
      have q2 := (hb3.frozen (p := ⟨g, L.length, none⟩) hgr).trans k2
      have hs3 : (w3.setCell ⟨g, L.length, none⟩ x.s.v).heap[w.heap.size]? = _ := (Below.heap_setCell _ _ _ _ (by show w.heap.size ≠ g; omega)).trans ((hb3.block w.heap.size (by omega)).trans HS.out)
      have hvx : v = .slice (some ⟨gx, 0, none⟩) x.l.length cx := by rw [hv, hxl]
      have hvv : x.s.v = .slice (some ⟨gx, 0, none⟩) x.l.length cx := by rw [← hvs]; exact hvx
      rw [hvv] at hstep hs3
      have HST := Lib.hid hstep
      have HS3 := Lib.hid hs3
      have HXL := Lib.hid hxl
      rw [hvx]
      clear hv hvs hvx hvv hxd ho hb3 hstep hs3 k1 k2 hxl
      generalize x.l.length = m at *
      go_wp2_with fail
      go_roundw
      case rel => exact ⟨L ++ [x], by simp; omega, by simp, HST.out, fun y hy => by
        rcases List.mem_append.1 hy with hy | hy
        · exact HX.out y hy
        · simp only [List.mem_singleton] at hy
          rw [hy]; exact HXL.out, HS3.out⟩
      case measure => simp [RowKit.intOf]; omega
    · have g1 : decide ((L.length : Int) < (n : Int)) = false := by simp; omega
      have gn : decide (L.length < n) = false := by simp; omega
      have hln : L.length = n := by omega
      have HLN := Lib.hid hln
      clear hln
      go_wp2_with fail
      go_ret
      exact ⟨g, L, rfl, HB.out, HLN.out, HX.out⟩

/-! ### a grid made -/
/-- A new grid's blocks. -/
structure NewGrid (w w' : World) (p : Nat) (g : Gr) : Prop where
  at_ : ∃ F, GridAt w' F p g ∧ ∀ k ∈ F, w.heap.size ≤ k
  below : Below w.heap.size w w'
/-- A grid's struct made behind its lines. -/
theorem BL.grid {w0 w : World} {b n wd : Nat} {L : List Ln} (h : BL w0 w b n L) (hl : L.length = n) : GridB (w.alloc (.cells #[.int .i64 (wd : Int), .int .i64 (n : Int), .slice (some ⟨b, 0, none⟩) n n] 45)) w.heap.size b n L ⟨wd, n, L.map Ln.l⟩ ∧
    ∀ k ∈ foot w.heap.size b L, w0.heap.size ≤ k := by
  have hbl : Below w.heap.size w (w.alloc (.cells #[.int .i64 (wd : Int), .int .i64 (n : Int), .slice (some ⟨b, 0, none⟩) n n] 45)) := (Below.refl _ _).alloc (Nat.le_refl _) _
  have hsz := h.below.size
  have hgl := h.head.lt b rfl
  refine ⟨⟨?_, ?_, ?_, rfl, ?_⟩, ?_⟩
  · rw [hl]; exact heap_alloc_new w _
  · have := (h.head.below hbl).mono (Nat.zero_le _)
    rw [hl] at this ⊢
    simpa using this
  · exact fun x hx => ((h.rows x hx).below hbl).mono (Nat.zero_le _)
  · simp only [foot, List.nodup_cons, List.mem_cons, List.mem_map, not_or, not_exists, not_and]
    refine ⟨⟨by omega, fun x hx e => ?_⟩, fun x hx e => ?_, h.nodup⟩
    · have := ((h.rows x hx).lt x.b rfl).2; omega
    · have := h.after x hx; omega
  · intro k hk
    simp only [foot, List.mem_cons, List.mem_map] at hk
    rcases hk with rfl | rfl | ⟨x, hx, rfl⟩
    · exact hsz
    · exact hgl.1
    · exact ((h.rows x hx).lt x.b rfl).1
theorem build_zstyle (w : World) : (Instr.build 30 #[]).run Tryd.prog w = .ok (.agg #[.bool false, .bool false, .bool false, .int .i64 0, .int .i64 0]) w := by kernel_rfl
theorem build_grid (w : World) (x y : Int) (A : Option Addr) (n c : Nat) : (Instr.build 45 #[(0, .int .i64 x), (1, .int .i64 y), (2, .slice A n c)]).run Tryd.prog w = .ok (.agg #[.int .i64 x, .int .i64 y, .slice A n c]) w := by kernel_rfl

set_option maxRecDepth 100000 in
set_option maxHeartbeats 1000000 in
theorem new_ok (w : World) (x y : Int) : Calls Tryd.prog 25 #[.int .i64 x, .int .i64 y] w fun e w' => ∃ p, e = .returned (.pointer (some ⟨p, 0, none⟩)) ∧ NewGrid w w' p (gnew x y) := by
  have hx := nr_in (n := x) (a := 1) (b := 60) (by omega)
  have hy := nr_in (n := y) (a := 1) (b := 60) (by omega)
  have hbs := fun w => build_zstyle w
  have hbg := fun w x y A n c => build_grid w x y A n c
  have HNX := Lib.hid (fun w => nearest_ok w x 1 60)
  have HNY := Lib.hid (fun w => nearest_ok w y 1 60)
  unfold gnew
  obtain ⟨q, hq⟩ := Int.eq_ofNat_of_zero_le (show 0 ≤ nr x 1 60 by omega)
  obtain ⟨r, hr⟩ := Int.eq_ofNat_of_zero_le (show 0 ≤ nr y 1 60 by omega)
  rw [hq] at HNX hx
  rw [hr] at HNY hy
  rw [hq, hr]
  simp only [Int.toNat_natCast]
  clear hq hr
  have HBL := Lib.hid (fun w => blankLines_ok w r q (by omega) (by omega) (by omega) KM.zero)
  simp only [styV, KM.zero] at HBL
  go_enter Tryd.func25, Tryd.ntmps25
  go_wp2_with fail
  refine (HNX.out _).mono ?_
  rintro e w1 ⟨rfl, rfl⟩
  go_wp2_with fail
  refine (HNY.out _).mono ?_
  rintro e w1 ⟨rfl, rfl⟩
  go_wp2_with fail
  refine (HBL.out _).mono ?_
  rintro e w2 ⟨b, L, rfl, hbl, hl, hx⟩
  have hlm : L.map Ln.l = List.replicate r (KM.blanks q KM.zero) := by
    rw [← hl]
    exact List.map_eq_replicate_iff.2 hx
  obtain ⟨hg, hf⟩ := hbl.grid (wd := q) hl
  rw [hlm] at hg
  have HG := Lib.hid hg
  have HF := Lib.hid hf
  have HB := Lib.hid (hbl.below.alloc hbl.below.size (.cells #[.int .i64 (q : Int), .int .i64 (r : Int), .slice (some ⟨b, 0, none⟩) r r] 45))
  clear hg hf hbl hl hx hlm
  go_wp2_with fail
  go_ret
  exact ⟨w2.heap.size, rfl, ⟨_, ⟨_, _, _, HG.out, rfl⟩, HF.out⟩, HB.out⟩
end Go.Proofs.YtdolapobkhhanaaDoor
/-
  A grid's line changed in its place, or replaced; what a call that changes a grid answers for.
-/
namespace Go.Proofs.YtdolapobkhhanaaDoor
open Go.RowKit Go.Lib KM

/-- Behind a call that changed the grid at p, whose blocks were F. -/
structure GPost (w : World) (F : List Nat) (p : Nat) (g : Gr) (w' : World) : Prop where
  at_ : ∃ F', GridAt w' F' p g ∧ ∀ k ∈ F', k ∈ F ∨ w.heap.size ≤ k
  fr : Fr (· ∈ F) w w'
theorem GPost.of_below {w w' : World} {F : List Nat} {p : Nat} {g : Gr} (h : GridAt w F p g) (hb : Below w.heap.size w w') : GPost w F p g w' :=
  ⟨⟨F, h.below hb, fun _ hk => .inl hk⟩, Fr.of_below hb⟩

section
variable {w w' : World} {p hb hc : Nat} {L : List Ln} {g : Gr}
theorem foot_set {y : Nat} (x : Ln) : ∀ k ∈ foot p hb (L.set y x), k ∈ foot p hb L ∨ k = x.b := by
  intro k hk
  simp only [foot, List.mem_cons, List.mem_map] at hk ⊢
  rcases hk with rfl | rfl | ⟨z, hz, rfl⟩
  · exact .inl (.inl rfl)
  · exact .inl (.inr (.inl rfl))
  · rcases List.mem_or_eq_of_mem_set hz with hz | rfl
    · exact .inl (.inr (.inr ⟨z, hz, rfl⟩))
    · exact .inr rfl
theorem nodup_set {y : Nat} (hy : y < L.length) (x : Ln) (hn : (foot p hb L).Nodup) (hx : x.b = L[y].b ∨ x.b ∉ foot p hb L) : (foot p hb (L.set y x)).Nodup := by
  rcases hx with hx | hx
  · have e : (L.set y x).map Ln.b = L.map Ln.b := by
      rw [List.map_set, hx]
      apply List.ext_getElem?
      intro j
      rw [List.getElem?_set]
      split
      · rename_i h
        subst h
        simp [hy]
      · rfl
    unfold foot
    rw [e]
    exact hn
  · simp only [foot, List.nodup_cons, List.mem_cons, List.mem_map, not_or, not_exists, not_and] at hn hx ⊢
    refine ⟨⟨hn.1.1, fun z hz e => ?_⟩, fun z hz e => ?_, ?_⟩
    · rcases List.mem_or_eq_of_mem_set hz with hz | rfl
      · exact hn.1.2 z hz e
      · exact hx.1 e
    · rcases List.mem_or_eq_of_mem_set hz with hz | rfl
      · exact hn.2.1 z hz e
      · exact hx.2.1 e
    · rw [List.map_set]
      have := hn.2.2
      rw [List.nodup_iff_pairwise_ne, List.pairwise_iff_getElem] at this ⊢
      intro i j hi hj hij
      simp only [List.length_set] at hi hj
      rw [List.getElem_set, List.getElem_set]
      split <;> split
      · omega
      · intro e
        exact hx.2.2 (L[j]'(by simpa using hj)) (List.getElem_mem _) (by rw [e]; simp)
      · intro e
        exact hx.2.2 (L[i]'(by simpa using hi)) (List.getElem_mem _) (by rw [← e]; simp)
      · exact this i j hi hj hij
/-- A line changed in its place. -/
theorem GridB.setRow (h : GridB w p hb hc L g) {y : Nat} (hy : y < L.length) {l' : List Cel} (hl : l'.length = L[y].l.length) (ho : celE.Own w' 0 L[y].s.v l') (hk : ∀ k ∈ foot p hb L, k ≠ L[y].b → w'.heap[k]? = w.heap[k]?) :
    GridB w' p hb hc (L.set y ⟨L[y].b, L[y].c, l'⟩) (g.setL y l') := by
  have hrn := h.row_ne (List.getElem_mem (h := hy))
  have hs : (⟨L[y].b, L[y].c, l'⟩ : Ln).s = L[y].s := by unfold Ln.s; simp only [hl]
  have hm : (L.set y ⟨L[y].b, L[y].c, l'⟩).map Ln.s = L.map Ln.s := by
    rw [List.map_set, hs]
    apply List.ext_getElem?
    intro j
    rw [List.getElem?_set]
    split
    · rename_i h
      subst h
      simp [hy]
    · rfl
  refine ⟨?_, ?_, fun x hx => ?_, ?_, nodup_set hy _ h.nodup (.inl rfl)⟩
  · rw [List.length_set]
    exact (hk p (by simp [foot]) hrn.1.symm).trans h.cells
  · rw [hm, List.length_set]
    exact h.head.keep fun k e => by cases e; exact hk hb (by simp [foot]) hrn.2.symm
  · obtain ⟨j, hj, rfl⟩ := List.getElem_of_mem hx
    rw [List.length_set] at hj
    by_cases e : y = j
    · subst e
      simp only [List.getElem_set_self]
      rw [hs]; exact ho
    · have e1 : (L.set y ⟨L[y].b, L[y].c, l'⟩)[j]'(by simpa using hj) = L[j] := by rw [List.getElem_set_ne e]
      rw [e1]
      exact (h.row hj).keep fun k ek => by
        cases ek
        exact hk L[j].b (by simp only [foot, List.mem_cons, List.mem_map]; exact .inr (.inr ⟨_, List.getElem_mem _, rfl⟩)) (h.row_apart hj hy (fun e2 => e e2.symm))
  · simp only [Gr.setL, h.lines, List.map_set]
/-- A line's header written anew. -/
theorem GridB.setHead (h : GridB w p hb hc L g) {y : Nat} (hy : y < L.length) (x : Ln) (ho : celE.Own w 0 x.s.v x.l) (hx : x.b ∉ foot p hb L) : GridB (w.setCell ⟨hb, y, none⟩ x.s.v) p hb hc (L.set y x) (g.setL y x.l) := by
  have hxh : x.b ≠ hb := fun e => hx (by rw [e]; simp [foot])
  have hk : ∀ k, k ≠ hb → (w.setCell ⟨hb, y, none⟩ x.s.v).heap[k]? = w.heap[k]? := fun k hk => Below.heap_setCell _ _ _ _ hk
  refine ⟨?_, ?_, fun z hz => ?_, ?_, nodup_set hy _ h.nodup (.inr hx)⟩
  · rw [List.length_set]
    exact (hk p h.ne_hb).trans h.cells
  · have hh : linE.Own w 0 (.slice (some ⟨hb, 0, none⟩) (L.map Ln.s).length hc) (L.map Ln.s) := by rw [List.length_map]; exact h.head
    have h2 := hh.set (i := y) (j := 0) (a' := x.s) (u := x.s.v) rfl (by simpa using hy) (by decide) (by simp [linE])
    rw [← List.map_set, List.length_map] at h2
    rw [List.length_set]
    simpa [linE] using h2
  · rcases List.mem_or_eq_of_mem_set hz with hz | rfl
    · exact (h.rows z hz).keep fun k e => by cases e; exact hk z.b (h.row_ne hz).2
    · exact ho.keep fun k e => by cases e; exact hk _ hxh
  · simp only [Gr.setL, h.lines, List.map_set]
theorem Gr.setL_setL (g : Gr) (y : Nat) (a b : List Cel) : (g.setL y a).setL y b = g.setL y b := by simp [Gr.setL]
theorem Gr.line_setL (g : Gr) (y : Nat) (a : List Cel) (hy : y < g.ls.length) : (g.setL y a).line y = a := by simp [Gr.setL, Gr.line, hy]
end

/-! ### a cell stored -/
def setCel (w : World) (b o : Nat) (c : Cel) : World :=
  (((((w.setCell ⟨b, o, none⟩ (.int .i32 c.rune)).setCell ⟨b, o + 1, none⟩ (.bool c.sty.bold)).setCell ⟨b, o + 2, none⟩ (.bool c.sty.under)).setCell ⟨b, o + 3, none⟩ (.bool c.sty.turned)).setCell ⟨b, o + 4, none⟩ (.int .i64 c.sty.fore)).setCell ⟨b, o + 5, none⟩ (.int .i64 c.sty.back)
theorem setCel_other (w : World) (b o : Nat) (c : Cel) (k : Nat) (h : k ≠ b) : (setCel w b o c).heap[k]? = w.heap[k]? := by
  unfold setCel
  rw [Below.heap_setCell _ _ _ _ h, Below.heap_setCell _ _ _ _ h, Below.heap_setCell _ _ _ _ h, Below.heap_setCell _ _ _ _ h, Below.heap_setCell _ _ _ _ h, Below.heap_setCell _ _ _ _ h]
theorem setCel_fr {S : Nat → Prop} (w : World) (b o : Nat) (c : Cel) (h : S b) : Fr S w (setCel w b o c) := by
  unfold setCel
  exact (((((Fr.setCell (a := ⟨b, o, none⟩) _ h).trans' (Fr.setCell (a := ⟨b, o + 1, none⟩) _ h)).trans' (Fr.setCell (a := ⟨b, o + 2, none⟩) _ h)).trans' (Fr.setCell (a := ⟨b, o + 3, none⟩) _ h)).trans' (Fr.setCell (a := ⟨b, o + 4, none⟩) _ h)).trans' (Fr.setCell (a := ⟨b, o + 5, none⟩) _ h)
theorem setCel_own {w : World} {base : Nat} {v : Value} {L : List Cel} (h : celE.Own w base v L) {b c0 : Nat} (hv : v = .slice (some ⟨b, 0, none⟩) L.length c0) {i : Nat} (hi : i < L.length) (c : Cel) : celE.Own (setCel w b (i * 6) c) base v (L.set i c) := by
  have e1 : (L.set i c) = (((((L.set i ⟨c.rune, L[i].sty⟩).set i ⟨c.rune, ⟨c.sty.bold, L[i].sty.under, L[i].sty.turned, L[i].sty.fore, L[i].sty.back⟩⟩).set i ⟨c.rune, ⟨c.sty.bold, c.sty.under, L[i].sty.turned, L[i].sty.fore, L[i].sty.back⟩⟩).set i ⟨c.rune, ⟨c.sty.bold, c.sty.under, c.sty.turned, L[i].sty.fore, L[i].sty.back⟩⟩).set i ⟨c.rune, ⟨c.sty.bold, c.sty.under, c.sty.turned, c.sty.fore, L[i].sty.back⟩⟩).set i c := by simp
  rw [e1]
  have h0 := h.set (i := i) (j := 0) (a' := ⟨c.rune, L[i].sty⟩) (u := .int .i32 c.rune) hv hi (by decide) rfl
  have h1 := h0.set (i := i) (j := 1) (a' := ⟨c.rune, ⟨c.sty.bold, L[i].sty.under, L[i].sty.turned, L[i].sty.fore, L[i].sty.back⟩⟩) (u := .bool c.sty.bold) (by simpa using hv) (by simpa using hi) (by decide) (by simp [celE, celL])
  have h2 := h1.set (i := i) (j := 2) (a' := ⟨c.rune, ⟨c.sty.bold, c.sty.under, L[i].sty.turned, L[i].sty.fore, L[i].sty.back⟩⟩) (u := .bool c.sty.under) (by simpa using hv) (by simpa using hi) (by decide) (by simp [celE, celL])
  have h3 := h2.set (i := i) (j := 3) (a' := ⟨c.rune, ⟨c.sty.bold, c.sty.under, c.sty.turned, L[i].sty.fore, L[i].sty.back⟩⟩) (u := .bool c.sty.turned) (by simpa using hv) (by simpa using hi) (by decide) (by simp [celE, celL])
  have h4 := h3.set (i := i) (j := 4) (a' := ⟨c.rune, ⟨c.sty.bold, c.sty.under, c.sty.turned, c.sty.fore, L[i].sty.back⟩⟩) (u := .int .i64 c.sty.fore) (by simpa using hv) (by simpa using hi) (by decide) (by simp [celE, celL])
  have h5 := h4.set (i := i) (j := 5) (a' := c) (u := .int .i64 c.sty.back) (by simpa using hv) (by simpa using hi) (by decide) (by simp [celE, celL])
  exact h5
theorem CelAt.other {w : World} {g : Nat} {c : Cel} (h : CelAt w g c) {b o : Nat} {d : Cel} (hne : g ≠ b) : CelAt (setCel w b o d) g c := (setCel_other w b o d g hne).trans h
theorem CelAt.fresh (w : World) (c : Cel) : CelAt (w.alloc (.cells #[.int .i32 c.rune, .bool c.sty.bold, .bool c.sty.under, .bool c.sty.turned, .int .i64 c.sty.fore, .int .i64 c.sty.back] 63)) w.heap.size c := heap_alloc_new w _

section
variable {w w5 w6 : World} {p hb hc : Nat} {L L5 : List Ln} {g : Gr}
theorem foot_same {y : Nat} (hy : y < L.length) (c : Nat) (l : List Cel) : foot p hb (L.set y ⟨L[y].b, c, l⟩) = foot p hb L := by
  have e : (L.set y ⟨L[y].b, c, l⟩).map Ln.b = L.map Ln.b := by
    rw [List.map_set]
    apply List.ext_getElem?
    intro j
    rw [List.getElem?_set]
    split
    · rename_i h
      subst h
      simp [hy]
    · rfl
  unfold foot
  rw [e]
/-- A line's mended copy laid in its place: the end of each call that changes one line. -/
theorem GPost.finish {y : Nat} {l' : List Cel} (hf : Fr (· ∈ foot p hb L) w w5) (h5 : GridB w5 p hb hc L5 (g.setL y l')) (hL : foot p hb L5 = foot p hb L) (hy : y < L5.length) (x : Ln) (ho : celE.Own w6 w5.heap.size x.s.v x.l) (hb6 : Below w5.heap.size w5 w6) :
    GPost w (foot p hb L) p (g.setL y x.l) (w6.setCell ⟨hb, y, none⟩ x.s.v) := by
  have hxb := (ho.lt x.b rfl).1
  have hlt := h5.lt
  have h6 := (h5.below hb6).setHead hy x (ho.mono (Nat.zero_le _)) (fun hm => by have := hlt _ hm; omega)
  rw [Gr.setL_setL] at h6
  have hs := hf.size
  refine ⟨⟨_, ⟨_, _, _, h6, rfl⟩, fun k hk => ?_⟩, ?_⟩
  · rcases foot_set x k hk with hk | rfl
    · exact .inl (by rw [← hL]; exact hk)
    · exact .inr (by omega)
  · exact (hf.trans' (Fr.of_below hb6)).trans' (Fr.setCell (a := ⟨hb, y, none⟩) _ (by simp [foot]))
end
theorem Tabs.of_block {w w' : World} (h : Tabs w) (hb : w'.heap[2]? = w.heap[2]?) (hs : w.heap.size ≤ w'.heap.size) : Tabs w' :=
  ⟨fun j v hv => (World.cell?_of_block (w := w) (a := ⟨2, 0 + j, none⟩) hb).trans (h.wide j v hv), Nat.lt_of_lt_of_le h.room hs⟩
/-- No block of a grid is the table's. -/
theorem GridB.pos {w : World} {p hb hc : Nat} {L : List Ln} {g : Gr} (h : GridB w p hb hc L g) (hT : Tabs w) (hok : g.Ok) : 2 ∉ foot p hb L := by
  have t0 : w.cell? ⟨2, 0, none⟩ = some (.int .i32 4352) := hT.wide 0 _ rfl
  have t1 : w.cell? ⟨2, 1, none⟩ = some (.int .i32 4447) := hT.wide 1 _ rfl
  intro hm
  simp only [foot, List.mem_cons, List.mem_map] at hm
  have hl : L.length = g.h := h.len.trans hok.len
  rcases hm with e | e | ⟨x, hx, e⟩
  · have := h.cell0
    rw [← e, t0] at this
    cases this
  · have := h.hcell (y := 0) (by have := hok.h1; omega)
    rw [← e, t0] at this
    cases this
  · obtain ⟨j, hj, rfl⟩ := List.getElem_of_mem hx
    have hlj := h.line_at hj
    have hlo := hok.line (y := j) (by omega)
    have hlen : 0 < L[j].l.length := by rw [hlj, hlo.len]; exact hok.w1
    obtain ⟨b, off, e2, _, q⟩ := (row_of_own (h.row hj)).at_ (i := 0) hlen
    simp only [Option.some.injEq, Addr.mk.injEq, and_true] at e2
    obtain ⟨rfl, rfl⟩ := e2
    have := q 1 (by decide)
    rw [e] at this
    simp only [Nat.zero_mul, Nat.zero_add] at this
    rw [t1] at this
    simp [celE, celL] at this
theorem GridB.tabs {w w' : World} {p hb hc : Nat} {L : List Ln} {g : Gr} (h : GridB w p hb hc L g) (hT : Tabs w) (hok : g.Ok) (hf : Fr (· ∈ foot p hb L) w w') : Tabs w' :=
  hT.of_block (hf.block 2 hT.room (h.pos hT hok)) hf.size
theorem GridAt.tabs {w w' : World} {F : List Nat} {p : Nat} {g : Gr} (h : GridAt w F p g) (hT : Tabs w) (hok : g.Ok) (hf : Fr (· ∈ F) w w') : Tabs w' := by
  obtain ⟨hb, hc, L, h, rfl⟩ := h
  exact h.tabs hT hok hf
section
variable {w : World} {p hb hc : Nat} {L : List Ln} {g : Gr}
theorem GridB.row_in (_h : GridB w p hb hc L g) {Y : Nat} (hY : Y < L.length) : L[Y].b ∈ foot p hb L := by
  simp only [foot, List.mem_cons, List.mem_map]
  exact .inr (.inr ⟨_, List.getElem_mem _, rfl⟩)
theorem GridB.hcell' (h : GridB w p hb hc L g) {Y : Nat} (hY : Y < L.length) : w.cell? ⟨hb, Y, none⟩ = some (.slice (some ⟨L[Y].b, 0, none⟩) (g.line Y).length L[Y].c) := by
  rw [h.hcell hY]
  unfold Ln.s Sl.v
  rw [h.line_at hY]
theorem GridB.row' (h : GridB w p hb hc L g) {Y : Nat} (hY : Y < L.length) : celE.Own w 0 (.slice (some ⟨L[Y].b, 0, none⟩) (g.line Y).length L[Y].c) (g.line Y) := by
  have := h.row hY
  unfold Ln.s Sl.v at this
  rw [h.line_at hY] at this
  exact this
theorem GridB.rowR (h : GridB w p hb hc L g) {Y : Nat} (hY : Y < L.length) : celE.Row w w.heap.size (some ⟨L[Y].b, 0, none⟩) (g.line Y) := El.Row.of_own (h.row' hY)
theorem GridB.rfrozen (h : GridB w p hb hc L g) {Y : Nat} (hY : Y < L.length) (j : Nat) : w.frozen? ⟨L[Y].b, j, none⟩ = false := by
  obtain ⟨cur, hg, _⟩ := (h.row' hY).block rfl
  simp [World.frozen?, hg]
/-- What a store of a cell wants to know. -/
theorem GridB.room (h : GridB w p hb hc L g) {Y : Nat} (hY : Y < L.length) {X : Nat} (hX : X < (g.line Y).length) : ∃ v0 v1 v2 v3 v4 v5, w.cell? ⟨L[Y].b, X * 6, none⟩ = some v0 ∧ w.cell? ⟨L[Y].b, X * 6 + 1, none⟩ = some v1 ∧ w.cell? ⟨L[Y].b, X * 6 + 2, none⟩ = some v2 ∧
    w.cell? ⟨L[Y].b, X * 6 + 3, none⟩ = some v3 ∧ w.cell? ⟨L[Y].b, X * 6 + 4, none⟩ = some v4 ∧ w.cell? ⟨L[Y].b, X * 6 + 5, none⟩ = some v5 := by
  obtain ⟨b', off', e', hb', q0, q1, q2, q3, q4, q5⟩ := cel_at (h.rowR hY) hX
  simp only [Option.some.injEq, Addr.mk.injEq, and_true] at e'
  obtain ⟨rfl, rfl⟩ := e'
  simp only [Nat.zero_add] at q0 q1 q2 q3 q4 q5
  exact ⟨_, _, _, _, _, _, q0, q1, q2, q3, q4, q5⟩
theorem GridB.store (h : GridB w p hb hc L g) {Y : Nat} (hY : Y < L.length) {X : Nat} (hX : X < (g.line Y).length) (c : Cel) :
    GridB (setCel w L[Y].b (X * 6) c) p hb hc (L.set Y ⟨L[Y].b, L[Y].c, (g.line Y).set X c⟩) (g.setL Y ((g.line Y).set X c)) ∧ Fr (· ∈ foot p hb L) w (setCel w L[Y].b (X * 6) c) := by
  refine ⟨h.setRow hY (by rw [List.length_set, h.line_at hY]) ?_ (fun k _ hne => setCel_other _ _ _ _ _ hne), setCel_fr _ _ _ _ (h.row_in hY)⟩
  have := setCel_own (h.row' hY) rfl hX c
  unfold Ln.s Sl.v
  rw [h.line_at hY]
  exact this
/-- copy into a line of a grid. -/
theorem GridB.copy (h : GridB w p hb hc L g) {Y : Nat} (hY : Y < L.length) (ty : TypeId) (D : Option Addr) (dLen dCap : Nat) (A : Option Addr) (M : List Cel) (n c B o k : Nat) (hr : celE.Row w B A M) (hn : n = M.length) (hk : k = min M.length dLen) (hD : 0 < k → D = some ⟨L[Y].b, o * 6, none⟩) (ho : o + k ≤ (g.line Y).length) :
    ∃ w', (Builtin.copy_ #[48, 48] ty #[.slice D dLen dCap, .slice A n c]).run Tryd.prog w = .ok (.int .i64 (k : Int)) w' ∧
      GridB w' p hb hc (L.set Y ⟨L[Y].b, L[Y].c, (g.line Y).take o ++ M.take k ++ (g.line Y).drop (o + k)⟩) (g.setL Y ((g.line Y).take o ++ M.take k ++ (g.line Y).drop (o + k))) ∧ Fr (· ∈ foot p hb L) w w' ∧ w'.heap.size = w.heap.size := by
  obtain ⟨w', h1, h2, h3, h4⟩ := copyC (h.row' hY) rfl ty D dLen dCap A M n c B o k hr hn hk hD ho
  have hlen : ((g.line Y).take o ++ M.take k ++ (g.line Y).drop (o + k)).length = (g.line Y).length := by simp; omega
  refine ⟨w', h1, h.setRow hY (by rw [hlen, h.line_at hY]) ?_ (fun j hj hne => h3.block j (h.lt j hj) (fun e => hne e)), h3.mono (fun j e => by rw [e]; exact h.row_in hY), h4⟩
  unfold Ln.s Sl.v
  rw [h.line_at hY]
  exact h2
end
end Go.Proofs.YtdolapobkhhanaaDoor
/-
  Layer 9 (grid): Copy.
-/
namespace Go.Proofs.YtdolapobkhhanaaDoor
open Go.RowKit Go.Lib KM

theorem BL.keepB {w0 w w' : World} {g n : Nat} {L : List Ln} (h : BL w0 w g n L) (hb : Below w.heap.size w w') : BL w0 w' g n L :=
  ⟨h.head.below hb, fun x hx => (h.rows x hx).below hb, h.nodup, h.after, h.base, h.len, h.below.trans (hb.mono h.below.size)⟩

set_option maxRecDepth 100000 in
set_option maxHeartbeats 2000000 in
theorem copy_ok (w : World) {p : Nat} {F : List Nat} {g : Gr} (h : GridAt w F p g) (hok : g.Ok) :
    Calls Tryd.prog 26 #[.pointer (some ⟨p, 0, none⟩)] w fun e w' => ∃ p', e = .returned (.pointer (some ⟨p', 0, none⟩)) ∧ NewGrid w w' p' g := by
  obtain ⟨hb, hc, L, hG, rfl⟩ := h
  have hh60 := hok.h2
  obtain ⟨mk, hmk0⟩ : ∃ mk, mk = madeCells linE.z.cells (g.h * linE.s) := ⟨_, rfl⟩
  have hmk : ∀ w, (Instr.makeSlice 35 (.int .i64 (g.h : Int)) (.int .i64 (g.h : Int))).run Tryd.prog w = .ok (.slice (some ⟨w.heap.size, 0, none⟩) g.h g.h) (w.alloc (.cells mk 48)) := fun w => by
    rw [hmk0]; exact linE.run_made w g.h (by omega) (by decide)
  obtain ⟨w2, hw2⟩ : ∃ w2, w2 = w.alloc (.cells mk 48) := ⟨_, rfl⟩
  have hown := linE.own_made w w.heap.size g.h ⟨none, 0, 0⟩ rfl (Nat.le_refl _) (by unfold maxLen; omega)
  rw [← hmk0] at hown
  have hbl : BL w w2 w.heap.size g.h [] := by
    refine ⟨?_, by simp, by simp, by simp, Nat.le_refl _, by simp, by rw [hw2]; exact (Below.refl _ _).alloc (Nat.le_refl _) _⟩
    rw [hw2]
    exact hown
  have g1 : w.cell? ⟨p, 1, none⟩ = some (.int .i64 (g.h : Int)) := hG.cell1
  have hLh : L.length = g.h := hG.len.trans hok.len
  have W2 := Lib.hid hw2
  have HBL := Lib.hid hbl
  have HG := Lib.hid hG
  have HOK := Lib.hid hok
  have hpw : p < w.heap.size := hG.lt p (by simp [foot])
  clear hw2 hown hbl hmk0 hG hok
  go_enter Tryd.func26, Tryd.ntmps26
  go_wp2_with fail
  rw [← W2.out]
  obtain ⟨b, hbd⟩ : ∃ b, b = w.heap.size := ⟨_, rfl⟩
  rw [← hbd] at HBL
  rw [← hbd]
  have hbw : w.heap.size ≤ b := by omega
  clear hbd
  go_loopw [12] (fun i wr => ∃ N : List Ln, N.length ≤ g.h ∧ i = .int .i64 (N.length : Int) ∧ BL w wr b g.h N ∧ N.map Ln.l = g.ls.take N.length) (fun i _ => g.h - (RowKit.intOf i).toNat)
  case atStart => exact ⟨[], Nat.zero_le _, rfl, HBL.out, by simp⟩
  case round =>
    obtain ⟨N, hk, rfl, hbl, hx⟩ := hrel
    have HB := Lib.hid hbl
    have HX := Lib.hid hx
    have hgr : b < wr.heap.size := (hbl.head.lt b rfl).2
    have hGr := HG.out.below hbl.below
    have hzr := hbl.below.size
    clear hbl hx
    by_cases hlt : N.length < g.h
    · have g1 : decide ((N.length : Int) < (g.h : Int)) = true := by simp; omega
      have gn : decide (N.length < g.h) = true := by simp; omega
      have hin : (N.length : Int) < (g.h : Int) := by omega
      have hYL : N.length < L.length := by omega
      have hlo := HOK.out.line (y := N.length) hlt
      have d2 := hGr.cell2
      have dh := hGr.hcell' hYL
      have hcl := clone_ok wr (g.line N.length) (some ⟨L[N.length].b, 0, none⟩) L[N.length].c wr.heap.size (hGr.rowR hYL) (by simp) (Nat.le_refl _) (by rw [hlo.len]; have := HOK.out.w2; omega)
      have HCL := Lib.hid hcl
      have HLO := Lib.hid hlo
      rw [hLh] at d2
      clear hcl hlo hGr
      generalize L[N.length].b = rb at *
      generalize L[N.length].c = rc at *
      go_wp2_with fail
      refine HCL.out.mono ?_
      rintro e w3 ⟨v, rfl, ho, hb3⟩
      obtain ⟨gx, cx, hv, -, -, -, -, -, -⟩ := ho.place (by rw [HLO.out.len]; have := HOK.out.w1; omega)
      obtain ⟨x, hxd⟩ : ∃ x : Ln, x = ⟨gx, cx, g.line N.length⟩ := ⟨_, rfl⟩
      have hvs : v = x.s.v := by rw [hv, hxd]; rfl
      have hxl : x.l = g.line N.length := by rw [hxd]
      rw [hvs, ← hxl] at ho
      have hstep := HB.out.step hlt x ho hb3
      obtain ⟨k1, k2⟩ := HB.out.cell hlt
      have q1 := (hb3.cell (p := ⟨b, N.length, none⟩) hgr).trans k1
      have q2 := (hb3.frozen (p := ⟨b, N.length, none⟩) hgr).trans k2
      rw [← hvs, hv] at hstep
      have HST := Lib.hid hstep
      have HXL := Lib.hid hxl
      have hnx : (N ++ [x]).map Ln.l = g.ls.take (N ++ [x]).length := by
        have hgl : N.length < g.ls.length := by rw [HOK.out.len]; exact hlt
        rw [List.map_append, List.map_singleton, HX.out, hxl, List.length_append, List.length_singleton, List.take_succ_eq_append_getElem hgl]
        congr 2
        simp [Gr.line, hgl]
      have HNX := Lib.hid hnx
      rw [hv]
      clear hv hvs hxd ho hb3 hstep k1 k2 hxl hnx
      generalize (g.line N.length).length = m at *
      go_wp2_with fail
      go_roundw
      case rel => exact ⟨N ++ [x], by simp; omega, by simp, HST.out, HNX.out⟩
      case measure => simp [RowKit.intOf]; omega
    · have g1 : decide ((N.length : Int) < (g.h : Int)) = false := by simp; omega
      have gn : decide (N.length < g.h) = false := by simp; omega
      have hln : N.length = g.h := by omega
      obtain ⟨wd, hwd⟩ : ∃ wd, wd = wr.drew := ⟨_, rfl⟩
      have hbd : Below wr.heap.size wr wd := by rw [hwd]; exact (Below.refl _ _).drew
      have hgd := hGr.below hbd
      have e0 := hgd.cell0
      have e1 := hgd.cell1
      have hpd : p < wd.heap.size := hgd.lt p (by simp [foot])
      have hgrid := (HB.out.keepB hbd).grid (wd := g.w) hln
      have hls : N.map Ln.l = g.ls := by rw [HX.out, hln, ← HOK.out.len, List.take_length]
      rw [hls] at hgrid
      have HGR := Lib.hid hgrid.1
      have HFT := Lib.hid hgrid.2
      have HBB := Lib.hid (HB.out.keepB hbd).below
      have WD := Lib.hid hwd
      have hbg := fun w x y A n c => build_grid w x y A n c
      have hSA : (wd.alloc (.cells #[.int .i64 (g.w : Int), .int .i64 (g.h : Int), .slice (some ⟨b, 0, none⟩) g.h g.h] 45)).cell? ⟨p, 0, none⟩ = some (.int .i64 (g.w : Int)) ∧ (wd.alloc (.cells #[.int .i64 (g.w : Int), .int .i64 (g.h : Int), .slice (some ⟨b, 0, none⟩) g.h g.h] 45)).cell? ⟨p, 1, none⟩ = some (.int .i64 (g.h : Int)) := by
        have hba : Below wd.heap.size wd (wd.alloc (.cells #[.int .i64 (g.w : Int), .int .i64 (g.h : Int), .slice (some ⟨b, 0, none⟩) g.h g.h] 45)) := (Below.refl _ _).alloc (Nat.le_refl _) _
        exact ⟨(hba.cell (p := ⟨p, 0, none⟩) hpd).trans e0, (hba.cell (p := ⟨p, 1, none⟩) hpd).trans e1⟩
      have HSA := Lib.hid hSA
      have hS0 : wd.cell? ⟨p, 0, none⟩ = some (.int .i64 (g.w : Int)) ∧ wd.cell? ⟨p, 1, none⟩ = some (.int .i64 (g.h : Int)) := ⟨e0, e1⟩
      clear hwd hbd hgd hgrid hls hGr hSA e0 e1
      go_wp2_with fail
      refine wp_region_noPanic ?_
      refine wp_region_held_drew (S := fun v => v.cell? ⟨p, 0, none⟩ = some (.int .i64 (g.w : Int)) ∧ v.cell? ⟨p, 1, none⟩ = some (.int .i64 (g.h : Int))) (by kernel_rfl) (by rw [← WD.out]; exact hS0) (fun hHeld => ?_)
      rw [← WD.out]
      refine wpAnyH_take (i := 0) (v := ?va0) rfl (by kernel_rfl) (by kernel_rfl) (by kernel_rfl) (fun _ _ _ h => h) (Or.inl ⟨by rfl, ?ha0⟩) (by assumption) ?_
      case ha0 => intro w hSw; (try dsimp only at hSw); go_simp; try with_reducible rfl
      simp only [List.getElem_toArray, List.getElem_cons_zero, Act.put, List.setIfInBounds_toArray, List.set_cons_zero, List.set_cons_succ]
      refine wpAnyH_take (i := 1) (v := ?va1) rfl (by kernel_rfl) (by kernel_rfl) (by kernel_rfl) (fun _ _ _ h => h) (Or.inl ⟨by rfl, ?ha1⟩) (by assumption) ?_
      case ha1 => intro w hSw; (try dsimp only at hSw); go_simp; try with_reducible rfl
      simp only [List.getElem_toArray, List.getElem_cons_succ, List.getElem_cons_zero, Act.put, List.setIfInBounds_toArray, List.set_cons_zero, List.set_cons_succ]
      refine wpAnyH_take (i := 2) (v := ?va2) rfl (by kernel_rfl) (by kernel_rfl) (by kernel_rfl) (fun _ _ _ h => h) (Or.inl ⟨by rfl, ?ha2⟩) (by assumption) ?_
      case ha2 => intro w hSw; (try dsimp only at hSw); go_simp; try with_reducible rfl
      simp only [List.getElem_toArray, List.getElem_cons_succ, List.getElem_cons_zero, Act.put, List.setIfInBounds_toArray, List.set_cons_zero, List.set_cons_succ]
      refine wpAnyH_take (i := 3) (v := ?va3) rfl (by kernel_rfl) (by kernel_rfl) (by kernel_rfl) (fun _ _ _ h => h) (Or.inl ⟨by rfl, ?ha3⟩) (by assumption) ?_
      case ha3 => intro w hSw; (try dsimp only at hSw); go_simp; try with_reducible rfl
      simp only [List.getElem_toArray, List.getElem_cons_succ, List.getElem_cons_zero, Act.put, List.setIfInBounds_toArray, List.set_cons_zero, List.set_cons_succ]
      refine wpAnyH_take (i := 4) (v := ?va4) rfl (by kernel_rfl) (by kernel_rfl) (by kernel_rfl) (fun _ _ _ h => h) (Or.inl ⟨by rfl, ?ha4⟩) (by assumption) ?_
      case ha4 => intro w hSw; (try dsimp only at hSw); go_simp; try with_reducible rfl
      simp only [List.getElem_toArray, List.getElem_cons_succ, List.getElem_cons_zero, Act.put, List.setIfInBounds_toArray, List.set_cons_zero, List.set_cons_succ]
      refine wpAnyH_take (i := 5) (v := ?va5) rfl (by kernel_rfl) (by kernel_rfl) (by kernel_rfl) (fun _ _ _ h => h) (Or.inl ⟨by rfl, ?ha5⟩) (by assumption) ?_
      case ha5 => intro w hSw; (try dsimp only at hSw); go_simp; try with_reducible rfl
      simp only [List.getElem_toArray, List.getElem_cons_succ, List.getElem_cons_zero, Act.put, List.setIfInBounds_toArray, List.set_cons_zero, List.set_cons_succ]
      refine wpAnyH_take (i := 6) (v := ?va6) rfl (by kernel_rfl) (by kernel_rfl) (by kernel_rfl) (fun _ _ _ h => h) (Or.inl ⟨by rfl, ?ha6⟩) (by assumption) ?_
      case ha6 => intro w hSw; (try dsimp only at hSw); go_simp; try with_reducible rfl
      simp only [List.getElem_toArray, List.getElem_cons_succ, List.getElem_cons_zero, Act.put, List.setIfInBounds_toArray, List.set_cons_zero, List.set_cons_succ]
      refine wpAnyH_take (i := 7) (v := ?va7) rfl (by kernel_rfl) (by kernel_rfl) (by kernel_rfl) (fun _ _ _ h => h) (Or.inl ⟨by rfl, ?ha7⟩) (by assumption) ?_
      case ha7 => intro w hSw; (try dsimp only at hSw); go_simp; try with_reducible rfl
      simp only [List.getElem_toArray, List.getElem_cons_succ, List.getElem_cons_zero, Act.put, List.setIfInBounds_toArray, List.set_cons_zero, List.set_cons_succ]
      refine wpAnyH_take (i := 8) (v := ?va8) rfl (by kernel_rfl) (by kernel_rfl) (by kernel_rfl) (fun _ _ _ h => h) (Or.inl ⟨by rfl, ?ha8⟩) (by assumption) ?_
      case ha8 => intro w hSw; (try dsimp only at hSw); go_simp; try with_reducible rfl
      simp only [List.getElem_toArray, List.getElem_cons_succ, List.getElem_cons_zero, Act.put, List.setIfInBounds_toArray, List.set_cons_zero, List.set_cons_succ]
      refine wpAnyH_take (i := 9) (v := ?va9) rfl (by kernel_rfl) (by kernel_rfl) (by kernel_rfl) (fun _ _ _ h => h) (Or.inl ⟨by rfl, ?ha9⟩) (by assumption) ?_
      case ha9 => intro w hSw; (try dsimp only at hSw); go_simp; try with_reducible rfl
      simp only [List.getElem_toArray, List.getElem_cons_succ, List.getElem_cons_zero, Act.put, List.setIfInBounds_toArray, List.set_cons_zero, List.set_cons_succ]
      refine wpAnyH_ready (rs := [10]) (by kernel_rfl) (by simp) ?_
      refine AllReadyH.cons rfl (fun K hK => ?_) AllReadyH.nil
      go_simp
      refine hK.out _ _ ?_ (fun hHeld => ?_)
      · exact HSA.out
      clear hK K
      refine wpAnyH_take (i := 11) (v := ?vb11) rfl (by kernel_rfl) (by kernel_rfl) (by kernel_rfl) (fun _ _ _ h => h) (Or.inl ⟨by rfl, ?hb11⟩) (by assumption) ?_
      case hb11 => intro w hSw; (try dsimp only at hSw); go_simp; try with_reducible rfl
      simp only [List.getElem_toArray, List.getElem_cons_succ, List.getElem_cons_zero, Act.put, List.setIfInBounds_toArray, List.set_cons_zero, List.set_cons_succ]
      refine wpAnyH_done (by kernel_rfl) ?_ _
      refine NoPanic.normal ?_
      clear hHeld
      go_wp2_with fail
      go_ret
      exact ⟨wd.heap.size, rfl, ⟨_, ⟨_, _, _, HGR.out, rfl⟩, HFT.out⟩, HBB.out.alloc HBB.out.size _⟩
end Go.Proofs.YtdolapobkhhanaaDoor
