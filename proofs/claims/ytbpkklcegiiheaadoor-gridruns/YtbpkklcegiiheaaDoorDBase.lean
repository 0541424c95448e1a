/-
  Layer 9 (grid): nearest, there, part, blankLines, New.
-/
import Derived.Test.YtbpkklcegiiheaaDoorDGrid
import Derived.Lib.MinMax
namespace Go.Proofs.YtbpkklcegiiheaaDoor
open Go.RowKit Go.Lib KM

set_option maxRecDepth 100000 in
theorem nearest_ok (w : World) (n a b : Int) : Calls Tryd.prog 51 #[.int .i64 n, .int .i64 a, .int .i64 b] w fun e w' => e = .returned (.int .i64 (nr n a b)) ∧ w' = w := by
  unfold nr
  go_enter Tryd.func51, Tryd.ntmps51
  go_wp2
  go_ret
  exact ⟨rfl, rfl⟩

set_option maxRecDepth 100000 in
set_option maxHeartbeats 1000000 in
theorem there_ok (w : World) {p hb hc : Nat} {L : List Ln} {g : Gr} (h : GridB w p hb hc L g) (x y : Int) : Calls Tryd.prog 45 #[.pointer (some ⟨p, 0, none⟩), .int .i64 x, .int .i64 y] w fun e w' => e = .returned (.bool (g.there x y)) ∧ w' = w := by
  have c0 := h.cell0
  have c1 := h.cell1
  clear h
  generalize hq : g.there x y = q
  unfold Gr.there at hq
  rcases h1 : decide (0 ≤ x) with _ | _
  · rw [h1] at hq
    simp only [Bool.false_and] at hq
    subst hq
    go_enter Tryd.func45, Tryd.ntmps45
    go_wp2
    go_ret
    exact ⟨rfl, rfl⟩
  rcases h2 : decide (x < (g.w : Int)) with _ | _
  · rw [h1, h2] at hq
    simp only [Bool.false_and, Bool.and_false] at hq
    subst hq
    go_enter Tryd.func45, Tryd.ntmps45
    go_wp2
    go_ret
    exact ⟨rfl, rfl⟩
  rcases h3 : decide (0 ≤ y) with _ | _
  · rw [h1, h2, h3] at hq
    simp only [Bool.false_and, Bool.and_false] at hq
    subst hq
    go_enter Tryd.func45, Tryd.ntmps45
    go_wp2
    go_ret
    exact ⟨rfl, rfl⟩
  rcases h4 : decide (y < (g.h : Int)) with _ | _
  · rw [h1, h2, h3, h4] at hq
    simp only [Bool.and_false] at hq
    subst hq
    go_enter Tryd.func45, Tryd.ntmps45
    go_wp2
    go_ret
    exact ⟨rfl, rfl⟩
  · rw [h1, h2, h3, h4] at hq
    simp only [Bool.and_true] at hq
    subst hq
    go_enter Tryd.func45, Tryd.ntmps45
    go_wp2
    go_ret
    exact ⟨rfl, rfl⟩

/-- Lines made anew since w0, under way: the header's block g has room for n. -/
structure BL (w0 w : World) (g n : Nat) (L : List Ln) : Prop where
  head : linE.Own w w0.heap.size (.slice (some ⟨g, 0, none⟩) n n) (L.map Ln.s ++ List.replicate (n - L.length) ⟨none, 0, 0⟩)
  rows : ∀ x ∈ L, celE.Own w w0.heap.size x.s.v x.l
  nodup : (L.map Ln.b).Nodup
  after : ∀ x ∈ L, g < x.b
  base : w0.heap.size ≤ g
  len : L.length ≤ n
  below : Below w0.heap.size w0 w
theorem set_rep {α : Type} (M : List α) (n : Nat) (z a : α) (h : M.length < n) : (M ++ List.replicate (n - M.length) z).set M.length a = (M ++ [a]) ++ List.replicate (n - (M.length + 1)) z := by
  rw [List.set_append_right _ _ (Nat.le_refl _), Nat.sub_self, show n - M.length = (n - (M.length + 1)) + 1 by omega, List.replicate_succ, List.set_cons_zero]
  simp
theorem BL.step {w0 w w1 : World} {g n : Nat} {L : List Ln} (h : BL w0 w g n L) (hk : L.length < n) (x : Ln) (ho : celE.Own w1 w.heap.size x.s.v x.l) (hb : Below w.heap.size w w1) : BL w0 (w1.setCell ⟨g, L.length, none⟩ x.s.v) g n (L ++ [x]) := by
  have hxb := (ho.lt x.b rfl).1
  have hgl := (h.head.lt g rfl).2
  have hs := h.below.size
  have hne : x.b ≠ g := by omega
  have hrow : ∀ y ∈ L, celE.Own (w1.setCell ⟨g, L.length, none⟩ x.s.v) w0.heap.size y.s.v y.l := fun y hy => by
    have hy1 := (h.rows y hy).below (hb.mono (Nat.le_refl _))
    refine hy1.keep fun k e => ?_
    cases e
    have := h.after y hy
    exact Below.heap_setCell _ _ _ _ (by show y.b ≠ g; omega)
  refine ⟨?_, ?_, ?_, ?_, h.base, by simp; omega, (h.below.trans (hb.mono hs)).setCell (p := ⟨g, L.length, none⟩) h.base _⟩
  · have h1 := h.head.below hb
    have hl : (L.map Ln.s ++ List.replicate (n - L.length) (⟨none, 0, 0⟩ : Sl)).length = n := by simp; have := h.len; omega
    have h2 := h1.set (i := L.length) (j := 0) (a' := x.s) (u := x.s.v) (by rw [hl]) (by rw [hl]; exact hk) (by decide) (by simp [linE])
    have e := set_rep (L.map Ln.s) n (⟨none, 0, 0⟩ : Sl) x.s (by simpa using hk)
    rw [List.length_map] at e
    rw [e] at h2
    have e2 : (L ++ [x]).map Ln.s = L.map Ln.s ++ [x.s] := by simp
    rw [e2, List.length_append, List.length_singleton]
    simpa [linE] using h2
  · intro y hy
    rcases List.mem_append.1 hy with hy | hy
    · exact hrow y hy
    · simp only [List.mem_singleton] at hy
      subst hy
      refine (ho.mono hs).keep fun k e => ?_
      cases e
      exact Below.heap_setCell _ _ _ _ hne
  · rw [List.map_append, List.map_singleton, List.nodup_append]
    refine ⟨h.nodup, by simp, fun a ha b hb' => ?_⟩
    obtain ⟨y, hy, rfl⟩ := List.mem_map.1 ha
    simp only [List.mem_singleton] at hb'
    subst hb'
    have := ((h.rows y hy).lt y.b rfl).2
    omega
  · intro y hy
    rcases List.mem_append.1 hy with hy | hy
    · exact h.after y hy
    · simp only [List.mem_singleton] at hy
      subst hy
      omega
theorem BL.cell {w0 w : World} {g n : Nat} {L : List Ln} (h : BL w0 w g n L) (hk : L.length < n) : w.cell? ⟨g, L.length, none⟩ = some (.slice none 0 0) ∧ w.frozen? ⟨g, L.length, none⟩ = false := by
  have hl : (L.map Ln.s ++ List.replicate (n - L.length) (⟨none, 0, 0⟩ : Sl)).length = n := by simp; have := h.len; omega
  obtain ⟨g', c, e, _, _, _, _, hf, hc⟩ := h.head.place (by rw [hl]; omega)
  simp only [Value.slice.injEq, Option.some.injEq, Addr.mk.injEq, and_true] at e
  obtain ⟨rfl, _⟩ := e
  have := hc L.length (by rw [hl]; exact hk) 0 (by decide)
  refine ⟨?_, hf _⟩
  rw [List.getElem_append_right (by simp)] at this
  simpa [linE, Sl.v] using this

set_option maxRecDepth 100000 in
set_option maxHeartbeats 1000000 in
/-- So many lines of blanks, each in a row of its own. -/
theorem blankLines_ok (w : World) (n wd : Nat) (hn : n ≤ 60) (hw : wd ≤ 60) (hw1 : 1 ≤ wd) (s : Sty) :
    Calls Tryd.prog 44 #[.int .i64 (n : Int), .int .i64 (wd : Int), styV s] w fun e w' => ∃ g L, e = .returned (.slice (some ⟨g, 0, none⟩) n n) ∧ BL w w' g n L ∧ L.length = n ∧ (∀ x ∈ L, x.l = KM.blanks wd s) := by
  have HBK := Lib.hid (fun v => blanks_ok v wd (by omega) s)
  obtain ⟨b, u, t, f, k0⟩ := s
  obtain ⟨mk, hmk0⟩ : ∃ mk, mk = madeCells linE.z.cells (n * linE.s) := ⟨_, rfl⟩
  have hmk : ∀ w, (Instr.makeSlice 29 (.int .i64 (n : Int)) (.int .i64 (n : Int))).run Tryd.prog w = .ok (.slice (some ⟨w.heap.size, 0, none⟩) n n) (w.alloc (.cells mk 23)) := fun w => by
    rw [hmk0]; exact linE.run_made w n (by omega) (by decide)
  obtain ⟨w1, hw1⟩ : ∃ w1, w1 = w.alloc (.cells #[.bool b, .bool u, .bool t, .int .i64 f, .int .i64 k0] 35) := ⟨_, rfl⟩
  have hb1 : Below w.heap.size w w1 := by rw [hw1]; exact (Below.refl _ _).alloc (Nat.le_refl _) _
  have hz1 : w1.heap.size = w.heap.size + 1 := by rw [hw1]; simp
  have hs1 : w1.heap[w.heap.size]? = some (.cells #[.bool b, .bool u, .bool t, .int .i64 f, .int .i64 k0] 35 (0, 0)) := by rw [hw1]; exact heap_alloc_new w _
  obtain ⟨w2, hw2⟩ : ∃ w2, w2 = w1.alloc (.cells mk 23) := ⟨_, rfl⟩
  have hown := linE.own_made w1 w.heap.size n ⟨none, 0, 0⟩ rfl (by omega) (by unfold maxLen; omega)
  rw [← hmk0] at hown
  have hbl : BL w w2 w1.heap.size n [] := by
    refine ⟨?_, by simp, by simp, by simp, by omega, by simp, by rw [hw2]; exact hb1.alloc (by omega) _⟩
    rw [hw2]
    exact hown
  have hs2 : w2.heap[w.heap.size]? = some (.cells #[.bool b, .bool u, .bool t, .int .i64 f, .int .i64 k0] 35 (0, 0)) := by rw [hw2, heap_alloc_old _ _ (by omega)]; exact hs1
  have W1 := Lib.hid hw1
  have W2 := Lib.hid hw2
  have HBL := Lib.hid hbl
  have HS2 := Lib.hid hs2
  clear hw1 hb1 hs1 hw2 hown hbl hmk0 hs2
  simp only [styV] at HBK ⊢
  go_enter Tryd.func44, Tryd.ntmps44
  go_wp2_with fail
  rw [← W1.out, ← W2.out]
  obtain ⟨g, hg⟩ : ∃ g, g = w.heap.size + 1 := ⟨_, rfl⟩
  rw [hz1, ← hg] at HBL
  rw [← hg]
  have hwg : w.heap.size < g := by omega
  clear hg
  go_loopw [13] (fun i wr => ∃ L : List Ln, L.length ≤ n ∧ i = .int .i64 (L.length : Int) ∧ BL w wr g n L ∧ (∀ x ∈ L, x.l = KM.blanks wd ⟨b, u, t, f, k0⟩) ∧ wr.heap[w.heap.size]? = some (.cells #[.bool b, .bool u, .bool t, .int .i64 f, .int .i64 k0] 35 (0, 0))) (fun i _ => n - (RowKit.intOf i).toNat)
  case atStart => exact ⟨[], Nat.zero_le _, rfl, HBL.out, by simp, HS2.out⟩
  case round =>
    obtain ⟨L, hk, rfl, hbl, hx, hs⟩ := hrel
    have HB := Lib.hid hbl
    have HX := Lib.hid hx
    have HS := Lib.hid hs
    obtain ⟨p0, p1, p2, p3, p4⟩ : wr.cell? ⟨w.heap.size, 0, none⟩ = some (.bool b) ∧ wr.cell? ⟨w.heap.size, 1, none⟩ = some (.bool u) ∧ wr.cell? ⟨w.heap.size, 2, none⟩ = some (.bool t) ∧ wr.cell? ⟨w.heap.size, 3, none⟩ = some (.int .i64 f) ∧ wr.cell? ⟨w.heap.size, 4, none⟩ = some (.int .i64 k0) := by
      refine ⟨?_, ?_, ?_, ?_, ?_⟩ <;> simp [World.cell?, hs]
    have hgr : g < wr.heap.size := (hbl.head.lt g rfl).2
    clear hbl hx hs
    by_cases hlt : L.length < n
    · have g1 : decide ((L.length : Int) < (n : Int)) = true := by simp; omega
      have gn : decide (L.length < n) = true := by simp; omega
      have hin : (L.length : Int) < (n : Int) := by omega
      go_wp2_with fail
      refine (HBK.out wr).mono ?_
      rintro e w3 ⟨v, rfl, ho, hb3⟩
      obtain ⟨gx, cx, hv, _, _, _, _, _, _⟩ := ho.place (by rw [blanks_len]; omega)
      obtain ⟨x, hxd⟩ : ∃ x : Ln, x = ⟨gx, cx, KM.blanks wd ⟨b, u, t, f, k0⟩⟩ := ⟨_, rfl⟩
      have hvs : v = x.s.v := by rw [hv, hxd]; rfl
      have hxl : x.l = KM.blanks wd ⟨b, u, t, f, k0⟩ := by rw [hxd]
      rw [hvs, ← hxl] at ho
      have hstep := HB.out.step hlt x ho hb3
      obtain ⟨k1, k2⟩ := HB.out.cell hlt
      have q1 := (hb3.cell (p := ⟨g, L.length, none⟩) hgr).trans k1
      have q2 := (hb3.frozen (p := ⟨g, L.length, none⟩) hgr).trans k2
      have hs3 : (w3.setCell ⟨g, L.length, none⟩ x.s.v).heap[w.heap.size]? = _ := (Below.heap_setCell _ _ _ _ (by show w.heap.size ≠ g; omega)).trans ((hb3.block w.heap.size (by omega)).trans HS.out)
      have hvx : v = .slice (some ⟨gx, 0, none⟩) x.l.length cx := by rw [hv, hxl]
      have hvv : x.s.v = .slice (some ⟨gx, 0, none⟩) x.l.length cx := by rw [← hvs]; exact hvx
      rw [hvv] at hstep hs3
      have HST := Lib.hid hstep
      have HS3 := Lib.hid hs3
      have HXL := Lib.hid hxl
      rw [hvx]
      clear hv hvs hvx hvv hxd ho hb3 hstep hs3 k1 k2 hxl
      generalize x.l.length = m at *
      go_wp2_with fail
      go_roundw
      case rel => exact ⟨L ++ [x], by simp; omega, by simp, HST.out, fun y hy => by
        rcases List.mem_append.1 hy with hy | hy
        · exact HX.out y hy
        · simp only [List.mem_singleton] at hy
          rw [hy]; exact HXL.out, HS3.out⟩
      case measure => simp [RowKit.intOf]; omega
    · have g1 : decide ((L.length : Int) < (n : Int)) = false := by simp; omega
      have gn : decide (L.length < n) = false := by simp; omega
      have hln : L.length = n := by omega
      have HLN := Lib.hid hln
      clear hln
      go_wp2_with fail
      go_ret
      exact ⟨g, L, rfl, HB.out, HLN.out, HX.out⟩

/-! ### a grid made -/
/-- A new grid's blocks. -/
structure NewGrid (w w' : World) (p : Nat) (g : Gr) : Prop where
  at_ : ∃ F, GridAt w' F p g ∧ ∀ k ∈ F, w.heap.size ≤ k
  below : Below w.heap.size w w'
/-- A grid's struct made behind its lines. -/
theorem BL.grid {w0 w : World} {b n wd : Nat} {L : List Ln} (h : BL w0 w b n L) (hl : L.length = n) : GridB (w.alloc (.cells #[.int .i64 (wd : Int), .int .i64 (n : Int), .slice (some ⟨b, 0, none⟩) n n] 32)) w.heap.size b n L ⟨wd, n, L.map Ln.l⟩ ∧
    ∀ k ∈ foot w.heap.size b L, w0.heap.size ≤ k := by
  have hbl : Below w.heap.size w (w.alloc (.cells #[.int .i64 (wd : Int), .int .i64 (n : Int), .slice (some ⟨b, 0, none⟩) n n] 32)) := (Below.refl _ _).alloc (Nat.le_refl _) _
  have hsz := h.below.size
  have hgl := h.head.lt b rfl
  refine ⟨⟨?_, ?_, ?_, rfl, ?_⟩, ?_⟩
  · rw [hl]; exact heap_alloc_new w _
  · have := (h.head.below hbl).mono (Nat.zero_le _)
    rw [hl] at this ⊢
    simpa using this
  · exact fun x hx => ((h.rows x hx).below hbl).mono (Nat.zero_le _)
  · simp only [foot, List.nodup_cons, List.mem_cons, List.mem_map, not_or, not_exists, not_and]
    refine ⟨⟨by omega, fun x hx e => ?_⟩, fun x hx e => ?_, h.nodup⟩
    · have := ((h.rows x hx).lt x.b rfl).2; omega
    · have := h.after x hx; omega
  · intro k hk
    simp only [foot, List.mem_cons, List.mem_map] at hk
    rcases hk with rfl | rfl | ⟨x, hx, rfl⟩
    · exact hsz
    · exact hgl.1
    · exact ((h.rows x hx).lt x.b rfl).1
theorem build_zstyle (w : World) : (Instr.build 35 #[]).run Tryd.prog w = .ok (.agg #[.bool false, .bool false, .bool false, .int .i64 0, .int .i64 0]) w := by kernel_rfl
theorem build_grid (w : World) (x y : Int) (A : Option Addr) (n c : Nat) : (Instr.build 32 #[(0, .int .i64 x), (1, .int .i64 y), (2, .slice A n c)]).run Tryd.prog w = .ok (.agg #[.int .i64 x, .int .i64 y, .slice A n c]) w := by kernel_rfl

set_option maxRecDepth 100000 in
set_option maxHeartbeats 1000000 in
theorem new_ok (w : World) (x y : Int) : Calls Tryd.prog 26 #[.int .i64 x, .int .i64 y] w fun e w' => ∃ p, e = .returned (.pointer (some ⟨p, 0, none⟩)) ∧ NewGrid w w' p (gnew x y) := by
  have hx := nr_in (n := x) (a := 1) (b := 60) (by omega)
  have hy := nr_in (n := y) (a := 1) (b := 60) (by omega)
  have hbs := fun w => build_zstyle w
  have hbg := fun w x y A n c => build_grid w x y A n c
  have HNX := Lib.hid (fun w => nearest_ok w x 1 60)
  have HNY := Lib.hid (fun w => nearest_ok w y 1 60)
  unfold gnew
  obtain ⟨q, hq⟩ := Int.eq_ofNat_of_zero_le (show 0 ≤ nr x 1 60 by omega)
  obtain ⟨r, hr⟩ := Int.eq_ofNat_of_zero_le (show 0 ≤ nr y 1 60 by omega)
  rw [hq] at HNX hx
  rw [hr] at HNY hy
  rw [hq, hr]
  simp only [Int.toNat_natCast]
  clear hq hr
  have HBL := Lib.hid (fun w => blankLines_ok w r q (by omega) (by omega) (by omega) zero)
  simp only [styV, zero] at HBL
  go_enter Tryd.func26, Tryd.ntmps26
  go_wp2_with fail
  refine (HNX.out _).mono ?_
  rintro e w1 ⟨rfl, rfl⟩
  go_wp2_with fail
  refine (HNY.out _).mono ?_
  rintro e w1 ⟨rfl, rfl⟩
  go_wp2_with fail
  refine (HBL.out _).mono ?_
  rintro e w2 ⟨b, L, rfl, hbl, hl, hx⟩
  have hlm : L.map Ln.l = List.replicate r (KM.blanks q zero) := by
    rw [← hl]
    exact List.map_eq_replicate_iff.2 hx
  obtain ⟨hg, hf⟩ := hbl.grid (wd := q) hl
  rw [hlm] at hg
  have HG := Lib.hid hg
  have HF := Lib.hid hf
  have HB := Lib.hid (hbl.below.alloc hbl.below.size (.cells #[.int .i64 (q : Int), .int .i64 (r : Int), .slice (some ⟨b, 0, none⟩) r r] 32))
  clear hg hf hbl hl hx hlm
  go_wp2_with fail
  go_ret
  exact ⟨w2.heap.size, rfl, ⟨_, ⟨_, _, _, HG.out, rfl⟩, HF.out⟩, HB.out⟩
end Go.Proofs.YtbpkklcegiiheaaDoor
