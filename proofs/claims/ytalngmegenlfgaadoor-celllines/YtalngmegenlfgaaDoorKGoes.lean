/-
  Layer 8 (cell): goesOn, runsOf, spread.
-/
import Derived.Test.YtalngmegenlfgaaDoorKRuns
import Derived.Test.YtalngmegenlfgaaDoorKLine
import Derived.Lib.MinMax
namespace Go.Proofs.YtalngmegenlfgaaDoor
open Go.RowKit Go.Lib KM

/-- The cells of a run that lies in a row. -/
theorem run_at {w : World} {B : Nat} {A : Option Addr} {l : List (Nat × Cel)} (h : runE.Row w B A l) {i : Nat} (hi : i < l.length) : ∃ b off, A = some ⟨b, off, none⟩ ∧ b < B ∧
    w.cell? ⟨b, off + i * 7, none⟩ = some (.int .i64 (l[i].1 : Int)) ∧ w.cell? ⟨b, off + i * 7 + 1, none⟩ = some (.int .i32 l[i].2.rune) ∧ w.cell? ⟨b, off + i * 7 + 2, none⟩ = some (.bool l[i].2.sty.bold) ∧ w.cell? ⟨b, off + i * 7 + 3, none⟩ = some (.bool l[i].2.sty.under) ∧
    w.cell? ⟨b, off + i * 7 + 4, none⟩ = some (.bool l[i].2.sty.turned) ∧ w.cell? ⟨b, off + i * 7 + 5, none⟩ = some (.int .i64 l[i].2.sty.fore) ∧ w.cell? ⟨b, off + i * 7 + 6, none⟩ = some (.int .i64 l[i].2.sty.back) := by
  obtain ⟨b, off, e, hb, hc⟩ := h.at_ hi
  exact ⟨b, off, e, hb, hc 0 (by decide), hc 1 (by decide), hc 2 (by decide), hc 3 (by decide), hc 4 (by decide), hc 5 (by decide), hc 6 (by decide)⟩
theorem goes_last (l : List (Nat × Cel)) (c : Cel) (h : 0 < l.length) : goes l c = decide ((l[l.length - 1]'(by omega)).2 = c) := by
  rcases List.eq_nil_or_concat l with rfl | ⟨r, x, rfl⟩
  · simp at h
  · simp only [List.concat_eq_append]
    rw [goes_snoc]
    simp

set_option maxRecDepth 100000 in
set_option maxHeartbeats 1000000 in
theorem goesOn_ok (w : World) (l : List (Nat × Cel)) (A : Option Addr) (cap B : Nat) (hr : runE.Row w B A l) (hB : B ≤ w.heap.size) (hl : l.length ≤ 1000) (c : Cel) :
    Calls Tryd.prog 49 #[.slice A l.length cap, celV c] w fun e w' => e = .returned (.bool (goes l c)) ∧ Below w.heap.size w w' := by
  obtain ⟨w1, hw1⟩ : ∃ w1, w1 = w.alloc (.cells #[.int .i32 c.rune, .bool c.sty.bold, .bool c.sty.under, .bool c.sty.turned, .int .i64 c.sty.fore, .int .i64 c.sty.back] 33) := ⟨_, rfl⟩
  have hb1 : Below w.heap.size w w1 := by rw [hw1]; exact (Below.refl _ _).alloc (Nat.le_refl _) _
  have hc1 : CelAt w1 w.heap.size c := by rw [hw1]; exact heap_alloc_new w _
  have hr1 := hr.below (hb1.mono hB)
  have W1 := Lib.hid hw1
  have HB1 := Lib.hid hb1
  obtain ⟨c0, c1, c2, c3, c4, c5⟩ := hc1.cells
  clear hw1 hb1 hc1 hr
  rcases Nat.eq_zero_or_pos l.length with h0 | h0
  · have e : goes l c = false := by rw [List.eq_nil_of_length_eq_zero h0]; rfl
    rw [e]
    clear e
    have g0 : decide (0 < l.length) = false := by simp; exact List.eq_nil_of_length_eq_zero h0
    have g1 : decide ((0 : Int) < (l.length : Int)) = false := by simp; exact List.eq_nil_of_length_eq_zero h0
    obtain ⟨r, ⟨bo, u, t, f, k⟩⟩ := c
    simp only [celV] at *
    generalize l.length = n at *
    clear hr1
    go_enter Tryd.func49, Tryd.ntmps49
    go_wp2_with fail
    rw [← W1.out]
    go_quiet (fail)
    go_wp2_with fail
    go_ret
    exact ⟨rfl, below_drewN HB1.out _⟩
  · have g0 : decide (0 < l.length) = true := by simp; omega
    have g1 : decide ((0 : Int) < (l.length : Int)) = true := by simp; omega
    obtain ⟨b, off, rfl, hb, p0, p1, p2, p3, p4, p5, p6⟩ := run_at hr1 (i := l.length - 1) (by omega)
    have HG := Lib.hid (goes_last l c h0)
    have heq := fun w => run_eqC w (l[l.length - 1]'(by omega)).2 c
    rw [← HG.out] at heq
    generalize goes l c = q at *
    generalize (l[l.length - 1]'(by omega)) = x at *
    obtain ⟨n, ⟨r', ⟨bo', u', t', f', k'⟩⟩⟩ := x
    obtain ⟨r, ⟨bo, u, t, f, k⟩⟩ := c
    simp only [celV] at *
    obtain ⟨m, hm⟩ : ∃ m, m = l.length - 1 := ⟨_, rfl⟩
    have hml : m < l.length := by omega
    have hii : (l.length : Int) - 1 = (m : Int) := by omega
    have hwr : IntKind.i64.wrap (m : Int) = (m : Int) := by rw [IntKind.wrap_i64]; omega
    rw [← hm] at p0 p1 p2 p3 p4 p5 p6
    clear hm hr1 h0
    go_enter Tryd.func49, Tryd.ntmps49
    go_wp2_with fail
    rw [← W1.out]
    go_quiet (fail)
    go_wp2_with fail
    go_ret
    exact ⟨rfl, below_drewN HB1.out _⟩
theorem push_set (rs : List (Nat × Cel)) (c : Cel) (h : goes rs c = true) : ∃ hp : 0 < rs.length, (rs[rs.length - 1]'(by omega)).2 = c ∧ push rs c = rs.set (rs.length - 1) ((rs[rs.length - 1]'(by omega)).1 + 1, c) := by
  rcases List.eq_nil_or_concat rs with rfl | ⟨r, x, rfl⟩
  · simp [goes] at h
  · simp only [List.concat_eq_append] at h ⊢
    rw [goes_snoc] at h
    obtain ⟨n, d⟩ := x
    obtain rfl : d = c := of_decide_eq_true h
    refine ⟨by simp, by simp, ?_⟩
    rw [push_on]
    simp
theorem runs_sum (l : List Cel) : sumR (runs l) = l.length := by rw [← cells_len, runs_cells]
theorem runs_len (l : List Cel) : (runs l).length ≤ l.length := by
  have := apart_len _ (apart_pos _ (runs_apart l))
  rw [runs_sum] at this
  exact this
def RunsPost (w : World) (rs : List (Nat × Cel)) (e : Ending) (w' : World) : Prop := ∃ v, e = .returned v ∧ runE.Own w' w.heap.size v rs ∧ Below w.heap.size w w'

set_option maxRecDepth 100000 in
set_option maxHeartbeats 1000000 in
theorem runsOf_ok (w : World) (l : List Cel) (A : Option Addr) (c B : Nat) (hr : celE.Row w B A l) (hB : B ≤ w.heap.size) (hl : l.length ≤ 1000) :
    Calls Tryd.prog 42 #[.slice A l.length c] w (RunsPost w (runs l)) := by
  have HR := Lib.hid hr
  clear hr
  go_enter Tryd.func42, Tryd.ntmps42
  go_wp2
  go_loopw [3, 8] (fun v i wr => ∃ k : Nat, k ≤ l.length ∧ i = .int .i64 (k : Int) ∧ Below w.heap.size w wr ∧ runE.Own wr w.heap.size v (runs (l.take k))) (fun _ i _ => l.length - (RowKit.intOf i).toNat)
  case atStart => exact ⟨0, Nat.zero_le _, rfl, Below.refl _ _, El.Own.nil _ _⟩
  case round =>
    obtain ⟨k, hk, rfl, hb, ho⟩ := hrel
    have HB := Lib.hid hb
    have HO := Lib.hid ho
    have hz := hb.size
    clear hb ho
    by_cases hlt : k < l.length
    · have g1 : decide ((k : Int) < (l.length : Int)) = true := by simp; omega
      have gn : decide (k < l.length) = true := by simp; omega
      obtain ⟨b, off, rfl, hbl, c0, c1, c2, c3, c4, c5⟩ := cel_at (HR.out.below (HB.out.mono hB)) hlt
      have HSN := Lib.hid (show runs (l.take (k + 1)) = push (runs (l.take k)) l[k] by rw [List.take_succ_eq_append_getElem hlt, runs_snoc])
      have hrl : (runs (l.take k)).length ≤ 1000 := by have := runs_len (l.take k); rw [List.length_take] at this; omega
      have HSM := Lib.hid (show sumR (runs (l.take k)) ≤ 1000 by rw [runs_sum, List.length_take]; omega)
      generalize runs (l.take k) = rs at *
      generalize l[k] = y at *
      obtain ⟨w1, hw1⟩ : ∃ w1, w1 = wr.alloc (.cells #[.int .i32 y.rune, .bool y.sty.bold, .bool y.sty.under, .bool y.sty.turned, .int .i64 y.sty.fore, .int .i64 y.sty.back] 33) := ⟨_, rfl⟩
      have hb1 : Below wr.heap.size wr w1 := by rw [hw1]; exact (Below.refl _ _).alloc (Nat.le_refl _) _
      have hc1 : CelAt w1 wr.heap.size y := by rw [hw1]; exact heap_alloc_new wr _
      have ho1 := HO.out.below hb1
      have HB1 := Lib.hid (below_next HB.out hb1)
      have HC1 := Lib.hid hc1
      have HO1 := Lib.hid ho1
      have W1 := Lib.hid hw1
      have hz1 := hb1.size
      obtain ⟨d0, d1, d2, d3, d4, d5⟩ := hc1.cells
      clear hw1 hb1 hc1
      obtain ⟨A1, cp1, rfl, hcp, _, hA1, hr1⟩ := ho1.row
      have HGO := Lib.hid (goesOn_ok w1 rs A1 cp1 w1.heap.size hr1 (Nat.le_refl _) hrl y)
      clear ho1 hr1
      rcases hg : goes rs y with _ | _
      · have HG := Lib.hid hg
        rw [push_new rs y hg] at HSN
        clear hg
        obtain ⟨r, ⟨bo, u, t, f, ba⟩⟩ := y
        simp only [celV] at *
        have hbr := fun w => build_run w 1 r bo u t f ba
        go_wp2_with fail
        rw [← W1.out]
        refine HGO.out.mono ?_
        rw [HG.out]
        rintro e w2 ⟨rfl, b2⟩
        have HO2 := Lib.hid (HO1.out.below b2)
        have HB2 := Lib.hid (below_next HB1.out b2)
        have hz2 := HB2.out.size
        have hc2 := HC1.out.below b2 HC1.out.lt
        clear b2 d0 d1 d2 d3 d4 d5
        obtain ⟨d0, d1, d2, d3, d4, d5⟩ := hc2.cells
        simp only at d0 d1 d2 d3 d4 d5
        clear hc2
        go_wp2_with (at_builtin; refine runE.wp_append1 rfl (.tmp 25) (.tmp 28) rfl w.heap.size _ rs rfl HO2.out (1, ⟨r, ⟨bo, u, t, f, ba⟩⟩) #[.int .i64 1, .int .i32 r, .bool bo, .bool u, .bool t, .int .i64 f, .int .i64 ba] 65 rfl rfl ?c1 ?c2 hz2 ?_)
        case c1 => simp only [runE]; omega
        case c2 => unfold maxLen; omega
        intro v3 w3 o3 g3
        have HO3 := Lib.hid o3
        have HB3 := Lib.hid (HB2.out.trans (HO2.out.grow_below g3 hz2))
        clear o3 g3
        go_wp2_with fail
        go_roundw
        case rel => exact ⟨k + 1, by omega, by simp, HB3.out, by rw [HSN.out]; exact HO3.out⟩
        case measure => simp [RowKit.intOf]; omega
      · have HG := Lib.hid hg
        obtain ⟨hp, he, hps⟩ := push_set rs y hg
        rw [hps] at HSN
        clear hg hps
        obtain ⟨m, hm⟩ : ∃ m, m = rs.length - 1 := ⟨_, rfl⟩
        have hml : m < rs.length := by omega
        have hii : (rs.length : Int) - 1 = (m : Int) := by omega
        have hwr : IntKind.i64.wrap (m : Int) = (m : Int) := by rw [IntKind.wrap_i64]; omega
        have HCELLS := Lib.hid (fun (v : World) (hv : runE.Own v w.heap.size (.slice A1 rs.length cp1) rs) => hv.place hp)
        have hle := le_sumR rs rs[m] (List.getElem_mem hml)
        have hsm := HSM.out
        have HSET := Lib.hid (fun (v : World) (g : Nat) (hv : runE.Own v w.heap.size (.slice (some ⟨g, 0, none⟩) rs.length cp1) rs) => hv.set (g := g) (c := cp1) rfl (i := m) hml (j := 0) (by decide) (a' := (rs[m].1 + 1, y)) (u := .int .i64 ((rs[m].1 : Int) + 1)) (by
          have : rs[m].2 = y := by simp only [← he]; congr 2
          simp [runE, runL, ← this]))
        have HSN' : Hid (runs (l.take (k + 1)) = rs.set m (rs[m].1 + 1, y)) := Lib.hid (by rw [HSN.out]; simp only [hm])
        have hc0 : ∀ (v : World) (g : Nat), (∀ i (hi : i < rs.length) j, j < runE.s → v.cell? ⟨g, i * runE.s + j, none⟩ = (runE.f rs[i])[j]?) → v.cell? ⟨g, m * 7, none⟩ = some (.int .i64 (rs[m].1 : Int)) := fun v g h => h m hml 0 (by decide)
        have HC0 := Lib.hid hc0
        clear hc0 he HSN hm
        generalize rs[m] = x at *
        obtain ⟨n, cx⟩ := x
        simp only at *
        obtain ⟨r, ⟨bo, u, t, f, ba⟩⟩ := y
        simp only [celV] at *
        go_wp2_with fail
        rw [← W1.out]
        refine HGO.out.mono ?_
        rw [HG.out]
        rintro e w2 ⟨rfl, b2⟩
        have ho2 := HO1.out.below b2
        have HB2 := Lib.hid (below_next HB1.out b2)
        have hz2 := HB2.out.size
        obtain ⟨g, cq, hv, hgb, hgl, _, _, hfr, hcells⟩ := HCELLS.out w2 ho2
        simp only [Value.slice.injEq, true_and] at hv
        obtain ⟨rfl, rfl⟩ := hv
        have hcm := HC0.out w2 g hcells
        have hf0 := hfr (m * 7)
        have HS := Lib.hid (HSET.out w2 g ho2)
        clear b2 ho2 hfr hcells
        go_wp2_with fail
        go_roundw
        case rel => exact ⟨k + 1, by omega, by simp, HB2.out.setCell (p := ⟨g, m * 7, none⟩) hgb _, by rw [HSN'.out]; exact HS.out⟩
        case measure => simp [RowKit.intOf]; omega
    · have g1 : decide ((k : Int) < (l.length : Int)) = false := by simp; omega
      have gn : decide (k < l.length) = false := by simp; omega
      obtain rfl : k = l.length := by omega
      have ho := HO.out
      rw [List.take_length] at ho
      have HO2 := Lib.hid ho
      clear ho
      go_wp2_with fail
      go_ret
      exact ⟨u3, rfl, HO2.out, HB.out⟩
end Go.Proofs.YtalngmegenlfgaaDoor
