/-
  Layer 8 (cell): halves, alone.
-/
import Derived.Test.YtbpkklcegiiheaaDoorKStyle
import Derived.Test.YtbpkklcegiiheaaDoorKRow
import Derived.Test.YtbpkklcegiiheaaDoorKWide
import Derived.Deep.CutRange
import Derived.StillTailTactics
namespace Go.Proofs.YtbpkklcegiiheaaDoor
open Go.RowKit Go.Lib KM

set_option maxRecDepth 100000 in
set_option maxHeartbeats 1000000 in
theorem halves_ok (w : World) (hT : Tabs w) (a b : Cel) : Calls Tryd.prog 61 #[celV a, celV b] w fun e w' => e = .returned (.bool (halves a b)) ∧ Below w.heap.size w w' := by
  have heq := fun w => run_eqC w b ⟨0, a.sty⟩
  have HD : Hid (halves a b = (GM.wide a.rune && decide (b = ⟨0, a.sty⟩))) := Lib.hid rfl
  generalize decide (b = ⟨0, a.sty⟩) = d at *
  obtain ⟨r, ⟨x, u, t, f, k⟩⟩ := a
  obtain ⟨r', ⟨x', u', t', f', k'⟩⟩ := b
  simp only [celV] at heq HD ⊢
  have hbd := fun w => build_rest w x u t f k
  obtain ⟨w1, hw1⟩ : ∃ w1, w1 = (w.alloc (.cells #[.int .i32 r, .bool x, .bool u, .bool t, .int .i64 f, .int .i64 k] 37)).alloc (.cells #[.int .i32 r', .bool x', .bool u', .bool t', .int .i64 f', .int .i64 k'] 37) := ⟨_, rfl⟩
  have hb1 : Below w.heap.size w w1 := by rw [hw1]; exact ((Below.refl _ _).alloc (Nat.le_refl _) _).alloc (by simp) _
  have h1 : w1.heap[w.heap.size]? = some (.cells #[.int .i32 r, .bool x, .bool u, .bool t, .int .i64 f, .int .i64 k] 37 (0, 0)) := by
    rw [hw1, heap_alloc_old _ _ (by simp)]; exact heap_alloc_new w _
  have h2 : w1.heap[w.heap.size + 1]? = some (.cells #[.int .i32 r', .bool x', .bool u', .bool t', .int .i64 f', .int .i64 k'] 37 (0, 0)) := by
    rw [hw1]; exact heap_alloc2_new w _ _
  have W1 := Lib.hid hw1
  have HB1 := Lib.hid hb1
  have HT1 := Lib.hid (hT.on hb1 hT.room)
  have H1 := Lib.hid h1
  have H2 := Lib.hid h2
  have hz1 : w1.heap.size = w.heap.size + 2 := by rw [hw1]; simp
  clear hw1 hb1 h1 h2 hT
  rcases hwd : GM.wide r with _ | _
  · have HW := Lib.hid hwd
    clear hwd
    go_enter Tryd.func61, Tryd.ntmps61
    go_wp2_with fail
    rw [← W1.out]
    refine (wide_ok _ HT1.out r).mono ?_
    rw [HW.out]
    rintro e w2 ⟨rfl, hb2⟩
    have HB2 := Lib.hid hb2
    clear hb2
    go_wp2_with fail
    go_ret
    exact ⟨by rw [HD.out, HW.out]; rfl, below_next HB1.out HB2.out⟩
  · have HW := Lib.hid hwd
    clear hwd
    go_enter Tryd.func61, Tryd.ntmps61
    go_wp2_with fail
    rw [← W1.out]
    refine (wide_ok _ HT1.out r).mono ?_
    rw [HW.out]
    rintro e w2 ⟨rfl, hb2⟩
    have c1 : ∀ j, w2.cell? ⟨w.heap.size, j, none⟩ = (#[Value.int .i32 r, .bool x, .bool u, .bool t, .int .i64 f, .int .i64 k])[j]? := fun j => by
      rw [hb2.cell (p := ⟨w.heap.size, j, none⟩) (by show w.heap.size < _; omega)]; simp [World.cell?, H1.out]
    have c2 : ∀ j, w2.cell? ⟨w.heap.size + 1, j, none⟩ = (#[Value.int .i32 r', .bool x', .bool u', .bool t', .int .i64 f', .int .i64 k'])[j]? := fun j => by
      rw [hb2.cell (p := ⟨w.heap.size + 1, j, none⟩) (by show w.heap.size + 1 < _; omega)]; simp [World.cell?, H2.out]
    have p1 := c1 1; have p2 := c1 2; have p3 := c1 3; have p4 := c1 4; have p5 := c1 5
    have q0 := c2 0; have q1 := c2 1; have q2 := c2 2; have q3 := c2 3; have q4 := c2 4; have q5 := c2 5
    simp at p1 p2 p3 p4 p5 q0 q1 q2 q3 q4 q5
    have HB2 := Lib.hid hb2
    clear hb2 c1 c2
    go_wp2_with fail
    go_ret
    exact ⟨by rw [HD.out, HW.out]; rfl, below_next HB1.out HB2.out⟩

/-- The cells of a slice's element, as they are read. -/
theorem cel_at {w : World} {B : Nat} {A : Option Addr} {l : List Cel} (h : celE.Row w B A l) {i : Nat} (hi : i < l.length) : ∃ b off, A = some ⟨b, off, none⟩ ∧ b < B ∧
    w.cell? ⟨b, off + i * 6, none⟩ = some (.int .i32 l[i].rune) ∧ w.cell? ⟨b, off + i * 6 + 1, none⟩ = some (.bool l[i].sty.bold) ∧ w.cell? ⟨b, off + i * 6 + 2, none⟩ = some (.bool l[i].sty.under) ∧
    w.cell? ⟨b, off + i * 6 + 3, none⟩ = some (.bool l[i].sty.turned) ∧ w.cell? ⟨b, off + i * 6 + 4, none⟩ = some (.int .i64 l[i].sty.fore) ∧ w.cell? ⟨b, off + i * 6 + 5, none⟩ = some (.int .i64 l[i].sty.back) := by
  obtain ⟨b, off, e, hb, hc⟩ := h.at_ hi
  exact ⟨b, off, e, hb, hc 0 (by decide), hc 1 (by decide), hc 2 (by decide), hc 3 (by decide), hc 4 (by decide), hc 5 (by decide)⟩

/-- Is a line's cell alone? -/
def aloneI (l : List Cel) (i : Nat) : Bool := aloneN (if i = 0 then none else l[i - 1]?) (l.getD i ⟨0, zero⟩) l[i + 1]?
theorem below_drewN {B : Nat} {a w : World} (h : Below B a w) (n : Nat) : Below B a (w.drewN n) := ⟨h.os, h.tape, h.output, h.size, h.block⟩
/-- A region that draws, whose first n operations only read, and whose others come in one order: walked in the text's order, at a world with a name of its own. -/
theorem still_at {P : Program} {id : Nat} {Q : Exit → Act → World → Prop} {a : Act} {w : World} {l : List Oper} (n : Nat) (wd : World) (hwd : wd = w.drew) (hm : P.follows .mixedOrders = true) (hB : Region.lexTailB .any l.toArray n = true)
    (h : wpStill P l.toArray wd (fun a' => wpList P l.toArray Q (l.drop n) a' wd) (l.take n) a) : (Code.region id l.toArray true).wp P Q a w := by
  subst hwd
  exact wp_region_still_tail n hm hB h

set_option maxRecDepth 100000 in
set_option maxHeartbeats 1000000 in
theorem alone_ok (w : World) (hT : Tabs w) (l : List Cel) (A : Option Addr) (c B i : Nat) (hr : celE.Row w B A l) (hB : B ≤ w.heap.size) (hl : l.length ≤ 1000) (hi : i < l.length) :
    Calls Tryd.prog 41 #[.slice A l.length c, .int .i64 (i : Int)] w fun e w' => e = .returned (.bool (aloneI l i)) ∧ Below w.heap.size w w' := by
  have HT := Lib.hid hT
  have HR := Lib.hid hr
  clear hT
  have hgd : l.getD i ⟨0, zero⟩ = l[i] := by simp [hi]
  obtain ⟨b, off, rfl, hb, c0, c1, c2, c3, c4, c5⟩ := cel_at hr hi
  clear hr
  by_cases h0 : l[i].rune = 0
  · have g0 : (l[i].rune == 0) = true := by simp [h0]
    rcases Nat.eq_zero_or_pos i with hi0 | hi0
    · have ha : aloneI l i = true := by
        unfold aloneI aloneN
        rw [hgd, if_pos h0, if_pos hi0]
        rfl
      have gi : ((i : Int) == 0) = true := by simp; omega
      rw [ha]
      clear ha hgd h0 hi0
      generalize l[i] = y at *
      obtain ⟨r, ⟨bo, u, t, f, k⟩⟩ := y
      simp only at *
      go_enter Tryd.func41, Tryd.ntmps41
      go_wp2_with fail
      go_quiet (fail)
      go_wp2_with fail
      go_ret
      exact ⟨rfl, below_drewN (Below.refl _ _) _⟩
    · obtain ⟨b', off', e', hb', p0, p1, p2, p3, p4, p5⟩ := cel_at HR.out (i := i - 1) (by omega)
      injection e' with e'
      injection e' with e1 e2
      subst e1 e2
      have ha : aloneI l i = !halves l[i - 1] l[i] := by
        unfold aloneI aloneN
        rw [hgd, if_pos h0, if_neg (by omega), List.getElem?_eq_getElem (by omega)]
        rfl
      have gi : ((i : Int) == 0) = false := by simp; omega
      rw [ha]
      have HH := Lib.hid (fun (v : World) (hv : Tabs v) => halves_ok v hv l[i - 1] l[i])
      clear ha hgd h0
      generalize halves l[i - 1] l[i] = d at *
      generalize l[i] = y at *
      generalize l[i - 1] = x at *
      obtain ⟨r, ⟨bo, u, t, f, k⟩⟩ := y
      obtain ⟨r', ⟨bo', u', t', f', k'⟩⟩ := x
      simp only [celV] at *
      obtain ⟨m, hm⟩ : ∃ m, m = i - 1 := ⟨_, rfl⟩
      have hii : (i : Int) - 1 = (m : Int) := by omega
      have hml : m < l.length := by omega
      have hwr : IntKind.i64.wrap (m : Int) = (m : Int) := by rw [IntKind.wrap_i64]; omega
      rw [← hm] at p0 p1 p2 p3 p4 p5
      clear hm
      obtain ⟨wd, hwd⟩ : ∃ wd, wd = w.drew := ⟨_, rfl⟩
      have hd : ∀ p, wd.cell? p = w.cell? p := fun _ => by rw [hwd]; rfl
      have d0 := (hd _).trans c0; have d1 := (hd _).trans c1; have d2 := (hd _).trans c2; have d3 := (hd _).trans c3; have d4 := (hd _).trans c4; have d5 := (hd _).trans c5
      have e0 := (hd _).trans p0; have e1 := (hd _).trans p1; have e2 := (hd _).trans p2; have e3 := (hd _).trans p3; have e4 := (hd _).trans p4; have e5 := (hd _).trans p5
      have HWD := Lib.hid hwd
      have hbd : Below w.heap.size w wd := by rw [hwd]; exact (Below.refl _ _).drew
      have HBD := Lib.hid hbd
      have HTD := Lib.hid (HT.out.on hbd HT.out.room)
      clear hbd
      clear hd hwd p0 p1 p2 p3 p4 p5 c1 c2 c3 c4 c5
      go_enter Tryd.func41, Tryd.ntmps41
      go_wp2_with fail
      refine still_at 12 wd HWD.out (by kernel_rfl) (by kernel_rfl) ?_
      simp only [List.take_succ_cons, List.take_zero, List.drop_succ_cons, List.drop_zero]
      repeat still_step
      refine wpStill_nil ?_
      go_wp2_with fail
      refine (HH.out wd HTD.out).mono ?_
      rintro e w2 ⟨rfl, hb2⟩
      have HB2 := Lib.hid (show Below w.heap.size w w2 from HBD.out.trans (hb2.mono HBD.out.size))
      clear hb2
      go_wp2_with fail
      go_ret
      exact ⟨rfl, HB2.out⟩
  · have g0 : (l[i].rune == 0) = false := by simp [h0]
    have HW := Lib.hid (fun (v : World) (hv : Tabs v) => wide_ok v hv l[i].rune)
    rcases hwd : GM.wide l[i].rune with _ | _
    · have ha : aloneI l i = false := by
        unfold aloneI aloneN
        rw [hgd, if_neg h0, if_neg (by rw [hwd]; simp)]
      rw [ha]
      rw [hwd] at HW
      clear ha hgd h0 hwd
      generalize l[i] = y at *
      obtain ⟨r, ⟨bo, u, t, f, k⟩⟩ := y
      simp only at *
      go_enter Tryd.func41, Tryd.ntmps41
      go_wp2_with fail
      refine (HW.out w HT.out).mono ?_
      rintro e w2 ⟨rfl, hb2⟩
      have HB2 := Lib.hid hb2
      clear hb2
      go_wp2_with fail
      go_ret
      exact ⟨rfl, HB2.out⟩
    · by_cases hlast : i + 1 < l.length
      · obtain ⟨b', off', e', hb', p0, p1, p2, p3, p4, p5⟩ := cel_at HR.out (i := i + 1) hlast
        injection e' with e'
        injection e' with e1 e2
        subst e1 e2
        have ha : aloneI l i = !halves l[i] l[i + 1] := by
          unfold aloneI aloneN
          rw [hgd, if_neg h0, if_pos hwd, List.getElem?_eq_getElem hlast]
          rfl
        rw [ha]
        rw [hwd] at HW
        have HH := Lib.hid (fun (v : World) (hv : Tabs v) => halves_ok v hv l[i] l[i + 1])
        clear ha hgd h0 hwd
        generalize halves l[i] l[i + 1] = d at *
        generalize l[i] = y at *
        generalize l[i + 1] = x at *
        obtain ⟨r, ⟨bo, u, t, f, k⟩⟩ := y
        obtain ⟨r', ⟨bo', u', t', f', k'⟩⟩ := x
        simp only [celV] at *
        obtain ⟨m, hm⟩ : ∃ m, m = i + 1 := ⟨_, rfl⟩
        have hii : (i : Int) + 1 = (m : Int) := by omega
        have hml : m < l.length := by omega
        have hwr : IntKind.i64.wrap (m : Int) = (m : Int) := by rw [IntKind.wrap_i64]; omega
        have gl : ((i : Int) == (l.length : Int) - 1) = false := by simp; omega
        have hwl : IntKind.i64.wrap ((l.length : Int) - 1) = (l.length : Int) - 1 := by rw [IntKind.wrap_i64]; omega
        rw [← hm] at p0 p1 p2 p3 p4 p5
        clear hm
        go_enter Tryd.func41, Tryd.ntmps41
        go_wp2_with fail
        refine (HW.out w HT.out).mono ?_
        rintro e w2 ⟨rfl, hb2⟩
        obtain ⟨wd, hwd⟩ : ∃ wd, wd = w2.drew := ⟨_, rfl⟩
        have hbd : Below w.heap.size w wd := by rw [hwd]; exact hb2.drew
        have hd : ∀ j, wd.cell? ⟨b, j, none⟩ = w.cell? ⟨b, j, none⟩ := fun j => hbd.cell (p := ⟨b, j, none⟩) (by show b < _; omega)
        have d0 := (hd _).trans c0; have d1 := (hd _).trans c1; have d2 := (hd _).trans c2; have d3 := (hd _).trans c3; have d4 := (hd _).trans c4; have d5 := (hd _).trans c5
        have e0 := (hd _).trans p0; have e1 := (hd _).trans p1; have e2 := (hd _).trans p2; have e3 := (hd _).trans p3; have e4 := (hd _).trans p4; have e5 := (hd _).trans p5
        have HWD := Lib.hid hwd
        have HBD := Lib.hid hbd
        have HTD := Lib.hid (HT.out.on hbd HT.out.room)
        clear hd hwd hb2 hbd p0 p1 p2 p3 p4 p5 c0 c1 c2 c3 c4 c5
        go_wp2_with fail
        refine still_at 15 wd HWD.out (by kernel_rfl) (by kernel_rfl) ?_
        simp only [List.take_succ_cons, List.take_zero, List.drop_succ_cons, List.drop_zero]
        repeat still_step
        refine wpStill_nil ?_
        go_wp2_with fail
        refine (HH.out wd HTD.out).mono ?_
        rintro e w3 ⟨rfl, hb3⟩
        have HB3 := Lib.hid (show Below w.heap.size w w3 from HBD.out.trans (hb3.mono HBD.out.size))
        clear hb3
        go_wp2_with fail
        go_ret
        exact ⟨rfl, HB3.out⟩
      · have ha : aloneI l i = true := by
          unfold aloneI aloneN
          rw [hgd, if_neg h0, if_pos hwd, List.getElem?_eq_none (by omega)]
          rfl
        rw [ha]
        rw [hwd] at HW
        clear ha hgd h0 hwd
        generalize l[i] = y at *
        obtain ⟨r, ⟨bo, u, t, f, k⟩⟩ := y
        simp only at *
        have gl : ((i : Int) == (l.length : Int) - 1) = true := by simp; omega
        go_enter Tryd.func41, Tryd.ntmps41
        go_wp2_with fail
        refine (HW.out w HT.out).mono ?_
        rintro e w2 ⟨rfl, hb2⟩
        have HB2 := Lib.hid hb2
        clear hb2
        go_wp2_with fail
        go_quiet (fail)
        go_wp2_with fail
        go_ret
        exact ⟨rfl, below_drewN HB2.out _⟩
end Go.Proofs.YtbpkklcegiiheaaDoor
