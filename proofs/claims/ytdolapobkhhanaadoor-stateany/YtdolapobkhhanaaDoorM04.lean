/-
  KAlone, KLine, KGoes, KMend, KSpread, in one text.
-/
import Derived.Test.YtdolapobkhhanaaDoorM01
import Derived.Test.YtdolapobkhhanaaDoorM02
import Derived.Test.YtdolapobkhhanaaDoorM03
import Derived.Deep.CutRange
import Derived.StillTailTactics
import Derived.Lib.MinMax
import Derived.Lib.SliceRun
/-
  Layer 8 (cell): halves, alone.
-/
namespace Go.Proofs.YtdolapobkhhanaaDoor
open Go.RowKit Go.Lib KM

set_option maxRecDepth 100000 in
set_option maxHeartbeats 1000000 in
theorem halves_ok (w : World) (hT : Tabs w) (a b : Cel) : Calls Tryd.prog 39 #[celV a, celV b] w fun e w' => e = .returned (.bool (halves a b)) ∧ Below w.heap.size w w' := by
  have heq := fun w => run_eqC w b ⟨0, a.sty⟩
  have HD : Hid (halves a b = (GM.wide a.rune && decide (b = ⟨0, a.sty⟩))) := Lib.hid rfl
  generalize decide (b = ⟨0, a.sty⟩) = d at *
  obtain ⟨r, ⟨x, u, t, f, k⟩⟩ := a
  obtain ⟨r', ⟨x', u', t', f', k'⟩⟩ := b
  simp only [celV] at heq HD ⊢
  have hbd := fun w => build_rest w x u t f k
  obtain ⟨w1, hw1⟩ : ∃ w1, w1 = (w.alloc (.cells #[.int .i32 r, .bool x, .bool u, .bool t, .int .i64 f, .int .i64 k] 63)).alloc (.cells #[.int .i32 r', .bool x', .bool u', .bool t', .int .i64 f', .int .i64 k'] 63) := ⟨_, rfl⟩
  have hb1 : Below w.heap.size w w1 := by rw [hw1]; exact ((Below.refl _ _).alloc (Nat.le_refl _) _).alloc (by simp) _
  have h1 : w1.heap[w.heap.size]? = some (.cells #[.int .i32 r, .bool x, .bool u, .bool t, .int .i64 f, .int .i64 k] 63 (0, 0)) := by
    rw [hw1, heap_alloc_old _ _ (by simp)]; exact heap_alloc_new w _
  have h2 : w1.heap[w.heap.size + 1]? = some (.cells #[.int .i32 r', .bool x', .bool u', .bool t', .int .i64 f', .int .i64 k'] 63 (0, 0)) := by
    rw [hw1]; exact heap_alloc2_new w _ _
  have W1 := Lib.hid hw1
  have HB1 := Lib.hid hb1
  have HT1 := Lib.hid (hT.on hb1 hT.room)
  have H1 := Lib.hid h1
  have H2 := Lib.hid h2
  have hz1 : w1.heap.size = w.heap.size + 2 := by rw [hw1]; simp
  clear hw1 hb1 h1 h2 hT
  rcases hwd : GM.wide r with _ | _
  · have HW := Lib.hid hwd
    clear hwd
    go_enter Tryd.func39, Tryd.ntmps39
    go_wp2_with fail
    rw [← W1.out]
    refine (wide_ok _ HT1.out r).mono ?_
    rw [HW.out]
    rintro e w2 ⟨rfl, hb2⟩
    have HB2 := Lib.hid hb2
    clear hb2
    go_wp2_with fail
    go_ret
    exact ⟨by rw [HD.out, HW.out]; rfl, below_next HB1.out HB2.out⟩
  · have HW := Lib.hid hwd
    clear hwd
    go_enter Tryd.func39, Tryd.ntmps39
    go_wp2_with fail
    rw [← W1.out]
    refine (wide_ok _ HT1.out r).mono ?_
    rw [HW.out]
    rintro e w2 ⟨rfl, hb2⟩
    have c1 : ∀ j, w2.cell? ⟨w.heap.size, j, none⟩ = (#[Value.int .i32 r, .bool x, .bool u, .bool t, .int .i64 f, .int .i64 k])[j]? := fun j => by
      rw [hb2.cell (p := ⟨w.heap.size, j, none⟩) (by show w.heap.size < _; omega)]; simp [World.cell?, H1.out]
    have c2 : ∀ j, w2.cell? ⟨w.heap.size + 1, j, none⟩ = (#[Value.int .i32 r', .bool x', .bool u', .bool t', .int .i64 f', .int .i64 k'])[j]? := fun j => by
      rw [hb2.cell (p := ⟨w.heap.size + 1, j, none⟩) (by show w.heap.size + 1 < _; omega)]; simp [World.cell?, H2.out]
    have p1 := c1 1; have p2 := c1 2; have p3 := c1 3; have p4 := c1 4; have p5 := c1 5
    have q0 := c2 0; have q1 := c2 1; have q2 := c2 2; have q3 := c2 3; have q4 := c2 4; have q5 := c2 5
    simp at p1 p2 p3 p4 p5 q0 q1 q2 q3 q4 q5
    have HB2 := Lib.hid hb2
    clear hb2 c1 c2
    go_wp2_with fail
    go_ret
    exact ⟨by rw [HD.out, HW.out]; rfl, below_next HB1.out HB2.out⟩

/-- The cells of a slice's element, as they are read. -/
theorem cel_at {w : World} {B : Nat} {A : Option Addr} {l : List Cel} (h : celE.Row w B A l) {i : Nat} (hi : i < l.length) : ∃ b off, A = some ⟨b, off, none⟩ ∧ b < B ∧
    w.cell? ⟨b, off + i * 6, none⟩ = some (.int .i32 l[i].rune) ∧ w.cell? ⟨b, off + i * 6 + 1, none⟩ = some (.bool l[i].sty.bold) ∧ w.cell? ⟨b, off + i * 6 + 2, none⟩ = some (.bool l[i].sty.under) ∧
    w.cell? ⟨b, off + i * 6 + 3, none⟩ = some (.bool l[i].sty.turned) ∧ w.cell? ⟨b, off + i * 6 + 4, none⟩ = some (.int .i64 l[i].sty.fore) ∧ w.cell? ⟨b, off + i * 6 + 5, none⟩ = some (.int .i64 l[i].sty.back) := by
  obtain ⟨b, off, e, hb, hc⟩ := h.at_ hi
  exact ⟨b, off, e, hb, hc 0 (by decide), hc 1 (by decide), hc 2 (by decide), hc 3 (by decide), hc 4 (by decide), hc 5 (by decide)⟩

/-- Is a line's cell alone? -/
def aloneI (l : List Cel) (i : Nat) : Bool := aloneN (if i = 0 then none else l[i - 1]?) (l.getD i ⟨0, zero⟩) l[i + 1]?
theorem below_drewN {B : Nat} {a w : World} (h : Below B a w) (n : Nat) : Below B a (w.drewN n) := ⟨h.os, h.tape, h.output, h.size, h.block⟩
/-- A region that draws, whose first n operations only read, and whose others come in one order: walked in the text's order, at a world with a name of its own. -/
theorem still_at {P : Program} {id : Nat} {Q : Exit → Act → World → Prop} {a : Act} {w : World} {l : List Oper} (n : Nat) (wd : World) (hwd : wd = w.drew) (hm : P.follows .mixedOrders = true) (hB : Region.lexTailB .any l.toArray n = true)
    (h : wpStill P l.toArray wd (fun a' => wpList P l.toArray Q (l.drop n) a' wd) (l.take n) a) : (Code.region id l.toArray true).wp P Q a w := by
  subst hwd
  exact wp_region_still_tail n hm hB h

set_option maxRecDepth 100000 in
set_option maxHeartbeats 1000000 in
theorem alone_ok (w : World) (hT : Tabs w) (l : List Cel) (A : Option Addr) (c B i : Nat) (hr : celE.Row w B A l) (hB : B ≤ w.heap.size) (hl : l.length ≤ 1000) (hi : i < l.length) :
    Calls Tryd.prog 22 #[.slice A l.length c, .int .i64 (i : Int)] w fun e w' => e = .returned (.bool (aloneI l i)) ∧ Below w.heap.size w w' := by
  have HT := Lib.hid hT
  have HR := Lib.hid hr
  clear hT
  have hgd : l.getD i ⟨0, zero⟩ = l[i] := by simp [hi]
  obtain ⟨b, off, rfl, hb, c0, c1, c2, c3, c4, c5⟩ := cel_at hr hi
  clear hr
  by_cases h0 : l[i].rune = 0
  · have g0 : (l[i].rune == 0) = true := by simp [h0]
    rcases Nat.eq_zero_or_pos i with hi0 | hi0
    · have ha : aloneI l i = true := by
        unfold aloneI aloneN
        rw [hgd, if_pos h0, if_pos hi0]
        rfl
      have gi : ((i : Int) == 0) = true := by simp; omega
      rw [ha]
      clear ha hgd h0 hi0
      generalize l[i] = y at *
      obtain ⟨r, ⟨bo, u, t, f, k⟩⟩ := y
      simp only at *
      go_enter Tryd.func22, Tryd.ntmps22
      go_wp2_with fail
      go_quiet (fail)
      go_wp2_with fail
      go_ret
      exact ⟨rfl, below_drewN (Below.refl _ _) _⟩
    · obtain ⟨b', off', e', hb', p0, p1, p2, p3, p4, p5⟩ := cel_at HR.out (i := i - 1) (by omega)
      injection e' with e'
      injection e' with e1 e2
      subst e1 e2
      have ha : aloneI l i = !halves l[i - 1] l[i] := by
        unfold aloneI aloneN
        rw [hgd, if_pos h0, if_neg (by omega), List.getElem?_eq_getElem (by omega)]
        rfl
      have gi : ((i : Int) == 0) = false := by simp; omega
      rw [ha]
      have HH := Lib.hid (fun (v : World) (hv : Tabs v) => halves_ok v hv l[i - 1] l[i])
      clear ha hgd h0
      generalize halves l[i - 1] l[i] = d at *
      generalize l[i] = y at *
      generalize l[i - 1] = x at *
      obtain ⟨r, ⟨bo, u, t, f, k⟩⟩ := y
      obtain ⟨r', ⟨bo', u', t', f', k'⟩⟩ := x
      simp only [celV] at *
      obtain ⟨m, hm⟩ : ∃ m, m = i - 1 := ⟨_, rfl⟩
      have hii : (i : Int) - 1 = (m : Int) := by omega
      have hml : m < l.length := by omega
      have hwr : IntKind.i64.wrap (m : Int) = (m : Int) := by rw [IntKind.wrap_i64]; omega
      rw [← hm] at p0 p1 p2 p3 p4 p5
      clear hm
      obtain ⟨wd, hwd⟩ : ∃ wd, wd = w.drew := ⟨_, rfl⟩
      have hd : ∀ p, wd.cell? p = w.cell? p := fun _ => by rw [hwd]; rfl
      have d0 := (hd _).trans c0; have d1 := (hd _).trans c1; have d2 := (hd _).trans c2; have d3 := (hd _).trans c3; have d4 := (hd _).trans c4; have d5 := (hd _).trans c5
      have e0 := (hd _).trans p0; have e1 := (hd _).trans p1; have e2 := (hd _).trans p2; have e3 := (hd _).trans p3; have e4 := (hd _).trans p4; have e5 := (hd _).trans p5
      have HWD := Lib.hid hwd
      have hbd : Below w.heap.size w wd := by rw [hwd]; exact (Below.refl _ _).drew
      have HBD := Lib.hid hbd
      have HTD := Lib.hid (HT.out.on hbd HT.out.room)
      clear hbd
      clear hd hwd p0 p1 p2 p3 p4 p5 c1 c2 c3 c4 c5
      go_enter Tryd.func22, Tryd.ntmps22
      go_wp2_with fail
      refine still_at 12 wd HWD.out (by kernel_rfl) (by kernel_rfl) ?_
      simp only [List.take_succ_cons, List.take_zero, List.drop_succ_cons, List.drop_zero]
      repeat still_step
      refine wpStill_nil ?_
      go_wp2_with fail
      refine (HH.out wd HTD.out).mono ?_
      rintro e w2 ⟨rfl, hb2⟩
      have HB2 := Lib.hid (show Below w.heap.size w w2 from HBD.out.trans (hb2.mono HBD.out.size))
      clear hb2
      go_wp2_with fail
      go_ret
      exact ⟨rfl, HB2.out⟩
  · have g0 : (l[i].rune == 0) = false := by simp [h0]
    have HW := Lib.hid (fun (v : World) (hv : Tabs v) => wide_ok v hv l[i].rune)
    rcases hwd : GM.wide l[i].rune with _ | _
    · have ha : aloneI l i = false := by
        unfold aloneI aloneN
        rw [hgd, if_neg h0, if_neg (by rw [hwd]; simp)]
      rw [ha]
      rw [hwd] at HW
      clear ha hgd h0 hwd
      generalize l[i] = y at *
      obtain ⟨r, ⟨bo, u, t, f, k⟩⟩ := y
      simp only at *
      go_enter Tryd.func22, Tryd.ntmps22
      go_wp2_with fail
      refine (HW.out w HT.out).mono ?_
      rintro e w2 ⟨rfl, hb2⟩
      have HB2 := Lib.hid hb2
      clear hb2
      go_wp2_with fail
      go_ret
      exact ⟨rfl, HB2.out⟩
    · by_cases hlast : i + 1 < l.length
      · obtain ⟨b', off', e', hb', p0, p1, p2, p3, p4, p5⟩ := cel_at HR.out (i := i + 1) hlast
        injection e' with e'
        injection e' with e1 e2
        subst e1 e2
        have ha : aloneI l i = !halves l[i] l[i + 1] := by
          unfold aloneI aloneN
          rw [hgd, if_neg h0, if_pos hwd, List.getElem?_eq_getElem hlast]
          rfl
        rw [ha]
        rw [hwd] at HW
        have HH := Lib.hid (fun (v : World) (hv : Tabs v) => halves_ok v hv l[i] l[i + 1])
        clear ha hgd h0 hwd
        generalize halves l[i] l[i + 1] = d at *
        generalize l[i] = y at *
        generalize l[i + 1] = x at *
        obtain ⟨r, ⟨bo, u, t, f, k⟩⟩ := y
        obtain ⟨r', ⟨bo', u', t', f', k'⟩⟩ := x
        simp only [celV] at *
        obtain ⟨m, hm⟩ : ∃ m, m = i + 1 := ⟨_, rfl⟩
        have hii : (i : Int) + 1 = (m : Int) := by omega
        have hml : m < l.length := by omega
        have hwr : IntKind.i64.wrap (m : Int) = (m : Int) := by rw [IntKind.wrap_i64]; omega
        have gl : ((i : Int) == (l.length : Int) - 1) = false := by simp; omega
        have hwl : IntKind.i64.wrap ((l.length : Int) - 1) = (l.length : Int) - 1 := by rw [IntKind.wrap_i64]; omega
        rw [← hm] at p0 p1 p2 p3 p4 p5
        clear hm
        go_enter Tryd.func22, Tryd.ntmps22
        go_wp2_with fail
        refine (HW.out w HT.out).mono ?_
        rintro e w2 ⟨rfl, hb2⟩
        obtain ⟨wd, hwd⟩ : ∃ wd, wd = w2.drew := ⟨_, rfl⟩
        have hbd : Below w.heap.size w wd := by rw [hwd]; exact hb2.drew
        have hd : ∀ j, wd.cell? ⟨b, j, none⟩ = w.cell? ⟨b, j, none⟩ := fun j => hbd.cell (p := ⟨b, j, none⟩) (by show b < _; omega)
        have d0 := (hd _).trans c0; have d1 := (hd _).trans c1; have d2 := (hd _).trans c2; have d3 := (hd _).trans c3; have d4 := (hd _).trans c4; have d5 := (hd _).trans c5
        have e0 := (hd _).trans p0; have e1 := (hd _).trans p1; have e2 := (hd _).trans p2; have e3 := (hd _).trans p3; have e4 := (hd _).trans p4; have e5 := (hd _).trans p5
        have HWD := Lib.hid hwd
        have HBD := Lib.hid hbd
        have HTD := Lib.hid (HT.out.on hbd HT.out.room)
        clear hd hwd hb2 hbd p0 p1 p2 p3 p4 p5 c0 c1 c2 c3 c4 c5
        go_wp2_with fail
        refine still_at 15 wd HWD.out (by kernel_rfl) (by kernel_rfl) ?_
        simp only [List.take_succ_cons, List.take_zero, List.drop_succ_cons, List.drop_zero]
        repeat still_step
        refine wpStill_nil ?_
        go_wp2_with fail
        refine (HH.out wd HTD.out).mono ?_
        rintro e w3 ⟨rfl, hb3⟩
        have HB3 := Lib.hid (show Below w.heap.size w w3 from HBD.out.trans (hb3.mono HBD.out.size))
        clear hb3
        go_wp2_with fail
        go_ret
        exact ⟨rfl, HB3.out⟩
      · have ha : aloneI l i = true := by
          unfold aloneI aloneN
          rw [hgd, if_neg h0, if_pos hwd, List.getElem?_eq_none (by omega)]
          rfl
        rw [ha]
        rw [hwd] at HW
        clear ha hgd h0 hwd
        generalize l[i] = y at *
        obtain ⟨r, ⟨bo, u, t, f, k⟩⟩ := y
        simp only at *
        have gl : ((i : Int) == (l.length : Int) - 1) = true := by simp; omega
        go_enter Tryd.func22, Tryd.ntmps22
        go_wp2_with fail
        refine (HW.out w HT.out).mono ?_
        rintro e w2 ⟨rfl, hb2⟩
        have HB2 := Lib.hid hb2
        clear hb2
        go_wp2_with fail
        go_quiet (fail)
        go_wp2_with fail
        go_ret
        exact ⟨rfl, below_drewN HB2.out _⟩
end Go.Proofs.YtdolapobkhhanaaDoor
/-
  Layer 8 (cell): Whole, slices.Clone, Mend; the reference's Mend.
-/
namespace Go.Proofs.YtdolapobkhhanaaDoor
open Go.RowKit Go.Lib KM

/-! ### by the neighbours, or by places -/
def prevI (l : List Cel) (i : Nat) : Option Cel := if i = 0 then none else l[i - 1]?
def okI (l : List Cel) (i : Nat) : Bool := okN (prevI l i) (l.getD i ⟨0, zero⟩) l[i + 1]?
def mendI (l : List Cel) (i : Nat) : Cel := if aloneI l i = true then KM.blank (l.getD i ⟨0, zero⟩) else l.getD i ⟨0, zero⟩
theorem upto_succ {P : Nat → Prop} {k : Nat} (h : ∀ j, j < k → P j) (hk : P k) : ∀ j, j < k + 1 → P j := fun j hj => by
  rcases Nat.lt_or_ge j k with h1 | h1
  · exact h j h1
  · obtain rfl : j = k := by omega
    exact hk
theorem okI_eq (l : List Cel) (i : Nat) : okI l i = (!aloneI l i && (decide ((l.getD i ⟨0, zero⟩).rune = 0) || cright (l.getD i ⟨0, zero⟩))) := rfl
theorem wholeP_all (pre r l : List Cel) (hl : l = pre ++ r) : wholeP (prevI l pre.length) r = true ↔ ∀ j, j < r.length → okI l (pre.length + j) = true := by
  induction r generalizing pre with
  | nil => simp [wholeP]
  | cons c r ih =>
    have h0 : l.getD pre.length ⟨0, zero⟩ = c := by rw [hl]; simp
    have h1 : l[pre.length + 1]? = r.head? := by rw [hl, List.getElem?_append_right (by omega)]; simp [List.head?_eq_getElem?]
    have h2 : prevI l (pre ++ [c]).length = some c := by
      unfold prevI
      rw [List.length_append, if_neg (by simp), hl]
      simp
    have e0 : okI l pre.length = okN (prevI l pre.length) c r.head? := by unfold okI; rw [h0, h1]
    have := ih (pre ++ [c]) (by rw [hl]; simp)
    rw [h2, List.length_append, List.length_singleton] at this
    rw [wholeP, Bool.and_eq_true, this, ← e0]
    constructor
    · rintro ⟨a, b⟩ j hj
      cases j with
      | zero => exact a
      | succ j =>
        have := b j (by simpa using hj)
        rw [show pre.length + 1 + j = pre.length + (j + 1) by omega] at this
        exact this
    · intro h
      refine ⟨h 0 (by simp), fun j hj => ?_⟩
      rw [show pre.length + 1 + j = pre.length + (j + 1) by omega]
      exact h (j + 1) (by simpa using hj)
theorem whole_all (l : List Cel) : whole l = true ↔ ∀ i, i < l.length → okI l i = true := by
  have := wholeP_all [] l l rfl
  simpa [whole, prevI] using this
theorem whole_not (l : List Cel) (i : Nat) (hi : i < l.length) (h : okI l i = false) : whole l = false := by
  rw [← Bool.not_eq_true, whole_all]
  intro a
  rw [a i hi] at h
  cases h
theorem mendP_at (pre r l : List Cel) (hl : l = pre ++ r) : ∀ j, j < r.length → (mendP (prevI l pre.length) r)[j]? = some (mendI l (pre.length + j)) := by
  induction r generalizing pre with
  | nil => simp
  | cons c r ih =>
    have h0 : l.getD pre.length ⟨0, zero⟩ = c := by rw [hl]; simp
    have h1 : l[pre.length + 1]? = r.head? := by rw [hl, List.getElem?_append_right (by omega)]; simp [List.head?_eq_getElem?]
    have h2 : prevI l (pre ++ [c]).length = some c := by
      unfold prevI
      rw [List.length_append, if_neg (by simp), hl]
      simp
    have e0 : mendI l pre.length = fixN (prevI l pre.length) c r.head? := by unfold mendI aloneI fixN; rw [h0, h1]; rfl
    have := ih (pre ++ [c]) (by rw [hl]; simp)
    rw [h2, List.length_append, List.length_singleton] at this
    intro j hj
    rw [mendP, ← e0]
    cases j with
    | zero => rfl
    | succ j =>
      rw [List.getElem?_cons_succ, this j (by simpa using hj), show pre.length + 1 + j = pre.length + (j + 1) by omega]
theorem mend_at (l : List Cel) (i : Nat) (hi : i < l.length) : (mend l)[i]? = some (mendI l i) := by
  have := mendP_at [] l l rfl i hi
  simpa [mend, prevI] using this
/-- The line as Mend has it behind k cells. -/
def mendK (l : List Cel) (k : Nat) : List Cel := (mend l).take k ++ l.drop k
theorem mendK_zero (l : List Cel) : mendK l 0 = l := rfl
theorem mendK_len (l : List Cel) (k : Nat) : (mendK l k).length = l.length := by
  unfold mendK
  rw [List.length_append, List.length_take, List.length_drop, mend_len]
  omega
theorem mendK_all (l : List Cel) : mendK l l.length = mend l := by
  unfold mendK
  rw [List.drop_length, List.append_nil]
  exact List.take_of_length_le (by rw [mend_len]; exact Nat.le_refl _)
theorem mendK_at (l : List Cel) (k : Nat) (hk : k < l.length) : (mendK l k)[k]'(by rw [mendK_len]; exact hk) = l[k] := by
  unfold mendK
  have hm := mend_len l
  rw [List.getElem_append_right (by rw [List.length_take]; omega)]
  simp only [List.length_take, List.getElem_drop]
  congr 1
  omega
theorem mendK_succ (l : List Cel) (k : Nat) (hk : k < l.length) : mendK l (k + 1) = (mendK l k).set k (mendI l k) := by
  have hm := mend_len l
  have h1 : (mend l)[k] = mendI l k := by
    have := mend_at l k hk
    rw [List.getElem?_eq_getElem (by omega)] at this
    exact Option.some.inj this
  unfold mendK
  rw [List.take_succ_eq_append_getElem (by omega), h1, List.append_assoc, List.drop_eq_getElem_cons hk, List.set_append_right _ _ (by rw [List.length_take]; omega)]
  simp only [List.length_take]
  rw [show k - min k (mend l).length = 0 by omega]
  rfl
theorem mendK_same (l : List Cel) (k : Nat) (hk : k < l.length) (h : aloneI l k = false) : mendK l (k + 1) = mendK l k := by
  rw [mendK_succ l k hk]
  have : mendI l k = l[k] := by unfold mendI; rw [h]; simp [hk]
  rw [this, ← mendK_at l k hk]
  exact List.set_getElem_self _

/-- A cell that lies in a block of its own. -/
def CelAt (w : World) (g : Nat) (c : Cel) : Prop := w.heap[g]? = some (.cells #[.int .i32 c.rune, .bool c.sty.bold, .bool c.sty.under, .bool c.sty.turned, .int .i64 c.sty.fore, .int .i64 c.sty.back] 63 (0, 0))
theorem CelAt.cells {w : World} {g : Nat} {c : Cel} (h : CelAt w g c) : w.cell? ⟨g, 0, none⟩ = some (.int .i32 c.rune) ∧ w.cell? ⟨g, 1, none⟩ = some (.bool c.sty.bold) ∧ w.cell? ⟨g, 2, none⟩ = some (.bool c.sty.under) ∧
    w.cell? ⟨g, 3, none⟩ = some (.bool c.sty.turned) ∧ w.cell? ⟨g, 4, none⟩ = some (.int .i64 c.sty.fore) ∧ w.cell? ⟨g, 5, none⟩ = some (.int .i64 c.sty.back) := by
  unfold CelAt at h
  refine ⟨?_, ?_, ?_, ?_, ?_, ?_⟩ <;> simp [World.cell?, h]
theorem CelAt.below {w w' : World} {g B : Nat} {c : Cel} (h : CelAt w g c) (hb : Below B w w') (hg : g < B) : CelAt w' g c := (hb.block g hg).trans h
theorem CelAt.lt {w : World} {g : Nat} {c : Cel} (h : CelAt w g c) : g < w.heap.size := (Array.getElem?_eq_some_iff.1 h).1

set_option maxRecDepth 100000 in
set_option maxHeartbeats 1000000 in
theorem whole_ok (w : World) (hT : Tabs w) (l : List Cel) (A : Option Addr) (c B : Nat) (hr : celE.Row w B A l) (hB : B ≤ w.heap.size) (hl : l.length ≤ 1000) :
    Calls Tryd.prog 8 #[.slice A l.length c] w fun e w' => e = .returned (.bool (whole l)) ∧ Below w.heap.size w w' := by
  have HT := Lib.hid hT
  have HR := Lib.hid hr
  clear hT hr
  generalize hq : whole l = q
  have HQ := Lib.hid hq
  clear hq
  go_enter Tryd.func8, Tryd.ntmps8
  go_wp2
  go_loopw [7] (fun i wr => ∃ k : Nat, k ≤ l.length ∧ i = .int .i64 (k : Int) ∧ Below w.heap.size w wr ∧ ∀ j, j < k → okI l j = true) (fun i _ => l.length - (RowKit.intOf i).toNat)
  case atStart => exact ⟨0, Nat.zero_le _, rfl, Below.refl _ _, fun j hj => absurd hj (by omega)⟩
  case round =>
    obtain ⟨k, hk, rfl, hb, hall⟩ := hrel
    have HB := Lib.hid hb
    have HALL := Lib.hid hall
    clear hb hall
    by_cases hlt : k < l.length
    · have g1 : decide ((k : Int) < (l.length : Int)) = true := by simp; omega
      have gn : decide (k < l.length) = true := by simp; omega
      have hz := HB.out.size
      have hrr := HR.out.below (HB.out.mono hB)
      have HRR := Lib.hid hrr
      obtain ⟨b, off, rfl, hbl, c0, c1, c2, c3, c4, c5⟩ := cel_at hrr hlt
      have hgd : l.getD k ⟨0, zero⟩ = l[k] := by simp [hlt]
      have hok := okI_eq l k
      rw [hgd] at hok
      have HOK := Lib.hid hok
      have HNO := Lib.hid (fun h => HQ.out.symm.trans (whole_not l k hlt h))
      have HAL := Lib.hid (fun (v : World) (hv : Tabs v) (hrv : celE.Row v B (some ⟨b, off, none⟩) l) (hBv : B ≤ v.heap.size) => alone_ok v hv l (some ⟨b, off, none⟩) c B k hrv hBv hl hlt)
      have HCR := Lib.hid (fun v => cright_ok v l[k])
      clear hok hrr hgd
      generalize l[k] = y at *
      obtain ⟨r, ⟨bo, u, t, f, ba⟩⟩ := y
      simp only [celV] at *
      obtain ⟨w1, hw1⟩ : ∃ w1, w1 = wr.alloc (.cells #[.int .i32 r, .bool bo, .bool u, .bool t, .int .i64 f, .int .i64 ba] 63) := ⟨_, rfl⟩
      have hb1 : Below w.heap.size w w1 := by rw [hw1]; exact HB.out.alloc hz _
      have hc1 : CelAt w1 wr.heap.size ⟨r, ⟨bo, u, t, f, ba⟩⟩ := by rw [hw1]; exact heap_alloc_new wr _
      have W1 := Lib.hid hw1
      have HB1 := Lib.hid hb1
      have HC1 := Lib.hid hc1
      have HR1 := Lib.hid (HR.out.below (hb1.mono hB))
      have HT1 := Lib.hid (HT.out.on hb1 HT.out.room)
      have hz1 := hb1.size
      clear hw1 hb1 hc1
      rcases ha : aloneI l k with _ | _
      · have HA := Lib.hid ha
        clear ha
        go_wp2_with fail
        rw [← W1.out]
        refine (HAL.out w1 HT1.out HR1.out (by omega)).mono ?_
        rw [HA.out]
        rintro e w2 ⟨rfl, hb2⟩
        have HB2 := Lib.hid (below_next HB1.out hb2)
        obtain ⟨d0, d1, d2, d3, d4, d5⟩ := (HC1.out.below hb2 HC1.out.lt).cells
        simp only at d0 d1 d2 d3 d4 d5
        clear hb2
        by_cases h0 : r = 0
        · have g0 : (r != 0) = false := by simp [h0]
          have HK : Hid (okI l k = true) := Lib.hid (by rw [HOK.out, HA.out]; simp [h0])
          clear h0
          go_wp2_with fail
          go_roundw
          case rel => exact ⟨k + 1, by omega, by simp, HB2.out, upto_succ HALL.out HK.out⟩
          case measure => simp [RowKit.intOf]; omega
        · have g0 : (r != 0) = true := by simp [h0]
          rcases hcr : cright ⟨r, ⟨bo, u, t, f, ba⟩⟩ with _ | _
          · have HCC := Lib.hid hcr
            obtain rfl : q = false := HNO.out (by rw [HOK.out, hcr]; simp [h0])
            clear hcr h0
            go_wp2_with fail
            refine (HCR.out w2).mono ?_
            rw [HCC.out]
            rintro e w3 ⟨rfl, hb3⟩
            have HB3 := Lib.hid (below_next HB2.out hb3)
            clear hb3
            go_wp2_with fail
            go_ret
            exact ⟨rfl, HB3.out⟩
          · have HCC := Lib.hid hcr
            have HK : Hid (okI l k = true) := Lib.hid (by rw [HOK.out, HA.out, hcr]; simp)
            clear hcr h0
            go_wp2_with fail
            refine (HCR.out w2).mono ?_
            rw [HCC.out]
            rintro e w3 ⟨rfl, hb3⟩
            have HB3 := Lib.hid (below_next HB2.out hb3)
            clear hb3
            go_wp2_with fail
            go_roundw
            case rel => exact ⟨k + 1, by omega, by simp, HB3.out, upto_succ HALL.out HK.out⟩
            case measure => simp [RowKit.intOf]; omega
      · have HA := Lib.hid ha
        obtain rfl : q = false := HNO.out (by rw [HOK.out, ha]; rfl)
        clear ha
        go_wp2_with fail
        rw [← W1.out]
        refine (HAL.out w1 HT1.out HR1.out (by omega)).mono ?_
        rw [HA.out]
        rintro e w2 ⟨rfl, hb2⟩
        have HB2 := Lib.hid (below_next HB1.out hb2)
        clear hb2
        go_wp2_with fail
        go_ret
        exact ⟨rfl, HB2.out⟩
    · have g1 : decide ((k : Int) < (l.length : Int)) = false := by simp; omega
      have gn : decide (k < l.length) = false := by simp; omega
      obtain rfl : k = l.length := by omega
      obtain rfl : q = true := HQ.out.symm.trans ((whole_all l).2 HALL.out)
      go_wp2_with fail
      go_ret
      exact ⟨rfl, HB.out⟩
end Go.Proofs.YtdolapobkhhanaaDoor
/-
  Layer 8 (cell): goesOn, runsOf, spread.
-/
namespace Go.Proofs.YtdolapobkhhanaaDoor
open Go.RowKit Go.Lib KM

/-- The cells of a run that lies in a row. -/
theorem run_at {w : World} {B : Nat} {A : Option Addr} {l : List (Nat × Cel)} (h : runE.Row w B A l) {i : Nat} (hi : i < l.length) : ∃ b off, A = some ⟨b, off, none⟩ ∧ b < B ∧
    w.cell? ⟨b, off + i * 7, none⟩ = some (.int .i64 (l[i].1 : Int)) ∧ w.cell? ⟨b, off + i * 7 + 1, none⟩ = some (.int .i32 l[i].2.rune) ∧ w.cell? ⟨b, off + i * 7 + 2, none⟩ = some (.bool l[i].2.sty.bold) ∧ w.cell? ⟨b, off + i * 7 + 3, none⟩ = some (.bool l[i].2.sty.under) ∧
    w.cell? ⟨b, off + i * 7 + 4, none⟩ = some (.bool l[i].2.sty.turned) ∧ w.cell? ⟨b, off + i * 7 + 5, none⟩ = some (.int .i64 l[i].2.sty.fore) ∧ w.cell? ⟨b, off + i * 7 + 6, none⟩ = some (.int .i64 l[i].2.sty.back) := by
  obtain ⟨b, off, e, hb, hc⟩ := h.at_ hi
  exact ⟨b, off, e, hb, hc 0 (by decide), hc 1 (by decide), hc 2 (by decide), hc 3 (by decide), hc 4 (by decide), hc 5 (by decide), hc 6 (by decide)⟩
theorem goes_last (l : List (Nat × Cel)) (c : Cel) (h : 0 < l.length) : goes l c = decide ((l[l.length - 1]'(by omega)).2 = c) := by
  rcases List.eq_nil_or_concat l with rfl | ⟨r, x, rfl⟩
  · simp at h
  · simp only [List.concat_eq_append]
    rw [goes_snoc]
    simp

set_option maxRecDepth 100000 in
set_option maxHeartbeats 1000000 in
theorem goesOn_ok (w : World) (l : List (Nat × Cel)) (A : Option Addr) (cap B : Nat) (hr : runE.Row w B A l) (hB : B ≤ w.heap.size) (hl : l.length ≤ 1000) (c : Cel) :
    Calls Tryd.prog 75 #[.slice A l.length cap, celV c] w fun e w' => e = .returned (.bool (goes l c)) ∧ Below w.heap.size w w' := by
  obtain ⟨w1, hw1⟩ : ∃ w1, w1 = w.alloc (.cells #[.int .i32 c.rune, .bool c.sty.bold, .bool c.sty.under, .bool c.sty.turned, .int .i64 c.sty.fore, .int .i64 c.sty.back] 63) := ⟨_, rfl⟩
  have hb1 : Below w.heap.size w w1 := by rw [hw1]; exact (Below.refl _ _).alloc (Nat.le_refl _) _
  have hc1 : CelAt w1 w.heap.size c := by rw [hw1]; exact heap_alloc_new w _
  have hr1 := hr.below (hb1.mono hB)
  have W1 := Lib.hid hw1
  have HB1 := Lib.hid hb1
  obtain ⟨c0, c1, c2, c3, c4, c5⟩ := hc1.cells
  clear hw1 hb1 hc1 hr
  rcases Nat.eq_zero_or_pos l.length with h0 | h0
  · have e : goes l c = false := by rw [List.eq_nil_of_length_eq_zero h0]; rfl
    rw [e]
    clear e
    have g0 : decide (0 < l.length) = false := by simp; exact List.eq_nil_of_length_eq_zero h0
    have g1 : decide ((0 : Int) < (l.length : Int)) = false := by simp; exact List.eq_nil_of_length_eq_zero h0
    obtain ⟨r, ⟨bo, u, t, f, k⟩⟩ := c
    simp only [celV] at *
    generalize l.length = n at *
    clear hr1
    go_enter Tryd.func75, Tryd.ntmps75
    go_wp2_with fail
    rw [← W1.out]
    go_quiet (fail)
    go_wp2_with fail
    go_ret
    exact ⟨rfl, below_drewN HB1.out _⟩
  · have g0 : decide (0 < l.length) = true := by simp; omega
    have g1 : decide ((0 : Int) < (l.length : Int)) = true := by simp; omega
    obtain ⟨b, off, rfl, hb, p0, p1, p2, p3, p4, p5, p6⟩ := run_at hr1 (i := l.length - 1) (by omega)
    have HG := Lib.hid (goes_last l c h0)
    have heq := fun w => run_eqC w (l[l.length - 1]'(by omega)).2 c
    rw [← HG.out] at heq
    generalize goes l c = q at *
    generalize (l[l.length - 1]'(by omega)) = x at *
    obtain ⟨n, ⟨r', ⟨bo', u', t', f', k'⟩⟩⟩ := x
    obtain ⟨r, ⟨bo, u, t, f, k⟩⟩ := c
    simp only [celV] at *
    obtain ⟨m, hm⟩ : ∃ m, m = l.length - 1 := ⟨_, rfl⟩
    have hml : m < l.length := by omega
    have hii : (l.length : Int) - 1 = (m : Int) := by omega
    have hwr : IntKind.i64.wrap (m : Int) = (m : Int) := by rw [IntKind.wrap_i64]; omega
    rw [← hm] at p0 p1 p2 p3 p4 p5 p6
    clear hm hr1 h0
    go_enter Tryd.func75, Tryd.ntmps75
    go_wp2_with fail
    rw [← W1.out]
    go_quiet (fail)
    go_wp2_with fail
    go_ret
    exact ⟨rfl, below_drewN HB1.out _⟩
theorem push_set (rs : List (Nat × Cel)) (c : Cel) (h : goes rs c = true) : ∃ hp : 0 < rs.length, (rs[rs.length - 1]'(by omega)).2 = c ∧ push rs c = rs.set (rs.length - 1) ((rs[rs.length - 1]'(by omega)).1 + 1, c) := by
  rcases List.eq_nil_or_concat rs with rfl | ⟨r, x, rfl⟩
  · simp [goes] at h
  · simp only [List.concat_eq_append] at h ⊢
    rw [goes_snoc] at h
    obtain ⟨n, d⟩ := x
    obtain rfl : d = c := of_decide_eq_true h
    refine ⟨by simp, by simp, ?_⟩
    rw [push_on]
    simp
theorem runs_sum (l : List Cel) : sumR (runs l) = l.length := by rw [← cells_len, runs_cells]
theorem runs_len (l : List Cel) : (runs l).length ≤ l.length := by
  have := apart_len _ (apart_pos _ (runs_apart l))
  rw [runs_sum] at this
  exact this
def RunsPost (w : World) (rs : List (Nat × Cel)) (e : Ending) (w' : World) : Prop := ∃ v, e = .returned v ∧ runE.Own w' w.heap.size v rs ∧ Below w.heap.size w w'

set_option maxRecDepth 100000 in
set_option maxHeartbeats 1000000 in
theorem runsOf_ok (w : World) (l : List Cel) (A : Option Addr) (c B : Nat) (hr : celE.Row w B A l) (hB : B ≤ w.heap.size) (hl : l.length ≤ 1000) :
    Calls Tryd.prog 71 #[.slice A l.length c] w (RunsPost w (runs l)) := by
  have HR := Lib.hid hr
  clear hr
  go_enter Tryd.func71, Tryd.ntmps71
  go_wp2
  go_loopw [3, 8] (fun v i wr => ∃ k : Nat, k ≤ l.length ∧ i = .int .i64 (k : Int) ∧ Below w.heap.size w wr ∧ runE.Own wr w.heap.size v (runs (l.take k))) (fun _ i _ => l.length - (RowKit.intOf i).toNat)
  case atStart => exact ⟨0, Nat.zero_le _, rfl, Below.refl _ _, El.Own.nil _ _⟩
  case round =>
    obtain ⟨k, hk, rfl, hb, ho⟩ := hrel
    have HB := Lib.hid hb
    have HO := Lib.hid ho
    have hz := hb.size
    clear hb ho
    by_cases hlt : k < l.length
    · have g1 : decide ((k : Int) < (l.length : Int)) = true := by simp; omega
      have gn : decide (k < l.length) = true := by simp; omega
      obtain ⟨b, off, rfl, hbl, c0, c1, c2, c3, c4, c5⟩ := cel_at (HR.out.below (HB.out.mono hB)) hlt
      have HSN := Lib.hid (show runs (l.take (k + 1)) = push (runs (l.take k)) l[k] by rw [List.take_succ_eq_append_getElem hlt, runs_snoc])
      have hrl : (runs (l.take k)).length ≤ 1000 := by have := runs_len (l.take k); rw [List.length_take] at this; omega
      have HSM := Lib.hid (show sumR (runs (l.take k)) ≤ 1000 by rw [runs_sum, List.length_take]; omega)
      generalize runs (l.take k) = rs at *
      generalize l[k] = y at *
      obtain ⟨w1, hw1⟩ : ∃ w1, w1 = wr.alloc (.cells #[.int .i32 y.rune, .bool y.sty.bold, .bool y.sty.under, .bool y.sty.turned, .int .i64 y.sty.fore, .int .i64 y.sty.back] 63) := ⟨_, rfl⟩
      have hb1 : Below wr.heap.size wr w1 := by rw [hw1]; exact (Below.refl _ _).alloc (Nat.le_refl _) _
      have hc1 : CelAt w1 wr.heap.size y := by rw [hw1]; exact heap_alloc_new wr _
      have ho1 := HO.out.below hb1
      have HB1 := Lib.hid (below_next HB.out hb1)
      have HC1 := Lib.hid hc1
      have HO1 := Lib.hid ho1
      have W1 := Lib.hid hw1
      have hz1 := hb1.size
      obtain ⟨d0, d1, d2, d3, d4, d5⟩ := hc1.cells
      clear hw1 hb1 hc1
      obtain ⟨A1, cp1, rfl, hcp, _, hA1, hr1⟩ := ho1.row
      have HGO := Lib.hid (goesOn_ok w1 rs A1 cp1 w1.heap.size hr1 (Nat.le_refl _) hrl y)
      clear ho1 hr1
      rcases hg : goes rs y with _ | _
      · have HG := Lib.hid hg
        rw [push_new rs y hg] at HSN
        clear hg
        obtain ⟨r, ⟨bo, u, t, f, ba⟩⟩ := y
        simp only [celV] at *
        have hbr := fun w => build_run w 1 r bo u t f ba
        go_wp2_with fail
        rw [← W1.out]
        refine HGO.out.mono ?_
        rw [HG.out]
        rintro e w2 ⟨rfl, b2⟩
        have HO2 := Lib.hid (HO1.out.below b2)
        have HB2 := Lib.hid (below_next HB1.out b2)
        have hz2 := HB2.out.size
        have hc2 := HC1.out.below b2 HC1.out.lt
        clear b2 d0 d1 d2 d3 d4 d5
        obtain ⟨d0, d1, d2, d3, d4, d5⟩ := hc2.cells
        simp only at d0 d1 d2 d3 d4 d5
        clear hc2
        go_wp2_with (at_builtin; refine runE.wp_append1 rfl (.tmp 25) (.tmp 28) rfl w.heap.size _ rs rfl HO2.out (1, ⟨r, ⟨bo, u, t, f, ba⟩⟩) #[.int .i64 1, .int .i32 r, .bool bo, .bool u, .bool t, .int .i64 f, .int .i64 ba] 130 rfl rfl ?c1 ?c2 hz2 ?_)
        case c1 => simp only [runE]; omega
        case c2 => unfold maxLen; omega
        intro v3 w3 o3 g3
        have HO3 := Lib.hid o3
        have HB3 := Lib.hid (HB2.out.trans (HO2.out.grow_below g3 hz2))
        clear o3 g3
        go_wp2_with fail
        go_roundw
        case rel => exact ⟨k + 1, by omega, by simp, HB3.out, by rw [HSN.out]; exact HO3.out⟩
        case measure => simp [RowKit.intOf]; omega
      · have HG := Lib.hid hg
        obtain ⟨hp, he, hps⟩ := push_set rs y hg
        rw [hps] at HSN
        clear hg hps
        obtain ⟨m, hm⟩ : ∃ m, m = rs.length - 1 := ⟨_, rfl⟩
        have hml : m < rs.length := by omega
        have hii : (rs.length : Int) - 1 = (m : Int) := by omega
        have hwr : IntKind.i64.wrap (m : Int) = (m : Int) := by rw [IntKind.wrap_i64]; omega
        have HCELLS := Lib.hid (fun (v : World) (hv : runE.Own v w.heap.size (.slice A1 rs.length cp1) rs) => hv.place hp)
        have hle := le_sumR rs rs[m] (List.getElem_mem hml)
        have hsm := HSM.out
        have HSET := Lib.hid (fun (v : World) (g : Nat) (hv : runE.Own v w.heap.size (.slice (some ⟨g, 0, none⟩) rs.length cp1) rs) => hv.set (g := g) (c := cp1) rfl (i := m) hml (j := 0) (by decide) (a' := (rs[m].1 + 1, y)) (u := .int .i64 ((rs[m].1 : Int) + 1)) (by
          have : rs[m].2 = y := by simp only [← he]; congr 2
          simp [runE, runL, ← this]))
        have HSN' : Hid (runs (l.take (k + 1)) = rs.set m (rs[m].1 + 1, y)) := Lib.hid (by rw [HSN.out]; simp only [hm])
        have hc0 : ∀ (v : World) (g : Nat), (∀ i (hi : i < rs.length) j, j < runE.s → v.cell? ⟨g, i * runE.s + j, none⟩ = (runE.f rs[i])[j]?) → v.cell? ⟨g, m * 7, none⟩ = some (.int .i64 (rs[m].1 : Int)) := fun v g h => h m hml 0 (by decide)
        have HC0 := Lib.hid hc0
        clear hc0 he HSN hm
        generalize rs[m] = x at *
        obtain ⟨n, cx⟩ := x
        simp only at *
        obtain ⟨r, ⟨bo, u, t, f, ba⟩⟩ := y
        simp only [celV] at *
        go_wp2_with fail
        rw [← W1.out]
        refine HGO.out.mono ?_
        rw [HG.out]
        rintro e w2 ⟨rfl, b2⟩
        have ho2 := HO1.out.below b2
        have HB2 := Lib.hid (below_next HB1.out b2)
        have hz2 := HB2.out.size
        obtain ⟨g, cq, hv, hgb, hgl, _, _, hfr, hcells⟩ := HCELLS.out w2 ho2
        simp only [Value.slice.injEq, true_and] at hv
        obtain ⟨rfl, rfl⟩ := hv
        have hcm := HC0.out w2 g hcells
        have hf0 := hfr (m * 7)
        have HS := Lib.hid (HSET.out w2 g ho2)
        clear b2 ho2 hfr hcells
        go_wp2_with fail
        go_roundw
        case rel => exact ⟨k + 1, by omega, by simp, HB2.out.setCell (p := ⟨g, m * 7, none⟩) hgb _, by rw [HSN'.out]; exact HS.out⟩
        case measure => simp [RowKit.intOf]; omega
    · have g1 : decide ((k : Int) < (l.length : Int)) = false := by simp; omega
      have gn : decide (k < l.length) = false := by simp; omega
      obtain rfl : k = l.length := by omega
      have ho := HO.out
      rw [List.take_length] at ho
      have HO2 := Lib.hid ho
      clear ho
      go_wp2_with fail
      go_ret
      exact ⟨u3, rfl, HO2.out, HB.out⟩
end Go.Proofs.YtdolapobkhhanaaDoor
/-
  Layer 8 (cell): slices.Clone of cells, Mend.
-/
namespace Go.Proofs.YtdolapobkhhanaaDoor
open Go.RowKit Go.Lib KM

/-- A new block of no cells, as an empty row of the call's own. -/
theorem El.own_new0 {α : Type} (E : El α) (w : World) (base : Nat) (hbase : base ≤ w.heap.size) : E.Own (w.alloc (.cells #[] E.ty)) base (.slice (some ⟨w.heap.size, 0, none⟩) 0 0) [] := by
  refine ⟨by rw [E.cells_len], .inr ⟨w.heap.size, 0, #[], rfl, hbase, heap_alloc_new w _, Nat.le_refl _, by unfold maxLen; omega, by simp, by simp [El.cells]⟩⟩
/-- A new row of cells that reads so. -/
def CelsPost (w : World) (l : List Cel) (e : Ending) (w' : World) : Prop := ∃ v, e = .returned v ∧ celE.Own w' w.heap.size v l ∧ Below w.heap.size w w'

set_option maxRecDepth 100000 in
theorem clone_ok (w : World) (l : List Cel) (A : Option Addr) (c B : Nat) (hr : celE.Row w B A l) (hA : A = none → c = 0) (hB : B ≤ w.heap.size) (hl : l.length ≤ 1000) :
    Calls Tryd.prog 52 #[.slice A l.length c] w (CelsPost w l) := by
  rcases A with _ | a
  · have h0 : l = [] := by
      rcases l with _ | ⟨x, l⟩
      · rfl
      · obtain ⟨b, off, h, _⟩ := hr (by simp)
        cases h
    subst h0
    obtain rfl := hA rfl
    clear hr hA
    have hn : ∀ w, (binOp .eql 48 (.slice none 0 0) (.slice none 0 0)).run Tryd.prog w = .ok (.bool true) w := fun w => by
      rw [Lib.run_eql_slice_nil w 48 63 none 0 0 0 0 Tryd.underlying48]; rfl
    simp only [List.length_nil]
    go_enter Tryd.func52, Tryd.ntmps52
    go_wp2
    go_ret
    exact ⟨_, rfl, El.Own.nil _ _, Below.refl _ _⟩
  · have HR := Lib.hid hr
    clear hr hA
    have hn : ∀ w, (binOp .eql 48 (.slice (some a) l.length c) (.slice none 0 0)).run Tryd.prog w = .ok (.bool false) w := fun w => by
      rw [Lib.run_eql_slice_nil w 48 63 (some a) l.length c 0 0 Tryd.underlying48]; rfl
    go_enter Tryd.func52, Tryd.ntmps52
    go_wp2_with (at_builtin; refine celE.wp_append rfl (.tmp 5) (.tmp 6) rfl w.heap.size _ [] rfl (celE.own_new0 w w.heap.size (Nat.le_refl _)) _ l l.length c B rfl rfl (HR.out.below ((Below.refl B w).alloc hB _)) (by simp) ?c1 ?c2 (by simp) ?_)
    case c1 => simp [celE]; omega
    case c2 => simp [maxLen]; omega
    intro v1 w1 ho1 hg1
    have hbb : Below w.heap.size (w.alloc (.cells #[] 63)) w1 := (celE.own_new0 w w.heap.size (Nat.le_refl _)).grow_below hg1 (by simp)
    have HO := Lib.hid ho1
    have HB := Lib.hid (((Below.refl w.heap.size w).alloc (Nat.le_refl _) _).trans hbb)
    clear ho1 hg1 hbb
    go_wp2
    go_ret
    exact ⟨v1, rfl, HO.out, HB.out⟩

end Go.Proofs.YtdolapobkhhanaaDoor
/-
  Layer 8 (cell): spread, PutLine.
-/
namespace Go.Proofs.YtdolapobkhhanaaDoor
open Go.RowKit Go.Lib KM

/-- A run that lies in a block of its own. -/
def RunAt (w : World) (g : Nat) (x : Nat × Cel) : Prop := w.heap[g]? = some (.cells #[.int .i64 (x.1 : Int), .int .i32 x.2.rune, .bool x.2.sty.bold, .bool x.2.sty.under, .bool x.2.sty.turned, .int .i64 x.2.sty.fore, .int .i64 x.2.sty.back] 130 (0, 0))
theorem RunAt.cells {w : World} {g : Nat} {x : Nat × Cel} (h : RunAt w g x) : w.cell? ⟨g, 0, none⟩ = some (.int .i64 (x.1 : Int)) ∧ w.cell? ⟨g, 1, none⟩ = some (.int .i32 x.2.rune) ∧ w.cell? ⟨g, 2, none⟩ = some (.bool x.2.sty.bold) ∧ w.cell? ⟨g, 3, none⟩ = some (.bool x.2.sty.under) ∧
    w.cell? ⟨g, 4, none⟩ = some (.bool x.2.sty.turned) ∧ w.cell? ⟨g, 5, none⟩ = some (.int .i64 x.2.sty.fore) ∧ w.cell? ⟨g, 6, none⟩ = some (.int .i64 x.2.sty.back) := by
  unfold RunAt at h
  refine ⟨?_, ?_, ?_, ?_, ?_, ?_, ?_⟩ <;> simp [World.cell?, h]
theorem RunAt.below {w w' : World} {g B : Nat} {x : Nat × Cel} (h : RunAt w g x) (hb : Below B w w') (hg : g < B) : RunAt w' g x := (hb.block g hg).trans h
theorem RunAt.lt {w : World} {g : Nat} {x : Nat × Cel} (h : RunAt w g x) : g < w.heap.size := (Array.getElem?_eq_some_iff.1 h).1
theorem RunAt.grow {w w' : World} {g : Nat} {x : Nat × Cel} {v v' : Value} (h : RunAt w g x) (hg : Grow w w' v v') (hne : ∀ k, v.ownBlock = some k → k ≠ g) : RunAt w' g x :=
  (hg.grown.block g h.lt fun e => hne g e.symm rfl).trans h
theorem Grow.apart {w w' : World} {g : Nat} {v v' : Value} (hg : Grow w w' v v') (hl : g < w.heap.size) (hne : ∀ k, v.ownBlock = some k → k ≠ g) : ∀ k, v'.ownBlock = some k → k ≠ g := fun k hk => by
  rcases hg.place with e | e
  · exact hne k (e ▸ hk)
  · have := e k hk; omega

theorem spread_take (rs : List (Nat × Cel)) (m k : Nat) (hk : k < rs.length) : spread (rs.take (k + 1)) m = spread (rs.take k) m ++ List.replicate (min rs[k].1 m) rs[k].2 := by
  rw [List.take_succ_eq_append_getElem hk, spread_append, spread_one]
theorem spread_take_len (rs : List (Nat × Cel)) (m k : Nat) : (spread (rs.take k) m).length ≤ (spread rs m).length := by
  conv => rhs; rw [← List.take_append_drop k rs]
  rw [spread_append, List.length_append]
  omega

set_option maxRecDepth 100000 in
set_option maxHeartbeats 1000000 in
theorem spread_ok (w : World) (rs : List (Nat × Cel)) (A : Option Addr) (c B m : Nat) (hr : runE.Row w B A rs) (hB : B ≤ w.heap.size) (hl : rs.length ≤ 1000) (hs : (spread rs m).length ≤ 1000) :
    Calls Tryd.prog 68 #[.slice A rs.length c, .int .i64 (m : Int)] w (CelsPost w (spread rs m)) := by
  have HR := Lib.hid hr
  clear hr
  go_enter Tryd.func68, Tryd.ntmps68
  go_wp2
  go_loopw [5, 10] (fun v i wr => ∃ k : Nat, k ≤ rs.length ∧ i = .int .i64 (k : Int) ∧ Below w.heap.size w wr ∧ celE.Own wr w.heap.size v (spread (rs.take k) m)) (fun _ i _ => rs.length - (RowKit.intOf i).toNat)
  case atStart => exact ⟨0, Nat.zero_le _, rfl, Below.refl _ _, El.Own.nil _ _⟩
  case round =>
    obtain ⟨k, hk, rfl, hb, ho⟩ := hrel
    have HB := Lib.hid hb
    have HO := Lib.hid ho
    have hz := hb.size
    clear hb ho
    by_cases hlt : k < rs.length
    · have g1 : decide ((k : Int) < (rs.length : Int)) = true := by simp; omega
      have gn : decide (k < rs.length) = true := by simp; omega
      obtain ⟨b, off, rfl, hbl, c0, c1, c2, c3, c4, c5, c6⟩ := run_at (HR.out.below (HB.out.mono hB)) hlt
      have hst := spread_take rs m k hlt
      have hlen := spread_take_len rs m (k + 1)
      rw [hst, List.length_append, List.length_replicate] at hlen
      have HST := Lib.hid hst
      clear hst
      generalize rs[k] = x at *
      generalize spread (rs.take k) m = L at *
      obtain ⟨q, hq⟩ : ∃ q, q = min x.1 m := ⟨_, rfl⟩
      rw [← hq] at hlen HST
      have hmin : min (x.1 : Int) (m : Int) = (q : Int) := by rw [hq]; omega
      clear hq
      obtain ⟨w1, hw1⟩ : ∃ w1, w1 = wr.alloc (.cells #[.int .i64 (x.1 : Int), .int .i32 x.2.rune, .bool x.2.sty.bold, .bool x.2.sty.under, .bool x.2.sty.turned, .int .i64 x.2.sty.fore, .int .i64 x.2.sty.back] 130) := ⟨_, rfl⟩
      have hb1 : Below wr.heap.size wr w1 := by rw [hw1]; exact (Below.refl _ _).alloc (Nat.le_refl _) _
      have hc1 : RunAt w1 wr.heap.size x := by rw [hw1]; exact heap_alloc_new wr _
      have ho1 := HO.out.below hb1
      have HNE := Lib.hid (show ∀ k, u5.ownBlock = some k → k ≠ wr.heap.size from fun k hk => by have := (HO.out.lt k hk).2; omega)
      have HB1 := Lib.hid (below_next HB.out hb1)
      have HC1 := Lib.hid hc1
      have HO1 := Lib.hid ho1
      have W1 := Lib.hid hw1
      have hz1 := hb1.size
      obtain ⟨d0, d1, d2, d3, d4, d5, d6⟩ := hc1.cells
      clear hw1 hb1 hc1 ho1
      obtain ⟨n, ⟨r, ⟨bo, u, t, f, ba⟩⟩⟩ := x
      simp only at *
      go_upto_region 5 with fail
      rw [← W1.out]
      go_wp2
      go_loopw [5, 18] (fun v i wi => ∃ j : Nat, j ≤ q ∧ i = .int .i64 (j : Int) ∧ Below w.heap.size w wi ∧ celE.Own wi w.heap.size v (L ++ List.replicate j ⟨r, ⟨bo, u, t, f, ba⟩⟩) ∧ RunAt wi wr.heap.size (n, ⟨r, ⟨bo, u, t, f, ba⟩⟩) ∧ ∀ k, v.ownBlock = some k → k ≠ wr.heap.size) (fun _ i _ => q - (RowKit.intOf i).toNat)
      case atStart => exact ⟨0, Nat.zero_le _, rfl, HB1.out, by simpa using HO1.out, HC1.out, HNE.out⟩
      case round =>
        obtain ⟨j, hj, rfl, hbi, hoi, hci, hni⟩ := hrel
        have HBI := Lib.hid hbi
        have HOI := Lib.hid hoi
        have HCI := Lib.hid hci
        have HNI := Lib.hid hni
        have hzi := hbi.size
        obtain ⟨e0, e1, e2, e3, e4, e5, e6⟩ := hci.cells
        simp only at e0 e1 e2 e3 e4 e5 e6
        clear hbi hoi hci hni d0 d1 d2 d3 d4 d5 d6 c0 c1 c2 c3 c4 c5 c6
        by_cases hjq : j < q
        · have g2 : decide ((j : Int) < (q : Int)) = true := by simp; omega
          have g2n : decide (j < q) = true := by simp; omega
          go_wp2_with (at_builtin; refine celE.wp_append1 rfl (.tmp 20) (.tmp 23) rfl w.heap.size _ (L ++ List.replicate j ⟨r, ⟨bo, u, t, f, ba⟩⟩) rfl HOI.out ⟨r, ⟨bo, u, t, f, ba⟩⟩ #[.int .i32 r, .bool bo, .bool u, .bool t, .int .i64 f, .int .i64 ba] 63 rfl rfl ?c1 ?c2 hzi ?_)
          case c1 => simp only [celE, List.length_append, List.length_replicate]; omega
          case c2 => unfold maxLen; simp only [List.length_append, List.length_replicate]; omega
          intro v3 w3 o3 g3
          have HO3 := Lib.hid o3
          have HB3 := Lib.hid (HBI.out.trans (HOI.out.grow_below g3 hzi))
          have HC3 := Lib.hid (HCI.out.grow g3 HNI.out)
          have HN3 := Lib.hid (g3.apart HCI.out.lt HNI.out)
          clear o3 g3
          go_wp2_with fail
          go_roundw
          case rel => exact ⟨j + 1, by omega, by simp, HB3.out, by rw [List.replicate_succ']; simpa using HO3.out, HC3.out, HN3.out⟩
          case measure => simp [RowKit.intOf]; omega
        · have g2 : decide ((j : Int) < (q : Int)) = false := by simp; omega
          have g2n : decide (j < q) = false := by simp; omega
          obtain rfl : j = q := by omega
          go_wp2_with fail
          go_roundw
          case rel => exact ⟨k + 1, by omega, by simp, HBI.out, by rw [HST.out]; exact HOI.out⟩
          case measure => simp [RowKit.intOf]; omega
    · have g1 : decide ((k : Int) < (rs.length : Int)) = false := by simp; omega
      have gn : decide (k < rs.length) = false := by simp; omega
      obtain rfl : k = rs.length := by omega
      have ho := HO.out
      rw [List.take_length] at ho
      have HO2 := Lib.hid ho
      clear ho
      go_wp2_with fail
      go_ret
      exact ⟨u5, rfl, HO2.out, HB.out⟩
/-! ### PutLine -/
theorem Grow.ne {w w' : World} {u v v' : Value} (hg : Grow w w' v v') (hl : ∀ k, u.ownBlock = some k → k < w.heap.size) (hne : ∀ k, u.ownBlock = some k → v.ownBlock ≠ some k) : ∀ k, u.ownBlock = some k → v'.ownBlock ≠ some k := fun k hk => by
  rcases hg.place with e | e
  · rw [e]; exact hne k hk
  · intro h; have := e k h; have := hl k hk; omega
theorem Own.grow_below {w w' : World} {base : Nat} {v v' : Value} {l : List Nat} (ho : Own w base v l) (h : Grow w w' v v') (hb : base ≤ w.heap.size) : Below base w w' :=
  (Below.refl base w).grown h.grown hb fun k hk => ho.lt k hk
theorem Own.lt2 {w : World} {base : Nat} {v : Value} {l : List Nat} (h : Own w base v l) : ∀ k, v.ownBlock = some k → k < w.heap.size := fun k hk => (World.ownsRow.lt h k hk).2
theorem runsB_take (rs : List (Nat × Cel)) (k : Nat) (hk : k < rs.length) : runsB (rs.take (k + 1)) = runsB (rs.take k) ++ runB rs[k] := by
  rw [List.take_succ_eq_append_getElem hk, runsB_append, runsB_one]
theorem runsB_take_len (rs : List (Nat × Cel)) (hf : ∀ x ∈ rs, Fine x) (k : Nat) : (runsB (rs.take k)).length ≤ 30 * rs.length := by
  have := runsB_len (rs.take k) fun x hx => hf x (List.mem_of_mem_take hx)
  rw [List.length_take] at this
  omega
/-- What PutLine answers. -/
def LinePost (w : World) (base : Nat) (xs : List Nat) (e : Ending) (w' : World) : Prop := ∃ v', e = .returned v' ∧ Own w' base v' xs ∧ Below base w w'

set_option maxRecDepth 100000 in
set_option maxHeartbeats 1000000 in
theorem putLine_ok (w : World) (v : Value) (xs : List Nat) (base : Nat) (l : List Cel) (A : Option Addr) (c B : Nat) (hown : Own w base v xs) (hbase : base ≤ w.heap.size) (hxs : xs.length ≤ 50000000) (hr : celE.Row w B A l) (hB : B ≤ w.heap.size) (hl : l.length ≤ 1000) (hf : ∀ x ∈ runs l, Fine x) :
    Calls Tryd.prog 61 #[v, .slice A l.length c] w (LinePost w base (xs ++ runsB (runs l))) := by
  have HF := Lib.hid hf
  have HRO := Lib.hid (runsOf_ok w l A c B hr hB hl)
  have hrl := runs_len l
  have HLE := Lib.hid (runsB_take_len (runs l) hf)
  have HOW := Lib.hid hown
  clear hr hf hown
  generalize runs l = rs at *
  go_enter Tryd.func61, Tryd.ntmps61
  go_wp2_with fail
  refine HRO.out.mono ?_
  rintro e w1 ⟨uv, rfl, o1, b1⟩
  have HB1 := Lib.hid b1
  have z1 := b1.size
  have HV1 := Lib.hid (HOW.out.below b1)
  have HNE := Lib.hid (show ∀ k, uv.ownBlock = some k → v.ownBlock ≠ some k from fun k hk e => by have h1 := (o1.lt k hk).1; have h2 := HOW.out.lt2 k e; omega)
  obtain ⟨A1, c1, rfl, hc1, _, hA1, _⟩ := o1.row
  have HO1 := Lib.hid o1
  clear b1 o1
  go_wp2
  go_loopw [0, 10] (fun x i wr => ∃ k : Nat, k ≤ rs.length ∧ i = .int .i64 (k : Int) ∧ Below base w wr ∧ w1.heap.size ≤ wr.heap.size ∧ Own wr base x (xs ++ runsB (rs.take k)) ∧ runE.Own wr w.heap.size (.slice A1 rs.length c1) rs ∧ ∀ k, (Value.slice A1 rs.length c1).ownBlock = some k → x.ownBlock ≠ some k) (fun _ i _ => rs.length - (RowKit.intOf i).toNat)
  case atStart => exact ⟨0, Nat.zero_le _, rfl, HB1.out.mono hbase, Nat.le_refl _, by simpa [runsB] using HV1.out, HO1.out, HNE.out⟩
  case round =>
    obtain ⟨k, hk, rfl, hb, hzz, hx, ho, hne⟩ := hrel
    have HB := Lib.hid hb
    have HX := Lib.hid hx
    have HO := Lib.hid ho
    have HN := Lib.hid hne
    have hz := hb.size
    clear hb hx ho hne
    by_cases hlt : k < rs.length
    · have g1 : decide ((k : Int) < (rs.length : Int)) = true := by simp; omega
      have gn : decide (k < rs.length) = true := by simp; omega
      have hplace := HO.out.place (by omega)
      obtain ⟨g, cq, hv, hgb, hgl, _, _, hfr, hcells⟩ := hplace
      simp only [Value.slice.injEq, true_and] at hv
      obtain ⟨rfl, rfl⟩ := hv
      have c0 : wr.cell? ⟨g, k * 7, none⟩ = some (.int .i64 (rs[k].1 : Int)) := hcells k hlt 0 (by decide)
      have c1' : wr.cell? ⟨g, k * 7 + 1, none⟩ = some (.int .i32 rs[k].2.rune) := hcells k hlt 1 (by decide)
      have c2 : wr.cell? ⟨g, k * 7 + 2, none⟩ = some (.bool rs[k].2.sty.bold) := hcells k hlt 2 (by decide)
      have c3 : wr.cell? ⟨g, k * 7 + 3, none⟩ = some (.bool rs[k].2.sty.under) := hcells k hlt 3 (by decide)
      have c4 : wr.cell? ⟨g, k * 7 + 4, none⟩ = some (.bool rs[k].2.sty.turned) := hcells k hlt 4 (by decide)
      have c5 : wr.cell? ⟨g, k * 7 + 5, none⟩ = some (.int .i64 rs[k].2.sty.fore) := hcells k hlt 5 (by decide)
      have c6 : wr.cell? ⟨g, k * 7 + 6, none⟩ = some (.int .i64 rs[k].2.sty.back) := hcells k hlt 6 (by decide)
      clear hfr hcells
      have hfx := HF.out rs[k] (List.getElem_mem hlt)
      have HST := Lib.hid (runsB_take rs k hlt)
      have hlen := HLE.out k
      generalize rs[k] = x at *
      generalize runsB (rs.take k) = L at *
      obtain ⟨w2, hw2⟩ : ∃ w2, w2 = wr.alloc (.cells #[.int .i64 (x.1 : Int), .int .i32 x.2.rune, .bool x.2.sty.bold, .bool x.2.sty.under, .bool x.2.sty.turned, .int .i64 x.2.sty.fore, .int .i64 x.2.sty.back] 130) := ⟨_, rfl⟩
      have b2 : Below wr.heap.size wr w2 := by rw [hw2]; exact (Below.refl _ _).alloc (Nat.le_refl _) _
      have hc2 : RunAt w2 wr.heap.size x := by rw [hw2]; exact heap_alloc_new wr _
      have HX2 := Lib.hid (HX.out.below b2)
      have HN2 := Lib.hid (show ∀ k, u0.ownBlock = some k → k ≠ wr.heap.size from fun k hk => by have := HX.out.lt2 k hk; omega)
      have HB2 := Lib.hid (HB.out.trans (b2.mono (Nat.le_trans hbase hz)))
      have HO2 := Lib.hid (HO.out.below b2)
      have HC2 := Lib.hid hc2
      have W2 := Lib.hid hw2
      have z2 := b2.size
      obtain ⟨d0, d1, d2, d3, d4, d5, d6⟩ := hc2.cells
      clear hw2 b2 hc2
      obtain ⟨n, ⟨r, ⟨bo, u, t, f, ba⟩⟩⟩ := x
      obtain ⟨f1, f2, f3, f4, f5⟩ := hfx
      simp only at *
      obtain ⟨r, rfl⟩ := Int.eq_ofNat_of_zero_le f3
      have hr' : r < 1114112 := by omega
      have HFS := Lib.hid f5
      clear f3 f4 f5
      go_upto_region 4 with fail
      rw [← W2.out]
      go_wp2_with fail
      refine (put_two_grow u0 (xs ++ L) n r w2 base (by omega) (by omega) (by rw [List.length_append]; omega) HX2.out (by omega)).mono ?_
      rintro e w3 ⟨v3, rfl, o3, g3⟩
      have HX3 := Lib.hid o3
      have HC3 := Lib.hid (HC2.out.grow g3 HN2.out)
      have HB3 := Lib.hid (HB2.out.trans (HX2.out.grow_below g3 (by omega)))
      have HO3 := Lib.hid (HO2.out.grown g3.grown (fun k hk => HN.out k hk))
      have HN3 := Lib.hid (g3.ne (fun k hk => (HO2.out.lt k hk).2) HN.out)
      have z3 := g3.grown.size
      clear o3 g3 d0 d1 d2 d3 d4 d5 d6
      obtain ⟨d0, d1, d2, d3, d4, d5, d6⟩ := HC3.out.cells
      simp only at d0 d1 d2 d3 d4 d5 d6
      have hl1 := VM.enc_len64 (n := n) (by omega)
      have hl2 := VM.enc_len64 (n := r) (by omega)
      go_wp2_with fail
      refine (putStyle_ok v3 (xs ++ L ++ (VM.enc n ++ VM.enc r)) ⟨bo, u, t, f, ba⟩ w3 base HFS.out (by simp only [List.length_append]; omega) HX3.out (by omega)).mono ?_
      rintro e w4 ⟨v4, rfl, o4, g4⟩
      have HX4 := Lib.hid o4
      have HB4 := Lib.hid (HB3.out.trans (HX3.out.grow_below g4 (by omega)))
      have HO4 := Lib.hid (HO3.out.grown g4.grown (fun k hk => HN3.out k hk))
      have HN4 := Lib.hid (g4.ne (fun k hk => (HO3.out.lt k hk).2) HN3.out)
      have z4 := g4.grown.size
      clear o4 g4
      go_wp2_with fail
      go_roundw
      case rel => exact ⟨k + 1, by omega, by simp, HB4.out, by omega, by rw [HST.out]; simpa [runB] using HX4.out, HO4.out, HN4.out⟩
      case measure => simp [RowKit.intOf]; omega
    · have g1 : decide ((k : Int) < (rs.length : Int)) = false := by simp; omega
      have gn : decide (k < rs.length) = false := by simp; omega
      obtain rfl : k = rs.length := by omega
      have ho := HX.out
      rw [List.take_length] at ho
      have HX2 := Lib.hid ho
      clear ho
      go_wp2_with fail
      go_ret
      exact ⟨u0, rfl, HX2.out, HB.out⟩
end Go.Proofs.YtdolapobkhhanaaDoor
