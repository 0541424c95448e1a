/-
  SAnyA, SAnyB, SCond, in one text.
-/
import Derived.Test.YtdolapobkhhanaaDoorM17
import Derived.Test.YtdolapobkhhanaaDoorM16
import Derived.Test.YtdolapobkhhanaaDoorM15
import Derived.Test.YtdolapobkhhanaaDoorM04
import Derived.Test.YtdolapobkhhanaaDoorM11
import Derived.Deep.RegionHeld3
import Derived.BigQuiet
import Derived.Deep.Quiet
import Derived.Test.YtdolapobkhhanaaDoorM07
import Derived.Test.YtdolapobkhhanaaDoorM01
import Derived.LaidMore
import Derived.MakeChecks
import Derived.ProofKit
import Derived.Lib.LaidU8T
/-
  StateAny: what its walk builds and asks (three cursors in a row; a terminal's cells in every world that grew).
-/
namespace Go.Proofs.YtdolapobkhhanaaDoor
open Go.RowKit Go.Lib KM
set_option maxRecDepth 100000

/-- The cells of three cursors. -/
def cur8 (c : Cur) : List Value := [.int .i64 (c.x : Int), .int .i64 (c.y : Int), .bool c.late, .bool c.sty.bold, .bool c.sty.under, .bool c.sty.turned, .int .i64 c.sty.fore, .int .i64 c.sty.back]
def cur24 (a b c : Cur) : Array Value := #[.int .i64 (a.x : Int), .int .i64 (a.y : Int), .bool a.late, .bool a.sty.bold, .bool a.sty.under, .bool a.sty.turned, .int .i64 a.sty.fore, .int .i64 a.sty.back,
  .int .i64 (b.x : Int), .int .i64 (b.y : Int), .bool b.late, .bool b.sty.bold, .bool b.sty.under, .bool b.sty.turned, .int .i64 b.sty.fore, .int .i64 b.sty.back,
  .int .i64 (c.x : Int), .int .i64 (c.y : Int), .bool c.late, .bool c.sty.bold, .bool c.sty.under, .bool c.sty.turned, .int .i64 c.sty.fore, .int .i64 c.sty.back]
theorem run_three (w : World) (a b c : Cur) : (Instr.buildSlice 46 3 #[(0, curV a), (1, curV b), (2, curV c)]).run Tryd.prog w = .ok (.slice (some ⟨w.heap.size, 0, none⟩) 3 3) (w.alloc (.cells (cur24 a b c) 32)) := by kernel_rfl
theorem wp_build3 {o : Oper} {a : Act} {w : World} {K : Act → World → Prop} {Q : Exit → Act → World → Prop} (i0 i1 i2 : Nat) (ho : o.op = .buildSlice 46 3 #[(0, .tmp i0), (1, .tmp i1), (2, .tmp i2)])
    (x0 x1 x2 : Cur) (h0 : a.eval (.tmp i0) = curV x0) (h1 : a.eval (.tmp i1) = curV x1) (h2 : a.eval (.tmp i2) = curV x2)
    (h : K (a.put o.dst (.slice (some ⟨w.heap.size, 0, none⟩) 3 3)) (w.alloc (.cells (cur24 x0 x1 x2) 32))) : o.wp Tryd.prog a w K Q := by
  unfold Oper.wp execOp
  simp only [ho, Sem.run_bind, List.map_toArray, List.map_cons, List.map_nil, h0, h1, h2, run_three w x0 x1 x2, Result.andThen_ok]
  exact h
/-- The cells of the k-th. -/
theorem cur24_at (a b c d : Cur) (k : Nat) (hk : k < 3) (hd : d = [a, b, c].getD k zcur) (w : World) (g : Nat) (h : w.heap[g]? = some (.cells (cur24 a b c) 32 (0, 0))) (j : Nat) (hj : j < 8) : w.cell? ⟨g, 8 * k + j, none⟩ = some (curAt d j) := by
  subst hd
  have : w.cell? ⟨g, 8 * k + j, none⟩ = (cur24 a b c)[8 * k + j]? := by simp [World.cell?, h]
  rw [this]
  rcases (by omega : k = 0 ∨ k = 1 ∨ k = 2) with rfl | rfl | rfl <;>
    rcases (by omega : j = 0 ∨ j = 1 ∨ j = 2 ∨ j = 3 ∨ j = 4 ∨ j = 5 ∨ j = 6 ∨ j = 7) with rfl | rfl | rfl | rfl | rfl | rfl | rfl | rfl <;> rfl

/-- A terminal's cells, wherever its world has grown to. -/
structure TmC (p gp op : Nat) (b0 c0 b1 c1 : Nat) (t : Tm) (w : World) : Prop where
  pg : w.cell? ⟨p, 0, none⟩ = some (.pointer (some ⟨gp, 0, none⟩))
  po : w.cell? ⟨p, 1, none⟩ = some (.pointer (some ⟨op, 0, none⟩))
  gw : w.cell? ⟨gp, 0, none⟩ = some (.int .i64 (t.w : Int))
  gh : w.cell? ⟨gp, 1, none⟩ = some (.int .i64 (t.h : Int))
  gl : w.cell? ⟨gp, 2, none⟩ = some (.slice (some ⟨b0, 0, none⟩) t.h c0)
  ol : w.cell? ⟨op, 2, none⟩ = some (.slice (some ⟨b1, 0, none⟩) t.h c1)
theorem tmC {w0 : World} {p gp op : Nat} {F O : List Nat} {BA : Option Addr} {bc : Nat} {PA : Option Addr} {pc : Nat} {t : Tm} (h : TmA w0 p gp op F O BA bc PA pc t) (hok : TmOk t) :
    ∃ b0 c0 b1 c1 N0 N1, LinesAt w0 N0 (some ⟨b0, 0, none⟩) t.ls ∧ LinesAt w0 N1 (some ⟨b1, 0, none⟩) t.os ∧ ∀ w, Below w0.heap.size w0 w → TmC p gp op b0 c0 b1 c1 t w := by
  obtain ⟨b0, c0, L0, hg, rfl⟩ := h.tb.shown
  obtain ⟨b1, c1, L1, ho, rfl⟩ := h.tb.other
  refine ⟨b0, c0, b1, c1, _, _, hg.linesAt, ho.linesAt, fun w hb => ?_⟩
  have hg' := hg.below hb
  have ho' := ho.below hb
  have hc := h.tb.cells.below hb h.tb.cells.lt
  refine ⟨hc.cell (i := 0) (by omega), hc.cell (i := 1) (by omega), hg'.cell0, hg'.cell1, ?_, ?_⟩
  · have := hg'.cell2
    rwa [show L0.length = t.h from hg.len.trans hok.ls.1] at this
  · have := ho'.cell2
    rwa [show L1.length = t.h from ho.len.trans hok.os.1] at this
end Go.Proofs.YtdolapobkhhanaaDoor
/-
  StateAny: the walk.
-/
namespace Go.Proofs.YtdolapobkhhanaaDoor.stateAny
open Go.RowKit Go.Lib KM
set_option maxRecDepth 100000

theorem tmA_below {w v : World} {p gp op : Nat} {F O : List Nat} {BA : Option Addr} {bc : Nat} {PA : Option Addr} {pc : Nat} {t : Tm} (h : TmA w p gp op F O BA bc PA pc t) (hb : Below w.heap.size w v) : TmA v p gp op F O BA bc PA pc t :=
  ⟨⟨h.tb.cells.below hb h.tb.cells.lt, h.tb.shown.below hb, h.tb.other.below hb, h.tb.apart⟩, h.bk.below hb, (h.pr.below hb).mono hb.size⟩
/-- A cursor's eight cells. -/
structure At8 (w : World) (p o : Nat) (c : Cur) : Prop where
  d0 : w.cell? ⟨p, o, none⟩ = some (.int .i64 (c.x : Int))
  d1 : w.cell? ⟨p, o + 1, none⟩ = some (.int .i64 (c.y : Int))
  d2 : w.cell? ⟨p, o + 2, none⟩ = some (.bool c.late)
  d3 : w.cell? ⟨p, o + 3, none⟩ = some (.bool c.sty.bold)
  d4 : w.cell? ⟨p, o + 4, none⟩ = some (.bool c.sty.under)
  d5 : w.cell? ⟨p, o + 5, none⟩ = some (.bool c.sty.turned)
  d6 : w.cell? ⟨p, o + 6, none⟩ = some (.int .i64 c.sty.fore)
  d7 : w.cell? ⟨p, o + 7, none⟩ = some (.int .i64 c.sty.back)
theorem at8_of {w : World} {p o : Nat} {c : Cur} (h : ∀ j, j < 8 → w.cell? ⟨p, o + j, none⟩ = some (curAt c j)) : At8 w p o c :=
  ⟨h 0 (by omega), h 1 (by omega), h 2 (by omega), h 3 (by omega), h 4 (by omega), h 5 (by omega), h 6 (by omega), h 7 (by omega)⟩
theorem at8_tm {w : World} {p gp op : Nat} {F O : List Nat} {BA : Option Addr} {bc : Nat} {PA : Option Addr} {pc : Nat} {t : Tm} (h : TmA w p gp op F O BA bc PA pc t) {v : World} (hv : Below w.heap.size w v) (k : Nat) (hk : k < 3) : At8 v p (2 + 8 * k) (t.cs.getD k zcur) :=
  at8_of fun j hj => ((h.tb.cells.below hv h.tb.cells.lt).cell (i := 2 + 8 * k + j) (by omega)).trans (congrArg some (tm_cs t gp op _ PA pc k j hk hj))
/-- A world of which S holds. -/
structure Wd (S : World → Prop) where
  w : World
  h : S w
/-- The first n steps of the order of the text, from k on. -/
def lexSteps (md : Region.Mode) (ops : Array Oper) : Nat → Nat → Array Bool → Bool
  | 0, _, _ => true
  | n + 1, k, listed => (Region.ready md ops listed).contains k && Region.free md ops listed k && lexSteps md ops n (k + 1) (listed.setIfInBounds k true)
def mark : Nat → Nat → Array Bool → Array Bool
  | 0, _, l => l
  | n + 1, k, l => mark n (k + 1) (l.setIfInBounds k true)
theorem lex_more {md : Region.Mode} {ops : Array Oper} (n : Nat) : ∀ (k m : Nat) (listed : Array Bool), lexSteps md ops n k listed = true → Region.lexFrom md ops m (k + n) (mark n k listed) = true → Region.lexFrom md ops (m + n) k listed = true := by
  induction n with
  | zero => intro k m l _ h; exact h
  | succ n ih =>
    intro k m l h1 h2
    simp only [lexSteps, Bool.and_eq_true] at h1
    show Region.lexFrom md ops ((m + n) + 1) k l = true
    simp only [Region.lexFrom, Bool.and_eq_true]
    refine ⟨h1.1, ih (k + 1) m _ h1.2 ?_⟩
    rw [show k + 1 + n = k + (n + 1) by omega]
    exact h2
theorem region_in {P : Program} {id : Nat} {Q : Exit → Act → World → Prop} {a : Act} {w : World} {l : List Oper} (S : World → Prop) (hm : P.follows .mixedOrders = true) (hB : Region.lexB .any l.toArray = true) (hS : S w.drew)
    (h : wpQuiet P l.toArray (fun v => ∃ u : Wd S, v = u.w) (fun a' => ∀ w', (∃ u : Wd S, w' = u.w) → Q .normal a' w') l a) : (Code.region id l.toArray true).wp P Q a w :=
  wp_region_quiet (C := fun v => ∃ u : Wd S, v = u.w) hm hB ⟨⟨_, hS⟩, rfl⟩ (by simpa using h)

set_option maxHeartbeats 16000000 in
theorem core (A : Option Addr) (c : Nat) (l : List Nat) (w : World) (hlc : l.length ≤ c) (hA : A = none → c = 0) (hr : Row w w.heap.size .u8 A l) (hl : l.length ≤ 100000000000) (hby : ∀ x ∈ l, x < 256) (hT : Tabs w) (hU : Utf w) :
    Calls Tryd.prog 3 #[.slice A l.length c] w fun e w' => e = .returned (.bool true) ∧ Below w.heap.size w w' := by
  have hroom := hT.room
  have HT := Lib.hid hT
  have HU := Lib.hid hU
  have HR := Lib.hid hr
  have HA := Lib.hid hA
  have HBY := Lib.hid hby
  have HF := Lib.hid (sfit_ok w hT hU)
  clear hT hU hr hA hby
  by_cases h3 : 3000 < l.length
  · have g : decide ((3000 : Int) < (l.length : Int)) = true := by simp; omega
    go_enter Tryd.func3, Tryd.ntmps3
    go_wp2_with fail
    refine HF.out.mono ?_
    rintro e w1 ⟨rfl, b1⟩
    have HB1 := Lib.hid b1
    clear b1
    go_wp2_with fail
    go_ret
    exact ⟨rfl, HB1.out⟩
  · have g : decide ((3000 : Int) < (l.length : Int)) = false := by simp; omega
    obtain ⟨D, hD⟩ : ∃ D, D = decT l := ⟨_, rfl⟩
    have HDO := Lib.hid (fun t (h : D = some t) => decT_ok HBY.out (hD.symm.trans h))
    have HDW := Lib.hid hD
    clear hD
    go_enter Tryd.func3, Tryd.ntmps3
    go_wp2_with fail
    refine HF.out.mono ?_
    rintro e w1 ⟨rfl, b1⟩
    have z1 := b1.size
    have HB1 := Lib.hid b1
    have HDC := Lib.hid (decode_ok w1 A l c w.heap.size (HR.out.below b1) HA.out hl HBY.out (HT.out.on b1 hroom) (HU.out.on b1 (by omega)))
    rw [← HDW.out] at HDC
    clear b1 HF HDW
    go_wp2_with fail
    refine HDC.out.mono ?_
    rintro e w2 ⟨hb2, ⟨hn, rfl⟩ | ⟨t, p, gp, op, F, O, BA, bc, PA, pc, ht, rfl, hA2⟩⟩
    · have HB2 := Lib.hid (HB1.out.trans (hb2.mono z1))
      clear hb2 hn HDO
      go_wp2_with fail
      go_ret
      exact ⟨rfl, HB2.out⟩
    · obtain ⟨hok, hrp, hle⟩ := HDO.out t ht
      subst hle
      have HOK := Lib.hid hok
      have z2 := hb2.size
      have HB2 := Lib.hid (HB1.out.trans (hb2.mono z1))
      have HT2 := Lib.hid (HT.out.on HB2.out hroom)
      have HU2 := Lib.hid (HU.out.on HB2.out (by omega))
      have HTA := Lib.hid hA2
      obtain ⟨b0, c0, b1, c1, N0, N1, hl0, hl1, htc⟩ := tmC hA2 hok
      have HL0 := Lib.hid hl0
      have HL1 := Lib.hid hl1
      have HTC := Lib.hid htc
      have e0 : ∀ u : Wd (Below w2.heap.size w2), u.w.cell? ⟨p, 0, none⟩ = some (.pointer (some ⟨gp, 0, none⟩)) := fun u => (htc u.w u.h).pg
      have e1 : ∀ u : Wd (Below w2.heap.size w2), u.w.cell? ⟨p, 1, none⟩ = some (.pointer (some ⟨op, 0, none⟩)) := fun u => (htc u.w u.h).po
      have e2 : ∀ u : Wd (Below w2.heap.size w2), u.w.cell? ⟨gp, 0, none⟩ = some (.int .i64 (t.w : Int)) := fun u => (htc u.w u.h).gw
      have e3 : ∀ u : Wd (Below w2.heap.size w2), u.w.cell? ⟨gp, 1, none⟩ = some (.int .i64 (t.h : Int)) := fun u => (htc u.w u.h).gh
      have e4 : ∀ u : Wd (Below w2.heap.size w2), u.w.cell? ⟨gp, 2, none⟩ = some (.slice (some ⟨b0, 0, none⟩) t.h c0) := fun u => (htc u.w u.h).gl
      have e5 : ∀ u : Wd (Below w2.heap.size w2), u.w.cell? ⟨op, 2, none⟩ = some (.slice (some ⟨b1, 0, none⟩) t.h c1) := fun u => (htc u.w u.h).ol
      have hcs := fun (u : Wd (Below w2.heap.size w2)) => hA2.tb.cells.below u.h hA2.tb.cells.lt
      have y0 : ∀ u : Wd (Below w2.heap.size w2), u.w.cell? ⟨p, 26, none⟩ = some (.int .i64 (t.top : Int)) := fun u => (hcs u).cell (i := 26) (by omega)
      have y1 : ∀ u : Wd (Below w2.heap.size w2), u.w.cell? ⟨p, 27, none⟩ = some (.int .i64 (t.en : Int)) := fun u => (hcs u).cell (i := 27) (by omega)
      have x0 : ∀ u : Wd (Below w2.heap.size w2), u.w.cell? ⟨p, 98, none⟩ = some (.int .i64 (t.p.st : Int)) := fun u => (hcs u).cell (i := 98) (by omega)
      have x1 : ∀ u : Wd (Below w2.heap.size w2), u.w.cell? ⟨p, 99, none⟩ = some (.int .u8 ((nat8 t.p.u).getD 0 0 : Nat)) := fun u => (hcs u).cell (i := 99) (by omega)
      have x2 : ∀ u : Wd (Below w2.heap.size w2), u.w.cell? ⟨p, 100, none⟩ = some (.int .u8 ((nat8 t.p.u).getD 1 0 : Nat)) := fun u => (hcs u).cell (i := 100) (by omega)
      have x3 : ∀ u : Wd (Below w2.heap.size w2), u.w.cell? ⟨p, 101, none⟩ = some (.int .u8 ((nat8 t.p.u).getD 2 0 : Nat)) := fun u => (hcs u).cell (i := 101) (by omega)
      have x4 : ∀ u : Wd (Below w2.heap.size w2), u.w.cell? ⟨p, 102, none⟩ = some (.int .i64 (t.p.u.length : Int)) := fun u => (hcs u).cell (i := 102) (by omega)
      have x5 : ∀ u : Wd (Below w2.heap.size w2), u.w.cell? ⟨p, 103, none⟩ = some (.string (str t.p.marks)) := fun u => (hcs u).cell (i := 103) (by omega)
      have x6 : ∀ u : Wd (Below w2.heap.size w2), u.w.cell? ⟨p, 104, none⟩ = some (.slice PA t.p.params.length pc) := fun u => (hcs u).cell (i := 104) (by omega)
      have x7 : ∀ u : Wd (Below w2.heap.size w2), u.w.cell? ⟨p, 105, none⟩ = some (.string (str t.p.text)) := fun u => (hcs u).cell (i := 105) (by omega)
      have x8 : ∀ u : Wd (Below w2.heap.size w2), u.w.cell? ⟨p, 106, none⟩ = some (.int .i64 (t.p.wi : Int)) := fun u => (hcs u).cell (i := 106) (by omega)
      have HP := Lib.hid (fun (u : Wd (Below w2.heap.size w2)) => (show Calls Tryd.prog 6 #[parV t.p PA pc] u.w fun e w' => e = .returned (.bool true) ∧ ∃ u' : Wd (Below w2.heap.size w2), w' = u'.w from
        (pright_ok u.w (HU2.out.on u.h (by omega)) t.p hok.p PA pc w2.heap.size (hA2.pr.below u.h) u.h.size).mono fun e w' h => ⟨by rw [h.1, hrp], ⟨⟨w', below_next u.h h.2⟩, rfl⟩⟩))
      unfold parV at HP
      have hWH := hok.w
      have hHH := hok.h
      have hTE := hok.te
      clear hcs hA2 hok hrp htc hl0 hl1 hb2 HDO ht HBY
      generalize (nat8 t.p.u).getD 0 0 = u0 at *
      generalize (nat8 t.p.u).getD 1 0 = u1 at *
      generalize (nat8 t.p.u).getD 2 0 = u2 at *
      have g1 : decide ((t.w : Int) < 1) = false := by simp; omega
      have g2 : decide ((60 : Int) < (t.w : Int)) = false := by simp; omega
      have g3 : decide ((t.h : Int) < 1) = false := by simp; omega
      have g4 : decide ((60 : Int) < (t.h : Int)) = false := by simp; omega
      have g5 : decide ((t.top : Int) < 0) = false := by simp
      have g6 : decide ((t.en : Int) ≤ (t.top : Int)) = false := by simp; omega
      have g7 : decide ((t.h : Int) < (t.en : Int)) = false := by simp; omega
      have k1 : decide (t.w < 1) = false := by simp; omega
      have k2 : decide (60 < t.w) = false := by simp; omega
      have k3 : decide (t.h < 1) = false := by simp; omega
      have k4 : decide (60 < t.h) = false := by simp; omega
      have k6 : decide (t.en ≤ t.top) = false := by simp; omega
      have k7 : decide (t.h < t.en) = false := by simp; omega
      have HCR := Lib.hid (fun (v : World) (hv : Below w2.heap.size w2 v) => And.intro (at8_tm HTA.out hv 0 (by omega)) (And.intro (at8_tm HTA.out hv 1 (by omega)) (at8_tm HTA.out hv 2 (by omega))))
      simp only [Nat.mul_zero, Nat.mul_one, Nat.add_zero, show 8 * 2 = 16 from rfl, Nat.reduceAdd] at HCR
      have HI := Lib.hid (And.intro hWH (And.intro hHH hTE))
      clear hWH hHH hTE
      haveI : Nonempty (Wd (Below w2.heap.size w2)) := ⟨⟨w2, Below.refl _ _⟩⟩
      go_upto_region 8 with fail
      dsimp only [List.append]
      refine region_in (Below w2.heap.size w2) (by kernel_rfl) (Bool.and_eq_true_iff.2 ⟨by as_aux_lemma => kernel_rfl, ?_⟩) (Below.refl _ _).drew ?_
      · refine lex_more (md := .any) 20 0 98 _ (by as_aux_lemma => kernel_rfl) ?_
        refine lex_more (md := .any) 20 20 78 _ (by as_aux_lemma => kernel_rfl) ?_
        refine lex_more (md := .any) 20 40 58 _ (by as_aux_lemma => kernel_rfl) ?_
        refine lex_more (md := .any) 20 60 38 _ (by as_aux_lemma => kernel_rfl) ?_
        refine lex_more (md := .any) 20 80 18 _ (by as_aux_lemma => kernel_rfl) ?_
        refine lex_more (md := .any) 18 100 0 _ (by as_aux_lemma => kernel_rfl) ?_
        as_aux_lemma => kernel_rfl
      repeat (go_big_quiet_step (exact HP.out _))
      refine wpQuiet_nil ?_
      rintro _ ⟨u8, rfl⟩
      clear x0 x1 x2 x3 x4 x5 x6 x7 x8 y0 y1
      obtain ⟨ca, cb, cc, hcs⟩ : ∃ ca cb cc, t.cs = [ca, cb, cc] := by
        have := HOK.out.cs.1
        match t.cs, this with
        | [x, y, z], _ => exact ⟨x, y, z, rfl⟩
      rw [hcs] at HCR
      simp only [List.getD_cons_zero, List.getD_cons_succ] at HCR
      have HCS := Lib.hid hcs
      clear hcs
      have H8 := Lib.hid u8.h
      generalize u8.w = w8 at *
      clear u8
      go_upto_region 10 with fail
      refine wp_region_noPanic ?_
      refine wp_region_held_drew (S := fun v => Below w2.heap.size w2 v) (by kernel_rfl) H8.out.drew (fun hHeld => ?_)
      refine wpAnyH_take (i := 0) (v := ?va0) rfl (by kernel_rfl) (by kernel_rfl) (by kernel_rfl) (fun _ _ _ h => h) (Or.inl ⟨by rfl, ?ha0⟩) (by assumption) ?_
      case ha0 => intro w hSw; (try dsimp only at hSw); obtain ⟨⟨f0, f1, f2, f3, f4, f5, f6, f7⟩, ⟨k0, k1, k2, k3, k4, k5, k6, k7⟩, ⟨m0, m1, m2, m3, m4, m5, m6, m7⟩⟩ := HCR.out w hSw; go_simp; try with_reducible rfl
      simp only [List.getElem_toArray, List.getElem_cons_zero, Act.put, List.setIfInBounds_toArray, List.set_cons_zero, List.set_cons_succ]
      refine wpAnyH_take (i := 1) (v := ?va1) rfl (by kernel_rfl) (by kernel_rfl) (by kernel_rfl) (fun _ _ _ h => h) (Or.inl ⟨by rfl, ?ha1⟩) (by assumption) ?_
      case ha1 => intro w hSw; (try dsimp only at hSw); obtain ⟨⟨f0, f1, f2, f3, f4, f5, f6, f7⟩, ⟨k0, k1, k2, k3, k4, k5, k6, k7⟩, ⟨m0, m1, m2, m3, m4, m5, m6, m7⟩⟩ := HCR.out w hSw; go_simp; try with_reducible rfl
      simp only [List.getElem_toArray, List.getElem_cons_succ, List.getElem_cons_zero, Act.put, List.setIfInBounds_toArray, List.set_cons_zero, List.set_cons_succ]
      refine wpAnyH_take (i := 2) (v := ?va2) rfl (by kernel_rfl) (by kernel_rfl) (by kernel_rfl) (fun _ _ _ h => h) (Or.inl ⟨by rfl, ?ha2⟩) (by assumption) ?_
      case ha2 => intro w hSw; (try dsimp only at hSw); obtain ⟨⟨f0, f1, f2, f3, f4, f5, f6, f7⟩, ⟨k0, k1, k2, k3, k4, k5, k6, k7⟩, ⟨m0, m1, m2, m3, m4, m5, m6, m7⟩⟩ := HCR.out w hSw; go_simp; try with_reducible rfl
      simp only [List.getElem_toArray, List.getElem_cons_succ, List.getElem_cons_zero, Act.put, List.setIfInBounds_toArray, List.set_cons_zero, List.set_cons_succ]
      refine wpAnyH_take (i := 3) (v := ?va3) rfl (by kernel_rfl) (by kernel_rfl) (by kernel_rfl) (fun _ _ _ h => h) (Or.inl ⟨by rfl, ?ha3⟩) (by assumption) ?_
      case ha3 => intro w hSw; (try dsimp only at hSw); obtain ⟨⟨f0, f1, f2, f3, f4, f5, f6, f7⟩, ⟨k0, k1, k2, k3, k4, k5, k6, k7⟩, ⟨m0, m1, m2, m3, m4, m5, m6, m7⟩⟩ := HCR.out w hSw; go_simp; try with_reducible rfl
      simp only [List.getElem_toArray, List.getElem_cons_succ, List.getElem_cons_zero, Act.put, List.setIfInBounds_toArray, List.set_cons_zero, List.set_cons_succ]
      refine wpAnyH_take (i := 4) (v := ?va4) rfl (by kernel_rfl) (by kernel_rfl) (by kernel_rfl) (fun _ _ _ h => h) (Or.inl ⟨by rfl, ?ha4⟩) (by assumption) ?_
      case ha4 => intro w hSw; (try dsimp only at hSw); obtain ⟨⟨f0, f1, f2, f3, f4, f5, f6, f7⟩, ⟨k0, k1, k2, k3, k4, k5, k6, k7⟩, ⟨m0, m1, m2, m3, m4, m5, m6, m7⟩⟩ := HCR.out w hSw; go_simp; try with_reducible rfl
      simp only [List.getElem_toArray, List.getElem_cons_succ, List.getElem_cons_zero, Act.put, List.setIfInBounds_toArray, List.set_cons_zero, List.set_cons_succ]
      refine wpAnyH_take (i := 5) (v := ?va5) rfl (by kernel_rfl) (by kernel_rfl) (by kernel_rfl) (fun _ _ _ h => h) (Or.inl ⟨by rfl, ?ha5⟩) (by assumption) ?_
      case ha5 => intro w hSw; (try dsimp only at hSw); obtain ⟨⟨f0, f1, f2, f3, f4, f5, f6, f7⟩, ⟨k0, k1, k2, k3, k4, k5, k6, k7⟩, ⟨m0, m1, m2, m3, m4, m5, m6, m7⟩⟩ := HCR.out w hSw; go_simp; try with_reducible rfl
      simp only [List.getElem_toArray, List.getElem_cons_succ, List.getElem_cons_zero, Act.put, List.setIfInBounds_toArray, List.set_cons_zero, List.set_cons_succ]
      refine wpAnyH_take (i := 6) (v := ?va6) rfl (by kernel_rfl) (by kernel_rfl) (by kernel_rfl) (fun _ _ _ h => h) (Or.inl ⟨by rfl, ?ha6⟩) (by assumption) ?_
      case ha6 => intro w hSw; (try dsimp only at hSw); obtain ⟨⟨f0, f1, f2, f3, f4, f5, f6, f7⟩, ⟨k0, k1, k2, k3, k4, k5, k6, k7⟩, ⟨m0, m1, m2, m3, m4, m5, m6, m7⟩⟩ := HCR.out w hSw; go_simp; try with_reducible rfl
      simp only [List.getElem_toArray, List.getElem_cons_succ, List.getElem_cons_zero, Act.put, List.setIfInBounds_toArray, List.set_cons_zero, List.set_cons_succ]
      refine wpAnyH_take (i := 7) (v := ?va7) rfl (by kernel_rfl) (by kernel_rfl) (by kernel_rfl) (fun _ _ _ h => h) (Or.inl ⟨by rfl, ?ha7⟩) (by assumption) ?_
      case ha7 => intro w hSw; (try dsimp only at hSw); obtain ⟨⟨f0, f1, f2, f3, f4, f5, f6, f7⟩, ⟨k0, k1, k2, k3, k4, k5, k6, k7⟩, ⟨m0, m1, m2, m3, m4, m5, m6, m7⟩⟩ := HCR.out w hSw; go_simp; try with_reducible rfl
      simp only [List.getElem_toArray, List.getElem_cons_succ, List.getElem_cons_zero, Act.put, List.setIfInBounds_toArray, List.set_cons_zero, List.set_cons_succ]
      refine wpAnyH_take (i := 8) (v := ?va8) rfl (by kernel_rfl) (by kernel_rfl) (by kernel_rfl) (fun _ _ _ h => h) (Or.inl ⟨by rfl, ?ha8⟩) (by assumption) ?_
      case ha8 => intro w hSw; (try dsimp only at hSw); obtain ⟨⟨f0, f1, f2, f3, f4, f5, f6, f7⟩, ⟨k0, k1, k2, k3, k4, k5, k6, k7⟩, ⟨m0, m1, m2, m3, m4, m5, m6, m7⟩⟩ := HCR.out w hSw; go_simp; try with_reducible rfl
      simp only [List.getElem_toArray, List.getElem_cons_succ, List.getElem_cons_zero, Act.put, List.setIfInBounds_toArray, List.set_cons_zero, List.set_cons_succ]
      refine wpAnyH_take (i := 9) (v := ?va9) rfl (by kernel_rfl) (by kernel_rfl) (by kernel_rfl) (fun _ _ _ h => h) (Or.inl ⟨by rfl, ?ha9⟩) (by assumption) ?_
      case ha9 => intro w hSw; (try dsimp only at hSw); obtain ⟨⟨f0, f1, f2, f3, f4, f5, f6, f7⟩, ⟨k0, k1, k2, k3, k4, k5, k6, k7⟩, ⟨m0, m1, m2, m3, m4, m5, m6, m7⟩⟩ := HCR.out w hSw; go_simp; try with_reducible rfl
      simp only [List.getElem_toArray, List.getElem_cons_succ, List.getElem_cons_zero, Act.put, List.setIfInBounds_toArray, List.set_cons_zero, List.set_cons_succ]
      refine wpAnyH_take (i := 10) (v := ?va10) rfl (by kernel_rfl) (by kernel_rfl) (by kernel_rfl) (fun _ _ _ h => h) (Or.inl ⟨by rfl, ?ha10⟩) (by assumption) ?_
      case ha10 => intro w hSw; (try dsimp only at hSw); obtain ⟨⟨f0, f1, f2, f3, f4, f5, f6, f7⟩, ⟨k0, k1, k2, k3, k4, k5, k6, k7⟩, ⟨m0, m1, m2, m3, m4, m5, m6, m7⟩⟩ := HCR.out w hSw; go_simp; try with_reducible rfl
      simp only [List.getElem_toArray, List.getElem_cons_succ, List.getElem_cons_zero, Act.put, List.setIfInBounds_toArray, List.set_cons_zero, List.set_cons_succ]
      refine wpAnyH_take (i := 11) (v := ?va11) rfl (by kernel_rfl) (by kernel_rfl) (by kernel_rfl) (fun _ _ _ h => h) (Or.inl ⟨by rfl, ?ha11⟩) (by assumption) ?_
      case ha11 => intro w hSw; (try dsimp only at hSw); obtain ⟨⟨f0, f1, f2, f3, f4, f5, f6, f7⟩, ⟨k0, k1, k2, k3, k4, k5, k6, k7⟩, ⟨m0, m1, m2, m3, m4, m5, m6, m7⟩⟩ := HCR.out w hSw; go_simp; try with_reducible rfl
      simp only [List.getElem_toArray, List.getElem_cons_succ, List.getElem_cons_zero, Act.put, List.setIfInBounds_toArray, List.set_cons_zero, List.set_cons_succ]
      refine wpAnyH_take (i := 14) (v := ?va14) rfl (by kernel_rfl) (by kernel_rfl) (by kernel_rfl) (fun _ _ _ h => h) (Or.inl ⟨by rfl, ?ha14⟩) (by assumption) ?_
      case ha14 => intro w hSw; (try dsimp only at hSw); obtain ⟨⟨f0, f1, f2, f3, f4, f5, f6, f7⟩, ⟨k0, k1, k2, k3, k4, k5, k6, k7⟩, ⟨m0, m1, m2, m3, m4, m5, m6, m7⟩⟩ := HCR.out w hSw; go_simp; try with_reducible rfl
      simp only [List.getElem_toArray, List.getElem_cons_succ, List.getElem_cons_zero, Act.put, List.setIfInBounds_toArray, List.set_cons_zero, List.set_cons_succ]
      refine wpAnyH_ready (rs := [12]) (by kernel_rfl) (by simp) ?_
      refine AllReadyH.cons rfl (fun K hK => ?_) AllReadyH.nil
      rw [if_pos (by kernel_rfl)]
      refine wp_build3 147 151 155 rfl ca cb cc rfl rfl rfl ?_
      obtain ⟨w9, hw9⟩ : ∃ w9, w9 = w8.drew.alloc (.cells (cur24 ca cb cc) 32) := ⟨_, rfl⟩
      rw [← hw9]
      have hb9 : Below w2.heap.size w2 w9 := by rw [hw9]; exact H8.out.drew.alloc H8.out.drew.size _
      have hg9 : w9.heap[w8.drew.heap.size]? = some (.cells (cur24 ca cb cc) 32 (0, 0)) := by rw [hw9]; exact heap_alloc_last _ _
      have HB9 := Lib.hid hb9
      simp only [List.getElem_toArray, List.getElem_cons_succ, List.getElem_cons_zero, Act.put, List.setIfInBounds_toArray, List.set_cons_zero, List.set_cons_succ]
      refine hK.out _ _ ?_ (fun hHeld => ?_)
      · exact HB9.out
      clear hK K
      refine wpAnyH_take (i := 13) (v := ?vb13) rfl (by kernel_rfl) (by kernel_rfl) (by kernel_rfl) (fun _ _ _ h => h) (Or.inl ⟨by rfl, ?hb13⟩) (by assumption) ?_
      case hb13 => intro w hSw; (try dsimp only at hSw); go_simp; try with_reducible rfl
      simp only [List.getElem_toArray, List.getElem_cons_succ, List.getElem_cons_zero, Act.put, List.setIfInBounds_toArray, List.set_cons_zero, List.set_cons_succ]
      refine wpAnyH_done (by kernel_rfl) ?_ _
      refine NoPanic.normal ?_
      obtain ⟨gb, hgb⟩ : ∃ gb, gb = w8.drew.heap.size := ⟨_, rfl⟩
      rw [← hgb] at hg9 ⊢
      have HG9 := Lib.hid hg9
      have hgl : w2.heap.size ≤ gb := by rw [hgb]; exact H8.out.drew.size
      clear hg9 hb9 hw9 hgb hHeld
      go_wp2_with fail
      go_loopw [158] (fun i wr => ∃ k : Nat, k ≤ 3 ∧ i = .int .i64 (k : Int) ∧ Below w2.heap.size w2 wr ∧ wr.heap[gb]? = some (.cells (cur24 ca cb cc) 32 (0, 0))) (fun i _ => 3 - (RowKit.intOf i).toNat)
      case atStart => exact ⟨0, Nat.zero_le _, rfl, HB9.out, HG9.out⟩
      case round =>
        obtain ⟨k, hk, rfl, hbr, hgr⟩ := hrel
        have HBR := Lib.hid hbr
        have HGR := Lib.hid hgr
        have hgz : gb < wr.heap.size := (Array.getElem?_eq_some_iff.1 hgr).1
        clear hbr hgr
        by_cases hlt : k < 3
        · have hok := HOK.out.cs.2 ([ca, cb, cc].getD k zcur) (by
            rw [HCS.out]
            rcases (by omega : k = 0 ∨ k = 1 ∨ k = 2) with rfl | rfl | rfl <;> simp)
          have hc8 : At8 wr gb (8 * k) ([ca, cb, cc].getD k zcur) := at8_of fun j hj => cur24_at ca cb cc _ k hlt rfl wr gb HGR.out j hj
          generalize [ca, cb, cc].getD k zcur = q at *
          obtain ⟨d0, d1, d2, d3, d4, d5, d6, d7⟩ := hc8
          rw [Nat.mul_comm] at d0 d1 d2 d3 d4 d5 d6 d7
          obtain ⟨o1, o2, o3, o4⟩ := hok
          have g1 : decide ((k : Int) < 3) = true := by simp; omega
          have HO := Lib.hid (And.intro o1 (And.intro o2 (And.intro o3 o4)))
          clear o1 o2 o3 o4
          go_upto_region 13 with fail
          obtain ⟨w10, hw10⟩ : ∃ w10, w10 = wr.alloc (.cells #[.int .i64 (q.x : Int), .int .i64 (q.y : Int), .bool q.late, .bool q.sty.bold, .bool q.sty.under, .bool q.sty.turned, .int .i64 q.sty.fore, .int .i64 q.sty.back] 32) := ⟨_, rfl⟩
          rw [← hw10]
          have hz10 : wr.heap.size < w10.heap.size := by rw [hw10, size_alloc]; omega
          have hb10 : Below w2.heap.size w2 w10 := by rw [hw10]; exact HBR.out.alloc HBR.out.size _
          have hg10 : w10.heap[gb]? = some (.cells (cur24 ca cb cc) 32 (0, 0)) := by rw [hw10]; exact (((Below.refl wr.heap.size wr).alloc (Nat.le_refl _) _).block gb hgz).trans HGR.out
          have hq : At8 w10 wr.heap.size 0 q := by
            rw [hw10]
            exact at8_of fun j hj => by
              rcases (by omega : j = 0 ∨ j = 1 ∨ j = 2 ∨ j = 3 ∨ j = 4 ∨ j = 5 ∨ j = 6 ∨ j = 7) with rfl | rfl | rfl | rfl | rfl | rfl | rfl | rfl <;> rw [cell_of_row _ wr.heap.size _ _ _ (0, 0) (heap_alloc_new wr _)] <;> rfl
          have HB10 := Lib.hid hb10
          have HG10 := Lib.hid hg10
          have hqb : gb < w10.heap.size := by omega
          clear d0 d1 d2 d3 d4 d5 d6 d7 hw10 hg10
          have r0 : ∀ u : Wd (Below w10.heap.size w10), u.w.cell? ⟨wr.heap.size, 0, none⟩ = some (.int .i64 (q.x : Int)) := fun u => (u.h.cell (p := ⟨wr.heap.size, 0, none⟩) hz10).trans hq.d0
          have r1 : ∀ u : Wd (Below w10.heap.size w10), u.w.cell? ⟨wr.heap.size, 1, none⟩ = some (.int .i64 (q.y : Int)) := fun u => (u.h.cell (p := ⟨wr.heap.size, 1, none⟩) hz10).trans hq.d1
          have r2 : ∀ u : Wd (Below w10.heap.size w10), u.w.cell? ⟨wr.heap.size, 2, none⟩ = some (.bool q.late) := fun u => (u.h.cell (p := ⟨wr.heap.size, 2, none⟩) hz10).trans hq.d2
          have r3 : ∀ u : Wd (Below w10.heap.size w10), u.w.cell? ⟨wr.heap.size, 3, none⟩ = some (.bool q.sty.bold) := fun u => (u.h.cell (p := ⟨wr.heap.size, 3, none⟩) hz10).trans hq.d3
          have r4 : ∀ u : Wd (Below w10.heap.size w10), u.w.cell? ⟨wr.heap.size, 4, none⟩ = some (.bool q.sty.under) := fun u => (u.h.cell (p := ⟨wr.heap.size, 4, none⟩) hz10).trans hq.d4
          have r5 : ∀ u : Wd (Below w10.heap.size w10), u.w.cell? ⟨wr.heap.size, 5, none⟩ = some (.bool q.sty.turned) := fun u => (u.h.cell (p := ⟨wr.heap.size, 5, none⟩) hz10).trans hq.d5
          have r6 : ∀ u : Wd (Below w10.heap.size w10), u.w.cell? ⟨wr.heap.size, 6, none⟩ = some (.int .i64 q.sty.fore) := fun u => (u.h.cell (p := ⟨wr.heap.size, 6, none⟩) hz10).trans hq.d6
          have r7 : ∀ u : Wd (Below w10.heap.size w10), u.w.cell? ⟨wr.heap.size, 7, none⟩ = some (.int .i64 q.sty.back) := fun u => (u.h.cell (p := ⟨wr.heap.size, 7, none⟩) hz10).trans hq.d7
          have s0 : ∀ u : Wd (Below w10.heap.size w10), u.w.cell? ⟨p, 0, none⟩ = some (.pointer (some ⟨gp, 0, none⟩)) := fun u => (HTC.out u.w (below_next HB10.out u.h)).pg
          have s2 : ∀ u : Wd (Below w10.heap.size w10), u.w.cell? ⟨gp, 0, none⟩ = some (.int .i64 (t.w : Int)) := fun u => (HTC.out u.w (below_next HB10.out u.h)).gw
          have s3 : ∀ u : Wd (Below w10.heap.size w10), u.w.cell? ⟨gp, 1, none⟩ = some (.int .i64 (t.h : Int)) := fun u => (HTC.out u.w (below_next HB10.out u.h)).gh
          have HSt := Lib.hid (fun (u : Wd (Below w10.heap.size w10)) => (show Calls Tryd.prog 7 #[styV q.sty] u.w fun e w' => e = .returned (.bool true) ∧ ∃ u' : Wd (Below w10.heap.size w10), w' = u'.w from
            (style_ok u.w q.sty).mono fun e w' h => ⟨by rw [h.1, HO.out.2.2.2], ⟨⟨w', below_next u.h h.2⟩, rfl⟩⟩))
          unfold styV at HSt
          clear hq e0 e1 e2 e3 e4 e5
          haveI : Nonempty (Wd (Below w10.heap.size w10)) := ⟨⟨w10, Below.refl _ _⟩⟩
          have hw1 := HI.out.1
          have hh1 := HI.out.2.1
          have hx1 := HO.out.1
          have hy1 := HO.out.2.1
          have t1 : decide ((q.x : Int) < 0) = false := by simp
          have t2 : decide ((t.w : Int) ≤ (q.x : Int)) = false := by simp; omega
          have t3 : decide (t.w ≤ q.x) = false := by simp; omega
          have t4 : decide ((q.y : Int) < 0) = false := by simp
          have t5 : decide ((t.h : Int) ≤ (q.y : Int)) = false := by simp; omega
          have t6 : decide (t.h ≤ q.y) = false := by simp; omega
          refine region_in (Below w10.heap.size w10) (by kernel_rfl) (Bool.and_eq_true_iff.2 ⟨by as_aux_lemma => kernel_rfl, ?_⟩) (Below.refl _ _).drew ?_
          · refine lex_more (md := .any) 20 0 35 _ (by as_aux_lemma => kernel_rfl) ?_
            refine lex_more (md := .any) 20 20 15 _ (by as_aux_lemma => kernel_rfl) ?_
            refine lex_more (md := .any) 15 40 0 _ (by as_aux_lemma => kernel_rfl) ?_
            as_aux_lemma => kernel_rfl
          obtain ⟨lt, hlt'⟩ : ∃ lt, lt = q.late := ⟨_, rfl⟩
          rw [← hlt'] at r2
          have hlx : lt = true → q.x + 1 = t.w := fun h => HO.out.2.2.1 (by rw [← hlt', h])
          clear hlt' hx1 hy1 HO
          cases lt with
          | true =>
            have hx := hlx rfl
            have t7 : ((q.x : Int) == (t.w : Int) - 1) = true := by simp; omega
            have t8 : ((q.x : Int) != (t.w : Int) - 1) = false := by simp; omega
            have t9 : decide ((q.x : Int) = (t.w : Int) - 1) = true := by simp; omega
            clear hlx hx
            repeat (go_big_quiet_step (exact HSt.out _))
            refine wpQuiet_nil ?_
            rintro _ ⟨u, rfl⟩
            have HBu := Lib.hid (below_next HB10.out u.h)
            have HGu := Lib.hid ((u.h.block gb hqb).trans HG10.out)
            clear r0 r1 r2 r3 r4 r5 r6 r7 s0 s2 s3
            go_wp2_with fail
            go_roundw
            case rel => exact ⟨k + 1, by omega, by simp, HBu.out, HGu.out⟩
            case measure => simp [RowKit.intOf]; omega
          | false =>
            clear hlx
            repeat (go_big_quiet_step (exact HSt.out _))
            refine wpQuiet_nil ?_
            rintro _ ⟨u, rfl⟩
            have HBu := Lib.hid (below_next HB10.out u.h)
            have HGu := Lib.hid ((u.h.block gb hqb).trans HG10.out)
            clear r0 r1 r2 r3 r4 r5 r6 r7 s0 s2 s3
            go_wp2_with fail
            go_roundw
            case rel => exact ⟨k + 1, by omega, by simp, HBu.out, HGu.out⟩
            case measure => simp [RowKit.intOf]; omega
        · have g1 : decide ((k : Int) < 3) = false := by simp; omega
          clear HGR hgz e0 e1 e2 e3 e4 e5 HCR
          obtain ⟨e0, e1, e2, e3, e4, e5⟩ := HTC.out wr HBR.out
          go_wp2_with fail
          clear e0 e1 e2 e3 e4 e5
          go_loopw [225] (fun i ws => ∃ k : Nat, k ≤ t.h ∧ i = .int .i64 (k : Int) ∧ Below w2.heap.size w2 ws) (fun i _ => t.h - (RowKit.intOf i).toNat)
          case atStart => exact ⟨0, Nat.zero_le _, rfl, HBR.out⟩
          case round =>
            rename World => ws
            obtain ⟨j, hj, rfl, hbs⟩ := hrel
            have HBS := Lib.hid hbs
            clear hbs
            by_cases hlj : j < t.h
            · have h0l : j < t.ls.length := by rw [HOK.out.ls.1]; exact hlj
              have h1l : j < t.os.length := by rw [HOK.out.os.1]; exact hlj
              obtain ⟨x0, y0, hx0, hbb0, -, hcell0⟩ := (HL0.out.below HBS.out) (by omega)
              obtain ⟨x1, y1, hx1, hbb1, -, hcell1⟩ := (HL1.out.below HBS.out) (by omega)
              obtain ⟨rfl, rfl⟩ : b0 = x0 ∧ 0 = y0 := by injection hx0 with h; injection h with h1 h2; exact ⟨h1, h2⟩
              obtain ⟨rfl, rfl⟩ : b1 = x1 ∧ 0 = y1 := by injection hx1 with h; injection h with h1 h2; exact ⟨h1, h2⟩
              obtain ⟨A0, q0, hc0, hr0, -, -⟩ := hcell0 j h0l
              obtain ⟨A1, q1, hc1, hr1, -, -⟩ := hcell1 j h1l
              obtain ⟨n0, v0, -⟩ := HOK.out.ls.2 t.ls[j] (List.getElem_mem h0l)
              obtain ⟨n1, v1, -⟩ := HOK.out.os.2 t.os[j] (List.getElem_mem h1l)
              rw [Nat.zero_add, n0] at hc0
              rw [Nat.zero_add, n1] at hc1
              have hw60 := HOK.out.w
              have HW0 := Lib.hid (fun (u : Wd (Below ws.heap.size ws)) => (show Calls Tryd.prog 8 #[.slice A0 t.w q0] u.w fun e w' => e = .returned (.bool true) ∧ ∃ u' : Wd (Below ws.heap.size ws), w' = u'.w from by
                have h := whole_ok u.w (HT2.out.on (below_next HBS.out u.h) HT2.out.room) t.ls[j] A0 q0 ws.heap.size (hr0.below u.h) u.h.size (by omega)
                rw [n0, v0] at h
                exact h.mono fun e w' h => ⟨h.1, ⟨⟨w', below_next u.h h.2⟩, rfl⟩⟩))
              have HW1 := Lib.hid (fun (u : Wd (Below ws.heap.size ws)) => (show Calls Tryd.prog 8 #[.slice A1 t.w q1] u.w fun e w' => e = .returned (.bool true) ∧ ∃ u' : Wd (Below ws.heap.size ws), w' = u'.w from by
                have h := whole_ok u.w (HT2.out.on (below_next HBS.out u.h) HT2.out.room) t.os[j] A1 q1 ws.heap.size (hr1.below u.h) u.h.size (by omega)
                rw [n1, v1] at h
                exact h.mono fun e w' h => ⟨h.1, ⟨⟨w', below_next u.h h.2⟩, rfl⟩⟩))
              have s0 : ∀ u : Wd (Below ws.heap.size ws), u.w.cell? ⟨p, 0, none⟩ = some (.pointer (some ⟨gp, 0, none⟩)) := fun u => (HTC.out u.w (below_next HBS.out u.h)).pg
              have s1 : ∀ u : Wd (Below ws.heap.size ws), u.w.cell? ⟨p, 1, none⟩ = some (.pointer (some ⟨op, 0, none⟩)) := fun u => (HTC.out u.w (below_next HBS.out u.h)).po
              have s2 : ∀ u : Wd (Below ws.heap.size ws), u.w.cell? ⟨gp, 0, none⟩ = some (.int .i64 (t.w : Int)) := fun u => (HTC.out u.w (below_next HBS.out u.h)).gw
              have s4 : ∀ u : Wd (Below ws.heap.size ws), u.w.cell? ⟨gp, 2, none⟩ = some (.slice (some ⟨b0, 0, none⟩) t.h c0) := fun u => (HTC.out u.w (below_next HBS.out u.h)).gl
              have s5 : ∀ u : Wd (Below ws.heap.size ws), u.w.cell? ⟨op, 2, none⟩ = some (.slice (some ⟨b1, 0, none⟩) t.h c1) := fun u => (HTC.out u.w (below_next HBS.out u.h)).ol
              have s6 : ∀ u : Wd (Below ws.heap.size ws), u.w.cell? ⟨b0, j, none⟩ = some (.slice A0 t.w q0) := fun u => (u.h.cell (p := ⟨b0, j, none⟩) hbb0).trans hc0
              have s7 : ∀ u : Wd (Below ws.heap.size ws), u.w.cell? ⟨b1, j, none⟩ = some (.slice A1 t.w q1) := fun u => (u.h.cell (p := ⟨b1, j, none⟩) hbb1).trans hc1
              haveI : Nonempty (Wd (Below ws.heap.size ws)) := ⟨⟨ws, Below.refl _ _⟩⟩
              have g2 : decide ((j : Int) < (t.h : Int)) = true := by simp; omega
              have g3 : decide (j < t.h) = true := by simp; omega
              clear hcell0 hcell1 hr0 hr1 n0 n1 v0 v1 hc0 hc1 hx0 hx1 hw60
              go_upto_region 19 with fail
              dsimp only [List.append]
              refine region_in (Below ws.heap.size ws) (by kernel_rfl) (Bool.and_eq_true_iff.2 ⟨by as_aux_lemma => kernel_rfl, ?_⟩) (Below.refl _ _).drew ?_
              · refine lex_more (md := .any) 20 0 48 _ (by as_aux_lemma => kernel_rfl) ?_
                refine lex_more (md := .any) 20 20 28 _ (by as_aux_lemma => kernel_rfl) ?_
                refine lex_more (md := .any) 20 40 8 _ (by as_aux_lemma => kernel_rfl) ?_
                refine lex_more (md := .any) 8 60 0 _ (by as_aux_lemma => kernel_rfl) ?_
                as_aux_lemma => kernel_rfl
              iterate 52 (go_big_quiet_step (exact HW0.out _))
              repeat (go_big_quiet_step (exact HW1.out _))
              refine wpQuiet_nil ?_
              rintro _ ⟨u, rfl⟩
              have HBu := Lib.hid (below_next HBS.out u.h)
              have hh60 := HOK.out.h
              clear s0 s1 s2 s4 s5 s6 s7
              go_wp2_with fail
              go_roundw
              case rel => exact ⟨j + 1, by omega, by simp, HBu.out⟩
              case measure => simp [RowKit.intOf]; omega
            · have g2 : decide ((j : Int) < (t.h : Int)) = false := by simp; omega
              have g3 : decide (j < t.h) = false := by simp; omega
              have hws : Below w.heap.size w ws := HB2.out.trans (HBS.out.mono (Nat.le_trans z1 z2))
              have HWS := Lib.hid hws
              have HE := Lib.hid (encode_ok ws.drew p gp op F O BA bc PA pc t (tmA_below HTA.out HBS.out.drew) HOK.out (by omega))
              have HC2 : Hid (∀ v, Below ws.heap.size ws v → (convert 22 9 (.slice A (encT t).length c)).run Tryd.prog v = .ok (.string (str (encT t))) v) := Lib.hid (fun v hv => run_string A (encT t) c w.heap.size v (HR.out.below (HWS.out.trans (hv.mono HWS.out.size))))
              clear hws
              go_upto_region 22 with fail
              refine wp_region_noPanic ?_
              refine wp_region_held_drew (S := fun v => Below ws.heap.size ws v) (by kernel_rfl) (Below.refl _ _).drew (fun hHeld => ?_)
              refine wpAnyH_take (i := 0) (v := ?ve0) rfl (by kernel_rfl) (by kernel_rfl) (by kernel_rfl) (fun _ _ _ h => h) (Or.inl ⟨by rfl, ?he0⟩) (by assumption) ?_
              case he0 => intro w hSw; (try dsimp only at hSw); have q2 := HC2.out w hSw; go_simp; try with_reducible rfl
              simp only [List.getElem_toArray, List.getElem_cons_zero, Act.put, List.setIfInBounds_toArray, List.set_cons_zero, List.set_cons_succ]
              refine wpAnyH_take (i := 3) (v := ?ve3) rfl (by kernel_rfl) (by kernel_rfl) (by kernel_rfl) (fun _ _ _ h => h) (Or.inl ⟨by rfl, ?he3⟩) (by assumption) ?_
              case he3 => intro w hSw; (try dsimp only at hSw); have q2 := HC2.out w hSw; go_simp; try with_reducible rfl
              simp only [List.getElem_toArray, List.getElem_cons_succ, List.getElem_cons_zero, Act.put, List.setIfInBounds_toArray, List.set_cons_zero, List.set_cons_succ]
              refine wpAnyH_take (i := 4) (v := ?ve4) rfl (by kernel_rfl) (by kernel_rfl) (by kernel_rfl) (fun _ _ _ h => h) (Or.inl ⟨by rfl, ?he4⟩) (by assumption) ?_
              case he4 => intro w hSw; (try dsimp only at hSw); have q2 := HC2.out w hSw; go_simp; try with_reducible rfl
              simp only [List.getElem_toArray, List.getElem_cons_succ, List.getElem_cons_zero, Act.put, List.setIfInBounds_toArray, List.set_cons_zero, List.set_cons_succ]
              refine wpAnyH_ready (rs := [1]) (by kernel_rfl) (by simp) ?_
              refine AllReadyH.cons rfl (fun K hK => ?_) AllReadyH.nil
              rw [if_pos (by kernel_rfl)]
              refine wp_enter 9 #[.pointer (some ⟨p, 0, none⟩)] (w0 := ws.drew) (by kernel_rfl) _ HE.out ?_
              rintro v22 w22 ⟨ho, hb⟩
              obtain ⟨A4, c4, rfl, hc4, _, _, r4⟩ := ho.form
              have q1 := run_string A4 (encT t) c4 w22.heap.size w22 r4
              have hb22 : Below ws.heap.size ws w22 := (Below.refl _ _).drew.trans hb
              have HB22 := Lib.hid hb22
              simp only [List.getElem_toArray, List.getElem_cons_succ, List.getElem_cons_zero, Act.put, List.setIfInBounds_toArray, List.set_cons_zero, List.set_cons_succ]
              clear ho hb r4
              refine hK.out _ _ ?_ (fun hHeld => ?_)
              · exact HB22.out
              clear hK K
              refine wpAnyH_ready (rs := [2]) (by kernel_rfl) (by simp) ?_
              refine AllReadyH.cons rfl (fun K hK => ?_) AllReadyH.nil
              go_simp
              refine hK.out _ _ ?_ (fun hHeld => ?_)
              · exact HB22.out
              clear hK K
              refine wpAnyH_take (i := 5) (v := ?vf5) rfl (by kernel_rfl) (by kernel_rfl) (by kernel_rfl) (fun _ _ _ h => h) (Or.inl ⟨by rfl, ?hf5⟩) (by assumption) ?_
              case hf5 => intro w hSw; (try dsimp only at hSw); go_simp; try with_reducible rfl
              simp only [List.getElem_toArray, List.getElem_cons_succ, List.getElem_cons_zero, Act.put, List.setIfInBounds_toArray, List.set_cons_zero, List.set_cons_succ]
              refine wpAnyH_take (i := 6) (v := ?vf6) rfl (by kernel_rfl) (by kernel_rfl) (by kernel_rfl) (fun _ _ _ h => h) (Or.inl ⟨by rfl, ?hf6⟩) (by assumption) ?_
              case hf6 => intro w hSw; (try dsimp only at hSw); go_simp; try with_reducible rfl
              simp only [List.getElem_toArray, List.getElem_cons_succ, List.getElem_cons_zero, Act.put, List.setIfInBounds_toArray, List.set_cons_zero, List.set_cons_succ]
              refine wpAnyH_done (by kernel_rfl) ?_ _
              refine NoPanic.normal ?_
              go_wp2_with fail
              go_ret
              exact ⟨rfl, HWS.out.trans (HB22.out.mono HWS.out.size)⟩
end Go.Proofs.YtdolapobkhhanaaDoor.stateAny
/-
  Layer 11 (state): from the condition on the three listed tables to what the walk asks; and a start that meets it.
-/
namespace Go.Proofs.YtdolapobkhhanaaDoor
open Go.ChangeShapes Go.WideShapes Go.ChangeAt Go.RowKit Go.Lib
set_option maxRecDepth 100000

theorem wideD : (Rows.laid_flipbook_glyph_wide : DataW Unit) = .agg ((List.range 9).map fun i => .agg ([GM.wideT.getD (2 * i) 0, GM.wideT.getD (2 * i + 1) 0].map fun z => .lit (.int .i32 z))) := by kernel_rfl
theorem tabs_of_reads {W : World} (h0 : VarReads Tryd.prog W "flipbook/glyph.wide" Rows.laid_flipbook_glyph_wide) : Tabs W := by
  rw [wideD] at h0
  have t21 : Tryd.prog.underlying 21 = some (.int .i32) := by kernel_rfl
  have c21 : Tryd.prog.cellsOf 21 = 1 := by kernel_rfl
  have t9 : Tryd.prog.underlying 112 = some (.array 9 111) := by kernel_rfl
  have c2 : Tryd.prog.cellsOf 111 = 2 := by kernel_rfl
  obtain ⟨g0, y0, cs0, f0, p0, hg0, hy0, hv0, hd0⟩ := h0
  obtain rfl := Option.some.inj ((show Tryd.prog.globalNamed "flipbook/glyph.wide" = some 2 by kernel_rfl).symm.trans hg0)
  obtain rfl := Option.some.inj ((show (Tryd.prog.globals[2]?).map (·.type) = some 112 by kernel_rfl).symm.trans hy0)
  refine ⟨fun j v hv => ?_, ?_⟩
  · rw [World.var?_cell hg0 hv0 (0 + j)]
    have hj : j < 18 := by
      rcases Nat.lt_or_ge j 18 with h | h
      · exact h
      · rw [List.getElem?_eq_none (by simpa [runesV, GM.wideT] using h)] at hv; cases hv
    obtain ⟨fuel', d, q, hdi, he⟩ := array_elem t9 hd0 (j / 2) (by omega)
    simp only [List.getElem?_map, List.getElem?_range (show j / 2 < 9 by omega), Option.map_some, Option.some.injEq] at hdi
    subst hdi
    rw [c2] at he
    have hcs := ints_of_struct (show Tryd.prog.underlying 111 = some (.struct #[{ name := "first", type := 21, offset := 0, embedded := false, tag := "", pkgPath := "flipbook/glyph", byteOffset := 0 }, { name := "last", type := 21, offset := 1, embedded := false, tag := "", pkgPath := "flipbook/glyph", byteOffset := 4 }]) by kernel_rfl) (fun j f hj => by
      match j, hj with
      | 0, hj => simp at hj; subst hj; exact ⟨t21, rfl, c21⟩
      | 1, hj => simp at hj; subst hj; exact ⟨t21, rfl, c21⟩
      | j + 2, hj => simp at hj) (by rw [c2]; rfl) he
    have hv' : v = .int .i32 (GM.wideT.getD j 0) := by
      have hl : j < GM.wideT.length := hj
      simp [runesV, hl] at hv
      simpa [hl] using hv.symm
    rw [hv', Nat.zero_add, ← Array.getElem?_toList]
    rcases (by omega : j = 2 * (j / 2) ∨ j = 2 * (j / 2) + 1) with h | h
    · have e := congrArg (·[0]?) hcs
      simp only [List.getElem?_take, List.getElem?_drop] at e
      have e' : cs0.toList[j / 2 * 2]? = some (Value.int .i32 (GM.wideT.getD (2 * (j / 2)) 0)) := by simpa using e
      rw [Nat.mul_comm, ← h] at e'
      exact e'
    · have e := congrArg (·[1]?) hcs
      simp only [List.getElem?_take, List.getElem?_drop] at e
      have e' : cs0.toList[j / 2 * 2 + 1]? = some (Value.int .i32 (GM.wideT.getD (2 * (j / 2) + 1) 0)) := by simpa using e
      rw [Nat.mul_comm, ← h] at e'
      exact e'
  · have := hv0
    unfold World.var? at this
    rw [hg0] at this
    simp only [Option.bind_some] at this
    rcases Nat.lt_or_ge 2 W.heap.size with h | h
    · exact h
    · simp [Array.getElem?_eq_none h] at this

theorem firstD : Rows.laid_unicode_utf8_first = firstData := by kernel_rfl
theorem acceptD : Rows.laid_unicode_utf8_acceptRanges = acceptData := by kernel_rfl
def ren8 : Go.Shelf.Ren := ⟨fun n => n, fun | 5 => 5 | 119 => 105 | 138 => 107 | 139 => 108 | n => n, fun | 3 => 0 | 4 => 1 | n => n⟩
theorem types8 : U8Types Tryd.prog ren8 := ⟨by kernel_rfl, by kernel_rfl, by kernel_rfl, by kernel_rfl⟩
theorem extra8 : U8Extra Tryd.prog ren8 := ⟨by kernel_rfl, by kernel_rfl, by kernel_rfl, by kernel_rfl, by kernel_rfl, by kernel_rfl, by kernel_rfl⟩
theorem utf_of_reads {W : World} (h3 : VarReads Tryd.prog W "unicode/utf8.first" Rows.laid_unicode_utf8_first) (h4 : VarReads Tryd.prog W "unicode/utf8.acceptRanges" Rows.laid_unicode_utf8_acceptRanges) : Utf W := by
  rw [firstD] at h3
  rw [acceptD] at h4
  have hT : Lib.Utf8Tabs 0 1 W := utf8Tabs_of_readsT types8 extra8 h3 h4
  refine ⟨hT, ?_⟩
  obtain ⟨g, t, cs, fuel, p, hg, ht, hvar, hd⟩ := h4
  have h1 : g = 1 := Option.some.inj (hg.symm.trans (show Tryd.prog.globalNamed "unicode/utf8.acceptRanges" = some 1 by kernel_rfl))
  unfold World.var? at hvar
  rw [hg, h1] at hvar
  simp only [Option.bind_some] at hvar
  rcases Nat.lt_or_ge 1 W.heap.size with h | h
  · exact h
  · simp [Array.getElem?_eq_none h] at hvar

noncomputable def start8 (os : Os) : World :=
  let w0 := World.doorLaid Tryd.prog 400 os
  { w0 with heap := w0.heap.modify 0 fun
      | .cells _ t fz => .cells (firstTab.map (Value.int .u8)).toArray t fz
      | o => o }

theorem tabs_stateAny {W : World} (h : laidMetH Tryd.prog Rows.stateAnyRow.laid W) : Tabs W := by
  rw [MakeChecks.laidMetH_plain _ _ _ (by kernel_rfl)] at h
  exact tabs_of_reads (laidMet.reads h (by simp [Rows.stateAnyRow]))
theorem utf_stateAny {W : World} (h : laidMetH Tryd.prog Rows.stateAnyRow.laid W) : Utf W := by
  rw [MakeChecks.laidMetH_plain _ _ _ (by kernel_rfl)] at h
  exact utf_of_reads (laidMet.reads h (by simp [Rows.stateAnyRow])) (laidMet.reads h (by simp [Rows.stateAnyRow]))
theorem met_stateAny (os : Os) (args : Array Value) : laidMetH Tryd.prog Rows.stateAnyRow.laid ((start8 os).forCall (fun _ _ => 0) ⟨#[], args, []⟩).memory :=
  laidMetH_of_parts3 (fuel := 8) (laidMet_of_run' 8 (by kernel_rfl) (by kernel_rfl)) (by kernel_rfl) (by kernel_rfl)
end Go.Proofs.YtdolapobkhhanaaDoor
