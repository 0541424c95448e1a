/-
  STakeP, in one text.
-/
import Derived.Test.YtdolapobkhhanaaDoorM08
import Derived.Test.YtdolapobkhhanaaDoorM11
import Derived.Test.YtdolapobkhhanaaDoorM02
import Derived.Lib.LazyBuf
import Derived.Deep.RegionHeld3
import Derived.Deep.WholeRow
/-
  Layer 11 (state): a parser is taken.
-/
namespace Go.Proofs.YtdolapobkhhanaaDoor
open Go.RowKit Go.Lib KM
set_option maxRecDepth 100000

theorem setCells_cells {w : World} {p : Nat} {T : TypeId} {n : Nat} {f : Nat → Value} (vs : List Value) (o : Nat) (h : CellsF w p T n f) (ho : o + vs.length ≤ n) :
    CellsF (w.setCells p o vs) p T n (fun j => if o ≤ j ∧ j < o + vs.length then vs.getD (j - o) undef else f j) ∧ ∀ k, k ≠ p → (w.setCells p o vs).heap[k]? = w.heap[k]? := by
  induction vs generalizing w o f with
  | nil =>
    refine ⟨?_, fun k _ => rfl⟩
    exact h.congr fun i _ => by rw [if_neg (by simp only [List.length_nil]; omega)]
  | cons x r ih =>
    simp only [List.length_cons] at ho
    obtain ⟨h1, h2⟩ := ih (o + 1) (h.set (i := o) (by omega) x) (by omega)
    refine ⟨?_, fun k hk => (h2 k hk).trans (Below.heap_setCell _ _ _ _ hk)⟩
    refine h1.congr fun i _ => ?_
    unfold upd
    by_cases e : i = o
    · subst e
      rw [if_neg (by omega), if_pos rfl, if_pos (by simp)]
      simp
    · rw [if_neg e]
      by_cases hr : o + 1 ≤ i ∧ i < o + 1 + r.length
      · rw [if_pos hr, if_pos (by simp; omega)]
        obtain ⟨j, rfl⟩ : ∃ j, i = o + 1 + j := ⟨i - (o + 1), by omega⟩
        rw [show o + 1 + j - (o + 1) = j by omega, show o + 1 + j - o = j + 1 by omega, List.getD_cons_succ]
      · rw [if_neg hr, if_neg (by simp; omega)]
theorem setCells_size (w : World) (p o : Nat) (vs : List Value) : (w.setCells p o vs).heap.size = w.heap.size := by
  induction vs generalizing w o with
  | nil => rfl
  | cons x r ih => exact (ih (w.setCell ⟨p, o, none⟩ x) (o + 1)).trans (by simp [World.setCell])
theorem setCells_only {a w : World} {g : Option Nat} {p : Nat} (h : a.grownBy w g) (hp : a.heap.size ≤ p) (o : Nat) (vs : List Value) : a.grownBy (w.setCells p o vs) g := by
  induction vs generalizing w o with
  | nil => exact h
  | cons x r ih =>
    refine ih (w := w.setCell ⟨p, o, none⟩ x) ⟨h.os, h.tape, h.output, by simpa [World.setCell] using h.size, fun k hk hne => (Below.heap_setCell w ⟨p, o, none⟩ x k (by show k ≠ p; omega)).trans (h.block k hk hne)⟩ (o + 1)
/-- An append in a region that draws its order, as one step. -/
theorem El.oper_append {α : Type} (E : El α) {w : World} {o : Oper} {a : Act} {K : Act → World → Prop} {Q : Exit → Act → World → Prop} (s x : Operand)
    (ho : o.op = .call { callee := .builtin .append, args := #[s, x], argTypes := #[E.sl, E.sl] }) (base : Nat) (v : Value) (L : List α) (hs : a.eval s = v) (hown : E.Own w base v L)
    (A : Option Addr) (M : List α) (n c B : Nat) (hn : n = M.length) (hx : a.eval x = .slice A n c) (hr : E.Row w B A M) (hA : A = none → c = 0) (hlen : (L.length + M.length) * E.bytes ≤ 140737488355328) (hmax : L.length + M.length ≤ maxLen) (hbase : base ≤ w.heap.size)
    (h : ∀ v' w', E.Own w' base v' (L ++ M) → Grow w w' v v' → K (a.put o.dst v') w') : o.wp Tryd.prog a w K Q := by
  subst hn
  obtain ⟨v', w', hrun, h2, h3⟩ := E.run_append w base o.type v L hown A M c B hr hA hlen hmax hbase
  unfold Oper.wp execOp
  simp only [ho, resolve, invoke, builtin, Sem.run_bind, Sem.run_pure, Result.andThen_ok, List.map_toArray, List.map_cons, List.map_nil, hs, hx, hrun]
  exact h v' w' h2 h3
/-- What is carried: the reader, the parser's cells; only the reader's block was changed of what there was. -/
structure PK (w0 wr : World) (g pb : Nat) (l : List Nat) (bad : Bool) (f : Nat → Value) (Z : Array Value) : Prop where
  rd : Rd wr g l bad
  cells : CellsF wr pb 41 9 f
  on : w0.grownBy wr (some g)
  gz : g < w0.heap.size
  pz : w0.heap.size + 1 = pb
  res : wr.heap[w0.heap.size]? = some (.cells Z 41 (0, 0))
section
variable {w0 w w' : World} {g pb : Nat} {l l' : List Nat} {bad bad' : Bool} {f : Nat → Value} {Z : Array Value}
theorem PK.ne (h : PK w0 w g pb l bad f Z) : some pb ≠ some g := fun e => by injection e with e; have := h.gz; have := h.pz; omega
theorem PK.num (h : PK w0 w g pb l bad f Z) (hg : w.grownBy w' (some g)) (hr : Rd w' g l' bad') : PK w0 w' g pb l' bad' f Z :=
  ⟨hr, h.cells.keep (hg.block pb h.cells.lt h.ne), only_trans h.on hg, h.gz, h.pz, (hg.block _ (Array.getElem?_eq_some_iff.1 h.res).1 (by intro e; injection e with e; have := h.gz; omega)).trans h.res⟩
theorem PK.below (h : PK w0 w g pb l bad f Z) (hb : Below w.heap.size w w') : PK w0 w' g pb l bad f Z :=
  ⟨h.rd.on hb h.rd.lt, h.cells.below hb h.cells.lt, only_next h.on (hb.mono h.on.size), h.gz, h.pz, (hb.block _ (Array.getElem?_eq_some_iff.1 h.res).1).trans h.res⟩
theorem PK.rdk (h : PK w0 w g pb l bad f Z) (hk : ∀ k, k ≠ pb → w'.heap[k]? = w.heap[k]?) : Rd w' g l bad := by
  obtain ⟨A, c, hA, h2, h3, h4, h5⟩ := h.rd
  have := h.gz
  have := h.pz
  exact ⟨A, c, (hk g (by omega)).trans hA, h2, h3, h4.keep fun q hq => World.cell?_of_block (hk q.block (by omega)), h5⟩
theorem PK.set (h : PK w0 w g pb l bad f Z) {i : Nat} (hi : i < 9) (v : Value) : PK w0 (w.setCell ⟨pb, i, none⟩ v) g pb l bad (upd f i v) Z := by
  refine ⟨h.rdk fun k hk => Below.heap_setCell _ _ _ _ hk, h.cells.set hi v, ⟨h.on.os, h.on.tape, h.on.output, by simpa [World.setCell] using h.on.size, fun k hk hne => (Below.heap_setCell w ⟨pb, i, none⟩ v k (by have := h.pz; show k ≠ pb; omega)).trans (h.on.block k hk hne)⟩, h.gz, h.pz, (Below.heap_setCell w ⟨pb, i, none⟩ v _ (by have := h.pz; show w0.heap.size ≠ pb; omega)).trans h.res⟩
theorem PK.sets (h : PK w0 w g pb l bad f Z) (o : Nat) (vs : List Value) (ho : o + vs.length ≤ 9) : PK w0 (w.setCells pb o vs) g pb l bad (fun j => if o ≤ j ∧ j < o + vs.length then vs.getD (j - o) undef else f j) Z := by
  obtain ⟨h1, h2⟩ := setCells_cells vs o h.cells ho
  exact ⟨h.rdk h2, h1, setCells_only h.on (by have := h.pz; omega) o vs, h.gz, h.pz, (h2 _ (by have := h.pz; omega)).trans h.res⟩
theorem PK.grow (h : PK w0 w g pb l bad f Z) {b : Option Nat} (hg : w.grownBy w' b) (hb : ∀ k, b = some k → pb < k) : PK w0 w' g pb l bad f Z := by
  have hpz := h.cells.lt
  have hgz := h.gz
  have hpp := h.pz
  have hbl : Below (pb + 1) w w' := ⟨hg.os, hg.tape, hg.output, hg.size, fun k hk => hg.block k (by omega) (fun e => by have := hb k e.symm; omega)⟩
  exact ⟨h.rd.on hbl (by omega), h.cells.below hbl (by omega), ⟨hg.os.trans h.on.os, hg.tape.trans h.on.tape, hg.output.trans h.on.output, Nat.le_trans h.on.size hg.size, fun k hk hne => (hbl.block k (by omega)).trans (h.on.block k hk hne)⟩, hgz, hpp, (hbl.block _ (by omega)).trans h.res⟩
end
/-- What takeParser leaves. -/
def TPPost (w : World) (g : Nat) (r : Ps × List Nat × Bool) (e : Ending) (w' : World) : Prop :=
  ∃ PA pc, e = .returned (parV r.1 PA pc) ∧ Rd w' g r.2.1 r.2.2 ∧ Row w' w'.heap.size .i64 PA r.1.params ∧ w.grownBy w' (some g) ∧ (∀ a, PA = some a → w.heap.size ≤ a.block)
theorem zeroP (v : World) : (zeroValue 41).run Tryd.prog v = .ok (.agg #[.int .i64 0, .int .u8 0, .int .u8 0, .int .u8 0, .int .i64 0, .string ⟨#[]⟩, .slice none 0 0, .string ⟨#[]⟩, .int .i64 0]) v := by kernel_rfl
theorem int_cells (qs : List Nat) : intE.cells (qs.map Int.ofNat) = nums .i64 qs := by
  induction qs with
  | nil => rfl
  | cons q r ih =>
    have : intE.cells ((q :: r).map Int.ofNat) = .int .i64 (q : Int) :: intE.cells (r.map Int.ofNat) := rfl
    rw [this, ih]
    rfl
theorem str_nil0 : str [] = ⟨#[]⟩ := by rfl
theorem par_made (st wi : Nat) (ub mb : List Nat) (hu : ub.length ≤ 3) : ∀ i, i < 9 → upd (upd (fun j => if 1 ≤ j ∧ j < 1 + ((str ub).data.toList.map fun x => Value.int .u8 (x.toNat : Int)).length then ((str ub).data.toList.map fun x => Value.int .u8 (x.toNat : Int)).getD (j - 1) undef else upd (upd (parAt zps none 0) 0 (.int .i64 (st : Int))) 8 (.int .i64 (wi : Int)) j) 4 (.int .i64 (ub.length : Int))) 5 (.string (str mb)) i
    = parAt ⟨st, wi, ub.map UInt8.ofNat, mb, [], []⟩ none 0 i := by
  intro i hi
  rw [str_list]
  rcases (by omega : i = 0 ∨ i = 1 ∨ i = 2 ∨ i = 3 ∨ i = 4 ∨ i = 5 ∨ i = 6 ∨ i = 7 ∨ i = 8) with rfl | rfl | rfl | rfl | rfl | rfl | rfl | rfl | rfl
  all_goals
    match ub, hu with
    | [], _ => simp [upd, parAt, zps, nat8, str_nil0]
    | [a], _ => simp [upd, parAt, zps, nat8, str_nil0]
    | [a, b], _ => simp [upd, parAt, zps, nat8, str_nil0]
    | [a, b, c], _ => simp [upd, parAt, zps, nat8, str_nil0]
theorem par_params (st wi : Nat) (u : List UInt8) (mb ps tb : List Nat) (A : Option Addr) (c : Nat) : ∀ i, i < 9 → upd (upd (parAt ⟨st, wi, u, mb, [], []⟩ none 0) 6 (.slice A ps.length c)) 7 (.string (str tb)) i = parAt ⟨st, wi, u, mb, ps, tb⟩ A c i := by
  intro i hi
  rcases (by omega : i = 0 ∨ i = 1 ∨ i = 2 ∨ i = 3 ∨ i = 4 ∨ i = 5 ∨ i = 6 ∨ i = 7 ∨ i = 8) with rfl | rfl | rfl | rfl | rfl | rfl | rfl | rfl | rfl <;> simp [upd, parAt]
theorem upd_same (f : Nat → Value) (i : Nat) (v : Value) (h : f i = v) : upd f i v = f := by
  funext j
  unfold upd
  by_cases e : j = i
  · rw [if_pos e, e, h]
  · rw [if_neg e]

set_option maxHeartbeats 8000000 in
theorem takeParser_ok (w : World) (g : Nat) (l : List Nat) (bad : Bool) (h : Rd w g l bad) (hby : ∀ x ∈ l, x < 256) :
    Calls Tryd.prog 35 #[.pointer (some ⟨g, 0, none⟩)] w (TPPost w g (takeP l bad)) := by
  obtain ⟨R, hR⟩ : ∃ R, R = takeP l bad := ⟨_, rfl⟩
  rw [← hR]
  have hgw := h.lt
  -- what comes
  obtain ⟨⟨st, l1, b1⟩, e1⟩ : ∃ q, numOf l bad 9223372036854775808 = q := ⟨_, rfl⟩
  obtain ⟨⟨wi, l2, b2⟩, e2⟩ : ∃ q, numOf l1 b1 9223372036854775808 = q := ⟨_, rfl⟩
  obtain ⟨⟨ub, l3, b3⟩, e3⟩ : ∃ q, textOf l2 b2 3 = q := ⟨_, rfl⟩
  obtain ⟨⟨mb, l4, b4⟩, e4⟩ : ∃ q, textOf l3 b3 40 = q := ⟨_, rfl⟩
  obtain ⟨⟨n, l5, b5⟩, e5⟩ : ∃ q, numOf l4 b4 9 = q := ⟨_, rfl⟩
  obtain ⟨⟨ps, l6, b6⟩, e6⟩ : ∃ q, takePs n l5 b5 = q := ⟨_, rfl⟩
  obtain ⟨⟨tb, l7, b7⟩, e7⟩ : ∃ q, textOf l6 b6 40 = q := ⟨_, rfl⟩
  have hRR : R = (⟨st, wi, ub.map UInt8.ofNat, mb, ps, tb⟩, l7, b7) := by
    rw [hR]
    unfold takeP
    simp only [e1, e2, e3, e4, e5, e6, e7]
  have hy1 : ∀ x ∈ l1, x < 256 := by have := num_bytes (bad := bad) (L := 9223372036854775808) hby; rwa [e1] at this
  have hy2 : ∀ x ∈ l2, x < 256 := by have := num_bytes (bad := b1) (L := 9223372036854775808) hy1; rwa [e2] at this
  have hu3 : ub.length ≤ 3 := by have := text_len (l := l2) (bad := b2) (M := 3); rwa [e3] at this
  have hu8 : ∀ c ∈ ub, c < 256 := by have := (text_bytes (bad := b2) (M := 3) hy2).1; rwa [e3] at this
  have hn9 : n < 9 := by have := numOf_lt l4 b4 9 (by omega); rwa [e5] at this
  have hpn : ps.length = n := by
    have : ∀ (n : Nat) (l : List Nat) (bad : Bool), (takePs n l bad).1.length = n := fun n => by
      induction n with
      | zero => exact fun _ _ => rfl
      | succ n ih => exact fun l bad => by simp [takePs, ih]
    have := this n l5 b5
    rwa [e6] at this
  have N1 := Lib.hid (fun (V : World) (hr : Rd V g l bad) => (show Calls Tryd.prog 53 #[.pointer (some ⟨g, 0, none⟩), .int .i64 0] V (NumPost V g (st, l1, b1)) by rw [← e1]; exact num_any V g l bad 0 (by omega) hr))
  have N2 := Lib.hid (fun (V : World) (hr : Rd V g l1 b1) => (show Calls Tryd.prog 53 #[.pointer (some ⟨g, 0, none⟩), .int .i64 0] V (NumPost V g (wi, l2, b2)) by rw [← e2]; exact num_any V g l1 b1 0 (by omega) hr))
  have T3 := Lib.hid (fun (V : World) (hr : Rd V g l2 b2) => (show Calls Tryd.prog 34 #[.pointer (some ⟨g, 0, none⟩), .int .i64 3] V (TextPost V g (ub, l3, b3)) by rw [← e3]; exact text_any V g l2 b2 3 (by omega) hr))
  have T4 := Lib.hid (fun (V : World) (hr : Rd V g l3 b3) => (show Calls Tryd.prog 34 #[.pointer (some ⟨g, 0, none⟩), .int .i64 40] V (TextPost V g (mb, l4, b4)) by rw [← e4]; exact text_any V g l3 b3 40 (by omega) hr))
  have N5 := Lib.hid (fun (V : World) (hr : Rd V g l4 b4) => (show Calls Tryd.prog 53 #[.pointer (some ⟨g, 0, none⟩), .int .i64 9] V (NumPost V g (n, l5, b5)) by rw [← e5]; exact num_any V g l4 b4 9 (by omega) hr))
  have T7 := Lib.hid (fun (V : World) (hr : Rd V g l6 b6) => (show Calls Tryd.prog 34 #[.pointer (some ⟨g, 0, none⟩), .int .i64 40] V (TextPost V g (tb, l7, b7)) by rw [← e7]; exact text_any V g l6 b6 40 (by omega) hr))
  have E6 := Lib.hid e6
  have HRR := Lib.hid hRR
  have HPN := Lib.hid hpn
  -- the two own blocks
  obtain ⟨rb, hrb⟩ : ∃ b, b = w.heap.size := ⟨_, rfl⟩
  obtain ⟨Z, hZ⟩ : ∃ Z : Array Value, Z = #[.int .i64 0, .int .u8 0, .int .u8 0, .int .u8 0, .int .i64 0, .string ⟨#[]⟩, .slice none 0 0, .string ⟨#[]⟩, .int .i64 0] := ⟨_, rfl⟩
  have hzp := zeroP
  rw [← hZ] at hzp
  obtain ⟨w1, hw1⟩ : ∃ w1, w1 = (w.alloc (.cells Z 41)).alloc (.cells Z 41) := ⟨_, rfl⟩
  have hb1 : Below w.heap.size w w1 := by rw [hw1]; exact ((Below.refl _ _).alloc (Nat.le_refl _) _).alloc (by simp) _
  have hr1 : w1.heap[rb]? = some (.cells Z 41 (0, 0)) := by rw [hw1, hrb, heap_alloc_old _ _ (by simp)]; exact heap_alloc_new w _
  have hp1 : w1.heap[rb + 1]? = some (.cells Z 41 (0, 0)) := by rw [hw1, hrb]; have := heap_alloc_new (w.alloc (.cells Z 41)) (.cells Z 41); simpa using this
  have hs1 : w1.heap.size = rb + 2 := by rw [hw1, hrb]; simp
  have K1 := Lib.hid (show PK w w1 g (rb + 1) l bad (parAt zps none 0) Z from ⟨h.on hb1 hgw, ⟨Z, hp1, by rw [hZ]; rfl, fun i hi => by
    rw [hZ]
    rcases (by omega : i = 0 ∨ i = 1 ∨ i = 2 ∨ i = 3 ∨ i = 4 ∨ i = 5 ∨ i = 6 ∨ i = 7 ∨ i = 8) with rfl | rfl | rfl | rfl | rfl | rfl | rfl | rfl | rfl <;> rfl⟩, ⟨hb1.os, hb1.tape, hb1.output, hb1.size, fun k hk _ => hb1.block k hk⟩, hgw, by omega, by rw [← hrb]; exact hr1⟩)
  have HR1 := Lib.hid hr1
  have W1 := Lib.hid hw1
  have HZZ := Lib.hid hZ
  clear e1 e2 e3 e4 e5 e6 e7 h hR hRR hby hy1 hy2 hw1 hb1 hr1 hp1 hZ hpn
  go_enter Tryd.func35, Tryd.ntmps35
  go_upto_region 2 with fail
  rw [← W1.out, ← hrb]
  have HRB := Lib.hid hrb
  clear hrb hs1 W1
  -- region 2
  go_wp2_with fail
  refine (N1.out w1 K1.out.rd).mono ?_
  rintro e w2 ⟨rfl, hr, hg⟩
  have K2 := Lib.hid (K1.out.num hg hr)
  clear hr hg
  dsimp only
  go_wp2_with fail
  refine (N2.out w2 K2.out.rd).mono ?_
  rintro e w3 ⟨rfl, hr, hg⟩
  have K3 := Lib.hid (K2.out.num hg hr)
  clear hr hg
  dsimp only
  have z0 := K3.out.cells.cell (i := 0) (by omega)
  have z8 := K3.out.cells.cell (i := 8) (by omega)
  have y0 := K3.out.cells.frozen 0
  have y8 := K3.out.cells.frozen 8
  have K4 := Lib.hid ((K3.out.set (i := 0) (by omega) (.int .i64 (st : Int))).set (i := 8) (by omega) (.int .i64 (wi : Int)))
  obtain ⟨w4, hw4⟩ : ∃ w4, w4 = (w3.setCell ⟨rb + 1, 0, none⟩ (.int .i64 (st : Int))).setCell ⟨rb + 1, 8, none⟩ (.int .i64 (wi : Int)) := ⟨_, rfl⟩
  rw [← hw4] at K4
  have W4 := Lib.hid hw4
  clear hw4
  go_upto_region 3 with fail
  rw [← W4.out]
  clear z0 z8 y0 y8 K1 K2 K3 HR1
  -- region 3
  have ha3 : Tryd.prog.arrayLen 36 = 3 := by kernel_rfl
  refine wp_region_noPanic ?_
  refine wp_region_held_drew (S := fun _ => True) (by kernel_rfl) trivial (fun hHeld => ?_)
  refine wpAnyH_take (i := 0) (v := ?va0) rfl (by kernel_rfl) (by kernel_rfl) (by kernel_rfl) (fun _ _ _ h => h) (Or.inl ⟨by rfl, ?ha0⟩) (by assumption) ?_
  case ha0 => intro w hSw; (try dsimp only at hSw); go_simp; try with_reducible rfl
  simp only [List.getElem_toArray, List.getElem_cons_zero, Act.put, List.setIfInBounds_toArray, List.set_cons_zero, List.set_cons_succ]
  refine wpAnyH_take (i := 1) (v := ?va1) rfl (by kernel_rfl) (by kernel_rfl) (by kernel_rfl) (fun _ _ _ h => h) (Or.inl ⟨by rfl, ?ha1⟩) (by assumption) ?_
  case ha1 => intro w hSw; (try dsimp only at hSw); go_simp; try with_reducible rfl
  simp only [List.getElem_toArray, List.getElem_cons_succ, List.getElem_cons_zero, Act.put, List.setIfInBounds_toArray, List.set_cons_zero, List.set_cons_succ]
  refine wpAnyH_take (i := 2) (v := ?va2) rfl (by kernel_rfl) (by kernel_rfl) (by kernel_rfl) (fun _ _ _ h => h) (Or.inl ⟨by rfl, ?ha2⟩) (by assumption) ?_
  case ha2 => intro w hSw; (try dsimp only at hSw); go_simp; try with_reducible rfl
  simp only [List.getElem_toArray, List.getElem_cons_succ, List.getElem_cons_zero, Act.put, List.setIfInBounds_toArray, List.set_cons_zero, List.set_cons_succ]
  refine wpAnyH_take (i := 3) (v := ?va3) rfl (by kernel_rfl) (by kernel_rfl) (by kernel_rfl) (fun _ _ _ h => h) (Or.inl ⟨by rfl, ?ha3⟩) (by assumption) ?_
  case ha3 => intro w hSw; (try dsimp only at hSw); go_simp; try with_reducible rfl
  simp only [List.getElem_toArray, List.getElem_cons_succ, List.getElem_cons_zero, Act.put, List.setIfInBounds_toArray, List.set_cons_zero, List.set_cons_succ]
  refine wpAnyH_ready (rs := [4]) (by kernel_rfl) (by simp) ?_
  refine AllReadyH.cons rfl (fun K hK => ?_) AllReadyH.nil
  rw [if_pos (by kernel_rfl)]
  go_simp
  have hk4 := K4.out.below (Below.refl _ w4).drew
  have HT3 := Lib.hid (T3.out w4.drew hk4.rd)
  refine HT3.out.mono ?_
  rintro e w5 ⟨rfl, hr, hg⟩
  have hk5 := hk4.num hg hr
  clear hr hg hk4
  dsimp only
  refine hK.out _ _ ?_ (fun hHeld => ?_)
  · trivial
  clear hK K
  have hub : (str ub).size = ub.length := str_size ub
  have hcp := run_copy_string (P := Tryd.prog) w5 22 9 3 5 (rb + 1) 1 3 3 (str ub) Tryd.underlying22 (fun w => by kernel_rfl) (by omega)
    (fun j hj => by rw [hk5.cells.cell (i := 1 + j) (by omega)]; rfl) (fun j hj => hk5.cells.frozen (1 + j))
  rw [hub] at hcp
  have hvl : ((str ub).data.toList.map fun x => Value.int .u8 (x.toNat : Int)).length = ub.length := by rw [List.length_map, str_list, List.length_map]
  have K6 := Lib.hid (hk5.sets 1 ((str ub).data.toList.map fun x => Value.int .u8 (x.toNat : Int)) (by rw [hvl]; omega))
  obtain ⟨w6, hw6⟩ : ∃ w6, w6 = w5.setCells (rb + 1) 1 ((str ub).data.toList.map fun x => Value.int .u8 (x.toNat : Int)) := ⟨_, rfl⟩
  rw [← hw6] at hcp K6
  clear hw6 hub hvl
  refine wpAnyH_ready (rs := [5]) (by kernel_rfl) (by simp) ?_
  refine AllReadyH.cons rfl (fun K hK => ?_) AllReadyH.nil
  rw [if_pos (by kernel_rfl)]
  go_simp
  refine hK.out _ _ ?_ (fun hHeld => ?_)
  · trivial
  clear hK K
  refine wpAnyH_take (i := 6) (v := ?vb6) rfl (by kernel_rfl) (by kernel_rfl) (by kernel_rfl) (fun _ _ _ h => h) (Or.inl ⟨by rfl, ?hb6⟩) (by assumption) ?_
  case hb6 => intro w hSw; (try dsimp only at hSw); go_simp; try with_reducible rfl
  simp only [List.getElem_toArray, List.getElem_cons_succ, List.getElem_cons_zero, Act.put, List.setIfInBounds_toArray, List.set_cons_zero, List.set_cons_succ]
  refine wpAnyH_take (i := 7) (v := ?vb7) rfl (by kernel_rfl) (by kernel_rfl) (by kernel_rfl) (fun _ _ _ h => h) (Or.inl ⟨by rfl, ?hb7⟩) (by assumption) ?_
  case hb7 => intro w hSw; (try dsimp only at hSw); go_simp; try with_reducible rfl
  simp only [List.getElem_toArray, List.getElem_cons_succ, List.getElem_cons_zero, Act.put, List.setIfInBounds_toArray, List.set_cons_zero, List.set_cons_succ]
  have z4 := K6.out.cells.cell (i := 4) (by omega)
  have y4 := K6.out.cells.frozen 4
  refine wpAnyH_ready (rs := [8]) (by kernel_rfl) (by simp) ?_
  refine AllReadyH.cons rfl (fun K hK => ?_) AllReadyH.nil
  rw [if_pos (by kernel_rfl)]
  go_simp
  have K7 := Lib.hid (K6.out.set (i := 4) (by omega) (.int .i64 (ub.length : Int)))
  obtain ⟨w7, hw7⟩ : ∃ w7, w7 = w6.setCell ⟨rb + 1, 4, none⟩ (.int .i64 (ub.length : Int)) := ⟨_, rfl⟩
  rw [← hw7]
  rw [← hw7] at K7
  clear hw7 z4 y4 hcp hk5 K6 HT3
  refine hK.out _ _ ?_ (fun hHeld => ?_)
  · trivial
  clear hK K
  refine wpAnyH_done (by kernel_rfl) ?_ _
  refine NoPanic.normal ?_
  -- region 4
  go_wp2_with fail
  refine (T4.out w7 K7.out.rd).mono ?_
  rintro e w8 ⟨rfl, hr, hg⟩
  have K8 := Lib.hid (K7.out.num hg hr)
  clear hr hg
  dsimp only
  have z5 := K8.out.cells.cell (i := 5) (by omega)
  have y5 := K8.out.cells.frozen 5
  have hk9 := K8.out.set (i := 5) (by omega) (.string (str mb))
  obtain ⟨w9, hw9⟩ : ∃ w9, w9 = w8.setCell ⟨rb + 1, 5, none⟩ (.string (str mb)) := ⟨_, rfl⟩
  rw [← hw9] at hk9
  have K9 := Lib.hid (show PK w w9 g (rb + 1) l4 b4 (parAt ⟨st, wi, ub.map UInt8.ofNat, mb, [], []⟩ none 0) Z from ⟨hk9.rd, hk9.cells.congr (par_made st wi ub mb hu3), hk9.on, hk9.gz, hk9.pz, hk9.res⟩)
  have W9 := Lib.hid hw9
  clear hw9 hk9
  go_upto_region 5 with fail
  rw [← W9.out]
  clear z5 y5 K7 K8
  go_wp2_with fail
  refine (N5.out w9 K9.out.rd).mono ?_
  rintro e w10 ⟨rfl, hr, hg⟩
  have K10 := Lib.hid (K9.out.num hg hr)
  clear hr hg K9
  dsimp only
  have hz10 := K10.out.cells.lt
  go_wp2
  go_loopw [23] (fun i wr => ∃ k : Nat, k ≤ n ∧ i = .int .i64 (k : Int) ∧ ∃ qs lq bq v, qs.length = k ∧ PK w wr g (rb + 1) lq bq (upd (parAt ⟨st, wi, ub.map UInt8.ofNat, mb, [], []⟩ none 0) 6 v) Z ∧ intE.Own wr (rb + 2) v (qs.map Int.ofNat) ∧ (qs ++ (takePs (n - k) lq bq).1, (takePs (n - k) lq bq).2) = (ps, l6, b6)) (fun i _ => n - (RowKit.intOf i).toNat)
  case atStart => exact ⟨0, Nat.zero_le _, rfl, [], l5, b5, .slice none 0 0, rfl, by rw [upd_same (parAt ⟨st, wi, ub.map UInt8.ofNat, mb, [], []⟩ none 0) 6 (.slice none 0 0) rfl]; exact K10.out, El.Own.nil _ _, by rw [Nat.sub_zero, List.nil_append]; exact E6.out⟩
  case round =>
    obtain ⟨k, hk, rfl, qs, lq, bq, v, hql, hpk, hown, hrel⟩ := hrel
    have H1 := Lib.hid hpk
    have H2 := Lib.hid hown
    have H3 := Lib.hid hrel
    have H4 := Lib.hid hql
    clear hpk hown hrel hql
    by_cases hlt : k < n
    · have g1 : decide ((k : Int) < (n : Int)) = true := by simp; omega
      have gn : decide (k < n) = true := by simp; omega
      obtain ⟨⟨q, lz, bz⟩, eq⟩ : ∃ q, numOf lq bq 10000 = q := ⟨_, rfl⟩
      have EQ := Lib.hid eq
      have NQ := Lib.hid (fun (V : World) (hr : Rd V g lq bq) => (show Calls Tryd.prog 53 #[.pointer (some ⟨g, 0, none⟩), .int .i64 10000] V (NumPost V g (q, lz, bz)) by rw [← eq]; exact num_any V g lq bq 10000 (by omega) hr))
      have z6 : wr.cell? ⟨rb + 1, 6, none⟩ = some v := (H1.out.cells.cell (i := 6) (by omega)).trans (by simp [upd])
      clear eq
      go_wp2
      refine wp_region_noPanic ?_
      refine wp_region_held_drew (S := fun _ => True) (by kernel_rfl) trivial (fun hHeld => ?_)
      refine wpAnyH_take (i := 0) (v := ?vc0) rfl (by kernel_rfl) (by kernel_rfl) (by kernel_rfl) (fun _ _ _ h => h) (Or.inl ⟨by rfl, ?hc0⟩) (by assumption) ?_
      case hc0 => intro w hSw; (try dsimp only at hSw); go_simp; try with_reducible rfl
      simp only [List.getElem_toArray, List.getElem_cons_zero, Act.put, List.setIfInBounds_toArray, List.set_cons_zero, List.set_cons_succ]
      refine wpAnyH_take (i := 2) (v := ?vc2) rfl (by kernel_rfl) (by kernel_rfl) (by kernel_rfl) (fun _ _ _ h => h) (Or.inl ⟨by rfl, ?hc2⟩) (by assumption) ?_
      case hc2 => intro w hSw; (try dsimp only at hSw); go_simp; try with_reducible rfl
      simp only [List.getElem_toArray, List.getElem_cons_succ, List.getElem_cons_zero, Act.put, List.setIfInBounds_toArray, List.set_cons_zero, List.set_cons_succ]
      refine wpAnyH_ready (rs := [1, 3]) (by kernel_rfl) (by simp) ?_
      refine AllReadyH.cons rfl (fun K hK => ?_) (AllReadyH.cons rfl (fun K hK => ?_) AllReadyH.nil)
      · rw [if_pos (by kernel_rfl)]
        have z6d : wr.drew.cell? ⟨rb + 1, 6, none⟩ = some v := z6
        go_simp
        refine hK.out _ _ ?_ (fun hHeld => ?_)
        · trivial
        clear hK K
        clear z6d
        refine wpAnyH_ready (rs := [3]) (by kernel_rfl) (by simp) ?_
        refine AllReadyH.cons rfl (fun K hK => ?_) AllReadyH.nil
        rw [if_pos (by kernel_rfl)]
        go_simp
        have hk1 := H1.out.below (Below.refl _ wr).drew
        refine (NQ.out wr.drew hk1.rd).mono ?_
        rintro e v2 ⟨rfl, hr, hg⟩
        have hk2 := hk1.num hg hr
        have hgb : g < rb + 2 := by have := H1.out.gz; have := H1.out.pz; omega
        have ho2 : intE.Own v2 (rb + 2) v (qs.map Int.ofNat) := H2.out.keep fun j e => (hg.block j (H2.out.lt j e).2 (by intro e2; injection e2 with e2; have := (H2.out.lt j e).1; omega)).trans rfl
        have x6 : v2.cell? ⟨rb + 1, 6, none⟩ = some v := (hk2.cells.cell (i := 6) (by omega)).trans (by simp [upd])
        clear hr hg hk1
        dsimp only
        refine hK.out _ _ ?_ (fun hHeld => ?_)
        · trivial
        clear hK K
        refine wpAnyH_ready (rs := [4]) (by kernel_rfl) (by simp) ?_
        refine AllReadyH.cons rfl (fun K hK => ?_) AllReadyH.nil
        rw [if_pos (by kernel_rfl)]
        go_simp
        obtain ⟨v3, hv3⟩ : ∃ v3, v3 = v2.alloc (.cells #[.int .i64 (q : Int)] 3) := ⟨_, rfl⟩
        have hb3 : Below v2.heap.size v2 v3 := by rw [hv3]; exact (Below.refl _ _).alloc (Nat.le_refl _) _
        have hk3 := hk2.below hb3
        have ho3 := ho2.below hb3
        have hrow : intE.Row v3 v3.heap.size (some ⟨v2.heap.size, 0, none⟩) [(q : Int)] := by
          have := El.row_new (E := intE) v2 (q : Int) #[.int .i64 (q : Int)] 3 rfl
          rw [hv3]
          simpa using this
        have x63 : v3.cell? ⟨rb + 1, 6, none⟩ = some v := (hk3.cells.cell (i := 6) (by omega)).trans (by simp [upd])
        have hz3 : rb + 2 ≤ v3.heap.size := by have := hk3.cells.lt; omega
        rw [← hv3]
        clear hv3 hb3 hk2 ho2 x6
        refine hK.out _ _ ?_ (fun hHeld => ?_)
        · trivial
        clear hK K
        refine wpAnyH_ready (rs := [5]) (by kernel_rfl) (by simp) ?_
        refine AllReadyH.cons rfl (fun K hK => ?_) AllReadyH.nil
        rw [if_pos (by kernel_rfl)]
        refine intE.oper_append (.tmp 26) (.tmp 29) rfl (rb + 2) v (qs.map Int.ofNat) rfl ho3 (some ⟨v2.heap.size, 0, none⟩) [(q : Int)] 1 1 _ rfl rfl hrow (by simp) (by simp [intE, H4.out]; omega) (by simp [H4.out, maxLen]; omega) hz3 ?_
        intro v' v4 ho4 hg4
        simp only [List.getElem_toArray, List.getElem_cons_succ, List.getElem_cons_zero, Act.put, List.setIfInBounds_toArray, List.set_cons_zero, List.set_cons_succ]
        have hvb : ∀ k, v.ownBlock = some k → rb + 1 < k := fun k e => by have := (ho3.lt k e).1; omega
        have hk4 := hk3.grow hg4.grown hvb
        have x64 : v4.cell? ⟨rb + 1, 6, none⟩ = some v := (hk4.cells.cell (i := 6) (by omega)).trans (by simp [upd])
        have y64 := hk4.cells.frozen 6
        obtain ⟨A', c', hv', _⟩ := ho4.row
        subst hv'
        generalize (qs.map Int.ofNat ++ [(q : Int)]).length = m5 at *
        clear hk3 ho3 hrow x63 hg4 hvb
        refine hK.out _ _ ?_ (fun hHeld => ?_)
        · trivial
        clear hK K
        refine wpAnyH_take (i := 6) (v := ?vd6) rfl (by kernel_rfl) (by kernel_rfl) (by kernel_rfl) (fun _ _ _ h => h) (Or.inl ⟨by rfl, ?hd6⟩) (by assumption) ?_
        case hd6 => intro w hSw; (try dsimp only at hSw); go_simp; try with_reducible rfl
        simp only [List.getElem_toArray, List.getElem_cons_succ, List.getElem_cons_zero, Act.put, List.setIfInBounds_toArray, List.set_cons_zero, List.set_cons_succ]
        refine wpAnyH_ready (rs := [7]) (by kernel_rfl) (by simp) ?_
        refine AllReadyH.cons rfl (fun K hK => ?_) AllReadyH.nil
        rw [if_pos (by kernel_rfl)]
        go_simp
        have hk5 := hk4.set (i := 6) (by omega) (.slice A' m5 c')
        have e66 : ∀ a b : Value, upd (upd (parAt ⟨st, wi, ub.map UInt8.ofNat, mb, [], []⟩ none 0) 6 a) 6 b = upd (parAt ⟨st, wi, ub.map UInt8.ofNat, mb, [], []⟩ none 0) 6 b := fun a b => by
          funext j
          unfold upd
          by_cases e : j = 6 <;> simp [e]
        rw [e66] at hk5
        have HK5 := Lib.hid hk5
        have HO5 := Lib.hid (show intE.Own (v4.setCell ⟨rb + 1, 6, none⟩ (.slice A' m5 c')) (rb + 2) (.slice A' m5 c') ((qs ++ [q]).map Int.ofNat) by
          have : (qs ++ [q]).map Int.ofNat = qs.map Int.ofNat ++ [(q : Int)] := by simp
          rw [this]
          exact ho4.keep fun j e => Below.heap_setCell _ _ _ _ (by have := (ho4.lt j e).1; show j ≠ rb + 1; omega))
        have HL5 := Lib.hid (show (qs ++ [q]).length = k + 1 by simp [H4.out])
        have HR5 := Lib.hid (show (qs ++ [q] ++ (takePs (n - (k + 1)) lz bz).1, (takePs (n - (k + 1)) lz bz).2) = (ps, l6, b6) by
          rw [← H3.out, show n - k = (n - (k + 1)) + 1 by omega]
          simp only [takePs, EQ.out, List.append_assoc, List.singleton_append])
        obtain ⟨v5, hv5⟩ : ∃ v5, v5 = v4.setCell ⟨rb + 1, 6, none⟩ (.slice A' m5 c') := ⟨_, rfl⟩
        rw [← hv5]
        rw [← hv5] at HK5 HO5
        clear hk5 hk4 ho4 x64 y64 hv5 e66
        refine hK.out _ _ ?_ (fun hHeld => ?_)
        · trivial
        clear hK K
        refine wpAnyH_done (by kernel_rfl) ?_ _
        refine NoPanic.normal ?_
        go_wp2
        go_roundw
        case rel => exact ⟨k + 1, by omega, by simp, _, _, _, _, HL5.out, HK5.out, HO5.out, HR5.out⟩
        case measure => simp [RowKit.intOf]; omega
      · rw [if_pos (by kernel_rfl)]
        go_simp
        have hk1 := H1.out.below (Below.refl _ wr).drew
        refine (NQ.out wr.drew hk1.rd).mono ?_
        rintro e v2 ⟨rfl, hr, hg⟩
        have hk2 := hk1.num hg hr
        have hgb : g < rb + 2 := by have := H1.out.gz; have := H1.out.pz; omega
        have ho2 : intE.Own v2 (rb + 2) v (qs.map Int.ofNat) := H2.out.keep fun j e => (hg.block j (H2.out.lt j e).2 (by intro e2; injection e2 with e2; have := (H2.out.lt j e).1; omega)).trans rfl
        have x6 : v2.cell? ⟨rb + 1, 6, none⟩ = some v := (hk2.cells.cell (i := 6) (by omega)).trans (by simp [upd])
        clear hr hg hk1
        dsimp only
        refine hK.out _ _ ?_ (fun hHeld => ?_)
        · trivial
        clear hK K
        refine wpAnyH_ready (rs := [1, 4]) (by kernel_rfl) (by simp) ?_
        refine AllReadyH.cons rfl (fun K hK => ?_) (AllReadyH.cons rfl (fun K hK => ?_) AllReadyH.nil)
        · rw [if_pos (by kernel_rfl)]
          go_simp
          refine hK.out _ _ ?_ (fun hHeld => ?_)
          · trivial
          clear hK K
          refine wpAnyH_ready (rs := [4]) (by kernel_rfl) (by simp) ?_
          refine AllReadyH.cons rfl (fun K hK => ?_) AllReadyH.nil
          rw [if_pos (by kernel_rfl)]
          go_simp
          obtain ⟨v3, hv3⟩ : ∃ v3, v3 = v2.alloc (.cells #[.int .i64 (q : Int)] 3) := ⟨_, rfl⟩
          have hb3 : Below v2.heap.size v2 v3 := by rw [hv3]; exact (Below.refl _ _).alloc (Nat.le_refl _) _
          have hk3 := hk2.below hb3
          have ho3 := ho2.below hb3
          have hrow : intE.Row v3 v3.heap.size (some ⟨v2.heap.size, 0, none⟩) [(q : Int)] := by
            have := El.row_new (E := intE) v2 (q : Int) #[.int .i64 (q : Int)] 3 rfl
            rw [hv3]
            simpa using this
          have x63 : v3.cell? ⟨rb + 1, 6, none⟩ = some v := (hk3.cells.cell (i := 6) (by omega)).trans (by simp [upd])
          have hz3 : rb + 2 ≤ v3.heap.size := by have := hk3.cells.lt; omega
          rw [← hv3]
          clear hv3 hb3 hk2 ho2 x6
          refine hK.out _ _ ?_ (fun hHeld => ?_)
          · trivial
          clear hK K
          refine wpAnyH_ready (rs := [5]) (by kernel_rfl) (by simp) ?_
          refine AllReadyH.cons rfl (fun K hK => ?_) AllReadyH.nil
          rw [if_pos (by kernel_rfl)]
          refine intE.oper_append (.tmp 26) (.tmp 29) rfl (rb + 2) v (qs.map Int.ofNat) rfl ho3 (some ⟨v2.heap.size, 0, none⟩) [(q : Int)] 1 1 _ rfl rfl hrow (by simp) (by simp [intE, H4.out]; omega) (by simp [H4.out, maxLen]; omega) hz3 ?_
          intro v' v4 ho4 hg4
          simp only [List.getElem_toArray, List.getElem_cons_succ, List.getElem_cons_zero, Act.put, List.setIfInBounds_toArray, List.set_cons_zero, List.set_cons_succ]
          have hvb : ∀ k, v.ownBlock = some k → rb + 1 < k := fun k e => by have := (ho3.lt k e).1; omega
          have hk4 := hk3.grow hg4.grown hvb
          have x64 : v4.cell? ⟨rb + 1, 6, none⟩ = some v := (hk4.cells.cell (i := 6) (by omega)).trans (by simp [upd])
          have y64 := hk4.cells.frozen 6
          obtain ⟨A', c', hv', _⟩ := ho4.row
          subst hv'
          generalize (qs.map Int.ofNat ++ [(q : Int)]).length = m5 at *
          clear hk3 ho3 hrow x63 hg4 hvb
          refine hK.out _ _ ?_ (fun hHeld => ?_)
          · trivial
          clear hK K
          refine wpAnyH_take (i := 6) (v := ?ve6) rfl (by kernel_rfl) (by kernel_rfl) (by kernel_rfl) (fun _ _ _ h => h) (Or.inl ⟨by rfl, ?he6⟩) (by assumption) ?_
          case he6 => intro w hSw; (try dsimp only at hSw); go_simp; try with_reducible rfl
          simp only [List.getElem_toArray, List.getElem_cons_succ, List.getElem_cons_zero, Act.put, List.setIfInBounds_toArray, List.set_cons_zero, List.set_cons_succ]
          refine wpAnyH_ready (rs := [7]) (by kernel_rfl) (by simp) ?_
          refine AllReadyH.cons rfl (fun K hK => ?_) AllReadyH.nil
          rw [if_pos (by kernel_rfl)]
          go_simp
          have hk5 := hk4.set (i := 6) (by omega) (.slice A' m5 c')
          have e66 : ∀ a b : Value, upd (upd (parAt ⟨st, wi, ub.map UInt8.ofNat, mb, [], []⟩ none 0) 6 a) 6 b = upd (parAt ⟨st, wi, ub.map UInt8.ofNat, mb, [], []⟩ none 0) 6 b := fun a b => by
            funext j
            unfold upd
            by_cases e : j = 6 <;> simp [e]
          rw [e66] at hk5
          have HK5 := Lib.hid hk5
          have HO5 := Lib.hid (show intE.Own (v4.setCell ⟨rb + 1, 6, none⟩ (.slice A' m5 c')) (rb + 2) (.slice A' m5 c') ((qs ++ [q]).map Int.ofNat) by
            have : (qs ++ [q]).map Int.ofNat = qs.map Int.ofNat ++ [(q : Int)] := by simp
            rw [this]
            exact ho4.keep fun j e => Below.heap_setCell _ _ _ _ (by have := (ho4.lt j e).1; show j ≠ rb + 1; omega))
          have HL5 := Lib.hid (show (qs ++ [q]).length = k + 1 by simp [H4.out])
          have HR5 := Lib.hid (show (qs ++ [q] ++ (takePs (n - (k + 1)) lz bz).1, (takePs (n - (k + 1)) lz bz).2) = (ps, l6, b6) by
            rw [← H3.out, show n - k = (n - (k + 1)) + 1 by omega]
            simp only [takePs, EQ.out, List.append_assoc, List.singleton_append])
          obtain ⟨v5, hv5⟩ : ∃ v5, v5 = v4.setCell ⟨rb + 1, 6, none⟩ (.slice A' m5 c') := ⟨_, rfl⟩
          rw [← hv5]
          rw [← hv5] at HK5 HO5
          clear hk5 hk4 ho4 x64 y64 hv5 e66
          refine hK.out _ _ ?_ (fun hHeld => ?_)
          · trivial
          clear hK K
          refine wpAnyH_done (by kernel_rfl) ?_ _
          refine NoPanic.normal ?_
          go_wp2
          go_roundw
          case rel => exact ⟨k + 1, by omega, by simp, _, _, _, _, HL5.out, HK5.out, HO5.out, HR5.out⟩
          case measure => simp [RowKit.intOf]; omega
        · rw [if_pos (by kernel_rfl)]
          go_simp
          obtain ⟨v3, hv3⟩ : ∃ v3, v3 = v2.alloc (.cells #[.int .i64 (q : Int)] 3) := ⟨_, rfl⟩
          have hb3 : Below v2.heap.size v2 v3 := by rw [hv3]; exact (Below.refl _ _).alloc (Nat.le_refl _) _
          have hk3 := hk2.below hb3
          have ho3 := ho2.below hb3
          have hrow : intE.Row v3 v3.heap.size (some ⟨v2.heap.size, 0, none⟩) [(q : Int)] := by
            have := El.row_new (E := intE) v2 (q : Int) #[.int .i64 (q : Int)] 3 rfl
            rw [hv3]
            simpa using this
          have x63 : v3.cell? ⟨rb + 1, 6, none⟩ = some v := (hk3.cells.cell (i := 6) (by omega)).trans (by simp [upd])
          have hz3 : rb + 2 ≤ v3.heap.size := by have := hk3.cells.lt; omega
          rw [← hv3]
          clear hv3 hb3 hk2 ho2 x6
          refine hK.out _ _ ?_ (fun hHeld => ?_)
          · trivial
          clear hK K
          refine wpAnyH_ready (rs := [1]) (by kernel_rfl) (by simp) ?_
          refine AllReadyH.cons rfl (fun K hK => ?_) AllReadyH.nil
          rw [if_pos (by kernel_rfl)]
          go_simp
          refine hK.out _ _ ?_ (fun hHeld => ?_)
          · trivial
          clear hK K
          refine wpAnyH_ready (rs := [5]) (by kernel_rfl) (by simp) ?_
          refine AllReadyH.cons rfl (fun K hK => ?_) AllReadyH.nil
          rw [if_pos (by kernel_rfl)]
          refine intE.oper_append (.tmp 26) (.tmp 29) rfl (rb + 2) v (qs.map Int.ofNat) rfl ho3 (some ⟨v2.heap.size, 0, none⟩) [(q : Int)] 1 1 _ rfl rfl hrow (by simp) (by simp [intE, H4.out]; omega) (by simp [H4.out, maxLen]; omega) hz3 ?_
          intro v' v4 ho4 hg4
          simp only [List.getElem_toArray, List.getElem_cons_succ, List.getElem_cons_zero, Act.put, List.setIfInBounds_toArray, List.set_cons_zero, List.set_cons_succ]
          have hvb : ∀ k, v.ownBlock = some k → rb + 1 < k := fun k e => by have := (ho3.lt k e).1; omega
          have hk4 := hk3.grow hg4.grown hvb
          have x64 : v4.cell? ⟨rb + 1, 6, none⟩ = some v := (hk4.cells.cell (i := 6) (by omega)).trans (by simp [upd])
          have y64 := hk4.cells.frozen 6
          obtain ⟨A', c', hv', _⟩ := ho4.row
          subst hv'
          generalize (qs.map Int.ofNat ++ [(q : Int)]).length = m5 at *
          clear hk3 ho3 hrow x63 hg4 hvb
          refine hK.out _ _ ?_ (fun hHeld => ?_)
          · trivial
          clear hK K
          refine wpAnyH_take (i := 6) (v := ?vf6) rfl (by kernel_rfl) (by kernel_rfl) (by kernel_rfl) (fun _ _ _ h => h) (Or.inl ⟨by rfl, ?hf6⟩) (by assumption) ?_
          case hf6 => intro w hSw; (try dsimp only at hSw); go_simp; try with_reducible rfl
          simp only [List.getElem_toArray, List.getElem_cons_succ, List.getElem_cons_zero, Act.put, List.setIfInBounds_toArray, List.set_cons_zero, List.set_cons_succ]
          refine wpAnyH_ready (rs := [7]) (by kernel_rfl) (by simp) ?_
          refine AllReadyH.cons rfl (fun K hK => ?_) AllReadyH.nil
          rw [if_pos (by kernel_rfl)]
          go_simp
          have hk5 := hk4.set (i := 6) (by omega) (.slice A' m5 c')
          have e66 : ∀ a b : Value, upd (upd (parAt ⟨st, wi, ub.map UInt8.ofNat, mb, [], []⟩ none 0) 6 a) 6 b = upd (parAt ⟨st, wi, ub.map UInt8.ofNat, mb, [], []⟩ none 0) 6 b := fun a b => by
            funext j
            unfold upd
            by_cases e : j = 6 <;> simp [e]
          rw [e66] at hk5
          have HK5 := Lib.hid hk5
          have HO5 := Lib.hid (show intE.Own (v4.setCell ⟨rb + 1, 6, none⟩ (.slice A' m5 c')) (rb + 2) (.slice A' m5 c') ((qs ++ [q]).map Int.ofNat) by
            have : (qs ++ [q]).map Int.ofNat = qs.map Int.ofNat ++ [(q : Int)] := by simp
            rw [this]
            exact ho4.keep fun j e => Below.heap_setCell _ _ _ _ (by have := (ho4.lt j e).1; show j ≠ rb + 1; omega))
          have HL5 := Lib.hid (show (qs ++ [q]).length = k + 1 by simp [H4.out])
          have HR5 := Lib.hid (show (qs ++ [q] ++ (takePs (n - (k + 1)) lz bz).1, (takePs (n - (k + 1)) lz bz).2) = (ps, l6, b6) by
            rw [← H3.out, show n - k = (n - (k + 1)) + 1 by omega]
            simp only [takePs, EQ.out, List.append_assoc, List.singleton_append])
          obtain ⟨v5, hv5⟩ : ∃ v5, v5 = v4.setCell ⟨rb + 1, 6, none⟩ (.slice A' m5 c') := ⟨_, rfl⟩
          rw [← hv5]
          rw [← hv5] at HK5 HO5
          clear hk5 hk4 ho4 x64 y64 hv5 e66
          refine hK.out _ _ ?_ (fun hHeld => ?_)
          · trivial
          clear hK K
          refine wpAnyH_done (by kernel_rfl) ?_ _
          refine NoPanic.normal ?_
          go_wp2
          go_roundw
          case rel => exact ⟨k + 1, by omega, by simp, _, _, _, _, HL5.out, HK5.out, HO5.out, HR5.out⟩
          case measure => simp [RowKit.intOf]; omega
    · have hkn : k = n := by omega
      have g1 : decide ((k : Int) < (n : Int)) = false := by simp; omega
      have gn : decide (k < n) = false := by simp; omega
      have hr3 := H3.out
      rw [hkn] at hr3
      simp only [Nat.sub_self, takePs, List.append_nil, Prod.mk.injEq] at hr3
      obtain ⟨hq1, hq2, hq3⟩ := hr3
      subst hq1 hq2 hq3
      obtain ⟨A, c, hv, hlc, hcm, hA, hrow⟩ := H2.out.row
      rw [List.length_map] at hv
      subst hv
      have HOW := Lib.hid H2.out
      clear hkn hlc hcm hA hrow
      go_wp2_with fail
      refine (T7.out wr H1.out.rd).mono ?_
      rintro e w11 ⟨rfl, hr, hg⟩
      have K11 := Lib.hid (H1.out.num hg hr)
      have HO11 := Lib.hid (show intE.Own w11 (rb + 2) (.slice A qs.length c) (qs.map Int.ofNat) from HOW.out.keep fun j e => hg.block j (HOW.out.lt j e).2 (by intro e2; injection e2 with e2; have := (HOW.out.lt j e).1; have := H1.out.gz; have := H1.out.pz; omega))
      clear hr hg H1 H2 HOW
      dsimp only
      have z7 := K11.out.cells.cell (i := 7) (by omega)
      have y7 := K11.out.cells.frozen 7
      have hk12 := K11.out.set (i := 7) (by omega) (.string (str tb))
      obtain ⟨w12, hw12⟩ : ∃ w12, w12 = w11.setCell ⟨rb + 1, 7, none⟩ (.string (str tb)) := ⟨_, rfl⟩
      have HO12 := Lib.hid (show intE.Own w12 (rb + 2) (.slice A qs.length c) (qs.map Int.ofNat) by rw [hw12]; exact HO11.out.keep fun j e => Below.heap_setCell _ _ _ _ (by have := (HO11.out.lt j e).1; show j ≠ rb + 1; omega))
      rw [← hw12] at hk12
      have K12 := Lib.hid (show PK w w12 g (rb + 1) l7 b7 (parAt ⟨st, wi, ub.map UInt8.ofNat, mb, qs, tb⟩ A c) Z from ⟨hk12.rd, hk12.cells.congr (par_params st wi _ mb qs tb A c), hk12.on, hk12.gz, hk12.pz, hk12.res⟩)
      have W12 := Lib.hid hw12
      clear hw12 hk12
      obtain ⟨V9, hV9, hVs, hV1, hVa⟩ : ∃ V9 : Array Value, parV ⟨st, wi, ub.map UInt8.ofNat, mb, qs, tb⟩ A c = .agg V9 ∧ V9.size = 9 ∧ V9.all (·.oneCell') = true ∧ ∀ j, j < 9 → V9[j]? = some (parAt ⟨st, wi, ub.map UInt8.ofNat, mb, qs, tb⟩ A c j) := by
        refine ⟨_, rfl, rfl, by simp [Value.oneCell'], fun j hj => ?_⟩
        rcases (by omega : j = 0 ∨ j = 1 ∨ j = 2 ∨ j = 3 ∨ j = 4 ∨ j = 5 ∨ j = 6 ∨ j = 7 ∨ j = 8) with rfl | rfl | rfl | rfl | rfl | rfl | rfl | rfl | rfl <;> rfl
      have sz9 : (Tryd.prog.info? 41).map (·.size) = some 9 := by kernel_rfl
      have hl : ∀ (o : Oper) (ops : Array Oper) (rest : List Oper) (a : Act) (Q : Exit → Act → World → Prop), o.guard = none → o.op = .load 41 (.tmp 3) → a.eval (.tmp 3) = .pointer (some ⟨rb + 1, 0, none⟩) → wpList Tryd.prog ops Q rest (a.put o.dst (.agg V9)) w12 → wpList Tryd.prog ops Q (o :: rest) a w12 :=
        fun o ops rest a Q hg ho he h => wpList_load_mid hg _ _ ho (rb + 1) 0 he V9.toList _ (fun j v hv => by
          rw [Array.getElem?_toList] at hv
          have hj : j < 9 := by
            rcases Nat.lt_or_ge j 9 with h | h
            · exact h
            · rw [Array.getElem?_eq_none (by rw [hVs]; exact h)] at hv; cases hv
          rw [hVa j hj] at hv
          rw [Nat.zero_add, K12.out.cells.cell hj]
          exact hv) Tryd.underlying41 rfl (by rw [sz9]; simp [hVs]) (by simpa using h)
      have hZs : Z.size = 9 := by rw [HZZ.out]; rfl
      have hres : w12.heap[rb]? = some (.cells Z 41 (0, 0)) := by rw [HRB.out]; exact K12.out.res
      have hs : ∀ (o : Oper) (ops : Array Oper) (rest : List Oper) (a : Act) (Q : Exit → Act → World → Prop), o.guard = none → o.op = .store 41 (.tmp 2) (.tmp 36) → a.eval (.tmp 2) = .pointer (some ⟨rb, 0, none⟩) → a.eval (.tmp 36) = .agg V9 → wpList Tryd.prog ops Q rest (a.put o.dst undef) (w12.setRow rb V9) → wpList Tryd.prog ops Q (o :: rest) a w12 :=
        fun o ops rest a Q hg ho he he2 h => wpList_store_row hg _ _ _ ho rb V9 he he2 41 Z hres (by rw [sz9, hVs]) (by rw [hZs, hVs]) hV1 h
      have HL := Lib.hid hl
      have HS := Lib.hid hs
      have HRS := Lib.hid hres
      have HV9 := Lib.hid hV9
      have HVS := Lib.hid hVs
      clear hl hs hres hV9 hVs hV1 hVa hZs
      go_upto_region 10 with fail
      rw [← W12.out]
      clear z7 y7
      go_wp2_with (first | (refine HL.out _ _ _ _ _ rfl rfl rfl ?_) | (refine HS.out _ _ _ _ _ rfl rfl rfl rfl ?_))
      have hset : ∀ k, k ≠ rb → (w12.setRow rb V9).heap[k]? = w12.heap[k]? := fun k hk => setRow_other w12 rb k V9 hk
      have hrbw : rb = w.heap.size := HRB.out
      have hgz := K12.out.gz
      refine bodyPost_ret (v := .agg V9) ?_ rfl ?_
      · rw [results_cell_row (fn := Tryd.f35) rfl _ _ rb 41 V9 (0, 0) _ rfl (setRow_heap _ _ _ _ _ _ HRS.out) Tryd.underlying41 rfl (by rw [sz9, HVS.out])]
      · rw [HRR.out]
        refine ⟨A, c, by rw [← HV9.out], ?_, ?_, ?_, ?_⟩
        · obtain ⟨A0, c0, hA, q2, q3, q4, q5⟩ := K12.out.rd
          exact ⟨A0, c0, (hset g (by omega)).trans hA, q2, q3, q4.keep fun p hp => World.cell?_of_block (hset p.block (by omega)), q5⟩
        · intro hp
          have ho := HO12.out
          rw [show qs.length = (qs.map Int.ofNat).length by simp] at ho
          obtain ⟨b, off, e, hb, hc⟩ := (El.Row.of_own ho) (by simpa using hp)
          have hbb : rb + 2 ≤ b := by
            have := (HO12.out.lt b (by rw [e]; rfl)).1
            exact this
          refine ⟨b, off, e, by simpa using hb, fun j hj => ?_⟩
          rw [World.cell?_of_block (w := w12) (a := ⟨b, off + j, none⟩) (hset b (by omega))]
          have := hc j (by simpa [intE] using hj)
          rw [this, int_cells]
          simp [nums, show j < qs.length from hj]
        · have ho := K12.out.on
          exact ⟨ho.os, ho.tape, ho.output, by simpa using ho.size, fun k hk hne => (hset k (by omega)).trans (ho.block k hk hne)⟩
        · intro a ha
          have := (HO12.out.lt a.block (by rw [ha]; rfl)).1
          omega
end Go.Proofs.YtdolapobkhhanaaDoor
