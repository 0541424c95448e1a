/-
  Rows of elements: cut, copied into, made; what an operation changes ('Fr'); slice headers as elements.
-/
import Derived.Test.YtbpkklcegiiheaaDoorKMend
import Derived.Laws.CopyOwn
import Derived.Laws.MakeOwn
import Derived.Lib.AppendZeros
import Derived.Deep.CutRange
namespace Go.Proofs.YtbpkklcegiiheaaDoor
open Go.RowKit Go.Lib KM

/-! ### what has changed -/
/-- w' is w but for the blocks of S and for new ones. -/
structure Fr (S : Nat → Prop) (w w' : World) : Prop where
  os : w'.os = w.os
  tape : w'.tape = w.tape
  output : w'.output = w.output
  size : w.heap.size ≤ w'.heap.size
  block : ∀ k, k < w.heap.size → ¬ S k → w'.heap[k]? = w.heap[k]?
theorem Fr.refl (S : Nat → Prop) (w : World) : Fr S w w := ⟨rfl, rfl, rfl, Nat.le_refl _, fun _ _ _ => rfl⟩
theorem Fr.below {S : Nat → Prop} {w w' : World} (h : Fr S w w') {B : Nat} (hB : B ≤ w.heap.size) (hS : ∀ k, S k → B ≤ k) : Below B w w' :=
  ⟨h.os, h.tape, h.output, h.size, fun k hk => h.block k (by omega) (fun hs => by have := hS k hs; omega)⟩
theorem Fr.of_below {S : Nat → Prop} {w w' : World} (h : Below w.heap.size w w') : Fr S w w' := ⟨h.os, h.tape, h.output, h.size, fun k hk _ => h.block k hk⟩
theorem Fr.trans' {S : Nat → Prop} {a b c : World} (h : Fr S a b) (k : Fr S b c) : Fr S a c := by
  have hs := h.size
  exact ⟨k.os.trans h.os, k.tape.trans h.tape, k.output.trans h.output, Nat.le_trans hs k.size, fun i hi hn => (k.block i (by omega) hn).trans (h.block i hi hn)⟩
/-- Two steps, the second one on whatever is old of S or new. -/
theorem Fr.trans {S T : Nat → Prop} {a b c : World} (h : Fr S a b) (k : Fr T b c) (hT : ∀ i, T i → S i ∨ a.heap.size ≤ i) : Fr S a c := by
  have hs := h.size
  refine ⟨k.os.trans h.os, k.tape.trans h.tape, k.output.trans h.output, Nat.le_trans hs k.size, fun i hi hn => (k.block i (by omega) (fun ht => ?_)).trans (h.block i hi hn)⟩
  rcases hT i ht with h1 | h1
  · exact hn h1
  · omega
theorem Fr.mono {S T : Nat → Prop} {w w' : World} (h : Fr S w w') (hT : ∀ i, S i → T i) : Fr T w w' := ⟨h.os, h.tape, h.output, h.size, fun k hk hn => h.block k hk (fun hs => hn (hT k hs))⟩
theorem Fr.setCell {S : Nat → Prop} {w : World} {a : Addr} (u : Value) (h : S a.block) : Fr S w (w.setCell a u) :=
  ⟨rfl, rfl, rfl, by simp, fun k _ hn => Below.heap_setCell _ _ _ _ (fun e => hn (by rw [e]; exact h))⟩
theorem Fr.alloc (S : Nat → Prop) (w : World) (o : Obj) : Fr S w (w.alloc o) := Fr.of_below ((Below.refl _ _).alloc (Nat.le_refl _) o)
theorem Fr.setRow {S : Nat → Prop} {w : World} {g : Nat} (cs : Array Value) (h : S g) : Fr S w (w.setRow g cs) :=
  ⟨rfl, rfl, rfl, by simp [World.setRow], fun k _ hn => setRow_other w g k cs (fun e => hn (by rw [e]; exact h))⟩
theorem Fr.drew (S : Nat → Prop) (w : World) : Fr S w w.drew := ⟨rfl, rfl, rfl, Nat.le_refl _, fun _ _ _ => rfl⟩
theorem Fr.drewN (S : Nat → Prop) (w : World) (n : Nat) : Fr S w (w.drewN n) := ⟨rfl, rfl, rfl, Nat.le_refl _, fun _ _ _ => rfl⟩
theorem Fr.to_below {w w' : World} (h : Fr (fun _ => False) w w') : Below w.heap.size w w' := h.below (Nat.le_refl _) (fun _ h => h.elim)

/-! ### slice headers -/
/-- A slice value that isn't opened. -/
structure Sl where
  a : Option Addr
  n : Nat
  c : Nat
def Sl.v (s : Sl) : Value := .slice s.a s.n s.c
/-- Its block. -/
def Sl.blk (s : Sl) : Option Nat := s.a.map (·.block)
theorem Sl.own (s : Sl) : s.v.ownBlock = s.blk := by
  obtain ⟨a, n, c⟩ := s
  cases a <;> rfl
def linE : El Sl where
  ty := 23
  sl := 29
  s := 1
  bytes := 24
  z := .slice none 0 0
  f := fun s => [s.v]
  pos := by decide
  len := fun _ => rfl
  one := fun a u hu => by
    simp only [List.mem_cons, List.not_mem_nil, or_false] at hu
    subst hu; rfl
  und := Tryd.underlying29
  info := by kernel_rfl
  zs := rfl

theorem take_splice {β : Type} (l X : List β) (a n : Nat) (h1 : a + X.length ≤ n) (h2 : n ≤ l.length) : (l.take a ++ X ++ l.drop (a + X.length)).take n = (l.take n).take a ++ X ++ (l.take n).drop (a + X.length) := by
  have hl : (l.take a ++ X).length = a + X.length := by simp; omega
  rw [List.take_append, hl, List.take_of_length_le (by omega), List.drop_take, List.take_take, Nat.min_eq_left (by omega)]

section
variable {α : Type} {E : El α}
theorem El.size_of (E : El α) : ∃ i, Tryd.prog.info? E.ty = some i ∧ i.size = E.s ∧ i.zero = some E.z ∧ i.bytes = E.bytes := by
  obtain ⟨i, hi, h1, h2, h3⟩ := info_parts E.info
  exact ⟨i, hi, h2, h1, h3⟩
theorem El.cells_take (L : List α) (k : Nat) : E.cells (L.take k) = (E.cells L).take (k * E.s) := by
  induction L generalizing k with
  | nil => simp [El.cells]
  | cons a L ih =>
    cases k with
    | zero => simp [El.cells]
    | succ k =>
      rw [List.take_succ_cons, E.cells_cons, E.cells_cons, ih, Nat.add_mul, Nat.one_mul, Nat.add_comm, List.take_append, E.len, Nat.add_sub_cancel_left, List.take_of_length_le (l := E.f a) (by rw [E.len]; omega)]
theorem El.cells_drop (L : List α) (k : Nat) : E.cells (L.drop k) = (E.cells L).drop (k * E.s) := by
  induction L generalizing k with
  | nil => simp [El.cells]
  | cons a L ih =>
    cases k with
    | zero => simp
    | succ k =>
      rw [List.drop_succ_cons, E.cells_cons, ih, Nat.add_mul, Nat.one_mul, Nat.add_comm, List.drop_append, E.len, Nat.add_sub_cancel_left, show (E.f a).drop (E.s + k * E.s) = [] from List.drop_eq_nil_of_le (by rw [E.len]; omega), List.nil_append]

/-- The builtin copy, of whole elements. -/
theorem El.run_copy (E : El α) (w : World) (ty : TypeId) (D : Option Addr) (dLen dCap : Nat) (A : Option Addr) (M : List α) (n c B : Nat) (hr : E.Row w B A M) (hn : n = M.length) (g o k : Nat) (cur : Array Value) (t : TypeId) (hg : w.heap[g]? = some (.cells cur t (0, 0)))
    (hk : k = min M.length dLen) (hD : 0 < k → D = some ⟨g, o, none⟩) (hfit : o + k * E.s ≤ cur.size) :
    (Builtin.copy_ #[E.sl, E.sl] ty #[.slice D dLen dCap, .slice A n c]).run Tryd.prog w = .ok (.int .i64 (k : Int)) (w.setRow g (cur.toList.take o ++ E.cells (M.take k) ++ cur.toList.drop (o + k * E.s)).toArray) := by
  obtain ⟨i, hi, hs, _, _⟩ := E.size_of
  subst hn
  have hmin : Nat.min M.length dLen = k := hk.symm
  rcases Nat.eq_zero_or_pos k with h0 | h0
  · subst h0
    have e : w.setRow g (cur.toList.take o ++ E.cells (M.take 0) ++ cur.toList.drop (o + 0 * E.s)).toArray = w := by
      simp only [List.take_zero, El.cells_nil, List.append_nil, Nat.zero_mul, Nat.add_zero, List.take_append_drop, Array.toArray_toList]
      exact setRow_self w g cur t (0, 0) hg
    rw [e]
    have hl : ∀ (x : Addr), (loadCells x 0).run Tryd.prog w = .ok #[] w := fun x => by simpa using run_loadCells_list (P := Tryd.prog) w x [] (by simp)
    cases D <;> cases A <;> simp [Builtin.copy_, run_underlying E.und, Builtin.lenOf, Builtin.firstCells, sizeOf, typeInfo, hi, hmin, storeCells, hl, goInt]
  · obtain rfl := hD h0
    have hM : 0 < M.length := by omega
    obtain ⟨b, off, rfl, hb, hc⟩ := hr hM
    have hcl : (E.cells (M.take k)).length = k * E.s := by rw [E.cells_len, List.length_take, Nat.min_eq_left (by omega)]
    have hl := run_loadCells_list (P := Tryd.prog) w ⟨b, off, none⟩ (E.cells (M.take k)) (fun j v hv => by
      have hj : j < k * E.s := by
        rcases Nat.lt_or_ge j (k * E.s) with h | h
        · exact h
        · rw [List.getElem?_eq_none (by rw [hcl]; exact h)] at hv; cases hv
      have hplain : (⟨b, off, none⟩ : Addr).add j = ⟨b, off + j, none⟩ := by unfold Addr.add; split <;> simp_all
      have hkm : k * E.s ≤ M.length * E.s := Nat.mul_le_mul_right _ (by omega)
      rw [hplain, hc j (by omega), ← hv, E.cells_take, List.getElem?_take_of_lt hj])
    have hst := run_storeCells_at Tryd.prog g o t (E.cells (M.take k)) 0 cur w hg (by rw [hcl]; simpa using hfit) (E.cells_one' _)
    rw [hcl] at hl hst
    simp only [Nat.add_zero] at hst
    simp [Builtin.copy_, run_underlying E.und, Builtin.lenOf, Builtin.firstCells, sizeOf, typeInfo, hi, hs, hmin, hl, hst, goInt]

variable {w w' : World} {base B : Nat} {v v' : Value} {A : Option Addr} {L M : List α}
/-- The block of a row of the call's own. -/
theorem El.Own.block (h : E.Own w base v L) {g c : Nat} (hv : v = .slice (some ⟨g, 0, none⟩) L.length c) : ∃ cur, w.heap[g]? = some (.cells cur E.ty (0, 0)) ∧ cur.size = c * E.s ∧ L.length ≤ c ∧ cur.toList.take (L.length * E.s) = E.cells L := by
  rcases h.2 with ⟨e, _⟩ | ⟨g', cap, cur, e, hb, hh, h1, h3, h4, h5⟩
  · rw [hv] at e; cases e
  · rw [hv] at e
    simp only [Value.slice.injEq, Option.some.injEq, Addr.mk.injEq, and_true, true_and] at e
    obtain ⟨rfl, rfl⟩ := e
    exact ⟨cur, hh, h4, h1, h5⟩
/-- Elements copied over some of a row of the call's own. -/
theorem El.Own.splice (h : E.Own w base v L) {g c : Nat} (hv : v = .slice (some ⟨g, 0, none⟩) L.length c) {cur : Array Value} {t : TypeId} (hg : w.heap[g]? = some (.cells cur t (0, 0))) (M : List α) (o : Nat) (ho : o + M.length ≤ L.length) :
    E.Own (w.setRow g (cur.toList.take (o * E.s) ++ E.cells M ++ cur.toList.drop (o * E.s + M.length * E.s)).toArray) base v (L.take o ++ M ++ L.drop (o + M.length)) := by
  have hlen : (L.take o ++ M ++ L.drop (o + M.length)).length = L.length := by simp; omega
  have hcs : E.cells (L.take o ++ M ++ L.drop (o + M.length)) = (E.cells L).take (o * E.s) ++ E.cells M ++ (E.cells L).drop (o * E.s + M.length * E.s) := by
    rw [E.cells_append, E.cells_append, E.cells_take, E.cells_drop, Nat.add_mul]
  have hm1 : o * E.s + M.length * E.s ≤ L.length * E.s := by rw [← Nat.add_mul]; exact Nat.mul_le_mul_right _ ho
  refine ⟨by rw [E.cells_len], ?_⟩
  rcases h.2 with ⟨e, _⟩ | ⟨g', cap, cur', e, hb, hh, h1, h3, h4, h5⟩
  · rw [hv] at e; cases e
  · rw [hv] at e
    simp only [Value.slice.injEq, Option.some.injEq, Addr.mk.injEq, and_true, true_and] at e
    obtain ⟨rfl, rfl⟩ := e
    rw [hh] at hg
    simp only [Option.some.injEq, Obj.cells.injEq] at hg
    obtain ⟨rfl, rfl, _⟩ := hg
    have hm2 : L.length * E.s ≤ c * E.s := Nat.mul_le_mul_right _ h1
    have hcl := E.cells_len M
    refine .inr ⟨g, c, _, by rw [hlen]; exact hv, hb, setRow_heap w g cur' _ E.ty (0, 0) hh, by omega, h3, ?_, ?_⟩
    · simp only [List.size_toArray, List.length_append, List.length_take, List.length_drop, hcl, Array.length_toList, h4]
      omega
    · have hcur : L.length * E.s ≤ cur'.toList.length := by rw [show cur'.toList.length = cur'.size from Array.length_toList, h4]; exact hm2
      have := take_splice cur'.toList (E.cells M) (o * E.s) (L.length * E.s) (by rw [hcl]; exact hm1) hcur
      rw [hcl] at this
      rw [hlen, hcs, ← h5]
      simpa using this
/-- A row cut at its end. -/
theorem El.Own.short {c : Nat} (h : E.Own w base (.slice A L.length c) L) (k : Nat) (hk : k ≤ L.length) : E.Own w base (.slice A k c) (L.take k) := by
  have hlen : (L.take k).length = k := by simp; omega
  refine ⟨by rw [E.cells_len], ?_⟩
  rcases h.2 with ⟨e, h0⟩ | ⟨g, cap, cur, e, hb, hh, h1, h3, h4, h5⟩
  · simp only [Value.slice.injEq] at e
    obtain ⟨rfl, h1, rfl⟩ := e
    obtain rfl : k = 0 := by omega
    exact .inl ⟨rfl, by simp⟩
  · simp only [Value.slice.injEq] at e
    obtain ⟨rfl, _, rfl⟩ := e
    refine .inr ⟨g, c, cur, by rw [hlen], hb, hh, by omega, h3, h4, ?_⟩
    rw [hlen, E.cells_take, ← h5, List.take_take, Nat.min_eq_left (Nat.mul_le_mul_right _ hk)]
theorem El.Row.of_own {c : Nat} (h : E.Own w base (.slice A L.length c) L) : E.Row w w.heap.size A L := by
  obtain ⟨A', c', e, _, _, _, hr⟩ := h.row
  simp only [Value.slice.injEq] at e
  obtain ⟨rfl, _, rfl⟩ := e
  exact hr
/-- A new row of k zero elements (E's zero being z0's cells). -/
theorem El.own_made (E : El α) (w : World) (base k : Nat) (z0 : α) (hz : E.z.cells.toList = E.f z0) (hbase : base ≤ w.heap.size) (hk : k ≤ maxLen) :
    E.Own (w.alloc (.cells (madeCells E.z.cells (k * E.s)) E.ty)) base (.slice (some ⟨w.heap.size, 0, none⟩) k k) (List.replicate k z0) := by
  refine ⟨by rw [E.cells_len], .inr ⟨w.heap.size, k, _, by rw [List.length_replicate], hbase, heap_alloc_new w _, by simp, hk, by rw [size_madeCells], ?_⟩⟩
  rw [List.length_replicate]
  have hzl : E.z.cells.size = E.s := E.zs
  apply List.ext_getElem?
  intro j
  rw [List.getElem?_take]
  by_cases hj : j < k * E.s
  · have hpos := E.pos
    have hq : j / E.s < k := Nat.div_lt_of_lt_mul (by rw [Nat.mul_comm]; exact hj)
    have hr : j % E.s < E.s := Nat.mod_lt _ hpos
    have hd : j = j / E.s * E.s + j % E.s := by rw [Nat.mul_comm]; exact (Nat.div_add_mod j E.s).symm
    rw [if_pos hj]
    conv => rhs; rw [hd]
    rw [E.cells_at _ _ (by simpa using hq) _ hr, List.getElem_replicate, ← hz]
    have e1 : (madeCells E.z.cells (k * E.s)).toList[j]? = some (E.z.cells[j % E.z.cells.size]!) := by
      rw [Array.getElem?_toList]
      simp [madeCells, hj]
    rw [e1, hzl, Array.getElem?_toList]
    have hlt : j % E.s < E.z.cells.size := by rw [hzl]; exact hr
    simp [hlt]
  · rw [if_neg hj, List.getElem?_eq_none (by rw [E.cells_len, List.length_replicate]; omega)]
/-- make of k elements. -/
theorem El.run_made (E : El α) (w : World) (k : Nat) (hk : k ≤ 100000) (hb : E.bytes ≤ 1000) :
    (Instr.makeSlice E.sl (.int .i64 (k : Int)) (.int .i64 (k : Int))).run Tryd.prog w = .ok (.slice (some ⟨w.heap.size, 0, none⟩) k k) (w.alloc (.cells (madeCells E.z.cells (k * E.s)) E.ty)) := by
  obtain ⟨i, hi, hs, hz, hby⟩ := E.size_of
  have h1 : i.bytes * k ≤ 1000 * 100000 := by rw [hby]; exact Nat.mul_le_mul hb hk
  have h2 : (i.bytes : Int) * (k : Int) ≤ 281474976710656 := by
    have : ((i.bytes * k : Nat) : Int) ≤ 281474976710656 := by omega
    rwa [Int.natCast_mul] at this
  have := run_make (P := Tryd.prog) w E.sl E.ty i E.z E.und hi hz .i64 .i64 (k : Int) (k : Int) (by omega) (by omega) h2 (by omega)
  simp only [Int.toNat_natCast, hs] at this
  exact this
end
end Go.Proofs.YtbpkklcegiiheaaDoor
