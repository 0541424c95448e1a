/-
  Bytes appended to a row of the call's own, wherever they lie: what has changed, and where the row lies behind it. Cuts of slices of bytes.
-/
import Derived.Test.YtciogdhapogolaaDoorVStr
import Derived.Test.YtciogdhapogolaaDoorVOne
import Derived.Maps.AppendAt
namespace Go.Proofs.YtciogdhapogolaaDoor
open Go.RowKit
set_option maxRecDepth 100000

theorem Own.below {w w' : World} {base : Nat} {v : Value} {l : List Nat} (h : Own w base v l) (hb : Below w.heap.size w w') : Own w' base v l := by
  refine ⟨h.1, ?_⟩
  rcases h.2 with h1 | ⟨g, cap, cur, h1, h2, h3, h4⟩
  · exact .inl h1
  · exact .inr ⟨g, cap, cur, h1, h2, (hb.block g (Array.getElem?_eq_some_iff.1 h3).1).trans h3, h4⟩
theorem Own.mono {w : World} {base base' : Nat} {v : Value} {l : List Nat} (h : Own w base v l) (hb : base' ≤ base) : Own w base' v l := by
  refine ⟨h.1, ?_⟩
  rcases h.2 with h1 | ⟨g, cap, cur, h1, h2, h3⟩
  · exact .inl h1
  · exact .inr ⟨g, cap, cur, h1, by omega, h3⟩
theorem Grow.of_below {w w1 w2 : World} {v v' : Value} (hb : Below w.heap.size w w1) (h : Grow w1 w2 v v') : Grow w w2 v v' := by
  have hs := hb.size
  refine ⟨⟨h.grown.os.trans hb.os, h.grown.tape.trans hb.tape, h.grown.output.trans hb.output, Nat.le_trans hs h.grown.size, fun k hk hne => (h.grown.block k (by omega) hne).trans (hb.block k hk)⟩, ?_⟩
  rcases h.place with e | e
  · exact .inl e
  · exact .inr fun k hk => by have := e k hk; omega

theorem run_append_g (w : World) (base : Nat) (ty : TypeId) (v : Value) (xs : List Nat) (hown : Own w base v xs) (A : Option Addr) (l : List Nat) (c B : Nat) (hr : Row w B .u8 A l) (hA : A = none → c = 0)
    (hlen : xs.length + l.length ≤ 140737488355328) (hbase : base ≤ w.heap.size) :
    ∃ v' w', (Builtin.append_ #[37, 37] ty #[v, .slice A l.length c]).run Tryd.prog w = .ok v' w' ∧ Own w' base v' (xs ++ l) ∧ Grow w w' v v' := by
  obtain ⟨i0, hi, hz0, hz1, hz2⟩ := info_parts Tryd.info5
  rcases A with _ | a
  · have : l = [] := by
      rcases l with _ | ⟨x, l⟩
      · rfl
      · obtain ⟨b, off, h, _⟩ := hr (by simp)
        cases h
    subst this
    obtain rfl := hA rfl
    exact ⟨v, w, run_append_owned_none (P := Tryd.prog) (w := w) base 37 ty 5 i0 1 Tryd.underlying37 hi v xs.length _ hown, by simpa using hown, Grow.refl _ _⟩
  · obtain ⟨v', w', h1, h2, h3, _, h5⟩ := run_append_own_at (P := Tryd.prog) w base 37 ty 5 i0 (.int .u8 0) 1 1 Tryd.underlying37 hi hz0 hz1 hz2 rfl (by decide) v xs.length _ hown a l.length c (nums .u8 l) (by rw [nums_len]; omega)
      (fun j u hu => by
        have hj : j < l.length := by
          rcases Nat.lt_or_ge j l.length with h | h
          · exact h
          · rw [List.getElem?_eq_none (by rw [nums_len]; exact h)] at hu; cases hu
        obtain ⟨b, off, h, _, hc⟩ := hr (by omega)
        injection h with h
        subst h
        have hplain : (⟨b, off, none⟩ : Addr).add j = ⟨b, off + j, none⟩ := by unfold Addr.add; split <;> simp_all
        rw [hplain, hc j hj, ← hu]
        simp [nums, hj])
      (fun u hu => by
        obtain ⟨x, _, rfl⟩ := List.mem_map.1 hu
        rfl)
      (by unfold maxLen; omega) (by omega) hbase
    refine ⟨v', w', h1, ?_, ⟨h3, ?_⟩⟩
    · unfold Own
      rw [nums_append, List.length_append]
      exact h2
    · rcases h5 with h5 | h5
      · exact .inl h5
      · exact .inr fun k hk => by rw [h5] at hk; injection hk with hk; omega

/-- append(v, x...), v a row of the call's own, x whatever bytes: the walk goes on with some value that holds both. -/
theorem wpList_append_g {w : World} {ops : Array Oper} {rest : List Oper} {o : Oper} {a : Act} {Q : Exit → Act → World → Prop} (hgd : o.guard = none) (s x : Operand)
    (ho : o.op = .call { callee := .builtin .append, args := #[s, x], argTypes := #[37, 37] }) (base : Nat) (v : Value) (xs : List Nat) (hs : a.eval s = v) (hown : Own w base v xs)
    (A : Option Addr) (l : List Nat) (n c B : Nat) (hn : n = l.length) (hx : a.eval x = .slice A n c) (hr : Row w B .u8 A l) (hA : A = none → c = 0) (hlen : xs.length + l.length ≤ 140737488355328) (hbase : base ≤ w.heap.size)
    (h : ∀ v' w', Own w' base v' (xs ++ l) → Grow w w' v v' → wpList Tryd.prog ops Q rest (a.put o.dst v') w') : wpList Tryd.prog ops Q (o :: rest) a w := by
  subst hn
  obtain ⟨v', w', hrun, h2, h3⟩ := run_append_g w base o.type v xs hown A l c B hr hA hlen hbase
  refine wpList_plain hgd fun K hK => ?_
  unfold Oper.wp execOp
  simp only [ho, resolve, invoke, builtin, Sem.run_bind, Sem.run_pure, Result.andThen_ok, List.map_toArray, List.map_cons, List.map_nil, hs, hx, hrun]
  exact hK _ _ (h v' w' h2 h3)

theorem run_mid (A : Option Addr) (n c k j : Nat) (w : World) (h : k ≤ j) (hj : j ≤ c) : (Instr.slice 37 (.slice A n c) (some (.int .i64 (k : Int))) (some (.int .i64 (j : Int))) none).run Tryd.prog w = .ok (.slice (cutA A c k) (j - k) (c - k)) w := by
  have hs : (sizeOf (Tryd.prog.elem 37)).run Tryd.prog w = .ok 1 w := by kernel_rfl
  rw [run_slice_lh (P := Tryd.prog) (w := w) (t := 37) (a := A) (len := n) (cap := c) (by kernel_rfl) .i64 .i64 (k : Int) (j : Int) (by omega) (by omega) (by omega), hs]
  simp [Result.andThen, sliced, cutA]

/-- A new block of four bytes, as the row that a slice over it reads. -/
theorem row_new4 (w : World) (a b c d : Int) (l : List Nat) (t : TypeId) (x0 x1 x2 x3 : Nat) (hl : l = [x0, x1, x2, x3]) (h0 : a = x0) (h1 : b = x1) (h2 : c = x2) (h3 : d = x3) :
    Row (w.alloc (.cells #[.int .u8 a, .int .u8 b, .int .u8 c, .int .u8 d] t)) (w.heap.size + 1) .u8 (some ⟨w.heap.size, 0, none⟩) l := fun _ => by
  subst hl h0 h1 h2 h3
  refine ⟨w.heap.size, 0, rfl, by omega, fun j hj => ?_⟩
  match j, hj with
  | 0, _ => simp
  | 1, _ => simp
  | 2, _ => simp
  | 3, _ => simp

/-- A row of the call's own stays where only another row has changed. -/
theorem ownsRow_grown {w w' : World} {base : Nat} {e : TypeId} {s : Nat} {v : Value} {n : Nat} {xs : List Value} {row : Option Nat} (h : w.ownsRow base e s v n xs) (hg : w.grownBy w' row) (hne : ∀ k, v.ownBlock = some k → row ≠ some k) : w'.ownsRow base e s v n xs := by
  refine ⟨h.1, ?_⟩
  rcases h.2 with h1 | ⟨g, cap, cur, h1, h2, h3, h4⟩
  · exact .inl h1
  · exact .inr ⟨g, cap, cur, h1, h2, (hg.block g (Array.getElem?_eq_some_iff.1 h3).1 (fun e => hne g (by rw [h1]; rfl) e.symm)).trans h3, h4⟩
theorem i64_and65535 (n : Int) : bits .and .i64 n 65535 = n % 65536 := by
  have h127 : (BitVec.ofInt 64 65535).toNat = 2 ^ 16 - 1 := by decide
  have key : (BitVec.ofInt 64 n &&& BitVec.ofInt 64 65535).toNat = (n % ((2 ^ 64 : Nat) : Int)).toNat % 2 ^ 16 := by
    rw [BitVec.toNat_and, BitVec.toNat_ofInt, h127, Nat.and_two_pow_sub_one_eq_mod]
  show IntKind.i64.wrap ((BitVec.ofInt 64 n &&& BitVec.ofInt 64 65535).toNat : Nat) = n % 65536
  rw [key, IntKind.wrap_i64]
  omega
theorem low16 (n : Int) : ∃ q : Nat, q < 65536 ∧ bits .and .i64 n 65535 = (q : Int) := ⟨(n % 65536).toNat, by omega, by rw [i64_and65535]; omega⟩
end Go.Proofs.YtciogdhapogolaaDoor
