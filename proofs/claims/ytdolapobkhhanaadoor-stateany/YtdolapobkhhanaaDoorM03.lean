/-
  VApp, KNum, KPut, KRuns, KWide, in one text.
-/
import Derived.Test.YtdolapobkhhanaaDoorM02
import Derived.Maps.AppendAt
import Derived.Laws.ResultCell
import Derived.Test.YtdolapobkhhanaaDoorM01
/-
  Bytes appended to a row of the call's own, wherever they lie: what has changed, and where the row lies behind it. Cuts of slices of bytes.
-/
namespace Go.Proofs.YtdolapobkhhanaaDoor
open Go.RowKit
set_option maxRecDepth 100000

theorem Own.below {w w' : World} {base : Nat} {v : Value} {l : List Nat} (h : Own w base v l) (hb : Below w.heap.size w w') : Own w' base v l := by
  refine ⟨h.1, ?_⟩
  rcases h.2 with h1 | ⟨g, cap, cur, h1, h2, h3, h4⟩
  · exact .inl h1
  · exact .inr ⟨g, cap, cur, h1, h2, (hb.block g (Array.getElem?_eq_some_iff.1 h3).1).trans h3, h4⟩
theorem Own.mono {w : World} {base base' : Nat} {v : Value} {l : List Nat} (h : Own w base v l) (hb : base' ≤ base) : Own w base' v l := by
  refine ⟨h.1, ?_⟩
  rcases h.2 with h1 | ⟨g, cap, cur, h1, h2, h3⟩
  · exact .inl h1
  · exact .inr ⟨g, cap, cur, h1, by omega, h3⟩
theorem Grow.of_below {w w1 w2 : World} {v v' : Value} (hb : Below w.heap.size w w1) (h : Grow w1 w2 v v') : Grow w w2 v v' := by
  have hs := hb.size
  refine ⟨⟨h.grown.os.trans hb.os, h.grown.tape.trans hb.tape, h.grown.output.trans hb.output, Nat.le_trans hs h.grown.size, fun k hk hne => (h.grown.block k (by omega) hne).trans (hb.block k hk)⟩, ?_⟩
  rcases h.place with e | e
  · exact .inl e
  · exact .inr fun k hk => by have := e k hk; omega

theorem run_append_g (w : World) (base : Nat) (ty : TypeId) (v : Value) (xs : List Nat) (hown : Own w base v xs) (A : Option Addr) (l : List Nat) (c B : Nat) (hr : Row w B .u8 A l) (hA : A = none → c = 0)
    (hlen : xs.length + l.length ≤ 140737488355328) (hbase : base ≤ w.heap.size) :
    ∃ v' w', (Builtin.append_ #[22, 22] ty #[v, .slice A l.length c]).run Tryd.prog w = .ok v' w' ∧ Own w' base v' (xs ++ l) ∧ Grow w w' v v' := by
  obtain ⟨i0, hi, hz0, hz1, hz2⟩ := info_parts Tryd.info5
  rcases A with _ | a
  · have : l = [] := by
      rcases l with _ | ⟨x, l⟩
      · rfl
      · obtain ⟨b, off, h, _⟩ := hr (by simp)
        cases h
    subst this
    obtain rfl := hA rfl
    exact ⟨v, w, run_append_owned_none (P := Tryd.prog) (w := w) base 22 ty 5 i0 1 Tryd.underlying22 hi v xs.length _ hown, by simpa using hown, Grow.refl _ _⟩
  · obtain ⟨v', w', h1, h2, h3, _, h5⟩ := run_append_own_at (P := Tryd.prog) w base 22 ty 5 i0 (.int .u8 0) 1 1 Tryd.underlying22 hi hz0 hz1 hz2 rfl (by decide) v xs.length _ hown a l.length c (nums .u8 l) (by rw [nums_len]; omega)
      (fun j u hu => by
        have hj : j < l.length := by
          rcases Nat.lt_or_ge j l.length with h | h
          · exact h
          · rw [List.getElem?_eq_none (by rw [nums_len]; exact h)] at hu; cases hu
        obtain ⟨b, off, h, _, hc⟩ := hr (by omega)
        injection h with h
        subst h
        have hplain : (⟨b, off, none⟩ : Addr).add j = ⟨b, off + j, none⟩ := by unfold Addr.add; split <;> simp_all
        rw [hplain, hc j hj, ← hu]
        simp [nums, hj])
      (fun u hu => by
        obtain ⟨x, _, rfl⟩ := List.mem_map.1 hu
        rfl)
      (by unfold maxLen; omega) (by omega) hbase
    refine ⟨v', w', h1, ?_, ⟨h3, ?_⟩⟩
    · unfold Own
      rw [nums_append, List.length_append]
      exact h2
    · rcases h5 with h5 | h5
      · exact .inl h5
      · exact .inr fun k hk => by rw [h5] at hk; injection hk with hk; omega

/-- append(v, x...), v a row of the call's own, x whatever bytes: the walk goes on with some value that holds both. -/
theorem wpList_append_g {w : World} {ops : Array Oper} {rest : List Oper} {o : Oper} {a : Act} {Q : Exit → Act → World → Prop} (hgd : o.guard = none) (s x : Operand)
    (ho : o.op = .call { callee := .builtin .append, args := #[s, x], argTypes := #[22, 22] }) (base : Nat) (v : Value) (xs : List Nat) (hs : a.eval s = v) (hown : Own w base v xs)
    (A : Option Addr) (l : List Nat) (n c B : Nat) (hn : n = l.length) (hx : a.eval x = .slice A n c) (hr : Row w B .u8 A l) (hA : A = none → c = 0) (hlen : xs.length + l.length ≤ 140737488355328) (hbase : base ≤ w.heap.size)
    (h : ∀ v' w', Own w' base v' (xs ++ l) → Grow w w' v v' → wpList Tryd.prog ops Q rest (a.put o.dst v') w') : wpList Tryd.prog ops Q (o :: rest) a w := by
  subst hn
  obtain ⟨v', w', hrun, h2, h3⟩ := run_append_g w base o.type v xs hown A l c B hr hA hlen hbase
  refine wpList_plain hgd fun K hK => ?_
  unfold Oper.wp execOp
  simp only [ho, resolve, invoke, builtin, Sem.run_bind, Sem.run_pure, Result.andThen_ok, List.map_toArray, List.map_cons, List.map_nil, hs, hx, hrun]
  exact hK _ _ (h v' w' h2 h3)

theorem run_mid (A : Option Addr) (n c k j : Nat) (w : World) (h : k ≤ j) (hj : j ≤ c) : (Instr.slice 22 (.slice A n c) (some (.int .i64 (k : Int))) (some (.int .i64 (j : Int))) none).run Tryd.prog w = .ok (.slice (cutA A c k) (j - k) (c - k)) w := by
  have hs : (sizeOf (Tryd.prog.elem 22)).run Tryd.prog w = .ok 1 w := by kernel_rfl
  rw [run_slice_lh (P := Tryd.prog) (w := w) (t := 22) (a := A) (len := n) (cap := c) (by kernel_rfl) .i64 .i64 (k : Int) (j : Int) (by omega) (by omega) (by omega), hs]
  simp [Result.andThen, sliced, cutA]

/-- A new block of four bytes, as the row that a slice over it reads. -/
theorem row_new4 (w : World) (a b c d : Int) (l : List Nat) (t : TypeId) (x0 x1 x2 x3 : Nat) (hl : l = [x0, x1, x2, x3]) (h0 : a = x0) (h1 : b = x1) (h2 : c = x2) (h3 : d = x3) :
    Row (w.alloc (.cells #[.int .u8 a, .int .u8 b, .int .u8 c, .int .u8 d] t)) (w.heap.size + 1) .u8 (some ⟨w.heap.size, 0, none⟩) l := fun _ => by
  subst hl h0 h1 h2 h3
  refine ⟨w.heap.size, 0, rfl, by omega, fun j hj => ?_⟩
  match j, hj with
  | 0, _ => simp
  | 1, _ => simp
  | 2, _ => simp
  | 3, _ => simp

/-- A row of the call's own stays where only another row has changed. -/
theorem ownsRow_grown {w w' : World} {base : Nat} {e : TypeId} {s : Nat} {v : Value} {n : Nat} {xs : List Value} {row : Option Nat} (h : w.ownsRow base e s v n xs) (hg : w.grownBy w' row) (hne : ∀ k, v.ownBlock = some k → row ≠ some k) : w'.ownsRow base e s v n xs := by
  refine ⟨h.1, ?_⟩
  rcases h.2 with h1 | ⟨g, cap, cur, h1, h2, h3, h4⟩
  · exact .inl h1
  · exact .inr ⟨g, cap, cur, h1, h2, (hg.block g (Array.getElem?_eq_some_iff.1 h3).1 (fun e => hne g (by rw [h1]; rfl) e.symm)).trans h3, h4⟩
theorem i64_and65535 (n : Int) : bits .and .i64 n 65535 = n % 65536 := by
  have h127 : (BitVec.ofInt 64 65535).toNat = 2 ^ 16 - 1 := by decide
  have key : (BitVec.ofInt 64 n &&& BitVec.ofInt 64 65535).toNat = (n % ((2 ^ 64 : Nat) : Int)).toNat % 2 ^ 16 := by
    rw [BitVec.toNat_and, BitVec.toNat_ofInt, h127, Nat.and_two_pow_sub_one_eq_mod]
  show IntKind.i64.wrap ((BitVec.ofInt 64 n &&& BitVec.ofInt 64 65535).toNat : Nat) = n % 65536
  rw [key, IntKind.wrap_i64]
  omega
theorem low16 (n : Int) : ∃ q : Nat, q < 65536 ∧ bits .and .i64 n 65535 = (q : Int) := ⟨(n % 65536).toNat, by omega, by rw [i64_and65535]; omega⟩
end Go.Proofs.YtdolapobkhhanaaDoor
/-
  Layer 8 (cell): a style's number (number), the style of a number (styleOf), PutStyle, TakeStyle.
-/
namespace Go.Proofs.YtdolapobkhhanaaDoor
open Go.RowKit Go.Lib KM

set_option maxRecDepth 100000 in
set_option maxHeartbeats 1000000 in
theorem number_ok (w : World) (s : Sty) (hs : sright s = true) : Calls Tryd.prog 70 #[styV s] w fun e w' => e = .returned (.int .u64 (snum s : Int)) ∧ Below w.heap.size w w' := by
  rw [sright_iff] at hs
  obtain ⟨b, u, t, f, k⟩ := s
  simp only at hs
  obtain ⟨f, rfl⟩ := Int.eq_ofNat_of_zero_le hs.1.1
  obtain ⟨k, rfl⟩ := Int.eq_ofNat_of_zero_le hs.2.1
  have h1 : f ≤ 8 := by omega
  have h2 : k ≤ 8 := by omega
  simp only [styV, snum, Int.toNat_natCast]
  clear hs
  rcases b with _ | _ <;> rcases u with _ | _ <;> rcases t with _ | _
  all_goals go_enter Tryd.func70, Tryd.ntmps70
  all_goals go_wp2
  all_goals go_ret
  all_goals refine ⟨?_, (Below.refl _ _).alloc (Nat.le_refl _) _⟩
  all_goals simp
  all_goals omega

theorem and_bit (n i : Nat) (hn : n < 2048) (hi : i ≤ 10) : bits .and .i64 (n : Int) ((2 ^ i : Nat) : Int) = (((n / 2 ^ i % 2) * 2 ^ i : Nat) : Int) := by
  have hp : 2 ^ i ≤ 1024 := Nat.pow_le_pow_right (by omega) hi
  have key : (BitVec.ofInt 64 (n : Int) &&& BitVec.ofInt 64 ((2 ^ i : Nat) : Int)).toNat = n &&& 2 ^ i := by
    rw [BitVec.toNat_and, BitVec.toNat_ofInt, BitVec.toNat_ofInt]
    generalize 2 ^ i = p at hp ⊢
    congr 1
    · omega
    · omega
  show IntKind.i64.wrap ((BitVec.ofInt 64 (n : Int) &&& BitVec.ofInt 64 ((2 ^ i : Nat) : Int)).toNat : Nat) = _
  have e : n &&& 2 ^ i = (n / 2 ^ i % 2) * 2 ^ i := by
    have ht : n.testBit i = decide (n / 2 ^ i % 2 = 1) := Nat.testBit_eq_decide_div_mod_eq
    rcases (by omega : n / 2 ^ i % 2 = 0 ∨ n / 2 ^ i % 2 = 1) with h | h
    · rw [h] at ht ⊢
      refine Nat.eq_of_testBit_eq fun j => ?_
      rw [Nat.testBit_and, Nat.testBit_two_pow]
      by_cases hij : i = j
      · subst hij; simp [ht]
      · simp [hij]
    · rw [h] at ht ⊢
      refine Nat.eq_of_testBit_eq fun j => ?_
      rw [Nat.testBit_and, Nat.one_mul, Nat.testBit_two_pow]
      by_cases hij : i = j
      · subst hij; simp [ht]
      · simp [hij]
  rw [key, IntKind.wrap_i64, e]
  have : n / 2 ^ i % 2 * 2 ^ i ≤ 1 * 2 ^ i := Nat.mul_le_mul_right _ (by omega)
  omega
theorem bit_ne (m k : Nat) (hk : 0 < k) : (((m % 2 * k : Nat) : Int) != 0) = (m % 2 == 1) := by
  rcases (by omega : m % 2 = 0 ∨ m % 2 = 1) with h | h
  · simp [h]
  · simp [h]; omega

set_option maxRecDepth 100000 in
set_option maxHeartbeats 1000000 in
theorem styleOf_ok (w : World) (n : Nat) (hn : n < 2048) : Calls Tryd.prog 65 #[.int .i64 (n : Int)] w fun e w' => e = .returned (styV (styOf n)) ∧ Below w.heap.size w w' := by
  have a8 : bits .and .i64 (n : Int) 256 = _ := and_bit n 8 hn (by omega)
  have a9 : bits .and .i64 (n : Int) 512 = _ := and_bit n 9 hn (by omega)
  have a10 : bits .and .i64 (n : Int) 1024 = _ := and_bit n 10 hn (by omega)
  have e8 := bit_ne (n / 2 ^ 8) (2 ^ 8) (by omega)
  have e9 := bit_ne (n / 2 ^ 9) (2 ^ 9) (by omega)
  have e10 := bit_ne (n / 2 ^ 10) (2 ^ 10) (by omega)
  have hst : styOf n = ⟨n / 2 ^ 8 % 2 == 1, n / 2 ^ 9 % 2 == 1, n / 2 ^ 10 % 2 == 1, ((n % 16 : Nat) : Int), ((n % 256 / 16 : Nat) : Int)⟩ := rfl
  rw [hst]
  simp only [styV]
  generalize n / 2 ^ 8 % 2 * 2 ^ 8 = q8 at *
  generalize n / 2 ^ 9 % 2 * 2 ^ 9 = q9 at *
  generalize n / 2 ^ 10 % 2 * 2 ^ 10 = q10 at *
  generalize (n / 2 ^ 8 % 2 == 1) = b8 at *
  generalize (n / 2 ^ 9 % 2 == 1) = b9 at *
  generalize (n / 2 ^ 10 % 2 == 1) = b10 at *
  have hbs := fun w f k => build_style w b8 b9 b10 f k
  clear hst
  go_enter Tryd.func65, Tryd.ntmps65
  go_wp2
  exact bodyPost_ret (v := .agg #[.bool b8, .bool b9, .bool b10, .int .i64 ((n % 16 : Nat) : Int), .int .i64 ((n % 256 / 16 : Nat) : Int)]) (by simp [results, Tryd.results65, go_sem]) rfl ⟨rfl, (Below.refl _ _).alloc (Nat.le_refl _) _⟩
end Go.Proofs.YtdolapobkhhanaaDoor
/-
  Layer 8 (cell): PutStyle, TakeStyle.
-/
namespace Go.Proofs.YtdolapobkhhanaaDoor
open Go.RowKit Go.Lib KM

theorem row_new2 (w : World) (k : IntKind) (x y : Nat) (t : TypeId) : Row (w.alloc (.cells #[.int k (x : Int), .int k (y : Int)] t)) (w.heap.size + 1) k (some ⟨w.heap.size, 0, none⟩) [x, y] := fun _ => by
  refine ⟨w.heap.size, 0, rfl, by omega, fun j hj => ?_⟩
  rcases (by simp at hj; omega : j = 0 ∨ j = 1) with rfl | rfl <;> simp
/-- Put(v, x), x laid in a new block, v a row of the call's own that is older. -/
theorem put_one_grow (v : Value) (xs : List Nat) (x : Nat) (w : World) (base : Nat) (h1 : x < 18446744073709551616) (hx : xs.length ≤ 100000000) (hown : Own w base v xs) (hbase : base ≤ w.heap.size) :
    Calls Tryd.prog 59 #[v, .slice (some ⟨w.heap.size, 0, none⟩) 1 1] (w.alloc (.cells #[.int .u64 (x : Int)] 104)) fun e w' => ∃ v', e = .returned v' ∧ Own w' base v' (xs ++ VM.enc x) ∧ Grow w w' v v' := by
  refine (put_grow v xs _ 1 [x] _ base (w.heap.size + 1) (by simp; omega) (by simp) hx (row_new w .u64 x _) (by simp) (fun _ ad ha e => ?_) (hown.alloc _) (by simp; omega)).mono ?_
  · injection ha with ha
    subst ha
    exact Nat.lt_irrefl _ (World.ownsRow.lt hown _ e.symm).2
  · rintro e w1 ⟨v', rfl, ho, hg⟩
    rw [VM.encs_one] at ho
    exact ⟨v', rfl, ho, grow_alloc _ hg⟩
theorem put_two_grow (v : Value) (xs : List Nat) (x y : Nat) (w : World) (base : Nat) (h1 : x < 18446744073709551616) (h2 : y < 18446744073709551616) (hx : xs.length ≤ 100000000) (hown : Own w base v xs) (hbase : base ≤ w.heap.size) :
    Calls Tryd.prog 59 #[v, .slice (some ⟨w.heap.size, 0, none⟩) 2 2] (w.alloc (.cells #[.int .u64 (x : Int), .int .u64 (y : Int)] 104)) fun e w' => ∃ v', e = .returned v' ∧ Own w' base v' (xs ++ (VM.enc x ++ VM.enc y)) ∧ Grow w w' v v' := by
  refine (put_grow v xs _ 2 [x, y] _ base (w.heap.size + 1) (by simp; omega) (by simp) hx (row_new2 w .u64 x y _) (by simp) (fun _ ad ha e => ?_) (hown.alloc _) (by simp; omega)).mono ?_
  · injection ha with ha
    subst ha
    exact Nat.lt_irrefl _ (World.ownsRow.lt hown _ e.symm).2
  · rintro e w1 ⟨v', rfl, ho, hg⟩
    have : VM.encs [x, y] = VM.enc x ++ VM.enc y := by simp [VM.encs]
    rw [this] at ho
    exact ⟨v', rfl, ho, grow_alloc _ hg⟩

set_option maxRecDepth 100000 in
theorem putStyle_ok (v : Value) (xs : List Nat) (s : Sty) (w : World) (base : Nat) (hs : sright s = true) (hx : xs.length ≤ 100000000) (hown : Own w base v xs) (hbase : base ≤ w.heap.size) :
    Calls Tryd.prog 60 #[v, styV s] w fun e w' => ∃ v', e = .returned v' ∧ Own w' base v' (xs ++ VM.enc (snum s)) ∧ Grow w w' v v' := by
  have hlt := snum_lt s hs
  have HN := Lib.hid (fun w => number_ok w s hs)
  have HO := Lib.hid hown
  clear hown
  obtain ⟨b, u, t, f, k⟩ := s
  simp only [styV] at HN ⊢
  generalize snum ⟨b, u, t, f, k⟩ = n at *
  go_enter Tryd.func60, Tryd.ntmps60
  go_wp2_with fail
  refine (HN.out _).mono ?_
  rintro e w1 ⟨rfl, hb1⟩
  have hb : Below w.heap.size w w1 := below_next ((Below.refl _ _).alloc (Nat.le_refl _) _) hb1
  have hz := hb.size
  have HB := Lib.hid hb
  clear hb hb1
  go_wp2_with fail
  refine (put_one_grow v xs n w1 base (by omega) hx (HO.out.below HB.out) (by omega)).mono ?_
  rintro e w2 ⟨v', rfl, ho, hg⟩
  have HO2 := Lib.hid ho
  have HG2 := Lib.hid hg
  clear ho hg
  go_wp2
  go_ret
  exact ⟨v', rfl, HO2.out, Grow.of_below HB.out HG2.out⟩

theorem Rd.on {w w' : World} {g B : Nat} {l : List Nat} {bad : Bool} (h : Rd w g l bad) (hb : Below B w w') (hg : g < B) : Rd w' g l bad := by
  obtain ⟨A, c, h1, h2, h3, h4, h5⟩ := h
  exact ⟨A, c, (hb.block g hg).trans h1, h2, h3, h4.below (hb.mono (by omega)), h5⟩
theorem only_next {a b c : World} {g : Option Nat} (h : a.grownBy b g) (k : Below a.heap.size b c) : a.grownBy c g :=
  ⟨k.os.trans h.os, k.tape.trans h.tape, k.output.trans h.output, Nat.le_trans h.size k.size, fun i hi hne => (k.block i hi).trans (h.block i hi hne)⟩
theorem only_first {a b c : World} {g : Option Nat} (h : Below a.heap.size a b) (k : b.grownBy c g) : a.grownBy c g :=
  ⟨k.os.trans h.os, k.tape.trans h.tape, k.output.trans h.output, Nat.le_trans h.size k.size, fun i hi hne => (k.block i (Nat.lt_of_lt_of_le hi h.size) hne).trans (h.block i hi)⟩

/-- What a style that is asked for leaves: the style (none: there is none), the bytes that are left, was something missing? -/
def takeS (l : List Nat) (bad : Bool) : Option Sty × List Nat × Bool :=
  (if (numOf l bad 2048).2.2 = false ∧ sright (styOf (numOf l bad 2048).1) = true then some (styOf (numOf l bad 2048).1) else none, (numOf l bad 2048).2.1, (numOf l bad 2048).2.2)
def TakeSPost (w : World) (g : Nat) (r : Option Sty × List Nat × Bool) (e : Ending) (w' : World) : Prop :=
  e = .returned (.tuple #[styV (r.1.getD zero), .bool r.1.isSome]) ∧ Rd w' g r.2.1 r.2.2 ∧ w.grownBy w' (some g)
theorem numOf_lt (l : List Nat) (bad : Bool) (L : Nat) (h : 0 < L) : (numOf l bad L).1 < L := by
  unfold numOf
  split
  · exact h
  · rename_i hn; simp only; omega

theorem results_style {fn : Func} {p u : Tmp} (h : fn.results = #[.cell p 30, .tmp u]) (tmps : Array Value) (w : World) (g : Nat) (s : Sty) (hp : tmps.getD p undef = .pointer (some ⟨g, 0, none⟩)) (hg : StyAt w g s) :
    (results fn tmps).run Tryd.prog w = .ok (.tuple #[styV s, tmps.getD u undef]) w := by
  rw [results_cell_tmp h, hp]
  have := run_loadVar_row (P := Tryd.prog) w g 30 30 _ (0, 0) _ hg Tryd.underlying30 rfl (by kernel_rfl)
  simp [asAddr, this, styV]

set_option maxRecDepth 100000 in
set_option maxHeartbeats 1000000 in
theorem takeStyle_ok (w : World) (g : Nat) (l : List Nat) (bad : Bool) (h : Rd w g l bad) :
    Calls Tryd.prog 54 #[.pointer (some ⟨g, 0, none⟩)] w (TakeSPost w g (takeS l bad)) := by
  have hgl := h.lt
  have hz := fun w => build_zero w
  have HN := Lib.hid (fun (v : World) (hv : Rd v g l bad) => num_any v g l bad 2048 (by omega) hv)
  rw [show lim 2048 = 2048 from rfl] at HN
  have hlt := numOf_lt l bad 2048 (by omega)
  have HR := Lib.hid h
  clear h
  unfold takeS
  generalize numOf l bad 2048 = r at *
  obtain ⟨n, l', bad'⟩ := r
  simp only at hlt ⊢
  have HS := Lib.hid (fun v => styleOf_ok v n hlt)
  have HRI := Lib.hid (fun v => style_ok v (styOf n))
  generalize styOf n = q at *
  generalize hx : (if bad' = false ∧ sright q = true then some q else none) = x
  have HX := Lib.hid hx
  clear hx
  obtain ⟨b, u, t, f, k⟩ := q
  simp only [styV] at HS HRI
  obtain ⟨w0, hw0⟩ : ∃ w0, w0 = w.alloc (.cells #[.bool false, .bool false, .bool false, .int .i64 0, .int .i64 0] 30) := ⟨_, rfl⟩
  have hb0 : Below w.heap.size w w0 := by rw [hw0]; exact (Below.refl _ _).alloc (Nat.le_refl _) _
  have hs0 : StyAt w0 w.heap.size zero := by rw [hw0]; exact heap_alloc_new w _
  have W0 := Lib.hid hw0
  have HB0 := Lib.hid hb0
  have HS0 := Lib.hid hs0
  have hz0 := hb0.size
  clear hw0 hb0 hs0
  go_enter Tryd.func54, Tryd.ntmps54
  go_wp2_with fail
  rw [← W0.out]
  refine (HN.out w0 (HR.out.on HB0.out hgl)).mono ?_
  rintro e w1 ⟨rfl, hr1, hg1⟩
  have HR1 := Lib.hid hr1
  have HG1 := Lib.hid hg1
  have hz1 := hg1.size
  have hs1 : StyAt w1 w.heap.size zero := (hg1.block w.heap.size HS0.out.lt (by simp; omega)).trans HS0.out
  have HS1 := Lib.hid hs1
  clear hr1 hg1 hs1
  go_wp2_with fail
  refine (HS.out _).mono ?_
  rintro e w2 ⟨rfl, hb2⟩
  have HB2 := Lib.hid hb2
  have hz2 := hb2.size
  have HR2 := Lib.hid (HR1.out.on hb2 HR1.out.lt)
  have HS2 := Lib.hid (HS1.out.below hb2 HS1.out.lt)
  clear hb2
  go_upto_region 2 with fail
  obtain ⟨w3, hw3⟩ : ∃ w3, w3 = w2.alloc (.cells #[.bool b, .bool u, .bool t, .int .i64 f, .int .i64 k] 30) := ⟨_, rfl⟩
  rw [← hw3]
  have hb3 : Below w2.heap.size w2 w3 := by rw [hw3]; exact (Below.refl _ _).alloc (Nat.le_refl _) _
  have hs3 : StyAt w3 w2.heap.size ⟨b, u, t, f, k⟩ := by rw [hw3]; exact heap_alloc_new w2 _
  have HS3 := Lib.hid hs3
  obtain ⟨d0, d1, d2, d3, d4, _, _, _, _, _⟩ := hs3.cells
  simp only at d0 d1 d2 d3 d4
  have HR3 := Lib.hid (HR2.out.on hb3 HR2.out.lt)
  have hst3 := HS2.out.below hb3 HS2.out.lt
  have HST3 := Lib.hid hst3
  have hz3 := hb3.size
  have HG3 := Lib.hid (show w.grownBy w3 (some g) from only_next (only_next (only_first HB0.out HG1.out) (HB2.out.mono (by omega))) (hb3.mono (by omega)))
  clear hw3 hb3 hs3 hst3
  rcases bad' with _ | _
  · rcases hq : sright ⟨b, u, t, f, k⟩ with _ | _
    · obtain rfl : x = none := by rw [← HX.out, hq]; simp
      have HQ := Lib.hid hq
      clear hq
      go_wp2_with fail
      refine (good_any w3 g l' false HR3.out).mono ?_
      rintro e w4 ⟨rfl, hw4⟩
      rw [← hw4]
      clear hw4 w4
      go_wp2_with fail
      refine (HRI.out w3).mono ?_
      rw [HQ.out]
      rintro e w4 ⟨rfl, hb4⟩
      have HB4 := Lib.hid hb4
      have hst4 := HST3.out.below hb4 HST3.out.lt
      obtain ⟨_, _, _, _, _, k0, k1, k2, k3, k4⟩ := hst4.cells
      have HST4 := Lib.hid hst4
      have HR4 := Lib.hid (HR3.out.on hb4 HR3.out.lt)
      have hz4 := hb4.size
      clear hb4 hst4
      go_wp2_with fail
      refine bodyPost_ret (results_style rfl _ _ w.heap.size zero rfl (setS_at HST4.out false false false 0 0)) rfl ⟨rfl, HR4.out.on (setS_below (Below.refl w.heap.size w4) (Nat.le_refl _) false false false 0 0) hgl, only_next (only_next HG3.out (HB4.out.mono (by omega))) (setS_below (Below.refl w.heap.size w4) (Nat.le_refl _) false false false 0 0)⟩
    · obtain rfl : x = some ⟨b, u, t, f, k⟩ := by rw [← HX.out, hq]; simp
      have HQ := Lib.hid hq
      clear hq
      go_wp2_with fail
      refine (good_any w3 g l' false HR3.out).mono ?_
      rintro e w4 ⟨rfl, hw4⟩
      rw [← hw4]
      clear hw4 w4
      go_wp2_with fail
      refine (HRI.out w3).mono ?_
      rw [HQ.out]
      rintro e w4 ⟨rfl, hb4⟩
      have HB4 := Lib.hid hb4
      have hst4 := HST3.out.below hb4 HST3.out.lt
      obtain ⟨_, _, _, _, _, k0, k1, k2, k3, k4⟩ := hst4.cells
      obtain ⟨c0, c1, c2, c3, c4, _, _, _, _, _⟩ := (HS3.out.below hb4 HS3.out.lt).cells
      simp only at c0 c1 c2 c3 c4
      have HST4 := Lib.hid hst4
      have HR4 := Lib.hid (HR3.out.on hb4 HR3.out.lt)
      have hz4 := hb4.size
      clear hb4 hst4
      go_wp2_with fail
      refine bodyPost_ret (results_style rfl _ _ w.heap.size _ rfl (setS_at HST4.out b u t f k)) rfl ⟨rfl, HR4.out.on (setS_below (Below.refl w.heap.size w4) (Nat.le_refl _) b u t f k) hgl, only_next (only_next HG3.out (HB4.out.mono (by omega))) (setS_below (Below.refl w.heap.size w4) (Nat.le_refl _) b u t f k)⟩
  · obtain rfl : x = none := by rw [← HX.out]; simp
    obtain ⟨_, _, _, _, _, k0, k1, k2, k3, k4⟩ := HST3.out.cells
    go_wp2_with fail
    refine (good_any w3 g l' true HR3.out).mono ?_
    rintro e w4 ⟨rfl, hw4⟩
    rw [← hw4]
    clear hw4 w4
    go_wp2_with fail
    refine bodyPost_ret (results_style rfl _ _ w.heap.size zero rfl (setS_at HST3.out false false false 0 0)) rfl ⟨rfl, HR3.out.on (setS_below (Below.refl w.heap.size w3) (Nat.le_refl _) false false false 0 0) hgl, only_next HG3.out (setS_below (Below.refl w.heap.size w3) (Nat.le_refl _) false false false 0 0)⟩
end Go.Proofs.YtdolapobkhhanaaDoor
/-
  Layer 8 (cell): a line's runs and their bytes, and what is read of them again. No program.
-/
namespace Go.Proofs.YtdolapobkhhanaaDoor.KM

/-- The last run goes on with a cell. -/
def goes (rs : List (Nat × Cel)) (c : Cel) : Bool := rs.getLast?.any fun x => decide (x.2 = c)
/-- One cell more. -/
def push (rs : List (Nat × Cel)) (c : Cel) : List (Nat × Cel) := if goes rs c = true then rs.dropLast ++ [((rs.getLastD (0, c)).1 + 1, c)] else rs ++ [(1, c)]
/-- A line's runs. -/
def runs (l : List Cel) : List (Nat × Cel) := l.foldl push []
/-- The cells of runs, at most so many of each. -/
def spread (rs : List (Nat × Cel)) (m : Nat) : List Cel := rs.flatMap fun x => List.replicate (min x.1 m) x.2
/-- .. all of them. -/
def cells (rs : List (Nat × Cel)) : List Cel := rs.flatMap fun x => List.replicate x.1 x.2
/-- How many they are. -/
def sumR (rs : List (Nat × Cel)) : Nat := (rs.map (·.1)).sum
/-- No run is empty, and no two that are the same are side by side. -/
def Apart : List (Nat × Cel) → Prop
  | [] => True
  | [x] => 0 < x.1
  | x :: y :: r => 0 < x.1 ∧ x.2 ≠ y.2 ∧ Apart (y :: r)

theorem cells_append (a b : List (Nat × Cel)) : cells (a ++ b) = cells a ++ cells b := by simp [cells]
theorem cells_one (x : Nat × Cel) : cells [x] = List.replicate x.1 x.2 := by simp [cells]
theorem cells_len (rs : List (Nat × Cel)) : (cells rs).length = sumR rs := by
  induction rs with
  | nil => rfl
  | cons x r ih => rw [show x :: r = [x] ++ r from rfl, cells_append, List.length_append, ih, cells_one]; simp [sumR]
theorem sumR_append (a b : List (Nat × Cel)) : sumR (a ++ b) = sumR a + sumR b := by simp [sumR]
theorem sumR_one (x : Nat × Cel) : sumR [x] = x.1 := by simp [sumR]
theorem spread_all (rs : List (Nat × Cel)) (m : Nat) (h : ∀ x ∈ rs, x.1 ≤ m) : spread rs m = cells rs := by
  induction rs with
  | nil => rfl
  | cons x r ih =>
    have := ih fun y hy => h y (by simp [hy])
    unfold spread cells at this ⊢
    rw [List.flatMap_cons, List.flatMap_cons, this, Nat.min_eq_left (h x (by simp))]
theorem spread_append (a b : List (Nat × Cel)) (m : Nat) : spread (a ++ b) m = spread a m ++ spread b m := by simp [spread]
theorem spread_one (x : Nat × Cel) (m : Nat) : spread [x] m = List.replicate (min x.1 m) x.2 := by simp [spread]
theorem spread_len2 (rs : List (Nat × Cel)) (m : Nat) : (spread rs m).length ≤ sumR rs := by
  induction rs with
  | nil => simp [spread]
  | cons x r ih => rw [show x :: r = [x] ++ r from rfl, spread_append, List.length_append, spread_one, List.length_replicate, sumR_append, sumR_one]; omega

theorem goes_nil (c : Cel) : goes [] c = false := rfl
theorem goes_snoc (rs : List (Nat × Cel)) (x : Nat × Cel) (c : Cel) : goes (rs ++ [x]) c = decide (x.2 = c) := by simp [goes]
theorem push_on (rs : List (Nat × Cel)) (n : Nat) (c : Cel) : push (rs ++ [(n, c)]) c = rs ++ [(n + 1, c)] := by
  unfold push
  rw [goes_snoc]
  simp
theorem push_new (rs : List (Nat × Cel)) (c : Cel) (h : goes rs c = false) : push rs c = rs ++ [(1, c)] := by
  unfold push
  rw [h]
  simp
theorem push_cells (rs : List (Nat × Cel)) (c : Cel) : cells (push rs c) = cells rs ++ [c] := by
  rcases List.eq_nil_or_concat rs with rfl | ⟨r, x, rfl⟩
  · rfl
  · rcases h : decide (x.2 = c) with _ | _
    · rw [List.concat_eq_append, push_new _ _ (by rw [goes_snoc]; exact h), cells_append, cells_one]
      simp
    · obtain ⟨n, d⟩ := x
      obtain rfl : d = c := of_decide_eq_true h
      rw [List.concat_eq_append, push_on, cells_append, cells_append, cells_one, cells_one, List.append_assoc]
      congr 1
      exact List.replicate_succ'
theorem apart_snoc (rs : List (Nat × Cel)) (x : Nat × Cel) (h : Apart rs) (hx : 0 < x.1) (hg : goes rs x.2 = false) : Apart (rs ++ [x]) := by
  induction rs using Apart.induct with
  | case1 => exact hx
  | case2 y =>
    refine ⟨h, ?_, hx⟩
    have : goes ([] ++ [y]) x.2 = false := hg
    rw [goes_snoc] at this
    exact of_decide_eq_false this
  | case3 a b r ih =>
    refine ⟨h.1, h.2.1, ih h.2.2 ?_⟩
    simpa [goes] using hg
theorem apart_init (rs : List (Nat × Cel)) (x : Nat × Cel) (h : Apart (rs ++ [x])) : Apart rs ∧ 0 < x.1 ∧ goes rs x.2 = false := by
  induction rs using Apart.induct with
  | case1 => exact ⟨trivial, h, rfl⟩
  | case2 y =>
    refine ⟨h.1, h.2.2, ?_⟩
    show goes ([] ++ [y]) x.2 = false
    rw [goes_snoc]
    exact decide_eq_false h.2.1
  | case3 a b r ih =>
    have := ih h.2.2
    exact ⟨⟨h.1, h.2.1, this.1⟩, this.2.1, by simpa [goes] using this.2.2⟩
theorem apart_pos (rs : List (Nat × Cel)) (h : Apart rs) : ∀ x ∈ rs, 0 < x.1 := by
  induction rs using Apart.induct with
  | case1 => simp
  | case2 y => intro x hx; simp at hx; subst hx; exact h
  | case3 a b r ih =>
    intro x hx
    rcases List.mem_cons.1 hx with rfl | hx
    · exact h.1
    · exact ih h.2.2 x hx
theorem push_apart (rs : List (Nat × Cel)) (c : Cel) (h : Apart rs) : Apart (push rs c) := by
  rcases List.eq_nil_or_concat rs with rfl | ⟨r, x, rfl⟩
  · show 0 < 1; omega
  · rw [List.concat_eq_append] at h ⊢
    rcases hd : decide (x.2 = c) with _ | _
    · rw [push_new _ _ (by rw [goes_snoc]; exact hd)]
      exact apart_snoc _ _ h (by show 0 < 1; omega) (by rw [goes_snoc]; exact hd)
    · obtain ⟨n, d⟩ := x
      obtain rfl : d = c := of_decide_eq_true hd
      rw [push_on]
      have := apart_init _ _ h
      exact apart_snoc _ _ this.1 (Nat.succ_pos _) this.2.2
theorem runs_snoc (l : List Cel) (c : Cel) : runs (l ++ [c]) = push (runs l) c := by simp [runs]
theorem runs_apart (l : List Cel) : Apart (runs l) := by
  unfold runs
  suffices ∀ rs, Apart rs → Apart (l.foldl push rs) from this [] trivial
  induction l with
  | nil => exact fun _ h => h
  | cons c l ih => exact fun rs h => ih _ (push_apart rs c h)
theorem runs_cells (l : List Cel) : cells (runs l) = l := by
  unfold runs
  suffices ∀ rs, cells (l.foldl push rs) = cells rs ++ l by simpa [cells] using this []
  induction l with
  | nil => simp
  | cons c l ih => intro rs; rw [List.foldl_cons, ih, push_cells, List.append_assoc]; rfl
/-- Runs that may stand beside one another are those of their cells. -/
theorem push_many (rs : List (Nat × Cel)) (k n : Nat) (c : Cel) : (List.replicate n c).foldl push (rs ++ [(k, c)]) = rs ++ [(k + n, c)] := by
  induction n generalizing k with
  | zero => rfl
  | succ n ih => rw [List.replicate_succ, List.foldl_cons, push_on, ih, Nat.add_assoc, Nat.add_comm 1 n]
theorem runs_of_cells (rs : List (Nat × Cel)) (h : Apart rs) : runs (cells rs) = rs := by
  suffices ∀ n (rs : List (Nat × Cel)), rs.length = n → Apart rs → runs (cells rs) = rs from this _ rs rfl h
  intro n
  induction n with
  | zero => intro rs h0 _; rw [List.eq_nil_of_length_eq_zero h0]; rfl
  | succ n ih =>
    intro rs hl h
    rcases List.eq_nil_or_concat rs with rfl | ⟨r, x, rfl⟩
    · simp at hl
    · rw [List.concat_eq_append] at h hl ⊢
      obtain ⟨k, c⟩ := x
      have hi := apart_init _ _ h
      have e := ih r (by simpa using hl) hi.1
      rw [cells_append, cells_one]
      unfold runs at e ⊢
      rw [List.foldl_append, e]
      obtain ⟨k, rfl⟩ : ∃ j, k = j + 1 := ⟨k - 1, by have := hi.2.1; simp only at this; omega⟩
      simp only
      rw [List.replicate_succ, List.foldl_cons, push_new _ _ hi.2.2, push_many, Nat.add_comm 1 k]

/-! ### bytes -/
/-- The bytes of a run, and of runs. -/
def runB (x : Nat × Cel) : List Nat := VM.enc x.1 ++ VM.enc x.2.rune.toNat ++ VM.enc (snum x.2.sty)
def runsB (rs : List (Nat × Cel)) : List Nat := rs.flatMap runB
theorem runsB_append (a b : List (Nat × Cel)) : runsB (a ++ b) = runsB a ++ runsB b := by simp [runsB]
theorem runsB_one (x : Nat × Cel) : runsB [x] = runB x := by simp [runsB]
theorem runsB_cons (x : Nat × Cel) (r : List (Nat × Cel)) : runsB (x :: r) = runB x ++ runsB r := by simp [runsB]
/-- What can be put, and comes back. -/
def Fine (x : Nat × Cel) : Prop := 0 < x.1 ∧ x.1 < 9223372036854775808 ∧ 0 ≤ x.2.rune ∧ x.2.rune < 1114112 ∧ sright x.2.sty = true
/-- What a run that is asked for leaves: the run (none: there is none), the bytes that are left, was something missing? -/
def takeR (l : List Nat) (bad : Bool) : Option (Nat × Cel) × List Nat × Bool :=
  let a := numOf l bad 9223372036854775808
  let b := numOf a.2.1 a.2.2 1114112
  let c := takeS b.2.1 b.2.2
  (c.1.bind fun s => if a.1 = 0 then none else some (a.1, ⟨(b.1 : Int), s⟩), c.2.1, c.2.2)
theorem takeR_enc (x : Nat × Cel) (h : Fine x) (rest : List Nat) : takeR (runB x ++ rest) false = (some x, rest, false) := by
  obtain ⟨n, ⟨r, s⟩⟩ := x
  obtain ⟨h1, h2, h3, h4, h5⟩ := h
  simp only at h1 h2 h3 h4 h5
  obtain ⟨r, rfl⟩ := Int.eq_ofNat_of_zero_le h3
  have hs := snum_lt s h5
  unfold takeR runB takeS
  have h4' : r < 1114112 := by omega
  have n1 : ¬ 9223372036854775808 ≤ n := by omega
  have n2 : ¬ 1114112 ≤ r := by omega
  have n3 : ¬ 2048 ≤ snum s := by omega
  simp only [Int.toNat_natCast, List.append_assoc]
  rw [numOf_enc n _ _ _ (by omega), if_neg n1]
  simp only
  rw [numOf_enc r _ _ _ (by omega), if_neg n2]
  simp only
  rw [numOf_enc (snum s) _ _ _ (by omega), if_neg n3]
  simp only [styOf_snum s h5, h5]
  have n4 : ¬ n = 0 := by omega
  simp [n4]
theorem numOf_back {l : List Nat} {bad : Bool} {L : Nat} (hl : ∀ c ∈ l, c < 256) (h : (numOf l bad L).2.2 = false) : l = VM.enc (numOf l bad L).1 ++ (numOf l bad L).2.1 ∧ (numOf l bad L).1 < L ∧ bad = false ∧ ∀ c ∈ (numOf l bad L).2.1, c < 256 := by
  unfold numOf at *
  split at h
  · simp at h
  · rename_i hn
    simp only at h
    rw [if_neg hn]
    simp only
    have hk : (VM.take l).2 ≠ 0 := fun e => hn (Or.inl e)
    obtain ⟨rest, hr, _, hlen⟩ := VM.take_any l hl hk
    refine ⟨?_, by omega, h, fun c hc => hl c (List.mem_of_mem_drop hc)⟩
    have hd : l.drop (VM.take l).2 = rest := by
      rw [hlen]
      generalize VM.enc (VM.take l).1 = e at *
      rw [hr, List.drop_left]
    rw [hd]
    exact hr
theorem takeR_back {l : List Nat} {bad : Bool} {x : Nat × Cel} (hl : ∀ c ∈ l, c < 256) (h : (takeR l bad).1 = some x) : Fine x ∧ l = runB x ++ (takeR l bad).2.1 ∧ (takeR l bad).2.2 = false ∧ bad = false ∧ ∀ c ∈ (takeR l bad).2.1, c < 256 := by
  unfold takeR takeS at *
  simp only at *
  generalize ha : numOf l bad 9223372036854775808 = a at *
  generalize hb : numOf a.2.1 a.2.2 1114112 = b at *
  generalize hc : numOf b.2.1 b.2.2 2048 = c at *
  split at h
  · rename_i hok
    have c0 := numOf_back (l := b.2.1) (bad := b.2.2) (L := 2048)
    have b0 := numOf_back (l := a.2.1) (bad := a.2.2) (L := 1114112)
    have a0 := numOf_back (l := l) (bad := bad) (L := 9223372036854775808) hl
    rw [ha] at a0
    rw [hb] at b0
    rw [hc] at c0
    have hbb : b.2.2 = false := by
      rcases hq : b.2.2 with _ | _
      · rfl
      · rw [hq] at hc
        have : (numOf b.2.1 true 2048).2.2 = true := by unfold numOf; split <;> rfl
        rw [hc, hok.1] at this
        cases this
    have haa : a.2.2 = false := by
      rcases hq : a.2.2 with _ | _
      · rfl
      · rw [hq] at hb
        have : (numOf a.2.1 true 1114112).2.2 = true := by unfold numOf; split <;> rfl
        rw [hb, hbb] at this
        cases this
    have ra := a0 haa
    have rb := b0 ra.2.2.2 hbb
    have rc := c0 rb.2.2.2 hok.1
    simp only [Option.bind_some] at h
    split at h
    · cases h
    · rename_i hn
      simp only [Option.some.injEq] at h
      subst h
      refine ⟨⟨by simp only; omega, ra.2.1, by simp only; omega, by have := rb.2.1; simp only; omega, hok.2⟩, ?_, hok.1, ra.2.2.1, rc.2.2.2⟩
      unfold runB
      simp only [Int.toNat_natCast]
      rw [snum_styOf c.1 rc.2.1, List.append_assoc, List.append_assoc, ← rc.1, ← rb.1]
      exact ra.1
  · simp at h

/-- What runs of so many cells that are asked for leave: the runs, behind those that are there (none: there are none), and the bytes that are left. -/
def tr (out : List (Nat × Cel)) (left : Nat) (l : List Nat) (bad : Bool) : Option (List (Nat × Cel) × List Nat × Bool) :=
  if _h0 : left = 0 then some (out, l, bad)
  else match (takeR l bad).1 with
    | none => none
    | some x => if _h : x.1 = 0 ∨ left < x.1 ∨ goes out x.2 = true then none else tr (out ++ [x]) (left - x.1) (takeR l bad).2.1 (takeR l bad).2.2
termination_by left
decreasing_by omega
theorem tr_zero (out : List (Nat × Cel)) (l : List Nat) (bad : Bool) : tr out 0 l bad = some (out, l, bad) := by rw [tr]; simp
theorem tr_none (out : List (Nat × Cel)) (left : Nat) (l : List Nat) (bad : Bool) (h : 0 < left) (hx : (takeR l bad).1 = none) : tr out left l bad = none := by
  rw [tr, dif_neg (by omega), hx]
theorem tr_not (out : List (Nat × Cel)) (left : Nat) (l : List Nat) (bad : Bool) (x : Nat × Cel) (h : 0 < left) (hx : (takeR l bad).1 = some x) (hn : left < x.1 ∨ goes out x.2 = true) : tr out left l bad = none := by
  rw [tr, dif_neg (by omega), hx]
  simp only
  rw [dif_pos (Or.inr hn)]
theorem tr_some (out : List (Nat × Cel)) (left : Nat) (l : List Nat) (bad : Bool) (x : Nat × Cel) (h : 0 < left) (hx : (takeR l bad).1 = some x) (h0 : 0 < x.1) (h1 : x.1 ≤ left) (hg : goes out x.2 = false) :
    tr out left l bad = tr (out ++ [x]) (left - x.1) (takeR l bad).2.1 (takeR l bad).2.2 := by
  rw [tr, dif_neg (by omega), hx]
  simp only
  rw [dif_neg (by rw [hg]; simp; omega)]
theorem takeR_pos {l : List Nat} {bad : Bool} {x : Nat × Cel} (h : (takeR l bad).1 = some x) : 0 < x.1 := by
  unfold takeR at h
  simp only at h
  generalize (takeS _ _).1 = o at h
  cases o with
  | none => simp at h
  | some s =>
    simp only [Option.bind_some] at h
    split at h
    · cases h
    · simp only [Option.some.injEq] at h
      subst h
      simp only
      omega
/-- Runs come back from their bytes. -/
theorem tr_enc (rs : List (Nat × Cel)) (hf : ∀ x ∈ rs, Fine x) (out : List (Nat × Cel)) (ha : Apart (out ++ rs)) (rest : List Nat) : tr out (sumR rs) (runsB rs ++ rest) false = some (out ++ rs, rest, false) := by
  induction rs generalizing out with
  | nil => rw [show sumR [] = 0 from rfl, tr_zero]; simp [runsB]
  | cons x r ih =>
    have hx := hf x (by simp)
    have e : runsB (x :: r) ++ rest = runB x ++ (runsB r ++ rest) := by rw [runsB_cons, List.append_assoc]
    have hs : sumR (x :: r) = x.1 + sumR r := by simp [sumR]
    have hg : goes out x.2 = false := by
      have : Apart ((out ++ [x]) ++ r) := by simpa using ha
      suffices ∀ r : List (Nat × Cel), Apart ((out ++ [x]) ++ r) → Apart (out ++ [x]) from (apart_init _ _ (this r ‹_›)).2.2
      intro r
      suffices ∀ n (r : List (Nat × Cel)), r.length = n → Apart ((out ++ [x]) ++ r) → Apart (out ++ [x]) from this _ r rfl
      intro n
      induction n with
      | zero => intro r h0 h; rw [List.eq_nil_of_length_eq_zero h0, List.append_nil] at h; exact h
      | succ n ihn =>
        intro r hl h
        rcases List.eq_nil_or_concat r with rfl | ⟨q, y, rfl⟩
        · simp at hl
        · rw [List.concat_eq_append] at hl h
          rw [← List.append_assoc] at h
          exact ihn q (by simpa using hl) (apart_init _ _ h).1
    rw [e, hs, tr_some out _ _ false x (by have := hx.1; omega) (by rw [takeR_enc x hx]) hx.1 (by omega) hg, takeR_enc x hx]
    simp only
    rw [Nat.add_sub_cancel_left, ih (fun y hy => hf y (by simp [hy])) (out ++ [x]) (by simpa using ha)]
    simp
/-- What is told is what the bytes begin with. -/
theorem tr_back (left : Nat) (out : List (Nat × Cel)) (l : List Nat) (bad : Bool) (hl : ∀ c ∈ l, c < 256) (ha : Apart out) (R : List (Nat × Cel) × List Nat × Bool) (h : tr out left l bad = some R) :
    ∃ more, R.1 = out ++ more ∧ l = runsB more ++ R.2.1 ∧ R.2.2 = bad ∧ sumR more = left ∧ (∀ x ∈ more, Fine x) ∧ Apart R.1 := by
  induction left using Nat.strongRecOn generalizing out l bad with
  | ind left ih =>
    rcases Nat.eq_zero_or_pos left with rfl | hp
    · rw [tr_zero] at h
      simp only [Option.some.injEq] at h
      subst h
      exact ⟨[], by simp, by simp [runsB], rfl, rfl, by simp, ha⟩
    · rcases hx : (takeR l bad).1 with _ | x
      · rw [tr_none out left l bad hp hx] at h; cases h
      · have h0 := takeR_pos hx
        by_cases hn : left < x.1 ∨ goes out x.2 = true
        · rw [tr_not out left l bad x hp hx hn] at h; cases h
        · have hg : goes out x.2 = false := by rw [← Bool.not_eq_true]; exact fun e => hn (Or.inr e)
          have hle : x.1 ≤ left := by omega
          obtain ⟨k1, k2, k3, k4, k5⟩ := takeR_back hl hx
          rw [tr_some out left l bad x hp hx h0 hle hg] at h
          obtain ⟨m, m1, m2, m3, m4, m5, m6⟩ := ih (left - x.1) (by omega) (out ++ [x]) _ _ k5 (apart_snoc _ _ ha h0 hg) h
          refine ⟨x :: m, by rw [m1]; simp, ?_, by rw [m3, k3, k4], by rw [show x :: m = [x] ++ m from rfl, sumR_append, sumR_one, m4]; omega, ?_, m6⟩
          · rw [runsB_cons, List.append_assoc, ← m2]; exact k2
          · intro y hy
            rcases List.mem_cons.1 hy with rfl | hy
            · exact k1
            · exact m5 y hy
theorem runB_pos (x : Nat × Cel) : 0 < (runB x).length := by
  unfold runB
  have := VM.enc_pos x.1
  simp only [List.length_append]
  omega
theorem runsB_sum (rs R : List (Nat × Cel)) (rest : List Nat) (hf : ∀ x ∈ rs, Fine x) (hF : ∀ x ∈ R, Fine x) (h : runsB R = runsB rs ++ rest) : sumR rs ≤ sumR R := by
  induction rs generalizing R with
  | nil => simp [sumR]
  | cons y ys ih =>
    rcases R with _ | ⟨x, xs⟩
    · have := congrArg List.length h
      have hp := runB_pos y
      rw [runsB_cons] at this
      simp [runsB] at this
      omega
    · rw [runsB_cons, runsB_cons, List.append_assoc] at h
      have e1 := takeR_enc x (hF x (by simp)) (runsB xs)
      have e2 := takeR_enc y (hf y (by simp)) (runsB ys ++ rest)
      rw [h, e2] at e1
      simp only [Prod.mk.injEq, Option.some.injEq, and_true] at e1
      obtain ⟨rfl, e⟩ := e1
      have := ih xs (fun z hz => hf z (by simp [hz])) (fun z hz => hF z (by simp [hz])) e.symm
      rw [show y :: ys = [y] ++ ys from rfl, show y :: xs = [y] ++ xs from rfl, sumR_append, sumR_append]
      omega
/-- Cut off, or asked for more cells, there are none. -/
theorem tr_more (R : List (Nat × Cel)) (hF : ∀ x ∈ R, Fine x) (left : Nat) (hl : sumR R < left) : tr [] left (runsB R) false = none := by
  rcases h : tr [] left (runsB R) false with _ | T
  · rfl
  · exfalso
    obtain ⟨m, m1, m2, m3, m4, m5, m6⟩ := tr_back left [] (runsB R) false (by intro c hc; obtain ⟨x, _, hx⟩ := List.mem_flatMap.1 hc; simp only [runB, List.mem_append] at hx; rcases hx with (hx | hx) | hx <;> exact VM.enc_byte _ _ hx) trivial T h
    have := runsB_sum m R T.2.1 m5 hF m2
    omega
theorem runsB_byte (R : List (Nat × Cel)) : ∀ c ∈ runsB R, c < 256 := by
  intro c hc
  obtain ⟨x, _, hx⟩ := List.mem_flatMap.1 hc
  simp only [runB, List.mem_append] at hx
  rcases hx with (hx | hx) | hx <;> exact VM.enc_byte _ _ hx
theorem tr_cut (R : List (Nat × Cel)) (hF : ∀ x ∈ R, Fine x) (ha : Apart R) (k : Nat) (hk : k < (runsB R).length) : tr [] (sumR R) ((runsB R).take k) false = none := by
  rcases h : tr [] (sumR R) ((runsB R).take k) false with _ | T
  · rfl
  · exfalso
    obtain ⟨m, m1, m2, m3, m4, m5, m6⟩ := tr_back (sumR R) [] _ false (fun c hc => runsB_byte R c (List.mem_of_mem_take hc)) trivial T h
    have e1 := tr_enc m m5 [] (by rw [List.nil_append]; rw [m1, List.nil_append] at m6; exact m6) (T.2.1 ++ (runsB R).drop k)
    have e2 := tr_enc R hF [] ha []
    rw [← List.append_assoc, ← m2, List.take_append_drop, m4] at e1
    rw [List.append_nil, e1] at e2
    simp only [Option.some.injEq, Prod.mk.injEq] at e2
    have := congrArg List.length e2.2.1
    simp at this
    omega
theorem runsB_len (rs : List (Nat × Cel)) (hf : ∀ x ∈ rs, Fine x) : (runsB rs).length ≤ 30 * rs.length := by
  induction rs with
  | nil => simp [runsB]
  | cons x r ih =>
    have hx := hf x (by simp)
    have h1 := VM.enc_len64 (n := x.1) (by have := hx.2.1; omega)
    have h2 := VM.enc_len64 (n := x.2.rune.toNat) (by have := hx.2.2.2.1; omega)
    have h3 := VM.enc_len64 (n := snum x.2.sty) (by have := snum_lt _ hx.2.2.2.2; omega)
    have := ih fun y hy => hf y (by simp [hy])
    rw [runsB_cons, List.length_append, List.length_cons]
    have : (runB x).length ≤ 30 := by unfold runB; simp only [List.length_append]; omega
    omega
theorem apart_len (rs : List (Nat × Cel)) (h : ∀ x ∈ rs, 0 < x.1) : rs.length ≤ sumR rs := by
  induction rs with
  | nil => simp
  | cons x r ih =>
    have := h x (by simp)
    have := ih fun y hy => h y (by simp [hy])
    rw [show x :: r = [x] ++ r from rfl, sumR_append, sumR_one]
    simp
    omega
theorem le_sumR (rs : List (Nat × Cel)) : ∀ x ∈ rs, x.1 ≤ sumR rs := by
  induction rs with
  | nil => simp
  | cons y r ih =>
    intro x hx
    rw [show y :: r = [y] ++ r from rfl, sumR_append, sumR_one]
    rcases List.mem_cons.1 hx with rfl | hx
    · omega
    · have := ih x hx; omega

/-! ### two cells of a run tell as much as all do -/
theorem okN_mid (p q : Option Cel) (c : Cel) (h1 : okN p c (some c) = true) (h2 : okN (some c) c q = true) : okN (some c) c (some c) = true := by
  unfold okN aloneN at *
  by_cases h0 : c.rune = 0
  · rw [if_pos h0] at h2
    rw [show (some c).any (fun a => halves a c) = halves c c from rfl, halves_rest c c h0] at h2
    simp at h2
  · rw [if_neg h0] at h1 ⊢
    by_cases hw : GM.wide c.rune = true
    · have : halves c c = false := by rw [← Bool.not_eq_true, halves_iff]; simp [h0]
      rw [if_pos hw, show (some c).any (fun b => halves c b) = halves c c from rfl, this] at h1
      simp at h1
    · rw [if_neg hw] at h1 ⊢
      exact h1
theorem whole_three (p : Option Cel) (c : Cel) (t : List Cel) : wholeP p (c :: c :: c :: t) = wholeP p (c :: c :: t) := by
  simp only [wholeP, List.head?_cons]
  rcases h1 : okN p c (some c) with _ | _
  · simp
  · rcases h2 : okN (some c) c t.head? with _ | _
    · simp
    · rw [okN_mid p _ c h1 h2]; simp
theorem whole_two (p : Option Cel) (c : Cel) (n : Nat) (t : List Cel) : wholeP p (List.replicate (n + 2) c ++ t) = wholeP p (c :: c :: t) := by
  induction n with
  | zero => rfl
  | succ n ih =>
    rw [show List.replicate (n + 1 + 2) c ++ t = c :: c :: c :: (List.replicate n c ++ t) from rfl, whole_three]
    exact ih
theorem whole_min (p : Option Cel) (c : Cel) (n : Nat) (t : List Cel) : wholeP p (List.replicate (min n 2) c ++ t) = wholeP p (List.replicate n c ++ t) := by
  rcases Nat.lt_or_ge n 2 with h | h
  · rw [Nat.min_eq_left (by omega)]
  · obtain ⟨m, rfl⟩ : ∃ m, n = m + 2 := ⟨n - 2, by omega⟩
    rw [Nat.min_eq_right (by omega), whole_two]
    exact (whole_two p c m t).symm
theorem whole_congr (a : List Cel) (x y : List Cel) (h : ∀ p, wholeP p x = wholeP p y) (hh : x.head? = y.head?) (p : Option Cel) : wholeP p (a ++ x) = wholeP p (a ++ y) := by
  induction a generalizing p with
  | nil => exact h p
  | cons c a ih =>
    have : (a ++ x).head? = (a ++ y).head? := by rw [List.head?_append, List.head?_append, hh]
    rw [List.cons_append, List.cons_append, wholeP, wholeP, this, ih]
theorem spread_head (rs : List (Nat × Cel)) (h : ∀ x ∈ rs, 0 < x.1) : (spread rs 2).head? = (cells rs).head? := by
  rcases rs with _ | ⟨⟨n, c⟩, r⟩
  · rfl
  · have hn : 0 < n := h (n, c) (by simp)
    obtain ⟨m, rfl⟩ : ∃ m, n = m + 1 := ⟨n - 1, by omega⟩
    rw [show (m + 1, c) :: r = [(m + 1, c)] ++ r from rfl, spread_append, cells_append, spread_one, cells_one]
    obtain ⟨k, hk⟩ : ∃ k, min (m + 1) 2 = k + 1 := ⟨min (m + 1) 2 - 1, by omega⟩
    simp only [hk]
    rfl
theorem whole_spread (rs : List (Nat × Cel)) (h : ∀ x ∈ rs, 0 < x.1) (p : Option Cel) : wholeP p (spread rs 2) = wholeP p (cells rs) := by
  induction rs generalizing p with
  | nil => rfl
  | cons x r ih =>
    have hr : ∀ y ∈ r, 0 < y.1 := fun y hy => h y (by simp [hy])
    rw [show x :: r = [x] ++ r from rfl, spread_append, cells_append, spread_one, cells_one, whole_min]
    exact whole_congr _ _ _ (ih hr) (spread_head r hr) p
end Go.Proofs.YtdolapobkhhanaaDoor.KM
/-
  Layer 7 (glyph), for layer 8: Wide.
-/
namespace Go.Proofs.YtdolapobkhhanaaDoor
open Go.RowKit Go.Lib

/-- Is a rune in one of the first k ranges? -/
def among9 (r : Int) (k : Nat) : Bool := (List.range k).any fun i => GM.amo r (GM.wideT.getD (2 * i) 0) (GM.wideT.getD (2 * i + 1) 0)
theorem among9_succ (r : Int) (k : Nat) : among9 r (k + 1) = (among9 r k || GM.amo r (GM.wideT.getD (2 * k) 0) (GM.wideT.getD (2 * k + 1) 0)) := by
  unfold among9
  rw [List.range_succ, List.any_append]
  simp
theorem wide_not (r : Int) (h : (r == 12351) = false) : GM.wide r = among9 r 9 := by
  unfold GM.wide
  simp only [h, among9_succ]
  simp [among9, GM.wideT]
theorem wide_yes (r : Int) (h : (r == 12351) = false) (k : Nat) (hk : k < 9) (ha : among9 r (k + 1) = true) : GM.wide r = true := by
  rw [wide_not r h]
  have : ∀ n, among9 r (k + 1 + n) = true := by
    intro n
    induction n with
    | zero => exact ha
    | succ n ih => rw [← Nat.add_assoc, among9_succ, ih, Bool.true_or]
  have := this (9 - (k + 1))
  rwa [show k + 1 + (9 - (k + 1)) = 9 by omega] at this

/-- The ranges as cells. -/
def wideA : Array Value := (runesV GM.wideT).toArray
theorem index9 (w : World) (k : Nat) (hk : k < 9) : (Instr.index 112 (.agg wideA) (.int .i64 (k : Int))).run Tryd.prog w = .ok (.agg #[.int .i32 (GM.wideT.getD (2 * k) 0), .int .i32 (GM.wideT.getD (2 * k + 1) 0)]) w := by
  have h9 : Tryd.prog.underlying 112 = some (.array 9 111) := by kernel_rfl
  have hi : (0 : Int) ≤ (k : Int) ∧ (k : Int) < ((9 : Nat) : Int) := by omega
  have hs : (sizeOf 111).run Tryd.prog w = .ok 2 w := by kernel_rfl
  have ha : (isAgg 111).run Tryd.prog w = .ok true w := by kernel_rfl
  have hx : wideA.extract (k * 2) (k * 2 + 2) = #[.int .i32 (GM.wideT.getD (2 * k) 0), .int .i32 (GM.wideT.getD (2 * k + 1) 0)] := by
    rcases (by omega : k = 0 ∨ k = 1 ∨ k = 2 ∨ k = 3 ∨ k = 4 ∨ k = 5 ∨ k = 6 ∨ k = 7 ∨ k = 8) with h | h | h | h | h | h | h | h | h <;> subst h <;> rfl
  simp only [Instr.index, asIntOf, Sem.run_bind, Sem.run_pure, Result.andThen_ok, run_underlying h9]
  rw [if_pos hi]
  simp only [Sem.run_bind, hs, Result.andThen_ok, part, ha, if_true, Sem.run_pure, Int.toNat_natCast]
  rw [hx]

set_option maxRecDepth 100000 in
set_option maxHeartbeats 1000000 in
theorem wide_ok (w : World) (hT : Tabs w) (r : Int) : Calls Tryd.prog 40 #[.int .i32 r] w fun e w' => e = .returned (.bool (GM.wide r)) ∧ Below w.heap.size w w' := by
  rcases h : (r == 12351) with _ | _
  · have HT := Lib.hid hT
    have hload : ∀ (o : Oper) (ops : Array Oper) (rest : List Oper) (a : Act) (Q : Exit → Act → World → Prop), o.guard = none → o.op = .load 112 (.global 2) → wpList Tryd.prog ops Q rest (a.put o.dst (.agg wideA)) w → wpList Tryd.prog ops Q (o :: rest) a w :=
      fun o ops rest a Q hg ho h => wpList_load_mid hg _ _ ho 2 0 rfl _ _ hT.wide Tryd.underlying112 rfl (by kernel_rfl) h
    have HL := Lib.hid hload
    clear hT hload
    go_enter Tryd.func40, Tryd.ntmps40
    go_wp2_with (refine HL.out _ _ _ _ _ rfl rfl ?_)
    go_loopw [8] (fun i wr => ∃ k : Nat, k ≤ 9 ∧ i = .int .i64 (k : Int) ∧ Below w.heap.size w wr ∧ among9 r k = false) (fun i _ => 9 - (RowKit.intOf i).toNat)
    case atStart => exact ⟨0, by omega, rfl, Below.refl _ _, rfl⟩
    case round =>
      obtain ⟨k, hk, rfl, hb, ha⟩ := hrel
      have HB := Lib.hid hb
      have HA := Lib.hid ha
      have H := Lib.hid h
      clear hb ha h
      by_cases hlt : k < 9
      · have g : decide ((k : Int) < 9) = true := by simp; omega
        have hix := fun w' => index9 w' k hlt
        have hn := among9_succ r k
        rw [HA.out, Bool.false_or] at hn
        generalize GM.wideT.getD (2 * k) 0 = x at *
        generalize GM.wideT.getD (2 * k + 1) 0 = y at *
        rcases hm : GM.amo r x y with _ | _
        · have HN := Lib.hid (hn.trans hm)
          clear hn
          go_wp2_with fail
          refine (has_ok _ r x y).mono ?_
          rintro e w1 ⟨rfl, hb1⟩
          have HB1 := Lib.hid hb1
          clear hb1
          go_wp2_with fail
          go_roundw
          case rel => exact ⟨k + 1, by omega, by simp, below_next (HB.out.alloc HB.out.size _) (HB1.out), HN.out⟩
          case measure => simp [RowKit.intOf]; omega
        · have HN := Lib.hid (hn.trans hm)
          clear hn
          go_wp2_with fail
          refine (has_ok _ r x y).mono ?_
          rintro e w1 ⟨rfl, hb1⟩
          have HB1 := Lib.hid hb1
          clear hb1
          go_wp2_with fail
          go_ret
          exact ⟨by rw [wide_yes r H.out k hlt HN.out]; rfl, below_next (HB.out.alloc HB.out.size _) (HB1.out)⟩
      · have g : decide ((k : Int) < 9) = false := by simp; omega
        go_wp2_with fail
        go_ret
        obtain rfl : k = 9 := by omega
        exact ⟨by rw [wide_not r H.out, HA.out]; rfl, HB.out⟩
  · obtain rfl : r = 12351 := by simpa using h
    go_enter Tryd.func40, Tryd.ntmps40
    go_wp2
    go_ret
    exact ⟨rfl, Below.refl _ _⟩

end Go.Proofs.YtdolapobkhhanaaDoor
