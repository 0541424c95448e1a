/-
  Layer 5's laws: two arrays of three bytes are held against one another.
-/
import Derived.Test.YtdolekmifnenhaaDoorULFeed
import Derived.ChangeKeysEq
namespace Go.Proofs.YtdolekmifnenhaaDoor
open Go.RowKit Go.Lib

theorem run_part3 (w : World) (a b c : Int) : (part 5 #[.int .u8 a, .int .u8 b, .int .u8 c] 0).run Tryd.prog w = .ok (.int .u8 a) w ∧ (part 5 #[.int .u8 a, .int .u8 b, .int .u8 c] 1).run Tryd.prog w = .ok (.int .u8 b) w ∧ (part 5 #[.int .u8 a, .int .u8 b, .int .u8 c] 2).run Tryd.prog w = .ok (.int .u8 c) w :=
  ⟨by kernel_rfl, by kernel_rfl, by kernel_rfl⟩
theorem run_eq3 (w : World) (a b c a' b' c' : Int) : (Op.equalIn 10000 27 (.agg #[.int .u8 a, .int .u8 b, .int .u8 c]) (.agg #[.int .u8 a', .int .u8 b', .int .u8 c'])).run Tryd.prog w = .ok (decide (a = a' ∧ b = b' ∧ c = c')) w := by
  have hc : Tryd.prog.cellsOf 5 = 1 := by kernel_rfl
  obtain ⟨i0, hi, _, _, _⟩ := info_parts Tryd.info5
  obtain ⟨p0, p1, p2⟩ := run_part3 w a b c
  obtain ⟨q0, q1, q2⟩ := run_part3 w a' b' c'
  have he : ∀ x y : Int, (Op.equalIn 9999 5 (.int .u8 x) (.int .u8 y)).run Tryd.prog w = .ok (x == y) w := fun x y => run_equalIn_int w 9998 5 .u8 .u8 x y Tryd.underlying5
  rw [show (10000 : Nat) = 9999 + 1 from rfl, run_equalIn_array w 9999 _ _ Tryd.underlying27 hi, hc]
  simp only [show List.range 3 = [0, 1, 2] from rfl, Op.eqItems, Nat.mul_one, Sem.run_bind, p0, q0, he, Result.andThen_ok]
  by_cases h0 : a = a'
  · subst h0
    simp only [beq_self_eq_true, Bool.not_true, Bool.false_eq_true, if_false, Sem.run_bind, p1, q1, he, Result.andThen_ok]
    by_cases h1 : b = b'
    · subst h1
      simp only [beq_self_eq_true, Bool.not_true, Bool.false_eq_true, if_false, Sem.run_bind, p2, q2, he, Result.andThen_ok]
      by_cases h2 : c = c'
      · simp [h2]
      · simp [h2]
    · simp [h1]
  · simp [h0]

/-- append(v, x...) in an operation under a guard that says yes. -/
theorem wpList_append_rg {w : World} {ops : Array Oper} {rest : List Oper} {o : Oper} {a : Act} {Q : Exit → Act → World → Prop} (hgd : Region.wanted o (yielded ops a.tmps) = true) (s x : Operand)
    (ho : o.op = .call { callee := .builtin .append, args := #[s, x], argTypes := #[24, 24] }) (base : Nat) (v : Value) (xs : List Nat) (hs : a.eval s = v) (hown : OwnR w base v xs)
    (A : Option Addr) (l : List Nat) (n c B : Nat) (hn : n = l.length) (hx : a.eval x = .slice A n c) (hr : Row w B .i32 A l) (hA : A = none → c = 0) (hlen : xs.length + l.length ≤ 1000000000) (hbase : base ≤ w.heap.size)
    (h : ∀ v' w', OwnR w' base v' (xs ++ l) → Grow w w' v v' → wpList Tryd.prog ops Q rest (a.put o.dst v') w') : wpList Tryd.prog ops Q (o :: rest) a w := by
  subst hn
  obtain ⟨v', w', hrun, h2, h3⟩ := run_append_r w base o.type v xs hown A l c B hr hA hlen hbase
  refine wpList_step fun K hK => ?_
  rw [if_pos hgd]
  unfold Oper.wp execOp
  simp only [ho, resolve, invoke, builtin, Sem.run_bind, Sem.run_pure, Result.andThen_ok, List.map_toArray, List.map_cons, List.map_nil, hs, hx, hrun]
  exact hK _ _ (h v' w' h2 h3)
end Go.Proofs.YtdolekmifnenhaaDoor
