/-
  Layer 7 (glyph), for layer 8: Wide.
-/
import Derived.Test.YtbpkklcegiiheaaDoorKBase
namespace Go.Proofs.YtbpkklcegiiheaaDoor
open Go.RowKit Go.Lib

/-- Is a rune in one of the first k ranges? -/
def among9 (r : Int) (k : Nat) : Bool := (List.range k).any fun i => GM.amo r (GM.wideT.getD (2 * i) 0) (GM.wideT.getD (2 * i + 1) 0)
theorem among9_succ (r : Int) (k : Nat) : among9 r (k + 1) = (among9 r k || GM.amo r (GM.wideT.getD (2 * k) 0) (GM.wideT.getD (2 * k + 1) 0)) := by
  unfold among9
  rw [List.range_succ, List.any_append]
  simp
theorem wide_not (r : Int) (h : (r == 12351) = false) : GM.wide r = among9 r 9 := by
  unfold GM.wide
  simp only [h, among9_succ]
  simp [among9, GM.wideT]
theorem wide_yes (r : Int) (h : (r == 12351) = false) (k : Nat) (hk : k < 9) (ha : among9 r (k + 1) = true) : GM.wide r = true := by
  rw [wide_not r h]
  have : ∀ n, among9 r (k + 1 + n) = true := by
    intro n
    induction n with
    | zero => exact ha
    | succ n ih => rw [← Nat.add_assoc, among9_succ, ih, Bool.true_or]
  have := this (9 - (k + 1))
  rwa [show k + 1 + (9 - (k + 1)) = 9 by omega] at this

/-- The ranges as cells. -/
def wideA : Array Value := (runesV GM.wideT).toArray
theorem index9 (w : World) (k : Nat) (hk : k < 9) : (Instr.index 106 (.agg wideA) (.int .i64 (k : Int))).run Tryd.prog w = .ok (.agg #[.int .i32 (GM.wideT.getD (2 * k) 0), .int .i32 (GM.wideT.getD (2 * k + 1) 0)]) w := by
  have h9 : Tryd.prog.underlying 106 = some (.array 9 105) := by kernel_rfl
  have hi : (0 : Int) ≤ (k : Int) ∧ (k : Int) < ((9 : Nat) : Int) := by omega
  have hs : (sizeOf 105).run Tryd.prog w = .ok 2 w := by kernel_rfl
  have ha : (isAgg 105).run Tryd.prog w = .ok true w := by kernel_rfl
  have hx : wideA.extract (k * 2) (k * 2 + 2) = #[.int .i32 (GM.wideT.getD (2 * k) 0), .int .i32 (GM.wideT.getD (2 * k + 1) 0)] := by
    rcases (by omega : k = 0 ∨ k = 1 ∨ k = 2 ∨ k = 3 ∨ k = 4 ∨ k = 5 ∨ k = 6 ∨ k = 7 ∨ k = 8) with h | h | h | h | h | h | h | h | h <;> subst h <;> rfl
  simp only [Instr.index, asIntOf, Sem.run_bind, Sem.run_pure, Result.andThen_ok, run_underlying h9]
  rw [if_pos hi]
  simp only [Sem.run_bind, hs, Result.andThen_ok, part, ha, if_true, Sem.run_pure, Int.toNat_natCast]
  rw [hx]

set_option maxRecDepth 100000 in
set_option maxHeartbeats 1000000 in
theorem wide_ok (w : World) (hT : Tabs w) (r : Int) : Calls Tryd.prog 56 #[.int .i32 r] w fun e w' => e = .returned (.bool (GM.wide r)) ∧ Below w.heap.size w w' := by
  rcases h : (r == 12351) with _ | _
  · have HT := Lib.hid hT
    have hload : ∀ (o : Oper) (ops : Array Oper) (rest : List Oper) (a : Act) (Q : Exit → Act → World → Prop), o.guard = none → o.op = .load 106 (.global 0) → wpList Tryd.prog ops Q rest (a.put o.dst (.agg wideA)) w → wpList Tryd.prog ops Q (o :: rest) a w :=
      fun o ops rest a Q hg ho h => wpList_load_mid hg _ _ ho 0 0 rfl _ _ hT.wide Tryd.underlying106 rfl (by kernel_rfl) h
    have HL := Lib.hid hload
    clear hT hload
    go_enter Tryd.func56, Tryd.ntmps56
    go_wp2_with (refine HL.out _ _ _ _ _ rfl rfl ?_)
    go_loopw [8] (fun i wr => ∃ k : Nat, k ≤ 9 ∧ i = .int .i64 (k : Int) ∧ Below w.heap.size w wr ∧ among9 r k = false) (fun i _ => 9 - (RowKit.intOf i).toNat)
    case atStart => exact ⟨0, by omega, rfl, Below.refl _ _, rfl⟩
    case round =>
      obtain ⟨k, hk, rfl, hb, ha⟩ := hrel
      have HB := Lib.hid hb
      have HA := Lib.hid ha
      have H := Lib.hid h
      clear hb ha h
      by_cases hlt : k < 9
      · have g : decide ((k : Int) < 9) = true := by simp; omega
        have hix := fun w' => index9 w' k hlt
        have hn := among9_succ r k
        rw [HA.out, Bool.false_or] at hn
        generalize GM.wideT.getD (2 * k) 0 = x at *
        generalize GM.wideT.getD (2 * k + 1) 0 = y at *
        rcases hm : GM.amo r x y with _ | _
        · have HN := Lib.hid (hn.trans hm)
          clear hn
          go_wp2_with fail
          refine (has_ok _ r x y).mono ?_
          rintro e w1 ⟨rfl, hb1⟩
          have HB1 := Lib.hid hb1
          clear hb1
          go_wp2_with fail
          go_roundw
          case rel => exact ⟨k + 1, by omega, by simp, below_next (HB.out.alloc HB.out.size _) (HB1.out), HN.out⟩
          case measure => simp [RowKit.intOf]; omega
        · have HN := Lib.hid (hn.trans hm)
          clear hn
          go_wp2_with fail
          refine (has_ok _ r x y).mono ?_
          rintro e w1 ⟨rfl, hb1⟩
          have HB1 := Lib.hid hb1
          clear hb1
          go_wp2_with fail
          go_ret
          exact ⟨by rw [wide_yes r H.out k hlt HN.out]; rfl, below_next (HB.out.alloc HB.out.size _) (HB1.out)⟩
      · have g : decide ((k : Int) < 9) = false := by simp; omega
        go_wp2_with fail
        go_ret
        obtain rfl : k = 9 := by omega
        exact ⟨by rw [wide_not r H.out, HA.out]; rfl, HB.out⟩
  · obtain rfl : r = 12351 := by simpa using h
    go_enter Tryd.func56, Tryd.ntmps56
    go_wp2
    go_ret
    exact ⟨rfl, Below.refl _ _⟩

end Go.Proofs.YtbpkklcegiiheaaDoor
