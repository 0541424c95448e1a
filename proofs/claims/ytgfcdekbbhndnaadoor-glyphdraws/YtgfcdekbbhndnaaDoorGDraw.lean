/-
  Layer 7 (glyph): Drawn, the package's and the reference's.
-/
import Derived.Test.YtgfcdekbbhndnaaDoorGBase
import Derived.Deep.WholeRow
namespace Go.Proofs.YtgfcdekbbhndnaaDoor
open Go.RowKit Go.Lib

theorem sign_at (w : World) (hT : Tabs w) (k : Nat) (hk : k < 31) : w.cell? ⟨1, k, none⟩ = some (.int .i32 (GM.signT.getD k 0)) := by
  have h := hT.signs k (.int .i32 (GM.signT.getD k 0)) (by
    have hl : k < GM.signT.length := hk
    simp [runesV, hl])
  simpa using h

/-- Below the signs, above them, or one of their places. -/
theorem rune_part (r : Int) : r < 96 ∨ 126 < r ∨ ∃ k : Nat, k < 31 ∧ r = 96 + (k : Int) := by
  rcases (by omega : r < 96 ∨ 126 < r ∨ (96 ≤ r ∧ r ≤ 126)) with h | h | h
  · exact .inl h
  · exact .inr (.inl h)
  · exact .inr (.inr ⟨(r - 96).toNat, by omega, by omega⟩)

set_option maxRecDepth 100000 in
set_option maxHeartbeats 400000 in
theorem drawn_ok (w : World) (hT : Tabs w) (r : Int) (hr : -2147483648 ≤ r ∧ r ≤ 2147483647) : Calls Tryd.prog 13 #[.int .i32 r] w fun e w' => e = .returned (.int .i32 (GM.drawn r)) ∧ w' = w := by
  rcases (rune_part r) with h | h | ⟨k, hk, rfl⟩
  · rw [GM.drawn_out r (.inl h)]
    have g : decide (r < 96) = true := by simp; omega
    clear hT hr h
    go_enter Tryd.func13, Tryd.ntmps13
    go_wp2
    go_ret
    exact ⟨rfl, rfl⟩
  · rw [GM.drawn_out r (.inr h)]
    have g : decide (r < 96) = false := by simp; omega
    have g1 : IntKind.i32.wrap (r - 96) = r - 96 := by rw [IntKind.wrap_i32]; omega
    have g2 : decide (31 ≤ r - 96) = true := by simp; omega
    clear hT hr h
    go_enter Tryd.func13, Tryd.ntmps13
    go_wp2
    go_ret
    exact ⟨rfl, rfl⟩
  · rw [GM.drawn_in k hk]
    have hc := sign_at w hT k hk
    have g : decide (96 + (k : Int) < 96) = false := by simp; omega
    clear hT hr
    generalize GM.signT.getD k 0 = z at *
    go_enter Tryd.func13, Tryd.ntmps13
    go_wp2
    go_ret
    exact ⟨rfl, rfl⟩

/-- The signs as cells. -/
def signA : Array Value := (runesV GM.signT).toArray

theorem wpList_signs {ops : Array Oper} {rest : List Oper} {o : Oper} {a : Act} {w : World} {Q : Exit → Act → World → Prop} (hg : o.guard = none) (parts : Array (Nat × Operand)) (ho : o.op = .build 33 parts)
    (hf : Tryd.prog.built 33 (parts.map fun (i, x) => (i, a.eval x)).toList = some signA)
    (h : wpList Tryd.prog ops Q rest (a.put o.dst (.agg signA)) w) : wpList Tryd.prog ops Q (o :: rest) a w := by
  refine wpList_build hg _ parts ho (by rw [hf]; rfl) ?_
  rw [hf]
  exact h
theorem zero31 (v : World) : (zeroValue 33).run Tryd.prog v = .ok (.agg (Array.replicate 31 (.int .i32 0))) v := by kernel_rfl
theorem size31 : (Tryd.prog.info? 33).map (·.size) = some signA.size := by kernel_rfl
theorem wpList_signs_put {ops : Array Oper} {rest : List Oper} {o : Oper} {a : Act} {w : World} {c : Array Value} {Q : Exit → Act → World → Prop} (hg : o.guard = none) (x y : Operand) (ho : o.op = .store 33 x y)
    (hx : a.eval x = .pointer (some ⟨w.heap.size, 0, none⟩)) (hy : a.eval y = .agg signA) (hc : c.size = 31)
    (h : wpList Tryd.prog ops Q rest (a.put o.dst undef) (w.alloc (.cells signA 33))) : wpList Tryd.prog ops Q (o :: rest) a (w.alloc (.cells c 33)) := by
  refine wpList_store_row hg _ x y ho w.heap.size signA hx hy 33 c (heap_alloc_last w _) size31 hc (by kernel_rfl) ?_
  rw [World.setRow_alloc_new]
  exact h

set_option maxRecDepth 100000 in
set_option maxHeartbeats 1000000 in
theorem rdrawn_ok (w : World) (r : Int) : Calls Tryd.prog 14 #[.int .i32 r] w fun e w' => e = .returned (.int .i32 (GM.drawn r)) ∧ Below w.heap.size w w' := by
  rcases rune_part r with h | h | ⟨k, hk, rfl⟩
  · rw [GM.drawn_out r (.inl h)]
    have F : GM.amo r 96 126 = false := by rw [GM.amo_not]; omega
    clear h
    go_enter Tryd.func14, Tryd.ntmps14
    go_wp2_with (go_at_call 17; refine (among_ok _ _ _ _).mono ?_; rintro e w1 ⟨rfl, rfl⟩)
    go_ret
    exact ⟨rfl, Below.refl _ _⟩
  · rw [GM.drawn_out r (.inr h)]
    have F : GM.amo r 96 126 = false := by rw [GM.amo_not]; omega
    clear h
    go_enter Tryd.func14, Tryd.ntmps14
    go_wp2_with (go_at_call 17; refine (among_ok _ _ _ _).mono ?_; rintro e w1 ⟨rfl, rfl⟩)
    go_ret
    exact ⟨rfl, Below.refl _ _⟩
  · rw [GM.drawn_in k hk]
    have F : GM.amo (96 + (k : Int)) 96 126 = true := by rw [GM.amo_iff]; omega
    have hc : (w.alloc (.cells signA 33)).cell? ⟨w.heap.size, k, none⟩ = some (.int .i32 (GM.signT.getD k 0)) := by
      rw [cell_of_row _ _ _ _ _ _ (heap_alloc_last w _)]
      have hl : k < GM.signT.length := hk
      simp [signA, runesV, hl]
    have hz := zero31
    generalize GM.signT.getD k 0 = z at *
    go_enter Tryd.func14, Tryd.ntmps14
    go_wp2_with (first | (go_at_call 17; refine (among_ok _ _ _ _).mono ?_; rintro e w1 ⟨rfl, rfl⟩) | (refine wpList_signs rfl _ rfl (by kernel_rfl) ?_) | (refine wpList_signs_put rfl _ _ rfl rfl rfl (by simp) ?_))
    go_ret
    exact ⟨rfl, (Below.refl _ _).alloc (Nat.le_refl _) _⟩
end Go.Proofs.YtgfcdekbbhndnaaDoor
