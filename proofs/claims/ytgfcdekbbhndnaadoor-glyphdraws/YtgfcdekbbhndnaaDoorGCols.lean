/-
  Layer 7 (glyph): Columns of a slice of runes.
-/
import Derived.Test.YtgfcdekbbhndnaaDoorGWide
namespace Go.Proofs.YtgfcdekbbhndnaaDoor
open Go.RowKit Go.Lib

/-- The slice value at A, of as many elements as l has, reads as the runes l and lies below block B. -/
def RowI (w : World) (B : Nat) (A : Option Addr) (l : List Int) : Prop :=
  0 < l.length → ∃ b off, A = some ⟨b, off, none⟩ ∧ b < B ∧ ∀ j, j < l.length → w.cell? ⟨b, off + j, none⟩ = some (.int .i32 (l.getD j 0))
theorem RowI.below {w w' : World} {B B' : Nat} {A : Option Addr} {l : List Int} (h : RowI w B A l) (hb : Below B' w w') (hB : B ≤ B') : RowI w' B A l := fun hl => by
  obtain ⟨b, off, e, hlt, hc⟩ := h hl
  exact ⟨b, off, e, hlt, fun j hj => (hb.cell (p := ⟨b, off + j, none⟩) (by show b < B'; omega)).trans (hc j hj)⟩
theorem RowI.mono {w : World} {B B' : Nat} {A : Option Addr} {l : List Int} (h : RowI w B A l) (hB : B ≤ B') : RowI w B' A l := fun hl => by
  obtain ⟨b, off, e, hlt, hc⟩ := h hl
  exact ⟨b, off, e, by omega, hc⟩
theorem RowI.take {w : World} {B : Nat} {A : Option Addr} {l : List Int} (h : RowI w B A l) (j : Nat) : RowI w B A (l.take j) := fun hl => by
  rw [List.length_take] at hl
  obtain ⟨b, off, e, hb, hc⟩ := h (by omega)
  refine ⟨b, off, e, hb, fun i hi => ?_⟩
  rw [List.length_take] at hi
  rw [hc i (by omega)]
  simp [show i < j by omega]
theorem RowI.cut {w : World} {B : Nat} {A : Option Addr} {l : List Int} (h : RowI w B A l) {j cap : Nat} (hj : j ≤ l.length) (hc : l.length ≤ cap) : RowI w B (cutA A cap j) (l.drop j) := fun hl => by
  unfold cutA
  rw [List.length_drop] at hl
  obtain ⟨b, off, rfl, hb, hcell⟩ := h (by omega)
  rw [if_neg (by omega)]
  refine ⟨b, off + j, by simp only [Option.map_some, Option.some.injEq]; unfold Addr.add; split <;> simp_all, hb, fun i hi => ?_⟩
  rw [List.length_drop] at hi
  rw [Nat.add_assoc, hcell (j + i) (by omega)]
  simp [List.getElem?_drop]

theorem colsL_take (l : List Int) (k : Nat) (h : k < l.length) : GM.colsL (l.take (k + 1)) = GM.colsL (l.take k) + GM.cols (l.getD k 0) := by
  rw [List.take_succ_eq_append_getElem h, GM.colsL_append]
  simp [GM.colsL, h]

set_option maxRecDepth 100000 in
set_option maxHeartbeats 400000 in
theorem columns_ok (w : World) (hT : Tabs w) (l : List Int) (A : Option Addr) (c B : Nat) (hr : RowI w B A l) (hB : B ≤ w.heap.size) (hl : l.length ≤ 1000) :
    Calls Tryd.prog 15 #[.slice A l.length c] w fun e w' => e = .returned (.int .i64 (GM.colsL l : Int)) ∧ Below w.heap.size w w' := by
  have HT := Lib.hid hT
  have HR := Lib.hid hr
  clear hT hr
  go_enter Tryd.func15, Tryd.ntmps15
  go_wp2
  go_loopw [3, 8] (fun n i wr => ∃ k : Nat, k ≤ l.length ∧ n = .int .i64 (GM.colsL (l.take k) : Int) ∧ i = .int .i64 (k : Int) ∧ Below w.heap.size w wr) (fun _ i _ => l.length - (RowKit.intOf i).toNat)
  case atStart => exact ⟨0, Nat.zero_le _, rfl, rfl, Below.refl _ _⟩
  case round =>
    obtain ⟨k, hk, rfl, rfl, hb⟩ := hrel
    have hle := GM.colsL_le (l.take k)
    have hlt1 : (l.take k).length ≤ l.length := by rw [List.length_take]; omega
    by_cases hlt : k < l.length
    · have g : decide ((k : Int) < (l.length : Int)) = true := by simp; omega
      have gn : decide (k < l.length) = true := by simp; omega
      obtain ⟨b, off, rfl, hbl, hc⟩ := HR.out (by omega)
      have hck : wr.cell? ⟨b, off + k, none⟩ = some (.int .i32 (l.getD k 0)) := (hb.cell (p := ⟨b, off + k, none⟩) (by show b < _; omega)).trans (hc k hlt)
      have HT1 := Lib.hid (HT.out.on hb HT.out.room)
      have HB := Lib.hid hb
      have HS := Lib.hid (colsL_take l k hlt)
      have hx : GM.cols (l.getD k 0) ≤ 2 := by unfold GM.cols; split <;> (try split) <;> omega
      have HC := Lib.hid (fun v : World => fun hv : Tabs v => cols_ok v hv (l.getD k 0))
      clear hb hc
      generalize l.getD k 0 = z at *
      generalize GM.cols z = q at *
      generalize GM.colsL (l.take k) = s at *
      go_wp2_with fail
      refine (HC.out _ HT1.out).mono ?_
      rintro e w1 ⟨rfl, hb1⟩
      have HB1 := Lib.hid (below_next HB.out hb1)
      clear hb1
      go_wp2_with fail
      go_roundw
      case rel => exact ⟨k + 1, by omega, by rw [HS.out]; simp, by simp, HB1.out⟩
      case measure => simp [RowKit.intOf]; omega
    · have g : decide ((k : Int) < (l.length : Int)) = false := by simp; omega
      have gn : decide (k < l.length) = false := by simp; omega
      obtain rfl : k = l.length := by omega
      rw [List.take_length]
      have HB := Lib.hid hb
      clear hb hle
      go_wp2
      go_ret
      exact ⟨rfl, HB.out⟩
end Go.Proofs.YtgfcdekbbhndnaaDoor
