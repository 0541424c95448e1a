/-
  Layer 5's laws: begins: may a rune of more bytes begin with these?
-/
import Derived.Test.YtdolekmifnenhaaDoorURight
set_option linter.unusedVariables false
namespace Go.Proofs.YtdolekmifnenhaaDoor
open Go.RowKit Go.Lib

set_option maxRecDepth 100000 in
set_option maxHeartbeats 4000000 in
theorem begins_A (w : World) (b off c n x0 x1 x2 : Nat) (hn : 0 < n) (hm : n ≤ 3) (l0 : x0 < 256) (h0 : w.cell? ⟨b, off, none⟩ = some (.int .u8 x0))
    (h1 : 1 < n → w.cell? ⟨b, off + 1, none⟩ = some (.int .u8 x1)) (h2 : 2 < n → w.cell? ⟨b, off + 2, none⟩ = some (.int .u8 x2)) (hc : x0 < 194) :
    Calls Tryd.prog 14 #[.slice (some ⟨b, off, none⟩) n c] w fun e w' => e = .returned (.bool (!UM.fullN n x0 x1 x2)) ∧ Below w.heap.size w w' := by
  have hz0 : ((n : Int) == 0) = false := by simp; omega
  have hz3 : ¬ ((3 : Int) < (n : Int)) := by omega
  have hzp : (0 : Int) < (n : Int) := by omega
  have hf : UM.fullN n x0 x1 x2 = true := by
    have : firstT x0 % 8 ≤ 1 := by unfold firstT; repeat' split
                                   all_goals omega
    unfold UM.fullN
    rw [decide_eq_true hn, decide_eq_true (show firstT x0 % 8 ≤ n by omega)]
    rfl
  rw [hf, Bool.not_true]
  have q1 : ¬ ((194 : Int) ≤ (x0 : Int)) := by omega
  have q2 : ¬ ((224 : Int) ≤ (x0 : Int)) := by omega
  have q3 : ¬ ((240 : Int) ≤ (x0 : Int)) := by omega
  have hz : (0 : Int) ≤ (n : Int) := by omega
  clear h1 h2 hf
  (go_enter Tryd.func14, Tryd.ntmps14; go_wp2; go_ret; exact ⟨rfl, Below.refl _ _⟩)

set_option maxRecDepth 100000 in
set_option maxHeartbeats 4000000 in
theorem begins_B (w : World) (b off c n x0 x1 x2 : Nat) (hn : 0 < n) (hm : n ≤ 3) (l0 : x0 < 256) (h0 : w.cell? ⟨b, off, none⟩ = some (.int .u8 x0))
    (h1 : 1 < n → w.cell? ⟨b, off + 1, none⟩ = some (.int .u8 x1)) (h2 : 2 < n → w.cell? ⟨b, off + 2, none⟩ = some (.int .u8 x2)) (hc : 194 ≤ x0 ∧ x0 < 224) :
    Calls Tryd.prog 14 #[.slice (some ⟨b, off, none⟩) n c] w fun e w' => e = .returned (.bool (!UM.fullN n x0 x1 x2)) ∧ Below w.heap.size w w' := by
  have hz0 : ((n : Int) == 0) = false := by simp; omega
  have hz3 : ¬ ((3 : Int) < (n : Int)) := by omega
  have hzp : (0 : Int) < (n : Int) := by omega
  have hX := firstT_C2 hc
  have hff : UM.fullN n x0 x1 x2 = (decide (2 ≤ n) || (decide (1 < n) && (decide (x1 < 128) || decide (191 < x1))) || (decide (2 < n) && (decide (x2 < 128) || decide (191 < x2)))) := by
    unfold UM.fullN
    rw [hX, decide_eq_true hn]
    rfl
  rw [hff]
  clear hff hX
  have q1 : (194 : Int) ≤ (x0 : Int) := by omega
  have q2 : (x0 : Int) ≤ 223 := by omega
  by_cases hs : 2 ≤ n
  · have hs' : (2 : Int) ≤ (n : Int) := by omega
    rw [decide_eq_true hs, Bool.true_or, Bool.true_or, Bool.not_true]
    clear h1 h2
    (go_enter Tryd.func14, Tryd.ntmps14; go_wp2; go_ret; exact ⟨rfl, Below.refl _ _⟩)
  · have hs' : ¬ ((2 : Int) ≤ (n : Int)) := by omega
    rw [decide_eq_false hs, Bool.false_or]
    obtain rfl : n = 1 := by omega
    clear h1 h2
    (go_enter Tryd.func14, Tryd.ntmps14; go_wp2; go_ret; exact ⟨rfl, Below.refl _ _⟩)

set_option maxRecDepth 100000 in
set_option maxHeartbeats 4000000 in
theorem begins_C (w : World) (b off c n x0 x1 x2 : Nat) (hn : 0 < n) (hm : n ≤ 3) (l0 : x0 < 256) (h0 : w.cell? ⟨b, off, none⟩ = some (.int .u8 x0))
    (h1 : 1 < n → w.cell? ⟨b, off + 1, none⟩ = some (.int .u8 x1)) (h2 : 2 < n → w.cell? ⟨b, off + 2, none⟩ = some (.int .u8 x2)) (hc : x0 = 224) :
    Calls Tryd.prog 14 #[.slice (some ⟨b, off, none⟩) n c] w fun e w' => e = .returned (.bool (!UM.fullN n x0 x1 x2)) ∧ Below w.heap.size w w' := by
  have hz0 : ((n : Int) == 0) = false := by simp; omega
  have hz3 : ¬ ((3 : Int) < (n : Int)) := by omega
  have hzp : (0 : Int) < (n : Int) := by omega
  have hX := firstT_E0 hc
  have hff : UM.fullN n x0 x1 x2 = (decide (3 ≤ n) || (decide (1 < n) && (decide (x1 < 160) || decide (191 < x1))) || (decide (2 < n) && (decide (x2 < 128) || decide (191 < x2)))) := by
    unfold UM.fullN
    rw [hX, decide_eq_true hn]
    rfl
  rw [hff]
  clear hff hX
  subst hc
  by_cases hs : 3 ≤ n
  · have hs' : (3 : Int) ≤ (n : Int) := by omega
    rw [decide_eq_true hs, Bool.true_or, Bool.true_or, Bool.not_true]
    clear h1 h2
    (go_enter Tryd.func14, Tryd.ntmps14; go_wp2; go_ret; exact ⟨rfl, Below.refl _ _⟩)
  · have hs' : ¬ ((3 : Int) ≤ (n : Int)) := by omega
    rw [decide_eq_false hs, Bool.false_or]
    rcases (by omega : n = 1 ∨ n = 2) with rfl | rfl
    · clear h1 h2
      (go_enter Tryd.func14, Tryd.ntmps14; go_wp2; go_ret; exact ⟨rfl, Below.refl _ _⟩)
    · have r1 := h1 (by omega)
      clear h1 h2
      rcases Nat.lt_or_ge x1 160 with k1 | k1
      · have j1 : ¬ ((160 : Int) ≤ (x1 : Int)) := by omega
        have i1 : decide (x1 < 160) = true := decide_eq_true k1
        rw [i1]
        (go_enter Tryd.func14, Tryd.ntmps14; go_wp2; go_ret; exact ⟨rfl, Below.refl _ _⟩)
      · have j1 : (160 : Int) ≤ (x1 : Int) := by omega
        have i1 : decide (x1 < 160) = false := decide_eq_false (by omega)
        rw [i1]
        rcases Nat.lt_or_ge 191 x1 with k2 | k2
        · have j2 : ¬ ((x1 : Int) ≤ 191) := by omega
          have i2 : decide (191 < x1) = true := decide_eq_true k2
          rw [i2]
          (go_enter Tryd.func14, Tryd.ntmps14; go_wp2; go_ret; exact ⟨rfl, Below.refl _ _⟩)
        · have j2 : (x1 : Int) ≤ 191 := by omega
          have i2 : decide (191 < x1) = false := decide_eq_false (by omega)
          rw [i2]
          (go_enter Tryd.func14, Tryd.ntmps14; go_wp2; go_ret; exact ⟨rfl, Below.refl _ _⟩)

set_option maxRecDepth 100000 in
set_option maxHeartbeats 4000000 in
theorem begins_D (w : World) (b off c n x0 x1 x2 : Nat) (hn : 0 < n) (hm : n ≤ 3) (l0 : x0 < 256) (h0 : w.cell? ⟨b, off, none⟩ = some (.int .u8 x0))
    (h1 : 1 < n → w.cell? ⟨b, off + 1, none⟩ = some (.int .u8 x1)) (h2 : 2 < n → w.cell? ⟨b, off + 2, none⟩ = some (.int .u8 x2)) (hc : (225 ≤ x0 ∧ x0 < 237) ∨ (238 ≤ x0 ∧ x0 < 240)) :
    Calls Tryd.prog 14 #[.slice (some ⟨b, off, none⟩) n c] w fun e w' => e = .returned (.bool (!UM.fullN n x0 x1 x2)) ∧ Below w.heap.size w w' := by
  have hz0 : ((n : Int) == 0) = false := by simp; omega
  have hz3 : ¬ ((3 : Int) < (n : Int)) := by omega
  have hzp : (0 : Int) < (n : Int) := by omega
  have hX := firstT_E1 hc
  have hff : UM.fullN n x0 x1 x2 = (decide (3 ≤ n) || (decide (1 < n) && (decide (x1 < 128) || decide (191 < x1))) || (decide (2 < n) && (decide (x2 < 128) || decide (191 < x2)))) := by
    unfold UM.fullN
    rw [hX, decide_eq_true hn]
    rfl
  rw [hff]
  clear hff hX
  have q1 : (194 : Int) ≤ (x0 : Int) := by omega
  have q2 : ¬ ((x0 : Int) ≤ 223) := by omega
  have q3 : (224 : Int) ≤ (x0 : Int) := by omega
  have q4 : (x0 : Int) ≤ 239 := by omega
  have q5 : ((x0 : Int) == 224) = false := by simp; omega
  have q6 : ((x0 : Int) == 237) = false := by simp; omega
  by_cases hs : 3 ≤ n
  · have hs' : (3 : Int) ≤ (n : Int) := by omega
    rw [decide_eq_true hs, Bool.true_or, Bool.true_or, Bool.not_true]
    clear h1 h2
    (go_enter Tryd.func14, Tryd.ntmps14; go_wp2; go_ret; exact ⟨rfl, Below.refl _ _⟩)
  · have hs' : ¬ ((3 : Int) ≤ (n : Int)) := by omega
    rw [decide_eq_false hs, Bool.false_or]
    rcases (by omega : n = 1 ∨ n = 2) with rfl | rfl
    · clear h1 h2
      (go_enter Tryd.func14, Tryd.ntmps14; go_wp2; go_ret; exact ⟨rfl, Below.refl _ _⟩)
    · have r1 := h1 (by omega)
      clear h1 h2
      rcases Nat.lt_or_ge x1 128 with k1 | k1
      · have j1 : ¬ ((128 : Int) ≤ (x1 : Int)) := by omega
        have i1 : decide (x1 < 128) = true := decide_eq_true k1
        rw [i1]
        (go_enter Tryd.func14, Tryd.ntmps14; go_wp2; go_ret; exact ⟨rfl, Below.refl _ _⟩)
      · have j1 : (128 : Int) ≤ (x1 : Int) := by omega
        have i1 : decide (x1 < 128) = false := decide_eq_false (by omega)
        rw [i1]
        rcases Nat.lt_or_ge 191 x1 with k2 | k2
        · have j2 : ¬ ((x1 : Int) ≤ 191) := by omega
          have i2 : decide (191 < x1) = true := decide_eq_true k2
          rw [i2]
          (go_enter Tryd.func14, Tryd.ntmps14; go_wp2; go_ret; exact ⟨rfl, Below.refl _ _⟩)
        · have j2 : (x1 : Int) ≤ 191 := by omega
          have i2 : decide (191 < x1) = false := decide_eq_false (by omega)
          rw [i2]
          (go_enter Tryd.func14, Tryd.ntmps14; go_wp2; go_ret; exact ⟨rfl, Below.refl _ _⟩)

set_option maxRecDepth 100000 in
set_option maxHeartbeats 4000000 in
theorem begins_E (w : World) (b off c n x0 x1 x2 : Nat) (hn : 0 < n) (hm : n ≤ 3) (l0 : x0 < 256) (h0 : w.cell? ⟨b, off, none⟩ = some (.int .u8 x0))
    (h1 : 1 < n → w.cell? ⟨b, off + 1, none⟩ = some (.int .u8 x1)) (h2 : 2 < n → w.cell? ⟨b, off + 2, none⟩ = some (.int .u8 x2)) (hc : x0 = 237) :
    Calls Tryd.prog 14 #[.slice (some ⟨b, off, none⟩) n c] w fun e w' => e = .returned (.bool (!UM.fullN n x0 x1 x2)) ∧ Below w.heap.size w w' := by
  have hz0 : ((n : Int) == 0) = false := by simp; omega
  have hz3 : ¬ ((3 : Int) < (n : Int)) := by omega
  have hzp : (0 : Int) < (n : Int) := by omega
  have hX := firstT_ED hc
  have hff : UM.fullN n x0 x1 x2 = (decide (3 ≤ n) || (decide (1 < n) && (decide (x1 < 128) || decide (159 < x1))) || (decide (2 < n) && (decide (x2 < 128) || decide (191 < x2)))) := by
    unfold UM.fullN
    rw [hX, decide_eq_true hn]
    rfl
  rw [hff]
  clear hff hX
  subst hc
  by_cases hs : 3 ≤ n
  · have hs' : (3 : Int) ≤ (n : Int) := by omega
    rw [decide_eq_true hs, Bool.true_or, Bool.true_or, Bool.not_true]
    clear h1 h2
    (go_enter Tryd.func14, Tryd.ntmps14; go_wp2; go_ret; exact ⟨rfl, Below.refl _ _⟩)
  · have hs' : ¬ ((3 : Int) ≤ (n : Int)) := by omega
    rw [decide_eq_false hs, Bool.false_or]
    rcases (by omega : n = 1 ∨ n = 2) with rfl | rfl
    · clear h1 h2
      (go_enter Tryd.func14, Tryd.ntmps14; go_wp2; go_ret; exact ⟨rfl, Below.refl _ _⟩)
    · have r1 := h1 (by omega)
      clear h1 h2
      rcases Nat.lt_or_ge x1 128 with k1 | k1
      · have j1 : ¬ ((128 : Int) ≤ (x1 : Int)) := by omega
        have i1 : decide (x1 < 128) = true := decide_eq_true k1
        rw [i1]
        (go_enter Tryd.func14, Tryd.ntmps14; go_wp2; go_ret; exact ⟨rfl, Below.refl _ _⟩)
      · have j1 : (128 : Int) ≤ (x1 : Int) := by omega
        have i1 : decide (x1 < 128) = false := decide_eq_false (by omega)
        rw [i1]
        rcases Nat.lt_or_ge 159 x1 with k2 | k2
        · have j2 : ¬ ((x1 : Int) ≤ 159) := by omega
          have i2 : decide (159 < x1) = true := decide_eq_true k2
          rw [i2]
          (go_enter Tryd.func14, Tryd.ntmps14; go_wp2; go_ret; exact ⟨rfl, Below.refl _ _⟩)
        · have j2 : (x1 : Int) ≤ 159 := by omega
          have i2 : decide (159 < x1) = false := decide_eq_false (by omega)
          rw [i2]
          (go_enter Tryd.func14, Tryd.ntmps14; go_wp2; go_ret; exact ⟨rfl, Below.refl _ _⟩)

set_option maxRecDepth 100000 in
set_option maxHeartbeats 4000000 in
theorem begins_G (w : World) (b off c n x0 x1 x2 : Nat) (hn : 0 < n) (hm : n ≤ 3) (l0 : x0 < 256) (h0 : w.cell? ⟨b, off, none⟩ = some (.int .u8 x0))
    (h1 : 1 < n → w.cell? ⟨b, off + 1, none⟩ = some (.int .u8 x1)) (h2 : 2 < n → w.cell? ⟨b, off + 2, none⟩ = some (.int .u8 x2)) (hc : x0 = 240) :
    Calls Tryd.prog 14 #[.slice (some ⟨b, off, none⟩) n c] w fun e w' => e = .returned (.bool (!UM.fullN n x0 x1 x2)) ∧ Below w.heap.size w w' := by
  have hz0 : ((n : Int) == 0) = false := by simp; omega
  have hz3 : ¬ ((3 : Int) < (n : Int)) := by omega
  have hzp : (0 : Int) < (n : Int) := by omega
  have hX := firstT_F0 hc
  have hff : UM.fullN n x0 x1 x2 = (decide (4 ≤ n) || (decide (1 < n) && (decide (x1 < 144) || decide (191 < x1))) || (decide (2 < n) && (decide (x2 < 128) || decide (191 < x2)))) := by
    unfold UM.fullN
    rw [hX, decide_eq_true hn]
    rfl
  rw [hff]
  clear hff hX
  subst hc
  by_cases hs : 4 ≤ n
  · have hs' : (4 : Int) ≤ (n : Int) := by omega
    rw [decide_eq_true hs, Bool.true_or, Bool.true_or, Bool.not_true]
    clear h1 h2
    (go_enter Tryd.func14, Tryd.ntmps14; go_wp2; go_ret; exact ⟨rfl, Below.refl _ _⟩)
  · have hs' : ¬ ((4 : Int) ≤ (n : Int)) := by omega
    rw [decide_eq_false hs, Bool.false_or]
    rcases (by omega : n = 1 ∨ n = 2 ∨ n = 3) with rfl | rfl | rfl
    · clear h1 h2
      (go_enter Tryd.func14, Tryd.ntmps14; go_wp2; go_ret; exact ⟨rfl, Below.refl _ _⟩)
    · have r1 := h1 (by omega)
      clear h1 h2
      rcases Nat.lt_or_ge x1 144 with k1 | k1
      · have j1 : ¬ ((144 : Int) ≤ (x1 : Int)) := by omega
        have i1 : decide (x1 < 144) = true := decide_eq_true k1
        rw [i1]
        (go_enter Tryd.func14, Tryd.ntmps14; go_wp2; go_ret; exact ⟨rfl, Below.refl _ _⟩)
      · have j1 : (144 : Int) ≤ (x1 : Int) := by omega
        have i1 : decide (x1 < 144) = false := decide_eq_false (by omega)
        rw [i1]
        rcases Nat.lt_or_ge 191 x1 with k2 | k2
        · have j2 : ¬ ((x1 : Int) ≤ 191) := by omega
          have i2 : decide (191 < x1) = true := decide_eq_true k2
          rw [i2]
          (go_enter Tryd.func14, Tryd.ntmps14; go_wp2; go_ret; exact ⟨rfl, Below.refl _ _⟩)
        · have j2 : (x1 : Int) ≤ 191 := by omega
          have i2 : decide (191 < x1) = false := decide_eq_false (by omega)
          rw [i2]
          (go_enter Tryd.func14, Tryd.ntmps14; go_wp2; go_ret; exact ⟨rfl, Below.refl _ _⟩)
    · have r1 := h1 (by omega)
      have r2 := h2 (by omega)
      clear h1 h2
      rcases Nat.lt_or_ge x1 144 with k1 | k1
      · have j1 : ¬ ((144 : Int) ≤ (x1 : Int)) := by omega
        have i1 : decide (x1 < 144) = true := decide_eq_true k1
        rw [i1]
        (go_enter Tryd.func14, Tryd.ntmps14; go_wp2; go_ret; exact ⟨rfl, Below.refl _ _⟩)
      · have j1 : (144 : Int) ≤ (x1 : Int) := by omega
        have i1 : decide (x1 < 144) = false := decide_eq_false (by omega)
        rw [i1]
        rcases Nat.lt_or_ge 191 x1 with k2 | k2
        · have j2 : ¬ ((x1 : Int) ≤ 191) := by omega
          have i2 : decide (191 < x1) = true := decide_eq_true k2
          rw [i2]
          (go_enter Tryd.func14, Tryd.ntmps14; go_wp2; go_ret; exact ⟨rfl, Below.refl _ _⟩)
        · have j2 : (x1 : Int) ≤ 191 := by omega
          have i2 : decide (191 < x1) = false := decide_eq_false (by omega)
          rw [i2]
          rcases Nat.lt_or_ge x2 128 with k3 | k3
          · have j3 : ¬ ((128 : Int) ≤ (x2 : Int)) := by omega
            have i3 : decide (x2 < 128) = true := decide_eq_true k3
            rw [i3]
            (go_enter Tryd.func14, Tryd.ntmps14; go_wp2; go_ret; exact ⟨rfl, Below.refl _ _⟩)
          · have j3 : (128 : Int) ≤ (x2 : Int) := by omega
            have i3 : decide (x2 < 128) = false := decide_eq_false (by omega)
            rw [i3]
            rcases Nat.lt_or_ge 191 x2 with k4 | k4
            · have j4 : ¬ ((x2 : Int) ≤ 191) := by omega
              have i4 : decide (191 < x2) = true := decide_eq_true k4
              rw [i4]
              (go_enter Tryd.func14, Tryd.ntmps14; go_wp2; go_ret; exact ⟨rfl, Below.refl _ _⟩)
            · have j4 : (x2 : Int) ≤ 191 := by omega
              have i4 : decide (191 < x2) = false := decide_eq_false (by omega)
              rw [i4]
              (go_enter Tryd.func14, Tryd.ntmps14; go_wp2; go_ret; exact ⟨rfl, Below.refl _ _⟩)

set_option maxRecDepth 100000 in
set_option maxHeartbeats 4000000 in
theorem begins_H (w : World) (b off c n x0 x1 x2 : Nat) (hn : 0 < n) (hm : n ≤ 3) (l0 : x0 < 256) (h0 : w.cell? ⟨b, off, none⟩ = some (.int .u8 x0))
    (h1 : 1 < n → w.cell? ⟨b, off + 1, none⟩ = some (.int .u8 x1)) (h2 : 2 < n → w.cell? ⟨b, off + 2, none⟩ = some (.int .u8 x2)) (hc : 241 ≤ x0 ∧ x0 < 244) :
    Calls Tryd.prog 14 #[.slice (some ⟨b, off, none⟩) n c] w fun e w' => e = .returned (.bool (!UM.fullN n x0 x1 x2)) ∧ Below w.heap.size w w' := by
  have hz0 : ((n : Int) == 0) = false := by simp; omega
  have hz3 : ¬ ((3 : Int) < (n : Int)) := by omega
  have hzp : (0 : Int) < (n : Int) := by omega
  have hX := firstT_F1 hc
  have hff : UM.fullN n x0 x1 x2 = (decide (4 ≤ n) || (decide (1 < n) && (decide (x1 < 128) || decide (191 < x1))) || (decide (2 < n) && (decide (x2 < 128) || decide (191 < x2)))) := by
    unfold UM.fullN
    rw [hX, decide_eq_true hn]
    rfl
  rw [hff]
  clear hff hX
  have q1 : (194 : Int) ≤ (x0 : Int) := by omega
  have q2 : ¬ ((x0 : Int) ≤ 223) := by omega
  have q3 : (224 : Int) ≤ (x0 : Int) := by omega
  have q4 : ¬ ((x0 : Int) ≤ 239) := by omega
  have q5 : (240 : Int) ≤ (x0 : Int) := by omega
  have q6 : (x0 : Int) ≤ 244 := by omega
  have q7 : ((x0 : Int) == 240) = false := by simp; omega
  have q8 : ((x0 : Int) == 244) = false := by simp; omega
  by_cases hs : 4 ≤ n
  · have hs' : (4 : Int) ≤ (n : Int) := by omega
    rw [decide_eq_true hs, Bool.true_or, Bool.true_or, Bool.not_true]
    clear h1 h2
    (go_enter Tryd.func14, Tryd.ntmps14; go_wp2; go_ret; exact ⟨rfl, Below.refl _ _⟩)
  · have hs' : ¬ ((4 : Int) ≤ (n : Int)) := by omega
    rw [decide_eq_false hs, Bool.false_or]
    rcases (by omega : n = 1 ∨ n = 2 ∨ n = 3) with rfl | rfl | rfl
    · clear h1 h2
      (go_enter Tryd.func14, Tryd.ntmps14; go_wp2; go_ret; exact ⟨rfl, Below.refl _ _⟩)
    · have r1 := h1 (by omega)
      clear h1 h2
      rcases Nat.lt_or_ge x1 128 with k1 | k1
      · have j1 : ¬ ((128 : Int) ≤ (x1 : Int)) := by omega
        have i1 : decide (x1 < 128) = true := decide_eq_true k1
        rw [i1]
        (go_enter Tryd.func14, Tryd.ntmps14; go_wp2; go_ret; exact ⟨rfl, Below.refl _ _⟩)
      · have j1 : (128 : Int) ≤ (x1 : Int) := by omega
        have i1 : decide (x1 < 128) = false := decide_eq_false (by omega)
        rw [i1]
        rcases Nat.lt_or_ge 191 x1 with k2 | k2
        · have j2 : ¬ ((x1 : Int) ≤ 191) := by omega
          have i2 : decide (191 < x1) = true := decide_eq_true k2
          rw [i2]
          (go_enter Tryd.func14, Tryd.ntmps14; go_wp2; go_ret; exact ⟨rfl, Below.refl _ _⟩)
        · have j2 : (x1 : Int) ≤ 191 := by omega
          have i2 : decide (191 < x1) = false := decide_eq_false (by omega)
          rw [i2]
          (go_enter Tryd.func14, Tryd.ntmps14; go_wp2; go_ret; exact ⟨rfl, Below.refl _ _⟩)
    · have r1 := h1 (by omega)
      have r2 := h2 (by omega)
      clear h1 h2
      rcases Nat.lt_or_ge x1 128 with k1 | k1
      · have j1 : ¬ ((128 : Int) ≤ (x1 : Int)) := by omega
        have i1 : decide (x1 < 128) = true := decide_eq_true k1
        rw [i1]
        (go_enter Tryd.func14, Tryd.ntmps14; go_wp2; go_ret; exact ⟨rfl, Below.refl _ _⟩)
      · have j1 : (128 : Int) ≤ (x1 : Int) := by omega
        have i1 : decide (x1 < 128) = false := decide_eq_false (by omega)
        rw [i1]
        rcases Nat.lt_or_ge 191 x1 with k2 | k2
        · have j2 : ¬ ((x1 : Int) ≤ 191) := by omega
          have i2 : decide (191 < x1) = true := decide_eq_true k2
          rw [i2]
          (go_enter Tryd.func14, Tryd.ntmps14; go_wp2; go_ret; exact ⟨rfl, Below.refl _ _⟩)
        · have j2 : (x1 : Int) ≤ 191 := by omega
          have i2 : decide (191 < x1) = false := decide_eq_false (by omega)
          rw [i2]
          rcases Nat.lt_or_ge x2 128 with k3 | k3
          · have j3 : ¬ ((128 : Int) ≤ (x2 : Int)) := by omega
            have i3 : decide (x2 < 128) = true := decide_eq_true k3
            rw [i3]
            (go_enter Tryd.func14, Tryd.ntmps14; go_wp2; go_ret; exact ⟨rfl, Below.refl _ _⟩)
          · have j3 : (128 : Int) ≤ (x2 : Int) := by omega
            have i3 : decide (x2 < 128) = false := decide_eq_false (by omega)
            rw [i3]
            rcases Nat.lt_or_ge 191 x2 with k4 | k4
            · have j4 : ¬ ((x2 : Int) ≤ 191) := by omega
              have i4 : decide (191 < x2) = true := decide_eq_true k4
              rw [i4]
              (go_enter Tryd.func14, Tryd.ntmps14; go_wp2; go_ret; exact ⟨rfl, Below.refl _ _⟩)
            · have j4 : (x2 : Int) ≤ 191 := by omega
              have i4 : decide (191 < x2) = false := decide_eq_false (by omega)
              rw [i4]
              (go_enter Tryd.func14, Tryd.ntmps14; go_wp2; go_ret; exact ⟨rfl, Below.refl _ _⟩)

set_option maxRecDepth 100000 in
set_option maxHeartbeats 4000000 in
theorem begins_I (w : World) (b off c n x0 x1 x2 : Nat) (hn : 0 < n) (hm : n ≤ 3) (l0 : x0 < 256) (h0 : w.cell? ⟨b, off, none⟩ = some (.int .u8 x0))
    (h1 : 1 < n → w.cell? ⟨b, off + 1, none⟩ = some (.int .u8 x1)) (h2 : 2 < n → w.cell? ⟨b, off + 2, none⟩ = some (.int .u8 x2)) (hc : x0 = 244) :
    Calls Tryd.prog 14 #[.slice (some ⟨b, off, none⟩) n c] w fun e w' => e = .returned (.bool (!UM.fullN n x0 x1 x2)) ∧ Below w.heap.size w w' := by
  have hz0 : ((n : Int) == 0) = false := by simp; omega
  have hz3 : ¬ ((3 : Int) < (n : Int)) := by omega
  have hzp : (0 : Int) < (n : Int) := by omega
  have hX := firstT_F4 hc
  have hff : UM.fullN n x0 x1 x2 = (decide (4 ≤ n) || (decide (1 < n) && (decide (x1 < 128) || decide (143 < x1))) || (decide (2 < n) && (decide (x2 < 128) || decide (191 < x2)))) := by
    unfold UM.fullN
    rw [hX, decide_eq_true hn]
    rfl
  rw [hff]
  clear hff hX
  subst hc
  by_cases hs : 4 ≤ n
  · have hs' : (4 : Int) ≤ (n : Int) := by omega
    rw [decide_eq_true hs, Bool.true_or, Bool.true_or, Bool.not_true]
    clear h1 h2
    (go_enter Tryd.func14, Tryd.ntmps14; go_wp2; go_ret; exact ⟨rfl, Below.refl _ _⟩)
  · have hs' : ¬ ((4 : Int) ≤ (n : Int)) := by omega
    rw [decide_eq_false hs, Bool.false_or]
    rcases (by omega : n = 1 ∨ n = 2 ∨ n = 3) with rfl | rfl | rfl
    · clear h1 h2
      (go_enter Tryd.func14, Tryd.ntmps14; go_wp2; go_ret; exact ⟨rfl, Below.refl _ _⟩)
    · have r1 := h1 (by omega)
      clear h1 h2
      rcases Nat.lt_or_ge x1 128 with k1 | k1
      · have j1 : ¬ ((128 : Int) ≤ (x1 : Int)) := by omega
        have i1 : decide (x1 < 128) = true := decide_eq_true k1
        rw [i1]
        (go_enter Tryd.func14, Tryd.ntmps14; go_wp2; go_ret; exact ⟨rfl, Below.refl _ _⟩)
      · have j1 : (128 : Int) ≤ (x1 : Int) := by omega
        have i1 : decide (x1 < 128) = false := decide_eq_false (by omega)
        rw [i1]
        rcases Nat.lt_or_ge 143 x1 with k2 | k2
        · have j2 : ¬ ((x1 : Int) ≤ 143) := by omega
          have i2 : decide (143 < x1) = true := decide_eq_true k2
          rw [i2]
          (go_enter Tryd.func14, Tryd.ntmps14; go_wp2; go_ret; exact ⟨rfl, Below.refl _ _⟩)
        · have j2 : (x1 : Int) ≤ 143 := by omega
          have i2 : decide (143 < x1) = false := decide_eq_false (by omega)
          rw [i2]
          (go_enter Tryd.func14, Tryd.ntmps14; go_wp2; go_ret; exact ⟨rfl, Below.refl _ _⟩)
    · have r1 := h1 (by omega)
      have r2 := h2 (by omega)
      clear h1 h2
      rcases Nat.lt_or_ge x1 128 with k1 | k1
      · have j1 : ¬ ((128 : Int) ≤ (x1 : Int)) := by omega
        have i1 : decide (x1 < 128) = true := decide_eq_true k1
        rw [i1]
        (go_enter Tryd.func14, Tryd.ntmps14; go_wp2; go_ret; exact ⟨rfl, Below.refl _ _⟩)
      · have j1 : (128 : Int) ≤ (x1 : Int) := by omega
        have i1 : decide (x1 < 128) = false := decide_eq_false (by omega)
        rw [i1]
        rcases Nat.lt_or_ge 143 x1 with k2 | k2
        · have j2 : ¬ ((x1 : Int) ≤ 143) := by omega
          have i2 : decide (143 < x1) = true := decide_eq_true k2
          rw [i2]
          (go_enter Tryd.func14, Tryd.ntmps14; go_wp2; go_ret; exact ⟨rfl, Below.refl _ _⟩)
        · have j2 : (x1 : Int) ≤ 143 := by omega
          have i2 : decide (143 < x1) = false := decide_eq_false (by omega)
          rw [i2]
          rcases Nat.lt_or_ge x2 128 with k3 | k3
          · have j3 : ¬ ((128 : Int) ≤ (x2 : Int)) := by omega
            have i3 : decide (x2 < 128) = true := decide_eq_true k3
            rw [i3]
            (go_enter Tryd.func14, Tryd.ntmps14; go_wp2; go_ret; exact ⟨rfl, Below.refl _ _⟩)
          · have j3 : (128 : Int) ≤ (x2 : Int) := by omega
            have i3 : decide (x2 < 128) = false := decide_eq_false (by omega)
            rw [i3]
            rcases Nat.lt_or_ge 191 x2 with k4 | k4
            · have j4 : ¬ ((x2 : Int) ≤ 191) := by omega
              have i4 : decide (191 < x2) = true := decide_eq_true k4
              rw [i4]
              (go_enter Tryd.func14, Tryd.ntmps14; go_wp2; go_ret; exact ⟨rfl, Below.refl _ _⟩)
            · have j4 : (x2 : Int) ≤ 191 := by omega
              have i4 : decide (191 < x2) = false := decide_eq_false (by omega)
              rw [i4]
              (go_enter Tryd.func14, Tryd.ntmps14; go_wp2; go_ret; exact ⟨rfl, Below.refl _ _⟩)

set_option maxRecDepth 100000 in
set_option maxHeartbeats 4000000 in
theorem begins_J (w : World) (b off c n x0 x1 x2 : Nat) (hn : 0 < n) (hm : n ≤ 3) (l0 : x0 < 256) (h0 : w.cell? ⟨b, off, none⟩ = some (.int .u8 x0))
    (h1 : 1 < n → w.cell? ⟨b, off + 1, none⟩ = some (.int .u8 x1)) (h2 : 2 < n → w.cell? ⟨b, off + 2, none⟩ = some (.int .u8 x2)) (hc : 244 < x0) :
    Calls Tryd.prog 14 #[.slice (some ⟨b, off, none⟩) n c] w fun e w' => e = .returned (.bool (!UM.fullN n x0 x1 x2)) ∧ Below w.heap.size w w' := by
  have hz0 : ((n : Int) == 0) = false := by simp; omega
  have hz3 : ¬ ((3 : Int) < (n : Int)) := by omega
  have hzp : (0 : Int) < (n : Int) := by omega
  have hf : UM.fullN n x0 x1 x2 = true := by
    have : firstT x0 % 8 ≤ 1 := by unfold firstT; repeat' split
                                   all_goals omega
    unfold UM.fullN
    rw [decide_eq_true hn, decide_eq_true (show firstT x0 % 8 ≤ n by omega)]
    rfl
  rw [hf, Bool.not_true]
  have q1 : (194 : Int) ≤ (x0 : Int) := by omega
  have q2 : ¬ ((x0 : Int) ≤ 223) := by omega
  have q3 : (224 : Int) ≤ (x0 : Int) := by omega
  have q4 : ¬ ((x0 : Int) ≤ 239) := by omega
  have q5 : (240 : Int) ≤ (x0 : Int) := by omega
  have q6 : ¬ ((x0 : Int) ≤ 244) := by omega
  have hz : (0 : Int) ≤ (n : Int) := by omega
  clear h1 h2 hf
  (go_enter Tryd.func14, Tryd.ntmps14; go_wp2; go_ret; exact ⟨rfl, Below.refl _ _⟩)

theorem begins_ok (w : World) (l : List UInt8) (h0 : 0 < l.length) (h3 : l.length ≤ 3) (A : Option Addr) (c B : Nat) (hr : Row w B .u8 A (nat8 l)) :
    Calls Tryd.prog 14 #[.slice A l.length c] w fun e w' => e = .returned (.bool (!UM.full l)) ∧ Below w.heap.size w w' := by
  obtain ⟨b, off, rfl, _, hc⟩ := hr (by rw [nat8_len]; exact h0)
  have k0 : w.cell? ⟨b, off, none⟩ = some (.int .u8 (l.getD 0 0).toNat) := by have := hc 0 (by rw [nat8_len]; exact h0); rwa [nat8_get] at this
  have k1 : 1 < l.length → w.cell? ⟨b, off + 1, none⟩ = some (.int .u8 (l.getD 1 0).toNat) := fun h => by have := hc 1 (by rw [nat8_len]; exact h); rwa [nat8_get] at this
  have k2 : 2 < l.length → w.cell? ⟨b, off + 2, none⟩ = some (.int .u8 (l.getD 2 0).toNat) := fun h => by have := hc 2 (by rw [nat8_len]; exact h); rwa [nat8_get] at this
  have l0 := UInt8.toNat_lt (l.getD 0 0)
  unfold UM.full
  generalize (l.getD 0 0).toNat = x0 at *
  rcases (by omega : x0 < 194 ∨ (194 ≤ x0 ∧ x0 < 224) ∨ x0 = 224 ∨ ((225 ≤ x0 ∧ x0 < 237) ∨ (238 ≤ x0 ∧ x0 < 240)) ∨ x0 = 237 ∨ x0 = 240 ∨ (241 ≤ x0 ∧ x0 < 244) ∨ x0 = 244 ∨ 244 < x0) with g | g | g | g | g | g | g | g | g
  · exact begins_A w b off c _ _ _ _ h0 h3 l0 k0 k1 k2 g
  · exact begins_B w b off c _ _ _ _ h0 h3 l0 k0 k1 k2 g
  · exact begins_C w b off c _ _ _ _ h0 h3 l0 k0 k1 k2 g
  · exact begins_D w b off c _ _ _ _ h0 h3 l0 k0 k1 k2 g
  · exact begins_E w b off c _ _ _ _ h0 h3 l0 k0 k1 k2 g
  · exact begins_G w b off c _ _ _ _ h0 h3 l0 k0 k1 k2 g
  · exact begins_H w b off c _ _ _ _ h0 h3 l0 k0 k1 k2 g
  · exact begins_I w b off c _ _ _ _ h0 h3 l0 k0 k1 k2 g
  · exact begins_J w b off c _ _ _ _ h0 h3 l0 k0 k1 k2 g
end Go.Proofs.YtdolekmifnenhaaDoor
