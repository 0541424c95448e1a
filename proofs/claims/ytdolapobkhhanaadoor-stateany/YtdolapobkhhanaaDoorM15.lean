/-
  SRight, SRightP, STake, in one text.
-/
import Derived.Test.YtdolapobkhhanaaDoorM08
import Derived.Test.YtdolapobkhhanaaDoorM11
import Derived.Test.YtdolapobkhhanaaDoorM12
import Derived.Test.YtdolapobkhhanaaDoorM13
import Derived.Test.YtdolapobkhhanaaDoorM14
import Derived.Deep.WholeRow
/-
  Layer 6 (vt), for layer 11: Right.
-/
namespace Go.Proofs.YtdolapobkhhanaaDoor
open Go.RowKit Go.Lib
set_option maxRecDepth 100000

theorem below_ret {w W w' : World} (h : Below w.heap.size w W) (k : Below W.heap.size W w') : Below w.heap.size w w' := h.trans (k.mono h.size)

set_option maxHeartbeats 2000000 in
theorem r0f (w : World) (x0 x1 x2 : Nat) (n : Nat) (ms : ByteArray) (PA : Option Addr) (k pc : Nat) (ts : ByteArray) (wi : Nat) (hT : Utf w) (HD : ∀ W : World, Utf W → Calls Tryd.prog 14 #[.agg #[.int .u8 (x0 : Int), .int .u8 (x1 : Int), .int .u8 (x2 : Int), .int .i64 (n : Int)]] W fun e w' => e = .returned (.bool false) ∧ Below W.heap.size W w') :
    Calls Tryd.prog 6 #[.agg #[.int .i64 (0 : Int), .int .u8 (x0 : Int), .int .u8 (x1 : Int), .int .u8 (x2 : Int), .int .i64 (n : Int), .string ms, .slice PA k pc, .string ts, .int .i64 (wi : Int)]] w fun e w' => e = .returned (.bool false) ∧ Below w.heap.size w w' := by
  have HD := Lib.hid HD
  have HT := Lib.hid hT
  have hb1 : Below w.heap.size w (w.alloc (.cells #[.int .i64 0, .int .u8 (x0 : Int), .int .u8 (x1 : Int), .int .u8 (x2 : Int), .int .i64 (n : Int), .string ms, .slice PA k pc, .string ts, .int .i64 (wi : Int)] 41)) := (Below.refl _ _).alloc (Nat.le_refl _) _
  have hg := heap_alloc_new w (.cells #[.int .i64 0, .int .u8 (x0 : Int), .int .u8 (x1 : Int), .int .u8 (x2 : Int), .int .i64 (n : Int), .string ms, .slice PA k pc, .string ts, .int .i64 (wi : Int)] 41)
  have hz : w.heap.size < (w.alloc (.cells #[.int .i64 0, .int .u8 (x0 : Int), .int .u8 (x1 : Int), .int .u8 (x2 : Int), .int .i64 (n : Int), .string ms, .slice PA k pc, .string ts, .int .i64 (wi : Int)] 41)).heap.size := by simp
  have HB0 := Lib.hid hb1
  have HG := Lib.hid hg
  clear hT hb1 hg
  go_enter Tryd.func6, Tryd.ntmps6
  go_wp2_with fail
  refine (HD.out _ (HT.out.on HB0.out HT.out.room)).mono ?_
  rintro e w1 ⟨rfl, hb⟩
  have hg1 := (hb.block w.heap.size hz).trans HG.out
  have HB1 := Lib.hid (below_ret HB0.out hb)
  clear hb HB0 HG hz
  have d0 : w1.cell? ⟨w.heap.size, 0, none⟩ = some (.int .i64 0) := by simp only [World.cell?, hg1]; rfl
  have d1 : w1.cell? ⟨w.heap.size, 1, none⟩ = some (.int .u8 (x0 : Int)) := by simp only [World.cell?, hg1]; rfl
  have d2 : w1.cell? ⟨w.heap.size, 2, none⟩ = some (.int .u8 (x1 : Int)) := by simp only [World.cell?, hg1]; rfl
  have d3 : w1.cell? ⟨w.heap.size, 3, none⟩ = some (.int .u8 (x2 : Int)) := by simp only [World.cell?, hg1]; rfl
  have d4 : w1.cell? ⟨w.heap.size, 4, none⟩ = some (.int .i64 (n : Int)) := by simp only [World.cell?, hg1]; rfl
  have d5 : w1.cell? ⟨w.heap.size, 5, none⟩ = some (.string ms) := by simp only [World.cell?, hg1]; rfl
  have d6 : w1.cell? ⟨w.heap.size, 6, none⟩ = some (.slice PA k pc) := by simp only [World.cell?, hg1]; rfl
  have d7 : w1.cell? ⟨w.heap.size, 7, none⟩ = some (.string ts) := by simp only [World.cell?, hg1]; rfl
  have d8 : w1.cell? ⟨w.heap.size, 8, none⟩ = some (.int .i64 (wi : Int)) := by simp only [World.cell?, hg1]; rfl
  have g1 : w1.frozen? ⟨w.heap.size, 1, none⟩ = false := by simp only [World.frozen?, hg1]; rfl
  have g2 : w1.frozen? ⟨w.heap.size, 2, none⟩ = false := by simp only [World.frozen?, hg1]; rfl
  have g3 : w1.frozen? ⟨w.heap.size, 3, none⟩ = false := by simp only [World.frozen?, hg1]; rfl
  have g4 : w1.frozen? ⟨w.heap.size, 4, none⟩ = false := by simp only [World.frozen?, hg1]; rfl
  clear hg1
  go_wp2
  go_ret
  refine ⟨rfl, ?_⟩
  repeat (first | exact Below.refl _ _ | exact HB1.out | refine Below.setCell ?_ (by simp) _ | refine Below.alloc ?_ (by simp) _)

set_option maxHeartbeats 2000000 in
theorem r0t (w : World) (x0 x1 x2 : Nat) (n : Nat) (ms : ByteArray) (PA : Option Addr) (k pc : Nat) (ts : ByteArray) (wi : Nat) (hT : Utf w) (HD : ∀ W : World, Utf W → Calls Tryd.prog 14 #[.agg #[.int .u8 (x0 : Int), .int .u8 (x1 : Int), .int .u8 (x2 : Int), .int .i64 (n : Int)]] W fun e w' => e = .returned (.bool true) ∧ Below W.heap.size W w') (q : Bool) (HQ : ∀ W : World, Calls Tryd.prog 20 #[.agg #[.int .i64 0, .int .u8 0, .int .u8 0, .int .u8 0, .int .i64 0, .string ms, .slice PA k pc, .string ts, .int .i64 (wi : Int)]] W fun e w' => e = .returned (.bool q) ∧ Below W.heap.size W w') :
    Calls Tryd.prog 6 #[.agg #[.int .i64 (0 : Int), .int .u8 (x0 : Int), .int .u8 (x1 : Int), .int .u8 (x2 : Int), .int .i64 (n : Int), .string ms, .slice PA k pc, .string ts, .int .i64 (wi : Int)]] w fun e w' => e = .returned (.bool q) ∧ Below w.heap.size w w' := by
  have HD := Lib.hid HD
  have HT := Lib.hid hT
  have hb1 : Below w.heap.size w (w.alloc (.cells #[.int .i64 0, .int .u8 (x0 : Int), .int .u8 (x1 : Int), .int .u8 (x2 : Int), .int .i64 (n : Int), .string ms, .slice PA k pc, .string ts, .int .i64 (wi : Int)] 41)) := (Below.refl _ _).alloc (Nat.le_refl _) _
  have hg := heap_alloc_new w (.cells #[.int .i64 0, .int .u8 (x0 : Int), .int .u8 (x1 : Int), .int .u8 (x2 : Int), .int .i64 (n : Int), .string ms, .slice PA k pc, .string ts, .int .i64 (wi : Int)] 41)
  have hz : w.heap.size < (w.alloc (.cells #[.int .i64 0, .int .u8 (x0 : Int), .int .u8 (x1 : Int), .int .u8 (x2 : Int), .int .i64 (n : Int), .string ms, .slice PA k pc, .string ts, .int .i64 (wi : Int)] 41)).heap.size := by simp
  have HB0 := Lib.hid hb1
  have HG := Lib.hid hg
  clear hT hb1 hg
  have HQ := Lib.hid HQ
  go_enter Tryd.func6, Tryd.ntmps6
  go_wp2_with fail
  refine (HD.out _ (HT.out.on HB0.out HT.out.room)).mono ?_
  rintro e w1 ⟨rfl, hb⟩
  have hg1 := (hb.block w.heap.size hz).trans HG.out
  have HB1 := Lib.hid (below_ret HB0.out hb)
  clear hb HB0 HG hz
  have d0 : w1.cell? ⟨w.heap.size, 0, none⟩ = some (.int .i64 0) := by simp only [World.cell?, hg1]; rfl
  have d1 : w1.cell? ⟨w.heap.size, 1, none⟩ = some (.int .u8 (x0 : Int)) := by simp only [World.cell?, hg1]; rfl
  have d2 : w1.cell? ⟨w.heap.size, 2, none⟩ = some (.int .u8 (x1 : Int)) := by simp only [World.cell?, hg1]; rfl
  have d3 : w1.cell? ⟨w.heap.size, 3, none⟩ = some (.int .u8 (x2 : Int)) := by simp only [World.cell?, hg1]; rfl
  have d4 : w1.cell? ⟨w.heap.size, 4, none⟩ = some (.int .i64 (n : Int)) := by simp only [World.cell?, hg1]; rfl
  have d5 : w1.cell? ⟨w.heap.size, 5, none⟩ = some (.string ms) := by simp only [World.cell?, hg1]; rfl
  have d6 : w1.cell? ⟨w.heap.size, 6, none⟩ = some (.slice PA k pc) := by simp only [World.cell?, hg1]; rfl
  have d7 : w1.cell? ⟨w.heap.size, 7, none⟩ = some (.string ts) := by simp only [World.cell?, hg1]; rfl
  have d8 : w1.cell? ⟨w.heap.size, 8, none⟩ = some (.int .i64 (wi : Int)) := by simp only [World.cell?, hg1]; rfl
  have g1 : w1.frozen? ⟨w.heap.size, 1, none⟩ = false := by simp only [World.frozen?, hg1]; rfl
  have g2 : w1.frozen? ⟨w.heap.size, 2, none⟩ = false := by simp only [World.frozen?, hg1]; rfl
  have g3 : w1.frozen? ⟨w.heap.size, 3, none⟩ = false := by simp only [World.frozen?, hg1]; rfl
  have g4 : w1.frozen? ⟨w.heap.size, 4, none⟩ = false := by simp only [World.frozen?, hg1]; rfl
  clear hg1
  go_wp2_with fail
  refine (HQ.out _).mono ?_
  rintro e w2 ⟨rfl, hb2⟩
  have HB2 := Lib.hid hb2
  clear hb2
  go_wp2
  go_ret
  refine ⟨rfl, below_ret ?_ HB2.out⟩
  repeat (first | exact Below.refl _ _ | exact HB1.out | refine Below.setCell ?_ (by simp) _ | refine Below.alloc ?_ (by simp) _)

set_option maxHeartbeats 2000000 in
theorem r1 (w : World) (x0 x1 x2 : Nat) (n : Nat) (ms : ByteArray) (PA : Option Addr) (k pc : Nat) (ts : ByteArray) (wi : Nat) (q : Bool) (HQ : ∀ W : World, Calls Tryd.prog 20 #[.agg #[.int .i64 1, .int .u8 (x0 : Int), .int .u8 (x1 : Int), .int .u8 (x2 : Int), .int .i64 (n : Int), .string ms, .slice PA k pc, .string ts, .int .i64 (wi : Int)]] W fun e w' => e = .returned (.bool q) ∧ Below W.heap.size W w') :
    Calls Tryd.prog 6 #[.agg #[.int .i64 (1 : Int), .int .u8 (x0 : Int), .int .u8 (x1 : Int), .int .u8 (x2 : Int), .int .i64 (n : Int), .string ms, .slice PA k pc, .string ts, .int .i64 (wi : Int)]] w fun e w' => e = .returned (.bool q) ∧ Below w.heap.size w w' := by
  have HQ := Lib.hid HQ
  go_enter Tryd.func6, Tryd.ntmps6
  go_wp2_with fail
  refine (HQ.out _).mono ?_
  rintro e w2 ⟨rfl, hb2⟩
  have HB2 := Lib.hid hb2
  clear hb2
  go_wp2
  go_ret
  refine ⟨rfl, below_ret ?_ HB2.out⟩
  repeat (first | exact Below.refl _ _ | exact HB1.out | refine Below.setCell ?_ (by simp) _ | refine Below.alloc ?_ (by simp) _)

set_option maxHeartbeats 2000000 in
theorem r2n (w : World) (x0 x1 x2 : Nat) (n : Nat) (ms : ByteArray) (PA : Option Addr) (k pc : Nat) (ts : ByteArray) (wi : Nat) (hms : (ms.toList == []) = true) :
    Calls Tryd.prog 6 #[.agg #[.int .i64 (2 : Int), .int .u8 (x0 : Int), .int .u8 (x1 : Int), .int .u8 (x2 : Int), .int .i64 (n : Int), .string ms, .slice PA k pc, .string ts, .int .i64 (wi : Int)]] w fun e w' => e = .returned (.bool false) ∧ Below w.heap.size w w' := by
  go_enter Tryd.func6, Tryd.ntmps6
  go_wp2
  go_ret
  refine ⟨rfl, ?_⟩
  repeat (first | exact Below.refl _ _ | exact HB1.out | refine Below.setCell ?_ (by simp) _ | refine Below.alloc ?_ (by simp) _)

set_option maxHeartbeats 2000000 in
theorem r2f (w : World) (x0 x1 x2 : Nat) (n : Nat) (ms : ByteArray) (PA : Option Addr) (k pc : Nat) (ts : ByteArray) (wi : Nat) (hms : (ms.toList == []) = false) (HM : ∀ W : World, Calls Tryd.prog 15 #[.string ms, .func (.func 16) #[] #[]] W fun e w' => e = .returned (.bool false) ∧ w' = W) :
    Calls Tryd.prog 6 #[.agg #[.int .i64 (2 : Int), .int .u8 (x0 : Int), .int .u8 (x1 : Int), .int .u8 (x2 : Int), .int .i64 (n : Int), .string ms, .slice PA k pc, .string ts, .int .i64 (wi : Int)]] w fun e w' => e = .returned (.bool false) ∧ Below w.heap.size w w' := by
  have HM := Lib.hid HM
  go_enter Tryd.func6, Tryd.ntmps6
  go_wp2_with fail
  refine (HM.out _).mono ?_
  rintro e w1 ⟨rfl, rfl⟩
  go_wp2
  go_ret
  refine ⟨rfl, ?_⟩
  repeat (first | exact Below.refl _ _ | exact HB1.out | refine Below.setCell ?_ (by simp) _ | refine Below.alloc ?_ (by simp) _)

set_option maxHeartbeats 2000000 in
theorem r2t (w : World) (x0 x1 x2 : Nat) (n : Nat) (ms : ByteArray) (PA : Option Addr) (k pc : Nat) (ts : ByteArray) (wi : Nat) (hms : (ms.toList == []) = false) (HM : ∀ W : World, Calls Tryd.prog 15 #[.string ms, .func (.func 16) #[] #[]] W fun e w' => e = .returned (.bool true) ∧ w' = W) (q : Bool) (HQ : ∀ W : World, Calls Tryd.prog 20 #[.agg #[.int .i64 2, .int .u8 (x0 : Int), .int .u8 (x1 : Int), .int .u8 (x2 : Int), .int .i64 (n : Int), .string ⟨#[]⟩, .slice PA k pc, .string ts, .int .i64 (wi : Int)]] W fun e w' => e = .returned (.bool q) ∧ Below W.heap.size W w') :
    Calls Tryd.prog 6 #[.agg #[.int .i64 (2 : Int), .int .u8 (x0 : Int), .int .u8 (x1 : Int), .int .u8 (x2 : Int), .int .i64 (n : Int), .string ms, .slice PA k pc, .string ts, .int .i64 (wi : Int)]] w fun e w' => e = .returned (.bool q) ∧ Below w.heap.size w w' := by
  have HM := Lib.hid HM
  have HQ := Lib.hid HQ
  go_enter Tryd.func6, Tryd.ntmps6
  go_wp2_with fail
  refine (HM.out _).mono ?_
  rintro e w1 ⟨rfl, rfl⟩
  go_wp2_with fail
  refine (HQ.out _).mono ?_
  rintro e w2 ⟨rfl, hb2⟩
  have HB2 := Lib.hid hb2
  clear hb2
  go_wp2
  go_ret
  refine ⟨rfl, below_ret ?_ HB2.out⟩
  repeat (first | exact Below.refl _ _ | exact HB1.out | refine Below.setCell ?_ (by simp) _ | refine Below.alloc ?_ (by simp) _)

set_option maxHeartbeats 2000000 in
theorem r3f (w : World) (x0 x1 x2 : Nat) (n : Nat) (ms : ByteArray) (PA : Option Addr) (k pc : Nat) (ts : ByteArray) (wi : Nat) (HM : ∀ W : World, Calls Tryd.prog 15 #[.string ms, .func (.func 17) #[] #[]] W fun e w' => e = .returned (.bool false) ∧ w' = W) :
    Calls Tryd.prog 6 #[.agg #[.int .i64 (3 : Int), .int .u8 (x0 : Int), .int .u8 (x1 : Int), .int .u8 (x2 : Int), .int .i64 (n : Int), .string ms, .slice PA k pc, .string ts, .int .i64 (wi : Int)]] w fun e w' => e = .returned (.bool false) ∧ Below w.heap.size w w' := by
  have HM := Lib.hid HM
  go_enter Tryd.func6, Tryd.ntmps6
  go_wp2_with fail
  refine (HM.out _).mono ?_
  rintro e w1 ⟨rfl, rfl⟩
  go_wp2
  go_ret
  refine ⟨rfl, ?_⟩
  repeat (first | exact Below.refl _ _ | exact HB1.out | refine Below.setCell ?_ (by simp) _ | refine Below.alloc ?_ (by simp) _)

set_option maxHeartbeats 2000000 in
theorem r3g (w : World) (x0 x1 x2 : Nat) (n : Nat) (ms : ByteArray) (PA : Option Addr) (k pc : Nat) (ts : ByteArray) (wi : Nat) (HM : ∀ W : World, Calls Tryd.prog 15 #[.string ms, .func (.func 17) #[] #[]] W fun e w' => e = .returned (.bool true) ∧ w' = W) (HP : ∀ W : World, Below w.heap.size w W → Calls Tryd.prog 18 #[.slice PA k pc] W fun e w' => e = .returned (.bool false) ∧ w' = W) :
    Calls Tryd.prog 6 #[.agg #[.int .i64 (3 : Int), .int .u8 (x0 : Int), .int .u8 (x1 : Int), .int .u8 (x2 : Int), .int .i64 (n : Int), .string ms, .slice PA k pc, .string ts, .int .i64 (wi : Int)]] w fun e w' => e = .returned (.bool false) ∧ Below w.heap.size w w' := by
  have HM := Lib.hid HM
  have HP := Lib.hid HP
  go_enter Tryd.func6, Tryd.ntmps6
  go_wp2_with fail
  refine (HM.out _).mono ?_
  rintro e w1 ⟨rfl, rfl⟩
  go_wp2_with fail
  refine (HP.out _ (by (repeat (first | exact Below.refl _ _ | refine Below.setCell ?_ (by simp) _ | refine Below.alloc ?_ (by simp) _)))).mono ?_
  rintro e w1 ⟨rfl, rfl⟩
  go_wp2
  go_ret
  refine ⟨rfl, ?_⟩
  repeat (first | exact Below.refl _ _ | exact HB1.out | refine Below.setCell ?_ (by simp) _ | refine Below.alloc ?_ (by simp) _)

set_option maxHeartbeats 2000000 in
theorem r3t (w : World) (x0 x1 x2 : Nat) (n : Nat) (ms : ByteArray) (PA : Option Addr) (k pc : Nat) (ts : ByteArray) (wi : Nat) (HM : ∀ W : World, Calls Tryd.prog 15 #[.string ms, .func (.func 17) #[] #[]] W fun e w' => e = .returned (.bool true) ∧ w' = W) (HP : ∀ W : World, Below w.heap.size w W → Calls Tryd.prog 18 #[.slice PA k pc] W fun e w' => e = .returned (.bool true) ∧ w' = W) (q : Bool) (HQ : ∀ W : World, Calls Tryd.prog 20 #[.agg #[.int .i64 3, .int .u8 (x0 : Int), .int .u8 (x1 : Int), .int .u8 (x2 : Int), .int .i64 (n : Int), .string ⟨#[]⟩, .slice none 0 0, .string ts, .int .i64 (wi : Int)]] W fun e w' => e = .returned (.bool q) ∧ Below W.heap.size W w') :
    Calls Tryd.prog 6 #[.agg #[.int .i64 (3 : Int), .int .u8 (x0 : Int), .int .u8 (x1 : Int), .int .u8 (x2 : Int), .int .i64 (n : Int), .string ms, .slice PA k pc, .string ts, .int .i64 (wi : Int)]] w fun e w' => e = .returned (.bool q) ∧ Below w.heap.size w w' := by
  have HM := Lib.hid HM
  have HP := Lib.hid HP
  have HQ := Lib.hid HQ
  go_enter Tryd.func6, Tryd.ntmps6
  go_wp2_with fail
  refine (HM.out _).mono ?_
  rintro e w1 ⟨rfl, rfl⟩
  go_wp2_with fail
  refine (HP.out _ (by (repeat (first | exact Below.refl _ _ | refine Below.setCell ?_ (by simp) _ | refine Below.alloc ?_ (by simp) _)))).mono ?_
  rintro e w1 ⟨rfl, rfl⟩
  go_wp2_with fail
  refine (HQ.out _).mono ?_
  rintro e w2 ⟨rfl, hb2⟩
  have HB2 := Lib.hid hb2
  clear hb2
  go_wp2
  go_ret
  refine ⟨rfl, below_ret ?_ HB2.out⟩
  repeat (first | exact Below.refl _ _ | exact HB1.out | refine Below.setCell ?_ (by simp) _ | refine Below.alloc ?_ (by simp) _)

set_option maxHeartbeats 2000000 in
theorem r4f (w : World) (x0 x1 x2 : Nat) (n : Nat) (ms : ByteArray) (PA : Option Addr) (k pc : Nat) (ts : ByteArray) (wi : Nat) (HM : ∀ W : World, Calls Tryd.prog 15 #[.string ms, .func (.func 17) #[] #[]] W fun e w' => e = .returned (.bool false) ∧ w' = W) :
    Calls Tryd.prog 6 #[.agg #[.int .i64 (4 : Int), .int .u8 (x0 : Int), .int .u8 (x1 : Int), .int .u8 (x2 : Int), .int .i64 (n : Int), .string ms, .slice PA k pc, .string ts, .int .i64 (wi : Int)]] w fun e w' => e = .returned (.bool false) ∧ Below w.heap.size w w' := by
  have HM := Lib.hid HM
  go_enter Tryd.func6, Tryd.ntmps6
  go_wp2_with fail
  refine (HM.out _).mono ?_
  rintro e w1 ⟨rfl, rfl⟩
  go_wp2
  go_ret
  refine ⟨rfl, ?_⟩
  repeat (first | exact Below.refl _ _ | exact HB1.out | refine Below.setCell ?_ (by simp) _ | refine Below.alloc ?_ (by simp) _)

set_option maxHeartbeats 2000000 in
theorem r4g (w : World) (x0 x1 x2 : Nat) (n : Nat) (ms : ByteArray) (PA : Option Addr) (k pc : Nat) (ts : ByteArray) (wi : Nat) (HM : ∀ W : World, Calls Tryd.prog 15 #[.string ms, .func (.func 17) #[] #[]] W fun e w' => e = .returned (.bool true) ∧ w' = W) (HP : ∀ W : World, Below w.heap.size w W → Calls Tryd.prog 18 #[.slice PA k pc] W fun e w' => e = .returned (.bool false) ∧ w' = W) :
    Calls Tryd.prog 6 #[.agg #[.int .i64 (4 : Int), .int .u8 (x0 : Int), .int .u8 (x1 : Int), .int .u8 (x2 : Int), .int .i64 (n : Int), .string ms, .slice PA k pc, .string ts, .int .i64 (wi : Int)]] w fun e w' => e = .returned (.bool false) ∧ Below w.heap.size w w' := by
  have HM := Lib.hid HM
  have HP := Lib.hid HP
  go_enter Tryd.func6, Tryd.ntmps6
  go_wp2_with fail
  refine (HM.out _).mono ?_
  rintro e w1 ⟨rfl, rfl⟩
  go_wp2_with fail
  refine (HP.out _ (by (repeat (first | exact Below.refl _ _ | refine Below.setCell ?_ (by simp) _ | refine Below.alloc ?_ (by simp) _)))).mono ?_
  rintro e w1 ⟨rfl, rfl⟩
  go_wp2
  go_ret
  refine ⟨rfl, ?_⟩
  repeat (first | exact Below.refl _ _ | exact HB1.out | refine Below.setCell ?_ (by simp) _ | refine Below.alloc ?_ (by simp) _)

set_option maxHeartbeats 2000000 in
theorem r4t (w : World) (x0 x1 x2 : Nat) (n : Nat) (ms : ByteArray) (PA : Option Addr) (k pc : Nat) (ts : ByteArray) (wi : Nat) (HM : ∀ W : World, Calls Tryd.prog 15 #[.string ms, .func (.func 17) #[] #[]] W fun e w' => e = .returned (.bool true) ∧ w' = W) (HP : ∀ W : World, Below w.heap.size w W → Calls Tryd.prog 18 #[.slice PA k pc] W fun e w' => e = .returned (.bool true) ∧ w' = W) (q : Bool) (HQ : ∀ W : World, Calls Tryd.prog 20 #[.agg #[.int .i64 4, .int .u8 (x0 : Int), .int .u8 (x1 : Int), .int .u8 (x2 : Int), .int .i64 (n : Int), .string ⟨#[]⟩, .slice none 0 0, .string ts, .int .i64 (wi : Int)]] W fun e w' => e = .returned (.bool q) ∧ Below W.heap.size W w') :
    Calls Tryd.prog 6 #[.agg #[.int .i64 (4 : Int), .int .u8 (x0 : Int), .int .u8 (x1 : Int), .int .u8 (x2 : Int), .int .i64 (n : Int), .string ms, .slice PA k pc, .string ts, .int .i64 (wi : Int)]] w fun e w' => e = .returned (.bool q) ∧ Below w.heap.size w w' := by
  have HM := Lib.hid HM
  have HP := Lib.hid HP
  have HQ := Lib.hid HQ
  go_enter Tryd.func6, Tryd.ntmps6
  go_wp2_with fail
  refine (HM.out _).mono ?_
  rintro e w1 ⟨rfl, rfl⟩
  go_wp2_with fail
  refine (HP.out _ (by (repeat (first | exact Below.refl _ _ | refine Below.setCell ?_ (by simp) _ | refine Below.alloc ?_ (by simp) _)))).mono ?_
  rintro e w1 ⟨rfl, rfl⟩
  go_wp2_with fail
  refine (HQ.out _).mono ?_
  rintro e w2 ⟨rfl, hb2⟩
  have HB2 := Lib.hid hb2
  clear hb2
  go_wp2
  go_ret
  refine ⟨rfl, below_ret ?_ HB2.out⟩
  repeat (first | exact Below.refl _ _ | exact HB1.out | refine Below.setCell ?_ (by simp) _ | refine Below.alloc ?_ (by simp) _)

set_option maxHeartbeats 2000000 in
theorem r5f (w : World) (x0 x1 x2 : Nat) (n : Nat) (ms : ByteArray) (PA : Option Addr) (k pc : Nat) (ts : ByteArray) (wi : Nat) (HX : ∀ W : World, Calls Tryd.prog 19 #[.string ts] W fun e w' => e = .returned (.bool false) ∧ w' = W) :
    Calls Tryd.prog 6 #[.agg #[.int .i64 (5 : Int), .int .u8 (x0 : Int), .int .u8 (x1 : Int), .int .u8 (x2 : Int), .int .i64 (n : Int), .string ms, .slice PA k pc, .string ts, .int .i64 (wi : Int)]] w fun e w' => e = .returned (.bool false) ∧ Below w.heap.size w w' := by
  have HX := Lib.hid HX
  go_enter Tryd.func6, Tryd.ntmps6
  go_wp2_with fail
  refine (HX.out _).mono ?_
  rintro e w1 ⟨rfl, rfl⟩
  go_wp2
  go_ret
  refine ⟨rfl, ?_⟩
  repeat (first | exact Below.refl _ _ | exact HB1.out | refine Below.setCell ?_ (by simp) _ | refine Below.alloc ?_ (by simp) _)

set_option maxHeartbeats 2000000 in
theorem r5t (w : World) (x0 x1 x2 : Nat) (n : Nat) (ms : ByteArray) (PA : Option Addr) (k pc : Nat) (ts : ByteArray) (wi : Nat) (HX : ∀ W : World, Calls Tryd.prog 19 #[.string ts] W fun e w' => e = .returned (.bool true) ∧ w' = W) (q : Bool) (HQ : ∀ W : World, Calls Tryd.prog 20 #[.agg #[.int .i64 5, .int .u8 (x0 : Int), .int .u8 (x1 : Int), .int .u8 (x2 : Int), .int .i64 (n : Int), .string ms, .slice PA k pc, .string ⟨#[]⟩, .int .i64 (wi : Int)]] W fun e w' => e = .returned (.bool q) ∧ Below W.heap.size W w') :
    Calls Tryd.prog 6 #[.agg #[.int .i64 (5 : Int), .int .u8 (x0 : Int), .int .u8 (x1 : Int), .int .u8 (x2 : Int), .int .i64 (n : Int), .string ms, .slice PA k pc, .string ts, .int .i64 (wi : Int)]] w fun e w' => e = .returned (.bool q) ∧ Below w.heap.size w w' := by
  have HX := Lib.hid HX
  have HQ := Lib.hid HQ
  go_enter Tryd.func6, Tryd.ntmps6
  go_wp2_with fail
  refine (HX.out _).mono ?_
  rintro e w1 ⟨rfl, rfl⟩
  go_wp2_with fail
  refine (HQ.out _).mono ?_
  rintro e w2 ⟨rfl, hb2⟩
  have HB2 := Lib.hid hb2
  clear hb2
  go_wp2
  go_ret
  refine ⟨rfl, below_ret ?_ HB2.out⟩
  repeat (first | exact Below.refl _ _ | exact HB1.out | refine Below.setCell ?_ (by simp) _ | refine Below.alloc ?_ (by simp) _)

set_option maxHeartbeats 2000000 in
theorem r6f (w : World) (x0 x1 x2 : Nat) (n : Nat) (ms : ByteArray) (PA : Option Addr) (k pc : Nat) (ts : ByteArray) (wi : Nat) (HX : ∀ W : World, Calls Tryd.prog 19 #[.string ts] W fun e w' => e = .returned (.bool false) ∧ w' = W) :
    Calls Tryd.prog 6 #[.agg #[.int .i64 (6 : Int), .int .u8 (x0 : Int), .int .u8 (x1 : Int), .int .u8 (x2 : Int), .int .i64 (n : Int), .string ms, .slice PA k pc, .string ts, .int .i64 (wi : Int)]] w fun e w' => e = .returned (.bool false) ∧ Below w.heap.size w w' := by
  have HX := Lib.hid HX
  go_enter Tryd.func6, Tryd.ntmps6
  go_wp2_with fail
  refine (HX.out _).mono ?_
  rintro e w1 ⟨rfl, rfl⟩
  go_wp2
  go_ret
  refine ⟨rfl, ?_⟩
  repeat (first | exact Below.refl _ _ | exact HB1.out | refine Below.setCell ?_ (by simp) _ | refine Below.alloc ?_ (by simp) _)

set_option maxHeartbeats 2000000 in
theorem r6t (w : World) (x0 x1 x2 : Nat) (n : Nat) (ms : ByteArray) (PA : Option Addr) (k pc : Nat) (ts : ByteArray) (wi : Nat) (HX : ∀ W : World, Calls Tryd.prog 19 #[.string ts] W fun e w' => e = .returned (.bool true) ∧ w' = W) (q : Bool) (HQ : ∀ W : World, Calls Tryd.prog 20 #[.agg #[.int .i64 6, .int .u8 (x0 : Int), .int .u8 (x1 : Int), .int .u8 (x2 : Int), .int .i64 (n : Int), .string ms, .slice PA k pc, .string ⟨#[]⟩, .int .i64 (wi : Int)]] W fun e w' => e = .returned (.bool q) ∧ Below W.heap.size W w') :
    Calls Tryd.prog 6 #[.agg #[.int .i64 (6 : Int), .int .u8 (x0 : Int), .int .u8 (x1 : Int), .int .u8 (x2 : Int), .int .i64 (n : Int), .string ms, .slice PA k pc, .string ts, .int .i64 (wi : Int)]] w fun e w' => e = .returned (.bool q) ∧ Below w.heap.size w w' := by
  have HX := Lib.hid HX
  have HQ := Lib.hid HQ
  go_enter Tryd.func6, Tryd.ntmps6
  go_wp2_with fail
  refine (HX.out _).mono ?_
  rintro e w1 ⟨rfl, rfl⟩
  go_wp2_with fail
  refine (HQ.out _).mono ?_
  rintro e w2 ⟨rfl, hb2⟩
  have HB2 := Lib.hid hb2
  clear hb2
  go_wp2
  go_ret
  refine ⟨rfl, below_ret ?_ HB2.out⟩
  repeat (first | exact Below.refl _ _ | exact HB1.out | refine Below.setCell ?_ (by simp) _ | refine Below.alloc ?_ (by simp) _)

set_option maxHeartbeats 2000000 in
theorem r7n (w : World) (x0 x1 x2 : Nat) (n : Nat) (ms : ByteArray) (PA : Option Addr) (k pc : Nat) (ts : ByteArray) (wi : Nat) (h5 : wi ≠ 5) (h6 : wi ≠ 6) :
    Calls Tryd.prog 6 #[.agg #[.int .i64 (7 : Int), .int .u8 (x0 : Int), .int .u8 (x1 : Int), .int .u8 (x2 : Int), .int .i64 (n : Int), .string ms, .slice PA k pc, .string ts, .int .i64 (wi : Int)]] w fun e w' => e = .returned (.bool false) ∧ Below w.heap.size w w' := by
  have k5 : ((wi : Int) != 5) = true := by simp; omega
  have k6 : ((wi : Int) != 6) = true := by simp; omega
  go_enter Tryd.func6, Tryd.ntmps6
  go_wp2
  go_ret
  refine ⟨rfl, ?_⟩
  repeat (first | exact Below.refl _ _ | exact HB1.out | refine Below.setCell ?_ (by simp) _ | refine Below.alloc ?_ (by simp) _)

set_option maxHeartbeats 2000000 in
theorem r7f5 (w : World) (x0 x1 x2 : Nat) (n : Nat) (ms : ByteArray) (PA : Option Addr) (k pc : Nat) (ts : ByteArray) (wi : Nat) (hwi : wi = 5) (HX : ∀ W : World, Calls Tryd.prog 19 #[.string ts] W fun e w' => e = .returned (.bool false) ∧ w' = W) :
    Calls Tryd.prog 6 #[.agg #[.int .i64 (7 : Int), .int .u8 (x0 : Int), .int .u8 (x1 : Int), .int .u8 (x2 : Int), .int .i64 (n : Int), .string ms, .slice PA k pc, .string ts, .int .i64 (wi : Int)]] w fun e w' => e = .returned (.bool false) ∧ Below w.heap.size w w' := by
  have HX := Lib.hid HX
  have k5 : ((wi : Int) != 5) = false := by rw [hwi]; rfl
  clear hwi
  go_enter Tryd.func6, Tryd.ntmps6
  go_wp2_with fail
  refine (HX.out _).mono ?_
  rintro e w1 ⟨rfl, rfl⟩
  go_wp2
  go_ret
  refine ⟨rfl, ?_⟩
  repeat (first | exact Below.refl _ _ | exact HB1.out | refine Below.setCell ?_ (by simp) _ | refine Below.alloc ?_ (by simp) _)

set_option maxHeartbeats 2000000 in
theorem r7t5 (w : World) (x0 x1 x2 : Nat) (n : Nat) (ms : ByteArray) (PA : Option Addr) (k pc : Nat) (ts : ByteArray) (wi : Nat) (hwi : wi = 5) (HX : ∀ W : World, Calls Tryd.prog 19 #[.string ts] W fun e w' => e = .returned (.bool true) ∧ w' = W) (q : Bool) (HQ : ∀ W : World, Calls Tryd.prog 20 #[.agg #[.int .i64 7, .int .u8 (x0 : Int), .int .u8 (x1 : Int), .int .u8 (x2 : Int), .int .i64 (n : Int), .string ms, .slice PA k pc, .string ⟨#[]⟩, .int .i64 0]] W fun e w' => e = .returned (.bool q) ∧ Below W.heap.size W w') :
    Calls Tryd.prog 6 #[.agg #[.int .i64 (7 : Int), .int .u8 (x0 : Int), .int .u8 (x1 : Int), .int .u8 (x2 : Int), .int .i64 (n : Int), .string ms, .slice PA k pc, .string ts, .int .i64 (wi : Int)]] w fun e w' => e = .returned (.bool q) ∧ Below w.heap.size w w' := by
  have HX := Lib.hid HX
  have HQ := Lib.hid HQ
  have k5 : ((wi : Int) != 5) = false := by rw [hwi]; rfl
  clear hwi
  go_enter Tryd.func6, Tryd.ntmps6
  go_wp2_with fail
  refine (HX.out _).mono ?_
  rintro e w1 ⟨rfl, rfl⟩
  go_wp2_with fail
  refine (HQ.out _).mono ?_
  rintro e w2 ⟨rfl, hb2⟩
  have HB2 := Lib.hid hb2
  clear hb2
  go_wp2
  go_ret
  refine ⟨rfl, below_ret ?_ HB2.out⟩
  repeat (first | exact Below.refl _ _ | exact HB1.out | refine Below.setCell ?_ (by simp) _ | refine Below.alloc ?_ (by simp) _)

set_option maxHeartbeats 2000000 in
theorem r7f6 (w : World) (x0 x1 x2 : Nat) (n : Nat) (ms : ByteArray) (PA : Option Addr) (k pc : Nat) (ts : ByteArray) (wi : Nat) (hwi : wi = 6) (HX : ∀ W : World, Calls Tryd.prog 19 #[.string ts] W fun e w' => e = .returned (.bool false) ∧ w' = W) :
    Calls Tryd.prog 6 #[.agg #[.int .i64 (7 : Int), .int .u8 (x0 : Int), .int .u8 (x1 : Int), .int .u8 (x2 : Int), .int .i64 (n : Int), .string ms, .slice PA k pc, .string ts, .int .i64 (wi : Int)]] w fun e w' => e = .returned (.bool false) ∧ Below w.heap.size w w' := by
  have HX := Lib.hid HX
  have k5 : ((wi : Int) != 5) = true := by rw [hwi]; rfl
  have k6 : ((wi : Int) != 6) = false := by rw [hwi]; rfl
  clear hwi
  go_enter Tryd.func6, Tryd.ntmps6
  go_wp2_with fail
  refine (HX.out _).mono ?_
  rintro e w1 ⟨rfl, rfl⟩
  go_wp2
  go_ret
  refine ⟨rfl, ?_⟩
  repeat (first | exact Below.refl _ _ | exact HB1.out | refine Below.setCell ?_ (by simp) _ | refine Below.alloc ?_ (by simp) _)

set_option maxHeartbeats 2000000 in
theorem r7t6 (w : World) (x0 x1 x2 : Nat) (n : Nat) (ms : ByteArray) (PA : Option Addr) (k pc : Nat) (ts : ByteArray) (wi : Nat) (hwi : wi = 6) (HX : ∀ W : World, Calls Tryd.prog 19 #[.string ts] W fun e w' => e = .returned (.bool true) ∧ w' = W) (q : Bool) (HQ : ∀ W : World, Calls Tryd.prog 20 #[.agg #[.int .i64 7, .int .u8 (x0 : Int), .int .u8 (x1 : Int), .int .u8 (x2 : Int), .int .i64 (n : Int), .string ms, .slice PA k pc, .string ⟨#[]⟩, .int .i64 0]] W fun e w' => e = .returned (.bool q) ∧ Below W.heap.size W w') :
    Calls Tryd.prog 6 #[.agg #[.int .i64 (7 : Int), .int .u8 (x0 : Int), .int .u8 (x1 : Int), .int .u8 (x2 : Int), .int .i64 (n : Int), .string ms, .slice PA k pc, .string ts, .int .i64 (wi : Int)]] w fun e w' => e = .returned (.bool q) ∧ Below w.heap.size w w' := by
  have HX := Lib.hid HX
  have HQ := Lib.hid HQ
  have k5 : ((wi : Int) != 5) = true := by rw [hwi]; rfl
  have k6 : ((wi : Int) != 6) = false := by rw [hwi]; rfl
  clear hwi
  go_enter Tryd.func6, Tryd.ntmps6
  go_wp2_with fail
  refine (HX.out _).mono ?_
  rintro e w1 ⟨rfl, rfl⟩
  go_wp2_with fail
  refine (HQ.out _).mono ?_
  rintro e w2 ⟨rfl, hb2⟩
  have HB2 := Lib.hid hb2
  clear hb2
  go_wp2
  go_ret
  refine ⟨rfl, below_ret ?_ HB2.out⟩
  repeat (first | exact Below.refl _ _ | exact HB1.out | refine Below.setCell ?_ (by simp) _ | refine Below.alloc ?_ (by simp) _)

set_option maxHeartbeats 2000000 in
theorem r8 (w : World) (st : Nat) (x0 x1 x2 : Nat) (n : Nat) (ms : ByteArray) (PA : Option Addr) (k pc : Nat) (ts : ByteArray) (wi : Nat) (h8 : 8 ≤ st) :
    Calls Tryd.prog 6 #[.agg #[.int .i64 (st : Int), .int .u8 (x0 : Int), .int .u8 (x1 : Int), .int .u8 (x2 : Int), .int .i64 (n : Int), .string ms, .slice PA k pc, .string ts, .int .i64 (wi : Int)]] w fun e w' => e = .returned (.bool false) ∧ Below w.heap.size w w' := by
  have k0 : ((st : Int) == 0) = false := by simp; omega
  have k1 : ((st : Int) == 1) = false := by simp; omega
  have k2 : ((st : Int) == 2) = false := by simp; omega
  have k3 : ((st : Int) == 3) = false := by simp; omega
  have k4 : ((st : Int) == 4) = false := by simp; omega
  have k5 : ((st : Int) == 5) = false := by simp; omega
  have k6 : ((st : Int) == 6) = false := by simp; omega
  have k7 : ((st : Int) == 7) = false := by simp; omega
  go_enter Tryd.func6, Tryd.ntmps6
  go_wp2
  go_ret
  refine ⟨rfl, ?_⟩
  repeat (first | exact Below.refl _ _ | exact HB1.out | refine Below.setCell ?_ (by simp) _ | refine Below.alloc ?_ (by simp) _)
end Go.Proofs.YtdolapobkhhanaaDoor
/-
  Layer 6 (vt), for layer 11: Right is what the parser's words say.
-/
namespace Go.Proofs.YtdolapobkhhanaaDoor
open Go.RowKit Go.Lib
set_option maxRecDepth 100000

theorem str_nil : str [] = ⟨#[]⟩ := by rfl
theorem str_not (l : List Nat) (h : l ≠ []) : ((str l).toList == []) = false := by rw [str_nil_eq]; simp [h]
set_option maxHeartbeats 1000000 in
theorem pright_ok (w : World) (hT : Utf w) (p : Ps) (hp : PsOk p) (PA : Option Addr) (pc B : Nat) (hr : Row w B .i64 PA p.params) (hB : B ≤ w.heap.size) :
    Calls Tryd.prog 6 #[parV p PA pc] w fun e w' => e = .returned (.bool (rightP p)) ∧ Below w.heap.size w w' := by
  obtain ⟨st, wi, u, marks, params, text⟩ := p
  obtain ⟨h1, h2, h3, h4, h5, h6⟩ := hp
  simp only at h1 h2 h3 h4 h5 h6 hr
  have hms : sb (str marks) = marks := sb_str marks h4.2
  have hts : sb (str text) = text := sb_str text h6.2
  have hmz : (str marks).size ≤ 1000 := by rw [str_size]; omega
  have htz : (str text).size ≤ 1000 := by rw [str_size]; omega
  have HE := fun W => rightMarksE_ok W (str marks) hmz
  have HN := fun W => rightMarksN_ok W (str marks) hmz
  have HX := fun W => rightText_ok W (str text) htz
  rw [hms] at HE HN
  rw [hts] at HX
  have hB' := fun (W : World) (p : Ps) (PA : Option Addr) (pc : Nat) => bare_okP W p PA pc
  unfold parV at hB' ⊢
  dsimp only
  by_cases k0 : st = 0
  · subst k0
    have he : rightP ⟨0, wi, u, marks, params, text⟩ = (!UM.full u && bareP ⟨0, wi, [], marks, params, text⟩) := by simp [rightP]
    rw [he]
    have HD := fun (W : World) (hW : Utf W) => dright_u W hW u h3
    rcases hf : UM.full u with _ | _
    · rw [hf] at HD
      exact r0t w _ _ _ _ _ _ _ _ _ _ hT HD _ fun W => hB' W ⟨0, wi, [], marks, params, text⟩ PA pc
    · rw [hf] at HD
      exact r0f w _ _ _ _ _ _ _ _ _ _ hT HD
  by_cases k1 : st = 1
  · subst k1
    have he : rightP ⟨1, wi, u, marks, params, text⟩ = bareP ⟨1, wi, u, marks, params, text⟩ := by simp [rightP]
    rw [he]
    exact r1 w _ _ _ _ _ _ _ _ _ _ _ fun W => hB' W ⟨1, wi, u, marks, params, text⟩ PA pc
  by_cases k2 : st = 2
  · subst k2
    have he : rightP ⟨2, wi, u, marks, params, text⟩ = ((!decide (marks = []) && markR inEsc marks) && bareP ⟨2, wi, u, [], params, text⟩) := by simp [rightP]
    rw [he]
    by_cases hm : marks = []
    · subst hm
      exact r2n w _ _ _ _ _ _ _ _ _ _ (by rw [str_nil_eq]; rfl)
    · have hd : decide (marks = []) = false := by simp [hm]
      rw [hd]
      rcases hf : markR inEsc marks with _ | _
      · rw [hf] at HE
        exact r2f w _ _ _ _ _ _ _ _ _ _ (str_not marks hm) HE
      · rw [hf] at HE
        exact r2t w _ _ _ _ _ _ _ _ _ _ (str_not marks hm) HE _ fun W => by have := hB' W ⟨2, wi, u, [], params, text⟩ PA pc; rw [str_nil] at this; exact this
  by_cases k3 : st = 3
  · subst k3
    have he : rightP ⟨3, wi, u, marks, params, text⟩ = ((markR inEnt marks && paramR params) && bareP ⟨3, wi, u, [], [], text⟩) := by simp [rightP]
    rw [he]
    have HP := fun (W : World) (hW : Below w.heap.size w W) => rightParams_ok W params (by omega) PA pc B (hr.below (hW.mono hB))
    rcases hf : markR inEnt marks with _ | _
    · rw [hf] at HN
      exact r3f w _ _ _ _ _ _ _ _ _ _ HN
    · rw [hf] at HN
      rcases hg : paramR params with _ | _
      · rw [hg] at HP
        exact r3g w _ _ _ _ _ _ _ _ _ _ HN HP
      · rw [hg] at HP
        exact r3t w _ _ _ _ _ _ _ _ _ _ HN HP _ fun W => by have := hB' W ⟨3, wi, u, [], [], text⟩ none 0; rw [str_nil] at this; exact this
  by_cases k4 : st = 4
  · subst k4
    have he : rightP ⟨4, wi, u, marks, params, text⟩ = ((markR inEnt marks && paramR params) && bareP ⟨4, wi, u, [], [], text⟩) := by simp [rightP]
    rw [he]
    have HP := fun (W : World) (hW : Below w.heap.size w W) => rightParams_ok W params (by omega) PA pc B (hr.below (hW.mono hB))
    rcases hf : markR inEnt marks with _ | _
    · rw [hf] at HN
      exact r4f w _ _ _ _ _ _ _ _ _ _ HN
    · rw [hf] at HN
      rcases hg : paramR params with _ | _
      · rw [hg] at HP
        exact r4g w _ _ _ _ _ _ _ _ _ _ HN HP
      · rw [hg] at HP
        exact r4t w _ _ _ _ _ _ _ _ _ _ HN HP _ fun W => by have := hB' W ⟨4, wi, u, [], [], text⟩ none 0; rw [str_nil] at this; exact this
  by_cases k5 : st = 5
  · subst k5
    have he : rightP ⟨5, wi, u, marks, params, text⟩ = (textR text && bareP ⟨5, wi, u, marks, params, []⟩) := by simp [rightP]
    rw [he]
    rcases hf : textR text with _ | _
    · rw [hf] at HX
      exact r5f w _ _ _ _ _ _ _ _ _ _ HX
    · rw [hf] at HX
      exact r5t w _ _ _ _ _ _ _ _ _ _ HX _ fun W => by have := hB' W ⟨5, wi, u, marks, params, []⟩ PA pc; rw [str_nil] at this; exact this
  by_cases k6 : st = 6
  · subst k6
    have he : rightP ⟨6, wi, u, marks, params, text⟩ = (textR text && bareP ⟨6, wi, u, marks, params, []⟩) := by simp [rightP]
    rw [he]
    rcases hf : textR text with _ | _
    · rw [hf] at HX
      exact r6f w _ _ _ _ _ _ _ _ _ _ HX
    · rw [hf] at HX
      exact r6t w _ _ _ _ _ _ _ _ _ _ HX _ fun W => by have := hB' W ⟨6, wi, u, marks, params, []⟩ PA pc; rw [str_nil] at this; exact this
  by_cases k7 : st = 7
  · subst k7
    have he : rightP ⟨7, wi, u, marks, params, text⟩ = ((decide (wi = 5 ∨ wi = 6)) && (textR text && bareP ⟨7, 0, u, marks, params, []⟩)) := by simp [rightP]
    rw [he]
    by_cases hw5 : wi = 5
    · have hd : decide (wi = 5 ∨ wi = 6) = true := by simp [hw5]
      rw [hd]
      rcases hf : textR text with _ | _
      · rw [hf] at HX
        exact r7f5 w _ _ _ _ _ _ _ _ _ _ hw5 HX
      · rw [hf] at HX
        exact r7t5 w _ _ _ _ _ _ _ _ _ _ hw5 HX _ fun W => by have := hB' W ⟨7, 0, u, marks, params, []⟩ PA pc; rw [str_nil] at this; exact this
    by_cases hw6 : wi = 6
    · have hd : decide (wi = 5 ∨ wi = 6) = true := by simp [hw6]
      rw [hd]
      rcases hf : textR text with _ | _
      · rw [hf] at HX
        exact r7f6 w _ _ _ _ _ _ _ _ _ _ hw6 HX
      · rw [hf] at HX
        exact r7t6 w _ _ _ _ _ _ _ _ _ _ hw6 HX _ fun W => by have := hB' W ⟨7, 0, u, marks, params, []⟩ PA pc; rw [str_nil] at this; exact this
    · have hd : decide (wi = 5 ∨ wi = 6) = false := by simp [hw5, hw6]
      rw [hd]
      exact r7n w _ _ _ _ _ _ _ _ _ _ hw5 hw6
  · have he : rightP ⟨st, wi, u, marks, params, text⟩ = false := by
      unfold rightP
      simp only
      rw [if_neg k0, if_neg k1, if_neg k2, if_neg (by omega), if_neg k7, if_neg (by omega)]
    rw [he]
    exact r8 w _ _ _ _ _ _ _ _ _ _ _ (by omega)
end Go.Proofs.YtdolapobkhhanaaDoor
/-
  Layer 11 (state): a terminal is taken.
-/
namespace Go.Proofs.YtdolapobkhhanaaDoor
open Go.RowKit Go.Lib KM
set_option maxRecDepth 100000

/-- All memory of a terminal under way: what is new since w0. -/
structure MM (w0 w : World) (g p gp op : Nat) (F O : List Nat) (bv : Value) (t : Tm) (f : Nat → Value) (l : List Nat) (bad : Bool) : Prop where
  rd : Rd w g l bad
  cells : CellsF w p 43 108 f
  ga : GridAt w F gp ⟨t.w, t.h, t.ls⟩
  gb : GridAt w O op ⟨t.w, t.h, t.os⟩
  nx : NextAt w w0.heap.size bv (fun k => k = g ∨ k = p) t.bk
  on : w0.grownBy w (some g)
  gz : g < w0.heap.size
  np : w0.heap.size ≤ p
  nF : ∀ k ∈ F, w0.heap.size ≤ k
  nO : ∀ k ∈ O, w0.heap.size ≤ k
  ap : p ∉ F ∧ p ∉ O ∧ ∀ k ∈ F, k ∉ O
  gl : 2 < g
  tabs : Tabs w
  ft : f 0 = .pointer (some ⟨gp, 0, none⟩) ∧ f 1 = .pointer (some ⟨op, 0, none⟩)
section
variable {w0 w w' : World} {g p gp op : Nat} {F F' O O' : List Nat} {bv bv' : Value} {t t' : Tm} {f f' : Nat → Value} {l l' : List Nat} {bad bad' : Bool}
theorem MM.on' (h : MM w0 w g p gp op F O bv t f l bad) {S : Nat → Prop} (hf : Fr S w w') (hS : ∀ k, S k → k = g ∨ w0.heap.size ≤ k) : w0.grownBy w' (some g) :=
  ⟨hf.os.trans h.on.os, hf.tape.trans h.on.tape, hf.output.trans h.on.output, Nat.le_trans h.on.size hf.size, fun k hk hne => (hf.block k (Nat.lt_of_lt_of_le hk h.on.size) (fun hs => by
    rcases hS k hs with e | e
    · exact hne (by rw [e])
    · omega)).trans (h.on.block k hk hne)⟩
theorem MM.tabs' (h : MM w0 w g p gp op F O bv t f l bad) {S : Nat → Prop} (hf : Fr S w w') (hS : ∀ k, S k → k = g ∨ w0.heap.size ≤ k) : Tabs w' :=
  h.tabs.of_block (hf.block _ h.tabs.room (fun hs => by have := h.gl; have := h.gz; rcases hS _ hs with e | e <;> omega)) hf.size
theorem MM.gpl (h : MM w0 w g p gp op F O bv t f l bad) : gp ∈ F ∧ op ∈ O := ⟨h.ga.p_mem, h.gb.p_mem⟩
/-- The reader's block and the terminal's alone changed. -/
theorem MM.two (h : MM w0 w g p gp op F O bv t f l bad) (hf : Fr (fun k => k = g ∨ k = p) w w') (hr : Rd w' g l' bad') (hc : CellsF w' p 43 108 f') (hft : f' 0 = f 0 ∧ f' 1 = f 1) (ht : t'.w = t.w ∧ t'.h = t.h ∧ t'.ls = t.ls ∧ t'.os = t.os ∧ t'.bk = t.bk) :
    MM w0 w' g p gp op F O bv t' f' l' bad' := by
  obtain ⟨t1, t2, t3, t4, t5⟩ := ht
  have hS : ∀ k, (k = g ∨ k = p) → k = g ∨ w0.heap.size ≤ k := fun k hk => hk.imp_right (fun e => by rw [e]; exact h.np)
  refine ⟨hr, hc, ?_, ?_, ?_, h.on' hf hS, h.gz, h.np, h.nF, h.nO, h.ap, h.gl, h.tabs' hf hS, ⟨hft.1.trans h.ft.1, hft.2.trans h.ft.2⟩⟩
  · rw [t1, t2, t3]
    exact h.ga.keep fun k hk => hf.block k (h.ga.lt k hk) (fun hs => by
      rcases hs with e | e
      · have := h.nF _ hk; have := h.gz; omega
      · rw [e] at hk; exact h.ap.1 hk)
  · rw [t1, t2, t4]
    exact h.gb.keep fun k hk => hf.block k (h.gb.lt k hk) (fun hs => by
      rcases hs with e | e
      · have := h.nO _ hk; have := h.gz; omega
      · rw [e] at hk; exact h.ap.2.1 hk)
  · rw [t5]
    exact h.nx.keep (fun k hk hx => hf.block k hk hx) hf.size
theorem MM.num (h : MM w0 w g p gp op F O bv t f l bad) (hg : w.grownBy w' (some g)) (hr : Rd w' g l' bad') : MM w0 w' g p gp op F O bv t f l' bad' :=
  h.two ⟨hg.os, hg.tape, hg.output, hg.size, fun k hk hs => hg.block k hk (by intro e; injection e with e; exact hs (.inl e))⟩ hr
    (h.cells.keep (hg.block p h.cells.lt (by intro e; injection e with e; have := h.np; have := h.gz; omega))) ⟨rfl, rfl⟩ ⟨rfl, rfl, rfl, rfl, rfl⟩
theorem MM.below (h : MM w0 w g p gp op F O bv t f l bad) (hb : Below w.heap.size w w') : MM w0 w' g p gp op F O bv t f l bad :=
  h.two (Fr.of_below hb) (h.rd.on hb h.rd.lt) (h.cells.below hb h.cells.lt) ⟨rfl, rfl⟩ ⟨rfl, rfl, rfl, rfl, rfl⟩
theorem MM.set (h : MM w0 w g p gp op F O bv t f l bad) {i : Nat} (hi : i < 108) (h2 : 2 ≤ i) (v : Value) : MM w0 (w.setCell ⟨p, i, none⟩ v) g p gp op F O bv t (upd f i v) l bad := by
  have hk : ∀ k, k ≠ p → (w.setCell ⟨p, i, none⟩ v).heap[k]? = w.heap[k]? := fun k hk => Below.heap_setCell _ _ _ _ hk
  have hnp := h.np
  have hgz := h.gz
  refine h.two (Fr.setCell _ (.inr rfl)) ?_ (h.cells.set hi v) ⟨by unfold upd; rw [if_neg (by omega)], by unfold upd; rw [if_neg (by omega)]⟩ ⟨rfl, rfl, rfl, rfl, rfl⟩
  obtain ⟨A, c, hA, q2, q3, q4, q5⟩ := h.rd
  exact ⟨A, c, (hk g (by omega)).trans hA, q2, q3, q4.keep fun q hq => World.cell?_of_block (hk q.block (by omega)), q5⟩
theorem MM.congr (h : MM w0 w g p gp op F O bv t f l bad) (hf : ∀ i, i < 108 → f i = f' i) (t' : Tm) (ht : t'.w = t.w ∧ t'.h = t.h ∧ t'.ls = t.ls ∧ t'.os = t.os ∧ t'.bk = t.bk) : MM w0 w g p gp op F O bv t' f' l bad :=
  h.two (Fr.refl _ _) h.rd (h.cells.congr hf) ⟨(hf 0 (by omega)).symm, (hf 1 (by omega)).symm⟩ ht
/-- The first screen's lines. -/
theorem MM.scr1 (h : MM w0 w g p gp op F O bv t f l bad) (hbv : bv = .slice none 0 0) (hbk : t.bk = []) {hb hc : Nat} {L : List Ln} (hk : SK w w' g gp hb hc F t.w t.h l' bad' L) : MM w0 w' g p gp op (foot gp hb L) O bv { t with ls := L.map Ln.l } f l' bad' := by
  have hS : ∀ k, (k = g ∨ k ∈ F) → k = g ∨ w0.heap.size ≤ k := fun k hk => hk.imp_right (h.nF k)
  have hgz := h.gz
  have hnp := h.np
  have hnew : ∀ k ∈ foot gp hb L, k ∈ F ∨ w.heap.size ≤ k := hk.newF
  have hpw := h.cells.lt
  have hsz := h.on.size
  have hpp : p ∉ foot gp hb L := fun hm => by
    rcases hnew p hm with e | e
    · exact h.ap.1 e
    · omega
  have hnn : ∀ k ∈ foot gp hb L, w0.heap.size ≤ k := fun k hkk => by
    rcases hnew k hkk with e | e
    · exact h.nF k e
    · omega
  have hoth : GridAt w' O op ⟨t.w, t.h, t.os⟩ := h.gb.keep fun k hkO => hk.fr.block k (h.gb.lt k hkO) (fun hs => by
    rcases hs with e | e
    · have := h.nO _ hkO; omega
    · exact h.ap.2.2 k e hkO)
  have hap : ∀ k ∈ foot gp hb L, k ∉ O := fun k hkk hkO => by
    rcases hnew k hkk with e | e
    · exact h.ap.2.2 k e hkO
    · have := h.gb.lt k hkO; omega
  have hnx : NextAt w' w0.heap.size bv (fun k => k = g ∨ k = p) t.bk := by rw [hbv, hbk]; exact NextAt.nil _ _ _
  exact ⟨hk.rd, h.cells.keep (hk.fr.block p hpw (fun hs => by
    rcases hs with e | e
    · omega
    · exact h.ap.1 e)), ⟨hb, hc, L, hk.grid, rfl⟩, hoth, hnx, h.on' hk.fr hS, h.gz, h.np, hnn, h.nO, ⟨hpp, h.ap.2.1, hap⟩, h.gl, hk.tabs, h.ft⟩
/-- The second screen's lines. -/
theorem MM.scr2 (h : MM w0 w g p gp op F O bv t f l bad) (hbv : bv = .slice none 0 0) (hbk : t.bk = []) {hb hc : Nat} {L : List Ln} (hk : SK w w' g op hb hc O t.w t.h l' bad' L) : MM w0 w' g p gp op F (foot op hb L) bv { t with os := L.map Ln.l } f l' bad' := by
  have hS : ∀ k, (k = g ∨ k ∈ O) → k = g ∨ w0.heap.size ≤ k := fun k hk => hk.imp_right (h.nO k)
  have hgz := h.gz
  have hnp := h.np
  have hnew : ∀ k ∈ foot op hb L, k ∈ O ∨ w.heap.size ≤ k := hk.newF
  have hpw := h.cells.lt
  have hsz := h.on.size
  have hpp : p ∉ foot op hb L := fun hm => by
    rcases hnew p hm with e | e
    · exact h.ap.2.1 e
    · omega
  have hnn : ∀ k ∈ foot op hb L, w0.heap.size ≤ k := fun k hkk => by
    rcases hnew k hkk with e | e
    · exact h.nO k e
    · omega
  have hoth : GridAt w' F gp ⟨t.w, t.h, t.ls⟩ := h.ga.keep fun k hkO => hk.fr.block k (h.ga.lt k hkO) (fun hs => by
    rcases hs with e | e
    · have := h.nF _ hkO; omega
    · exact h.ap.2.2 k hkO e)
  have hap : ∀ k ∈ foot op hb L, k ∉ F := fun k hkk hkO => by
    rcases hnew k hkk with e | e
    · exact h.ap.2.2 k hkO e
    · have := h.ga.lt k hkO; omega
  have hnx : NextAt w' w0.heap.size bv (fun k => k = g ∨ k = p) t.bk := by rw [hbv, hbk]; exact NextAt.nil _ _ _
  exact ⟨hk.rd, h.cells.keep (hk.fr.block p hpw (fun hs => by
    rcases hs with e | e
    · omega
    · exact h.ap.2.1 e)), hoth, ⟨hb, hc, L, hk.grid, rfl⟩, hnx, h.on' hk.fr hS, h.gz, h.np, h.nF, hnn, ⟨h.ap.1, hpp, fun k h1 h2 => hap k h2 h1⟩, h.gl, hk.tabs, h.ft⟩
end

/-! ### what becomes of the cells -/
theorem updFl_at (f : Nat → Value) (o : Nat → Nat) (N : Nat) (n : Nat) (hinj : ∀ i j, i < n → j < n → o i = o j → i = j) : ∀ k, k ≤ n → (∀ j, j < k → updFl f o N k (o j) = .bool (N.testBit j)) ∧ ∀ i, (∀ j, j < k → i ≠ o j) → updFl f o N k i = f i := by
  intro k
  induction k with
  | zero => exact fun _ => ⟨fun j hj => by omega, fun _ _ => rfl⟩
  | succ k ih =>
    intro hk
    obtain ⟨h1, h2⟩ := ih (by omega)
    refine ⟨fun j hj => ?_, fun i hi => ?_⟩
    · show upd (updFl f o N k) (o k) _ (o j) = _
      unfold upd
      by_cases e : o j = o k
      · rw [if_pos e]
        have := hinj j k (by omega) (by omega) e
        rw [this]
      · rw [if_neg e]
        refine h1 j ?_
        rcases Nat.lt_or_ge j k with h | h
        · exact h
        · exfalso; exact e (by rw [show j = k by omega])
    · show upd (updFl f o N k) (o k) _ i = _
      unfold upd
      rw [if_neg (hi k (by omega))]
      exact h2 i fun j hj => hi j (by omega)
theorem tm_fl8 (t : Tm) (gp op : Nat) (bv : Value) (PA : Option Addr) (pc N : Nat) : ∀ i, i < 108 → updFl (tmAt t gp op bv PA pc) modeP N 8 i = tmAt { t with m := N } gp op bv PA pc i := by
  have hinj : ∀ i j, i < 8 → j < 8 → modeP i = modeP j → i = j := by
    have : ∀ i j : Fin 8, modeP i.val = modeP j.val → i = j := by decide
    exact fun i j hi hj e => congrArg Fin.val (this ⟨i, hi⟩ ⟨j, hj⟩ e)
  obtain ⟨h1, h2⟩ := updFl_at (tmAt t gp op bv PA pc) modeP N 8 hinj 8 (Nat.le_refl _)
  intro i hi
  by_cases hr : 88 ≤ i ∧ i < 96
  · obtain ⟨k, hk, rfl⟩ : ∃ k, k < 8 ∧ i = modeP k := by
      rcases (by omega : i = 88 ∨ i = 89 ∨ i = 90 ∨ i = 91 ∨ i = 92 ∨ i = 93 ∨ i = 94 ∨ i = 95) with rfl | rfl | rfl | rfl | rfl | rfl | rfl | rfl
      · exact ⟨0, by omega, rfl⟩
      · exact ⟨1, by omega, rfl⟩
      · exact ⟨2, by omega, rfl⟩
      · exact ⟨3, by omega, rfl⟩
      · exact ⟨5, by omega, rfl⟩
      · exact ⟨6, by omega, rfl⟩
      · exact ⟨7, by omega, rfl⟩
      · exact ⟨4, by omega, rfl⟩
    rw [h1 k hk, tm_mode _ _ _ _ _ _ k hk]
  · rw [h2 i fun j hj e => by rw [e] at hr; unfold modeP at hr; split at hr <;> (try split at hr) <;> omega]
    unfold tmAt
    dsimp only
    by_cases h88 : i < 88
    · simp only [h88, if_true]
    · rw [if_neg (by omega), if_neg (by omega), if_neg (by omega), if_neg (by omega), if_neg (by omega), if_neg (by omega), if_neg (by omega)]
      rw [if_neg (show ¬ i = 0 by omega), if_neg (show ¬ i = 1 by omega), if_neg (show ¬ i < 26 by omega), if_neg (show ¬ i = 26 by omega), if_neg (show ¬ i = 27 by omega), if_neg (show ¬ i < 88 by omega), if_neg (show ¬ i < 96 by omega)]
theorem tm_fl60 (t : Tm) (gp op : Nat) (bv : Value) (PA : Option Addr) (pc N : Nat) : ∀ i, i < 108 → updFl (tmAt t gp op bv PA pc) (fun k => 28 + k) N 60 i = tmAt { t with s := N } gp op bv PA pc i := by
  obtain ⟨h1, h2⟩ := updFl_at (tmAt t gp op bv PA pc) (fun k => 28 + k) N 60 (fun i j _ _ e => by omega) 60 (Nat.le_refl _)
  intro i hi
  by_cases hr : 28 ≤ i ∧ i < 88
  · obtain ⟨k, hk, rfl⟩ : ∃ k, k < 60 ∧ i = 28 + k := ⟨i - 28, by omega, by omega⟩
    rw [h1 k hk, tm_tab _ _ _ _ _ _ k hk]
  · rw [h2 i fun j hj e => by omega]
    unfold tmAt
    dsimp only
    by_cases h28 : i < 28
    · by_cases a0 : i = 0
      · simp only [a0, if_true]
      by_cases a1 : i = 1
      · simp only [a1, if_true]
      by_cases a2 : i < 26
      · rw [if_neg a0, if_neg a1, if_pos a2, if_neg a0, if_neg a1, if_pos a2]
      by_cases a3 : i = 26
      · rw [if_neg a0, if_neg a1, if_neg a2, if_pos a3, if_neg a0, if_neg a1, if_neg a2, if_pos a3]
      · rw [if_neg a0, if_neg a1, if_neg a2, if_neg a3, if_pos (by omega), if_neg a0, if_neg a1, if_neg a2, if_neg a3, if_pos (by omega)]
    · rw [if_neg (show ¬ i = 0 by omega), if_neg (show ¬ i = 1 by omega), if_neg (show ¬ i < 26 by omega), if_neg (show ¬ i = 26 by omega), if_neg (show ¬ i = 27 by omega), if_neg (show ¬ i < 88 by omega), if_neg (show ¬ i = 0 by omega), if_neg (show ¬ i = 1 by omega), if_neg (show ¬ i < 26 by omega), if_neg (show ¬ i = 26 by omega), if_neg (show ¬ i = 27 by omega), if_neg (show ¬ i < 88 by omega)]
theorem tm_back (t : Tm) (gp op : Nat) (bv v : Value) (PA : Option Addr) (pc : Nat) (bk : List (List Cel)) : ∀ i, i < 108 → upd (tmAt t gp op bv PA pc) 97 v i = tmAt { t with bk := bk } gp op v PA pc i := by
  intro i hi
  unfold upd
  by_cases e : i = 97
  · subst e; rfl
  · rw [if_neg e]
    unfold tmAt
    simp only [e, if_false]
theorem tm_texts (t : Tm) (gp op : Nat) (bv : Value) (PA : Option Addr) (pc : Nat) (a b : List Nat) : ∀ i, i < 108 → upd (upd (tmAt t gp op bv PA pc) 96 (.string (str a))) 107 (.string (str b)) i = tmAt { t with title := a, reply := b } gp op bv PA pc i := by
  intro i hi
  unfold upd
  by_cases e : i = 107
  · subst e; rfl
  rw [if_neg e]
  by_cases e2 : i = 96
  · subst e2; rfl
  rw [if_neg e2]
  unfold tmAt
  have hi2 : i < 107 := by omega
  simp only [e2, hi2, if_false, if_true]
theorem tm_parser (t : Tm) (gp op : Nat) (bv : Value) (PA : Option Addr) (pc : Nat) (p : Ps) (PB : Option Addr) (pd : Nat) : ∀ i, i < 108 → upd (upd (upd (upd (upd (upd (upd (upd (upd (tmAt t gp op bv PA pc) 98 (parAt p PB pd 0)) 99 (parAt p PB pd 1)) 100 (parAt p PB pd 2)) 101 (parAt p PB pd 3)) 102 (parAt p PB pd 4)) 103 (parAt p PB pd 5)) 104 (parAt p PB pd 6)) 105 (parAt p PB pd 7)) 106 (parAt p PB pd 8) i = tmAt { t with p := p } gp op bv PB pd i := by
  intro i hi
  by_cases hr : 98 ≤ i ∧ i < 107
  · rcases (by omega : i = 98 ∨ i = 99 ∨ i = 100 ∨ i = 101 ∨ i = 102 ∨ i = 103 ∨ i = 104 ∨ i = 105 ∨ i = 106) with rfl | rfl | rfl | rfl | rfl | rfl | rfl | rfl | rfl <;> rfl
  · unfold upd
    rw [if_neg (by omega), if_neg (by omega), if_neg (by omega), if_neg (by omega), if_neg (by omega), if_neg (by omega), if_neg (by omega), if_neg (by omega), if_neg (by omega)]
    unfold tmAt
    dsimp only
    by_cases h98 : i < 98
    · rcases (by omega : i < 96 ∨ i = 96 ∨ i = 97) with h | h | h
      · simp only [h, if_true]
      · subst h; rfl
      · subst h; rfl
    · have : i = 107 := by omega
      subst this; rfl
end Go.Proofs.YtdolapobkhhanaaDoor
