/-
  Layer 2 (crc): the anchor 'fit' of the statements answers true.
-/
import Derived.Test.YtfndbgdamplelaaCFrame
import Derived.Test.YtfndbgdamplelaaVTake
import Derived.Lib.SlBytesConst
namespace Go.Proofs.Ytfndbgdamplelaa
open Go.RowKit

theorem row_new9 (w : World) (t : TypeId) (fz : Nat × Nat) : Row (w.alloc (.cells #[.int .u8 49, .int .u8 50, .int .u8 51, .int .u8 52, .int .u8 53, .int .u8 54, .int .u8 55, .int .u8 56, .int .u8 57] t fz)) (w.heap.size + 1) .u8 (some ⟨w.heap.size, 0, none⟩) [49, 50, 51, 52, 53, 54, 55, 56, 57] := fun _ => by
  refine ⟨w.heap.size, 0, rfl, by omega, fun j hj => ?_⟩
  simp only [List.length_cons, List.length_nil] at hj
  have : j = 0 ∨ j = 1 ∨ j = 2 ∨ j = 3 ∨ j = 4 ∨ j = 5 ∨ j = 6 ∨ j = 7 ∨ j = 8 := by omega
  rcases this with rfl | rfl | rfl | rfl | rfl | rfl | rfl | rfl | rfl <;> rw [cell_of_row _ w.heap.size _ _ t fz (heap_alloc_new w _)] <;> rfl

set_option maxRecDepth 100000 in
set_option maxHeartbeats 1000000 in
theorem fit_any (w : World) : Calls Try.prog 8 #[] w fun e w' => e = .returned (.bool true) ∧ Below w.heap.size w w' := by
  have kc : ∀ (o : Obj) (C : Array Value) (n c : Nat), (convert 23 23 (.slice (some ⟨w.heap.size + 1, 0, none⟩) n c)).run Try.prog ((w.alloc o).alloc (.cells C 5)) = .ok (.slice (some ⟨w.heap.size + 1, 0, none⟩) n c) ((w.alloc o).alloc (.cells C 5 (C.size, C.size + 1))) := fun o C n c => by
    have h := Lib.run_convert_bytes_const (P := Try.prog) (w.alloc o) 23 5 C n c Try.underlying23 Try.underlying5
    rw [show (w.alloc o).heap.size = w.heap.size + 1 from by simp] at h
    exact h
  go_enter Try.func8, Try.ntmps8
  go_wp2_with fail
  refine (take_any _ _ [5] _ (w.heap.size + 1) (by simp [maxLen]) (row_new w .u8 5 _) (by simp)).mono ?_
  rintro e w1 ⟨rfl, rfl⟩
  rw [show VM.take [5] = (5, 1) from by decide]
  go_wp2_with fail
  refine (sum_any _ _ [49, 50, 51, 52, 53, 54, 55, 56, 57] _ ((w.heap.size + 1) + 1) (by simp [maxLen]) ?c1 (by simp)).mono ?_
  case c1 => have h := row_new9 (w.alloc (.cells #[.int .u8 5] 5)) 5 (9, 10); rwa [World.size_alloc] at h
  rintro e w2 ⟨rfl, rfl⟩
  rw [CM.sum_known]
  clear kc
  have hbb : Below w.heap.size w ((w.alloc (.cells #[.int .u8 5] 5)).alloc (.cells #[.int .u8 49, .int .u8 50, .int .u8 51, .int .u8 52, .int .u8 53, .int .u8 54, .int .u8 55, .int .u8 56, .int .u8 57] 5 (9, 10))) :=
    ((Below.refl _ _).alloc (Nat.le_refl _) _).alloc (by simp) _
  have HB := Lib.hid hbb; clear hbb
  go_wp2_with fail
  refine (frame_grow (.slice none 0 0) [] none 0 [] _ w.heap.size (by simp) (by simp) (by simp) Row.nil (fun _ => rfl) (Own.nil _ _) (by simp; omega)).mono ?_
  rintro e w3 ⟨v, rfl, ho, hg⟩
  have hb3 := hg.below (Own.nil _ w.heap.size) (by simp; omega)
  obtain ⟨A, c, hv, _⟩ := ho.form
  rw [hv]
  rw [show ([] ++ CM.frame [] : List Nat).length = 5 from by simp [CM.frame_len, VM.enc_lt]]
  have HB3 := Lib.hid (HB.out.trans hb3)
  clear ho hg hb3 hv
  go_wp2
  go_ret
  exact ⟨rfl, HB3.out⟩
end Go.Proofs.Ytfndbgdamplelaa
