/-
  Layer 4 (file): New.
-/
import Derived.Test.YtdaipoelicpnoaaFPut
import Derived.Lib.MinMax
namespace Go.Proofs.Ytdaipoelicpnoaa
open Go.RowKit Go.Maps FM

set_option maxRecDepth 100000 in
set_option maxHeartbeats 1000000 in
theorem new_ok (w : World) (q : Int) (hq : q ≤ 9223372036854775807) :
    Calls Try.prog 10 #[.int .i64 q] w fun e w' => ∃ sb, e = .returned (.pointer (some ⟨sb, 0, none⟩)) ∧ Sto w' (wider (fun _ => False) w w') sb (fresh q) ∧ Below w.heap.size w w' := by
  have hmm := @run_makeMap Try.prog
  obtain ⟨k, hk, hmx⟩ : ∃ k : Nat, k = q.toNat ∧ max q 0 = (k : Int) := ⟨q.toNat, rfl, by omega⟩
  have HK := Lib.hid hk
  have hkq : k < 9223372036854775808 := by omega
  clear hk
  go_enter Try.func10, Try.ntmps10
  go_wp2
  go_ret
  have hb : Below w.heap.size w ((w.alloc (.map #[] 0)).alloc (.cells #[.map (some w.heap.size), .int .i64 (k : Int), .int .i64 (-1), .bool false] 55)) := ((Below.refl _ w).alloc (Nat.le_refl _) _).alloc (by simp) _
  refine ⟨w.heap.size + 1, rfl, ⟨w.heap.size, [], ?_, ?_, ?_, (fun p hp => by cases hp), fun j hj => ?_⟩, hb⟩
  · exact { cells := by
              have := (MapKept.heap_alloc (w.alloc (.map #[] 0)) (.cells #[.map (some w.heap.size), .int .i64 (k : Int), .int .i64 (-1), .bool false] 55)).1
              simp only [World.size_alloc] at this
              rw [show (fresh q).quota = k from HK.out.symm]
              exact this
            map := (World.ownsMap_made w Try.prog 9 fel).alloc _
            own := fun p hp => by cases hp
            apart := fun p hp => by cases hp
            fs := rfl
            rise := List.Pairwise.nil
            sure := fun p hp => by cases hp
            small := fun p hp => by cases hp
            short := fun p hp => by cases hp
            quota := by rw [show (fresh q).quota = k from HK.out.symm]; exact hkq
            fuse := by show -9223372036854775808 ≤ (-1 : Int) ∧ (-1 : Int) < 9223372036854775808; omega }
  · exact .inr ⟨by omega, by simp⟩
  · exact .inr ⟨by omega, by simp; omega⟩
  · rcases hj with hj | hj
    · exact hj.elim
    · exact hj.2
end Go.Proofs.Ytdaipoelicpnoaa
