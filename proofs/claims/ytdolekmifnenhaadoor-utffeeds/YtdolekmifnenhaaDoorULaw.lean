/-
  Layer 5's laws: fit, same, the runes of a text by the language.
-/
import Derived.Test.YtdolekmifnenhaaDoorUAll
import Derived.Laws.Cover4
namespace Go.Proofs.YtdolekmifnenhaaDoor
open Go.RowKit Go.Lib

abbrev ri (r : Nat) : Value := .int .i32 (r : Int)
theorem runesFrom_eq (s : ByteArray) : ∀ (bound i : Nat) (acc : Array Value), Conv.runesFrom s bound i acc = acc ++ ((JM.runesN bound (s.data.toList.drop i)).map ri).toArray
  | 0, i, acc => by simp [Conv.runesFrom, JM.runesN]
  | bound + 1, i, acc => by
    unfold Conv.runesFrom JM.runesN
    by_cases h : i < s.size
    · have hne : s.data.toList.drop i ≠ [] := fun e => by
        have := congrArg List.length e
        rw [List.length_drop, ← Lib.size_eq] at this
        simp at this
        omega
      rw [if_pos h, if_neg hne]
      have hd := Lib.decodeL_drop s i
      simp only
      rw [runesFrom_eq s bound _ _, ← hd, List.drop_drop]
      simp [ri]
    · have he : s.data.toList.drop i = [] := List.drop_eq_nil_of_le (by rw [← Lib.size_eq]; omega)
      rw [if_neg h, if_pos he]
      simp

/-- []rune(s): a new row. -/
theorem run_runes (w : World) (s : ByteArray) (hs : s.size ≤ 1000000) :
    ∃ A cap W, (convert 9 24 (.string s)).run Tryd.prog w = .ok (.slice A (JM.runes (bytesOf s)).length cap) W ∧ Below w.heap.size w W ∧ Row W W.heap.size .i32 A (JM.runes (bytesOf s)) := by
  have hrf : Conv.runesFrom s s.size 0 #[] = ((JM.runes s.data.toList).map ri).toArray := by
    rw [runesFrom_eq, List.drop_zero, Lib.size_eq]
    simp [JM.runes]
  have hl := JM.runes_len s.data.toList
  rw [← Lib.size_eq] at hl
  have key := run_runes_of_string (P := Tryd.prog) w 9 24 21 s Tryd.underlying9 Tryd.underlying24 Tryd.underlying21 (by rw [hrf]; simp; omega)
  rw [hrf] at key
  simp only [List.size_toArray, List.length_map] at key
  refine ⟨_, _, _, key, ((Below.refl _ w).drew).alloc (Nat.le_refl _) _, fun _ => ⟨w.heap.size, 0, rfl, by simp, ?_⟩⟩
  intro j hj
  have hj' : j < (JM.runes s.data.toList).length := hj
  rw [Nat.zero_add]
  have e0 : (⟨w.heap.size, j, none⟩ : Addr) = ⟨w.drew.heap.size, j, none⟩ := rfl
  rw [e0, World.cell?_alloc_mark, Array.getElem?_append, if_pos (by simpa using hj')]
  simp [ri, bytesOf, hj']

set_option maxRecDepth 100000 in
set_option maxHeartbeats 1000000 in
theorem same_ok (w : World) (l : List Nat) (hl : l.length ≤ 100000) (A A' : Option Addr) (c c' B B' : Nat) (h : Row w B .i32 A l) (h' : Row w B' .i32 A' l) :
    Calls Tryd.prog 8 #[.slice A l.length c, .slice A' l.length c'] w fun e w' => e = .returned (.bool true) ∧ Below w.heap.size w w' := by
  have HR := Lib.hid h; have HR' := Lib.hid h'
  clear h h'
  go_enter Tryd.func8, Tryd.ntmps8
  go_wp2
  go_loopw [13] (fun i wr => ∃ k n : Nat, k ≤ l.length ∧ i = .int .i64 (k : Int) ∧ wr = w.drewN n) (fun i _ => l.length - (RowKit.intOf i).toNat)
  case atStart => exact ⟨0, 0, Nat.zero_le _, rfl, rfl⟩
  case round =>
    obtain ⟨k, n, hk, rfl, rfl⟩ := hrel
    by_cases hlt : k < l.length
    · obtain ⟨b, off, rfl, _, hc⟩ := HR.out.at_ hlt
      obtain ⟨b', off', rfl, _, hc'⟩ := HR'.out.at_ hlt
      generalize l.getD k 0 = x at *
      go_wp2
      go_quiet (fail)
      go_wp2
      go_roundw
      case rel => exact ⟨k + 1, _, by omega, by go_num, rfl⟩
      case measure => simp [RowKit.intOf]; omega
    · go_wp2
      go_ret
      exact ⟨rfl, below_drewN (Below.refl _ _) _⟩

set_option maxRecDepth 100000 in
set_option maxHeartbeats 1000000 in
theorem fit_ok (w : World) (hT : Utf w) : Calls Tryd.prog 7 #[] w fun e w' => e = .returned (.bool true) ∧ Below w.heap.size w w' := by
  have hr : JM.runes (bytesOf ⟨#[226, 65]⟩) = [65533, 65] := by decide +kernel
  have hc := all_ok w hT ⟨#[226, 65]⟩ (by decide)
  rw [hr] at hc
  have HC := Lib.hid hc
  clear hc hr
  go_enter Tryd.func7, Tryd.ntmps7
  go_wp2_with fail
  refine HC.out.mono ?_
  rintro e w1 ⟨v', rfl, ho, hb⟩
  obtain ⟨A, c, rfl, _, _, _, hr⟩ := ho.form
  obtain ⟨b, off, rfl, _, hcell⟩ := hr (by simp)
  have c0 := hcell 0 (by simp)
  have c1 := hcell 1 (by simp)
  simp only [Nat.add_zero, List.getD_cons_zero, List.getD_cons_succ, List.length_cons, List.length_nil, Nat.reduceAdd] at c0 c1 ⊢
  have HB := Lib.hid hb
  clear ho hb hr hcell
  go_wp2
  go_ret
  exact ⟨rfl, HB.out⟩
end Go.Proofs.YtdolekmifnenhaaDoor
