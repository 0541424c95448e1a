/-
  Layer 3 (json): the two conversions between a text and its runes, as the walks meet them.
-/
import Derived.Test.YtciogdhapogolaaDoorJQuote
import Derived.Laws.Cover4
set_option linter.unusedVariables false
namespace Go.Proofs.YtciogdhapogolaaDoor
open Go.RowKit

abbrev ri (r : Nat) : Value := .int .i32 (r : Int)
theorem runesFrom_eq (s : ByteArray) : ∀ (bound i : Nat) (acc : Array Value), Conv.runesFrom s bound i acc = acc ++ ((JM.runesN bound (s.data.toList.drop i)).map ri).toArray
  | 0, i, acc => by simp [Conv.runesFrom, JM.runesN]
  | bound + 1, i, acc => by
    unfold Conv.runesFrom JM.runesN
    by_cases h : i < s.size
    · have hne : s.data.toList.drop i ≠ [] := drop_ne (by rw [← Lib.size_eq]; exact h)
      rw [if_pos h, if_neg hne]
      have hd := Lib.decodeL_drop s i
      simp only
      rw [runesFrom_eq s bound _ _, ← hd, List.drop_drop]
      simp [ri]
    · have he : s.data.toList.drop i = [] := List.drop_eq_nil_of_le (by rw [← Lib.size_eq]; omega)
      rw [if_neg h, if_pos he]
      simp

/-- A slice of runes of the call's own reads so. -/
def Runs (w : World) (a : Addr) (rs : List Nat) : Prop := ∀ (j : Nat) (r : Nat), rs[j]? = some r → w.cell? (a.add j) = some (ri r)

theorem run_runes (w : World) (s : ByteArray) (hs : s.size ≤ 1000000) :
    ∃ cap W, (convert 9 39 (.string s)).run Tryd.prog w = .ok (.slice (some ⟨w.heap.size, 0, none⟩) (JM.runes s.data.toList).length cap) W ∧ Below w.heap.size w W ∧ W.heap.size = w.heap.size + 1 ∧
      Runs W ⟨w.heap.size, 0, none⟩ (JM.runes s.data.toList) ∧ (JM.runes s.data.toList).length ≤ cap := by
  have hrf : Conv.runesFrom s s.size 0 #[] = ((JM.runes s.data.toList).map ri).toArray := by
    rw [runesFrom_eq, List.drop_zero, Lib.size_eq]
    simp [JM.runes]
  have hl := JM.runes_len s.data.toList
  rw [← Lib.size_eq] at hl
  have key := run_runes_of_string (P := Tryd.prog) w 9 39 21 s Tryd.underlying9 Tryd.underlying39 Tryd.underlying21 (by rw [hrf]; simp; omega)
  rw [hrf] at key
  simp only [List.size_toArray, List.length_map] at key
  refine ⟨_, _, key, ((Below.refl _ w).drew).alloc (Nat.le_refl _) _, by simp, ?_, grownCap_ge w _ 0 _⟩
  intro j r hj
  have hjl : j < (JM.runes s.data.toList).length := (List.getElem?_eq_some_iff.1 hj).1
  have e0 : (⟨w.heap.size, 0, none⟩ : Addr).add j = ⟨w.drew.heap.size, j, none⟩ := by simp [Addr.add]; exact fun h => h.symm
  rw [e0, World.cell?_alloc_mark, Array.getElem?_append, if_pos (by simpa using hjl)]
  simp [hj]

theorem runesBytes_eq : ∀ (rs : List Nat) (acc : List UInt8), (∀ r ∈ rs, r ≤ 1114111) → (rs.map (fun r : Nat => (r : Int))).foldl (fun x n => x ++ Utf8.encode n) (tx acc) = tx (acc ++ rs.flatMap JM.enc)
  | [], acc, _ => by simp
  | r :: rs, acc, h => by
    rw [List.map_cons, List.foldl_cons, encode_enc r (h r (by simp)), tx_add, runesBytes_eq rs _ (fun x hx => h x (by simp [hx]))]
    simp
theorem run_back (w : World) (a : Addr) (cap : Nat) (rs : List Nat) (hr : ∀ r ∈ rs, r ≤ 1114111) (h : Runs w a rs) :
    (convert 39 9 (.slice (some a) rs.length cap)).run Tryd.prog w = .ok (.string (tx (rs.flatMap JM.enc))) w := by
  have key := run_convert_runes (P := Tryd.prog) w 39 9 21 a rs.length cap (rs.map fun r : Nat => (r : Int)) (by simp) Tryd.underlying39 Tryd.underlying21 Tryd.underlying9 (fun j hj => by
    have hj' : j < rs.length := by simpa using hj
    have e : (rs.map fun r : Nat => (r : Int)).getD j 0 = (rs[j] : Int) := by simp [List.getD, hj']
    rw [h j rs[j] (List.getElem?_eq_getElem hj'), e])
  rw [key, List.take_of_length_le (by simp)]
  have := runesBytes_eq rs [] hr
  unfold runesBytes
  have e0 : ByteArray.empty = tx [] := rfl
  rw [e0, this]
  simp
/-- A text of one rune, or of two bytes, that lie in a new row. -/
theorem run_one (w : World) (r : Nat) (z : Int) (hz : z = r) (hr : r ≤ 1114111) :
    (convert 39 9 (.slice (some ⟨w.heap.size, 0, none⟩) 1 1)).run Tryd.prog (w.alloc (.cells #[.int .i32 z] 21)) = .ok (.string (tx (JM.enc r))) (w.alloc (.cells #[.int .i32 z] 21)) := by
  subst hz
  have := run_back (w.alloc (.cells #[.int .i32 r] 21)) ⟨w.heap.size, 0, none⟩ 1 [r] (by simpa using hr) (by
    intro j x hj
    match j, hj with
    | 0, hj => simp at hj; subst hj; simp [Addr.add, ri])
  simpa using this
theorem run_two (w : World) (a b : UInt8) (x y : Int) (hx : x = a.toNat) (hy : y = b.toNat) :
    (convert 37 9 (.slice (some ⟨w.heap.size, 0, none⟩) 2 2)).run Tryd.prog (w.alloc (.cells #[.int .u8 x, .int .u8 y] 5)) = .ok (.string (tx [a, b])) (w.alloc (.cells #[.int .u8 x, .int .u8 y] 5)) := by
  subst hx hy
  have := run_convert_bytes_back (P := Tryd.prog) (w.alloc (.cells #[.int .u8 a.toNat, .int .u8 b.toNat] 5)) 37 9 5 ⟨w.heap.size, 0, none⟩ 2 [a, b] Tryd.underlying37 Tryd.underlying5 Tryd.underlying9 (by
    intro j hj
    match j, hj with
    | 0, _ => simp [Addr.add]
    | 1, _ => simp [Addr.add])
  exact this
theorem good_le {r : Nat} (h : JM.good r) : r ≤ 1114111 := by unfold JM.good at h; omega
end Go.Proofs.YtciogdhapogolaaDoor
