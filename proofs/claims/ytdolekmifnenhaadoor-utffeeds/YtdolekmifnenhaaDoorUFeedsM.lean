/-
  UtfFeeds: a Decoder that bytes led to is right; the bytes under way are the last ones of the text.
-/
import Derived.Test.YtdolekmifnenhaaDoorURight
namespace Go.Proofs.YtdolekmifnenhaaDoor
open Go.RowKit Go.Lib

theorem under_of (u : List UInt8) (h : u.length ≤ 3) : under (u.getD 0 0) (u.getD 1 0) (u.getD 2 0) (u.length : Int) = u := by
  unfold under
  rw [near_of _ h]
  match u, h with
  | [], _ => rfl
  | [_], _ => rfl
  | [_, _], _ => rfl
  | [_, _, _], _ => rfl
theorem right_true (w : World) (hT : Utf w) (u : List UInt8) (hu : UM.full u = false) :
    Calls Tryd.prog 11 #[holdV (nat8 u)] w fun e w' => e = .returned (.bool true) ∧ Below w.heap.size w w' := by
  have h3 := UM.full_long hu
  have key := right_ok w hT (u.getD 0 0) (u.getD 1 0) (u.getD 2 0) (u.length : Int)
  have hB : holdsB (u.getD 0 0) (u.getD 1 0) (u.getD 2 0) (u.length : Int) = true := by
    unfold holdsB
    rw [under_of u h3, near_of _ h3, nat8_get, nat8_get, nat8_get]
    simp
  rw [under_of u h3, hB, hu] at key
  have hV : holdV (nat8 u) = decV (u.getD 0 0).toNat (u.getD 1 0).toNat (u.getD 2 0).toNat (u.length : Int) := by
    unfold holdV
    rw [nat8_get, nat8_get, nat8_get, nat8_len]
  rw [hV]
  exact key

/-- The bytes of a text from i to j. -/
theorem str_nat8 (u : List UInt8) : (str (nat8 u)).data.toList = u := by
  rw [str_list]
  unfold nat8
  rw [List.map_map]
  conv => rhs; rw [← List.map_id u]
  exact List.map_congr_left fun c _ => by simp
theorem part_is (s : ByteArray) (k m : Nat) (u p : List UInt8) (hk : k ≤ s.size) (hu : u.length = m) (hp : (bytesOf s).take k = p ++ u) : s.extract (k - m) k = str (nat8 u) := by
  refine ByteArray.ext (Array.toList_inj.1 ?_)
  rw [str_nat8, ByteArray.data_extract, Array.toList_extract, List.extract_eq_take_drop]
  have hl : ((bytesOf s).take k).length = k := by rw [List.length_take, bytes_len]; omega
  rw [hp, List.length_append, hu] at hl
  have h2 : ((bytesOf s).take k).drop (k - m) = u := by
    rw [hp, List.drop_append_of_le_length (by omega), List.drop_of_length_le (by omega), List.nil_append]
  rw [← h2, List.drop_take]
  rfl
theorem run_part (s : ByteArray) (k m : Nat) (u p : List UInt8) (hk : k + 1 ≤ s.size) (hm : m ≤ k + 1) (hu : u.length = m) (hp : (bytesOf s).take (k + 1) = p ++ u) (w : World) :
    (Instr.slice 9 (.string s) (some (.int .i64 ((k : Int) + 1 - (m : Int)))) (some (.int .i64 ((k : Int) + 1))) none).run Tryd.prog w = .ok (.string (str (nat8 u))) w := by
  rw [run_slice_string_if (P := Tryd.prog) w 9 s .i64 .i64 ((k : Int) + 1 - (m : Int)) ((k : Int) + 1) Tryd.underlying9]
  rw [if_pos (by omega), if_pos (by omega)]
  have e1 : ((k : Int) + 1 - (m : Int)).toNat = k + 1 - m := by omega
  have e2 : ((k : Int) + 1).toNat = k + 1 := by omega
  rw [e1, e2, part_is s (k + 1) m u p hk hu hp]
/-- The last of some numbers. -/
theorem row_last {w : World} {B : Nat} {A : Option Addr} {l : List Nat} {c : Nat} (h : Row w B .i32 A (l ++ [c])) : ∃ b off, A = some ⟨b, off, none⟩ ∧ w.cell? ⟨b, off + l.length, none⟩ = some (.int .i32 (c : Int)) := by
  obtain ⟨b, off, e, _, hc⟩ := h (by simp)
  have := hc l.length (by simp)
  refine ⟨b, off, e, ?_⟩
  rw [this]
  simp

/-- What holds while UtfFeeds goes through a text: behind k bytes; W is the world in which its Decoder was laid, at block g. -/
structure FF (w wr : World) (s : ByteArray) (k : Nat) : Prop where
  below : Below w.heap.size w wr
  dec : ∃ (x y z : Nat), holdV (nat8 (UM.feeds [] ((bytesOf s).take k)).2) = decV x y z ((UM.feeds [] ((bytesOf s).take k)).2.length : Int) ∧ wr.heap[w.heap.size]? = some (.cells #[.int .u8 (x : Int), .int .u8 (y : Int), .int .u8 (z : Int), .int .i64 ((UM.feeds [] ((bytesOf s).take k)).2.length : Int)] 29)
theorem hold_is (u : List UInt8) (hu : u.length ≤ 3) : ∃ (x y z : Nat), holdV (nat8 u) = decV x y z (u.length : Int) ∧ ∀ (W : World) (g : Nat) (n : Int), W.heap[g]? = some (.cells #[.int .u8 (x : Int), .int .u8 (y : Int), .int .u8 (z : Int), .int .i64 n] 29) → Row W W.heap.size .u8 (some ⟨g, 0, none⟩) (nat8 u) :=
  ⟨_, _, _, by unfold holdV; rw [nat8_len], fun _ _ _ h => dec_row hu h⟩
theorem run_first3 (g : Nat) (n : Nat) (h : n ≤ 3) (w : World) : (Instr.sliceAt 27 (.pointer (some ⟨g, 0, none⟩)) none (some (.int .i64 (n : Int))) none).run Tryd.prog w = .ok (.slice (some ⟨g, 0, none⟩) n 3) w := by
  have ha : Tryd.prog.arrayLen 27 = 3 := by kernel_rfl
  have hs : (sizeOf (Tryd.prog.elem 27)).run Tryd.prog w = .ok 1 w := by kernel_rfl
  rw [run_sliceAt_array_h (P := Tryd.prog) w 27 ⟨g, 0, none⟩ (by kernel_rfl) .i64 (n : Int) (by omega) (by rw [ha]; omega), hs, ha]
  simp [Result.andThen, slicedAt, Addr.add]
theorem told_le (s : ByteArray) (k : Nat) (hs : s.size ≤ 1000) : (UM.feeds [] ((bytesOf s).take k)).1.length ≤ 1000 := by
  have h1 := UM.feeds_count ((bytesOf s).take k) []
  have h2 : ((bytesOf s).take k).length ≤ s.size := by rw [List.length_take, bytes_len]; omega
  simp at h1 h2
  omega
end Go.Proofs.YtdolekmifnenhaaDoor
