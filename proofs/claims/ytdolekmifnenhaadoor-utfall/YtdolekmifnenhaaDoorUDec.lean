/-
  Layer 5 (utf): a Decoder's bytes, and the Decoder of some bytes.
-/
import Derived.Test.YtdolekmifnenhaaDoorULaid
import Derived.Test.YtdolekmifnenhaaDoorFBytes
import Derived.Laws.IdiomCopy
import Derived.Lib.MinMax
namespace Go.Proofs.YtdolekmifnenhaaDoor
open Go.RowKit Go.Lib

/-- How many bytes are under way: the nearest number that may be. -/
def near (n : Int) : Nat := (min (max n 0) 3).toNat
/-- A Decoder as a value. -/
def decV (x y z : Nat) (n : Int) : Value := .agg #[.int .u8 (x : Int), .int .u8 (y : Int), .int .u8 (z : Int), .int .i64 n]

set_option maxRecDepth 100000 in
set_option maxHeartbeats 400000 in
theorem underWay_ok (w : World) (x y z : Nat) (n : Int) :
    Calls Tryd.prog 17 #[decV x y z n] w fun e w' => e = .returned (.slice (some ⟨w.heap.size, 0, none⟩) (near n) 3) ∧ w' = w.alloc (.cells #[.int .u8 (x : Int), .int .u8 (y : Int), .int .u8 (z : Int), .int .i64 n] 29) := by
  unfold decV
  rcases (by omega : n ≤ 0 ∨ n = 1 ∨ n = 2 ∨ 3 ≤ n) with h | h | h | h
  · have hn : near n = 0 := by unfold near; omega
    have hm : min (max n 0) 3 = 0 := by omega
    have ha : Tryd.prog.arrayLen 27 = 3 := by kernel_rfl
    rw [hn]
    clear hn h
    go_enter Tryd.func17, Tryd.ntmps17
    go_wp2
    go_ret
    exact ⟨rfl, rfl⟩
  · have hn : near n = 1 := by unfold near; omega
    have hm : min (max n 0) 3 = 1 := by omega
    have ha : Tryd.prog.arrayLen 27 = 3 := by kernel_rfl
    rw [hn]
    clear hn h
    go_enter Tryd.func17, Tryd.ntmps17
    go_wp2
    go_ret
    exact ⟨rfl, rfl⟩
  · have hn : near n = 2 := by unfold near; omega
    have hm : min (max n 0) 3 = 2 := by omega
    have ha : Tryd.prog.arrayLen 27 = 3 := by kernel_rfl
    rw [hn]
    clear hn h
    go_enter Tryd.func17, Tryd.ntmps17
    go_wp2
    go_ret
    exact ⟨rfl, rfl⟩
  · have hn : near n = 3 := by unfold near; omega
    have hm : min (max n 0) 3 = 3 := by omega
    have ha : Tryd.prog.arrayLen 27 = 3 := by kernel_rfl
    rw [hn]
    clear hn h
    go_enter Tryd.func17, Tryd.ntmps17
    go_wp2
    go_ret
    exact ⟨rfl, rfl⟩

theorem run_copy (w : World) (g n dc : Nat) (A : Option Addr) (l : List Nat) (c B : Nat) (ty : TypeId) (hr : Row w B .u8 A l) (hn : l.length ≤ n) (hc : ∀ j, j < l.length → (w.cell? ⟨g, j, none⟩).isSome = true) (hf : ∀ j, j < l.length → w.frozen? ⟨g, j, none⟩ = false) :
    (Builtin.copy_ #[32, 32] ty #[.slice (some ⟨g, 0, none⟩) n dc, .slice A l.length c]).run Tryd.prog w = .ok (.int .i64 (l.length : Int)) (w.setCells g 0 (nums .u8 l)) := by
  have hsz : (Tryd.prog.info? 5).map (·.size) = some 1 := by kernel_rfl
  rcases Nat.eq_zero_or_pos l.length with h0 | h0
  · obtain rfl : l = [] := List.length_eq_zero_iff.1 h0
    exact run_copy_none w 32 32 ty 5 (some ⟨g, 0, none⟩) A n dc 0 c Tryd.underlying32 hsz (by simp)
  · obtain ⟨b, off, rfl, _, h⟩ := hr h0
    have key := run_copy_cells (P := Tryd.prog) w 32 32 ty 5 g 0 n dc ⟨b, off, none⟩ l.length c (nums .u8 l) Tryd.underlying32 hsz (by rw [nums_len]; exact (Nat.min_eq_left hn).symm)
      (fun j v hv => by
        have hj : j < l.length := by
          rcases Nat.lt_or_ge j l.length with k | k
          · exact k
          · rw [List.getElem?_eq_none (by rw [nums_len]; exact k)] at hv; cases hv
        have hplain : (⟨b, off, none⟩ : Addr).add j = ⟨b, off + j, none⟩ := by unfold Addr.add; split <;> simp_all
        rw [hplain, h j hj, ← hv]
        simp [nums, hj])
      (fun j hj => by rw [nums_len] at hj; simpa using hc j hj) (fun j hj => by rw [nums_len] at hj; simpa using hf j hj)
      (fun v hv => by obtain ⟨x, _, rfl⟩ := List.mem_map.1 hv; rfl)
    rw [key, nums_len]
    rfl

/-- The Decoder that has these bytes (up to three) under way. -/
def holdV (l : List Nat) : Value := decV (l.getD 0 0) (l.getD 1 0) (l.getD 2 0) (l.length : Int)

set_option maxRecDepth 100000 in
set_option maxHeartbeats 400000 in
theorem holding_ok (w : World) (l : List Nat) (hl : l.length ≤ 3) (A : Option Addr) (c B : Nat) (hr : Row w B .u8 A l) (hB : B ≤ w.heap.size) :
    Calls Tryd.prog 18 #[.slice A l.length c] w fun e w' => e = .returned (holdV l) ∧ Below w.heap.size w w' := by
  obtain ⟨W, hW⟩ : ∃ W, W = ((w.alloc (.cells #[.int .u8 0, .int .u8 0, .int .u8 0, .int .i64 0] 29)).alloc (.cells #[.int .u8 0, .int .u8 0, .int .u8 0, .int .i64 0] 29)) := ⟨_, rfl⟩
  have hb : Below w.heap.size w W := by rw [hW]; exact ((Below.refl _ _).alloc (Nat.le_refl _) _).alloc (by simp) _
  have hrun := run_copy W (w.heap.size + 1) 3 3 A l c B 3 (hr.below (hb.mono hB)) hl (fun j hj => by
    rw [hW]
    rcases (by omega : j = 0 ∨ j = 1 ∨ j = 2) with rfl | rfl | rfl <;> simp) (fun j hj => by rw [hW]; simp)
  rw [hW] at hrun
  clear hr hb hW W
  revert hrun hl
  match l with
  | [] =>
    intro _ hrun
    simp only [nums, List.map_nil, World.setCells, List.length_nil] at hrun ⊢
    go_enter Tryd.func18, Tryd.ntmps18
    go_wp2
    exact bodyPost_ret (v := holdV []) (by simp [results, Tryd.results18, go_sem, holdV, decV]) rfl ⟨rfl, ((Below.refl _ _).alloc (Nat.le_refl _) _).alloc (by simp) _⟩
  | [x] =>
    intro _ hrun
    simp only [nums, List.map_nil, List.map_cons, World.setCells, List.length_nil, List.length_cons, Nat.reduceAdd] at hrun ⊢
    go_enter Tryd.func18, Tryd.ntmps18
    go_wp2
    exact bodyPost_ret (v := holdV [x]) (by simp [results, Tryd.results18, go_sem, holdV, decV]) rfl ⟨rfl, ((Below.refl _ _).alloc (Nat.le_refl _) _).alloc (by simp) _⟩
  | [x, y] =>
    intro _ hrun
    simp only [nums, List.map_nil, List.map_cons, World.setCells, List.length_nil, List.length_cons, Nat.reduceAdd] at hrun ⊢
    go_enter Tryd.func18, Tryd.ntmps18
    go_wp2
    exact bodyPost_ret (v := holdV [x, y]) (by simp [results, Tryd.results18, go_sem, holdV, decV]) rfl ⟨rfl, ((Below.refl _ _).alloc (Nat.le_refl _) _).alloc (by simp) _⟩
  | [x, y, z] =>
    intro _ hrun
    simp only [nums, List.map_nil, List.map_cons, World.setCells, List.length_nil, List.length_cons, Nat.reduceAdd] at hrun ⊢
    go_enter Tryd.func18, Tryd.ntmps18
    go_wp2
    exact bodyPost_ret (v := holdV [x, y, z]) (by simp [results, Tryd.results18, go_sem, holdV, decV]) rfl ⟨rfl, ((Below.refl _ _).alloc (Nat.le_refl _) _).alloc (by simp) _⟩
  | _ :: _ :: _ :: _ :: _ => intro h; simp at h
end Go.Proofs.YtdolekmifnenhaaDoor
