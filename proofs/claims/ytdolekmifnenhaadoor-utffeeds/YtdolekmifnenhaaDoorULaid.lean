/-
  Layer 5 (utf): what the library's two tables hold, and that it lasts over whatever is made anew; utf8.DecodeRune, utf8.FullRune.
-/
import Derived.Test.YtdolekmifnenhaaDoorShelf
import Derived.Test.YtdolekmifnenhaaDoorRows
import Derived.Test.YtdolekmifnenhaaDoorUMath
import Derived.Test.YtdolekmifnenhaaDoorVMem
import Derived.Shelf.Spec.DecodeRune
import Derived.Lib.Hide
import Derived.BigQuiet
import Derived.Deep.QuietTactic
namespace Go.Proofs.YtdolekmifnenhaaDoor
open Go.RowKit Go.Lib

theorem below_next {w w1 w2 : World} (h : Below w.heap.size w w1) (k : Below w1.heap.size w1 w2) : Below w.heap.size w w2 := h.trans (k.mono h.size)
theorem below_at {B : Nat} {w w1 w2 : World} (h : Below B w w1) (hB : B ≤ w1.heap.size) (k : Below w1.heap.size w1 w2) : Below B w w2 := h.trans (k.mono hB)

/-- What reading runes reads. -/
structure Utf (w : World) : Prop where
  tabs : Lib.Utf8Tabs 0 1 w
  room : 1 < w.heap.size
theorem Utf.on {w w' : World} {B : Nat} (h : Utf w) (b : Below B w w') (hB : 2 ≤ B) : Utf w' := by
  obtain ⟨⟨h1, h2⟩, h3⟩ := h
  refine ⟨⟨fun c hc => ?_, fun i hi => ?_⟩, Nat.lt_of_lt_of_le h3 b.size⟩
  · rw [b.cell (p := ⟨0, c, none⟩) (by show 0 < _; omega)]; exact h1 c hc
  · obtain ⟨k1, k2⟩ := h2 i hi
    refine ⟨?_, ?_⟩
    · rw [b.cell (by show 1 < _; omega)]; exact k1
    · rw [b.cell (by show 1 < _; omega)]; exact k2

/-- Bytes as natural numbers. -/
def nat8 (l : List UInt8) : List Nat := l.map UInt8.toNat
theorem nat8_len (l : List UInt8) : (nat8 l).length = l.length := by simp [nat8]
theorem nat8_drop (l : List UInt8) (k : Nat) : (nat8 l).drop k = nat8 (l.drop k) := by simp [nat8]
theorem nat8_get (l : List UInt8) (k : Nat) : (nat8 l).getD k 0 = (l.getD k 0).toNat := by
  unfold nat8
  rcases Nat.lt_or_ge k l.length with h | h
  · simp [h]
  · simp [List.getD, List.getElem?_eq_none h]

theorem decodeGo_L (l : List UInt8) (h : l ≠ []) : Lib.decodeGo ⟨l.toArray⟩ = decodeL l := by
  unfold Lib.decodeGo decodeL
  rw [if_neg]
  intro e
  have : l.length = 0 := by simpa [ByteArray.size] using e
  exact h (List.length_eq_zero_iff.1 this)

theorem decode_ok (w : World) (hT : Utf w) (l : List UInt8) (hl : l ≠ []) (A : Option Addr) (c B : Nat) (hr : Row w B .u8 A (nat8 l)) :
    Calls Tryd.prog 20 #[.slice A l.length c] w fun e w' => e = .returned (.tuple #[.int .i32 ((decodeL l).1 : Int), .int .i64 ((decodeL l).2 : Int)]) ∧ Below w.heap.size w w' := by
  obtain ⟨b, off, rfl, _, hc⟩ := hr (by rw [nat8_len]; exact List.length_pos_iff.2 hl)
  have key := Any7.utf8_DecodeRune Tryd.lays32 ⟨l.toArray⟩ b off c w hT.tabs (fun j hj => by
    have hj' : j < l.length := by simpa [ByteArray.size] using hj
    have := hc j (by rw [nat8_len]; exact hj')
    rw [this, nat8_get]
    congr 3
    show (l.getD j 0).toNat = ((l.toArray)[j]!).toNat
    rw [getElem!_pos l.toArray j (by simpa using hj')]
    simp [hj'])
  rw [decodeGo_L l hl] at key
  exact key

theorem below_drewN {B : Nat} {a w : World} (h : Below B a w) (n : Nat) : Below B a (w.drewN n) := ⟨h.os, h.tape, h.output, h.size, h.block⟩

set_option maxRecDepth 100000 in
set_option maxHeartbeats 4000000 in
theorem fullRune_N (w : World) (hT : Utf w) (b off c n x0 x1 x2 : Nat) (hn : 0 < n) (hm : n ≤ 1000) (l0 : x0 < 256) (h0 : w.cell? ⟨b, off, none⟩ = some (.int .u8 x0))
    (h1 : 1 < n → w.cell? ⟨b, off + 1, none⟩ = some (.int .u8 x1)) (h2 : 2 < n → w.cell? ⟨b, off + 2, none⟩ = some (.int .u8 x2)) :
    Calls Tryd.prog 19 #[.slice (some ⟨b, off, none⟩) n c] w fun e w' => e = .returned (.bool (UM.fullN n x0 x1 x2)) ∧ Below w.heap.size w w' := by
  have hc0 := hT.tabs.1 x0 l0
  have hA := hT.tabs.2
  have hb : b < w.heap.size := World.block_lt_of_cell? w _ h0
  have hz : (0 : Int) < (n : Int) := by omega
  have hz' : ((n : Int) == 0) = false := by simp; omega
  clear hT
  rcases UM.firstT_nine x0 with hX | hX | hX | hX | hX | hX | hX | hX | hX
  · have hf : UM.fullN n x0 x1 x2 = true := by simp [UM.fullN, hX, hn]
    rw [hf]; rw [hX] at hc0
    clear hf hX hA h1 h2
    go_enter Tryd.func19, Tryd.ntmps19
    go_wp2
    go_ret
    exact ⟨rfl, Below.refl _ _⟩
  · have hf : UM.fullN n x0 x1 x2 = true := by simp [UM.fullN, hX, hn]; omega
    rw [hf]; rw [hX] at hc0
    have h1n : (1 : Int) ≤ (n : Int) := by omega
    clear hf hX hA h1 h2
    go_enter Tryd.func19, Tryd.ntmps19
    go_wp2
    go_ret
    exact ⟨rfl, Below.refl _ _⟩
  all_goals
    have ha0 := (hA (firstT x0 / 16) (by omega)).1
    have ha1 := (hA (firstT x0 / 16) (by omega)).2
    clear hA
    by_cases hs : firstT x0 % 8 ≤ n
    · have hf : UM.fullN n x0 x1 x2 = true := by simp [UM.fullN, hn, hs]
      rw [hf]; rw [hX] at hc0 hs
      simp only [Nat.reduceMod] at hs
      clear hf hX h1 h2 ha0 ha1
      go_enter Tryd.func19, Tryd.ntmps19
      go_wp2
      go_ret
      exact ⟨rfl, Below.refl _ _⟩
    · have hf : UM.fullN n x0 x1 x2 = ((decide (1 < n) && (decide (x1 < accLo (firstT x0 / 16)) || decide (accHi (firstT x0 / 16) < x1))) || (decide (2 < n) && (decide (x2 < 128) || decide (191 < x2)))) := by simp [UM.fullN, hn, hs]
      rw [hf]
      obtain ⟨lo, hlo⟩ : ∃ lo, accLo (firstT x0 / 16) = lo := ⟨_, rfl⟩
      obtain ⟨hi, hhi⟩ : ∃ hi, accHi (firstT x0 / 16) = hi := ⟨_, rfl⟩
      rw [hlo] at ha0 ⊢
      rw [hhi] at ha1 ⊢
      rw [hX] at hc0 hs ha0 ha1
      simp only [Nat.reduceMul, Nat.reduceAdd, Nat.reduceMod, Nat.reduceDiv, Nat.not_le] at hs ha0 ha1
      clear hf hX hlo hhi
      rcases (by omega : n = 1 ∨ n = 2 ∨ n = 3) with g1 | g1 | g1
      · subst g1
        clear h1 h2
        go_enter Tryd.func19, Tryd.ntmps19
        go_wp2
        go_quiet (fail)
        go_wp2
        go_ret
        exact ⟨rfl, below_drewN ((Below.refl _ _).alloc (Nat.le_refl _) _) _⟩
      · subst g1
        have r1 := h1 (by omega)
        clear h1 h2
        first
        | (exfalso; omega)
        | (rcases hk1 : decide (x1 < lo) with _ | _
           · rcases hk2 : decide (hi < x1) with _ | _
             all_goals
              (go_enter Tryd.func19, Tryd.ntmps19; go_wp2; go_quiet (fail); go_wp2; go_ret; exact ⟨rfl, below_drewN ((Below.refl _ _).alloc (Nat.le_refl _) _) _⟩)
           · (go_enter Tryd.func19, Tryd.ntmps19; go_wp2; go_quiet (fail); go_wp2; go_ret; exact ⟨rfl, below_drewN ((Below.refl _ _).alloc (Nat.le_refl _) _) _⟩))
      · subst g1
        have r1 := h1 (by omega)
        have r2 := h2 (by omega)
        clear h1 h2
        first
        | (exfalso; omega)
        | (rcases hk1 : decide (x1 < lo) with _ | _
           · rcases hk2 : decide (hi < x1) with _ | _
             · rcases hk3 : decide (x2 < 128) with _ | _
               · have h3 : ¬ ((x2 : Int) < 128) := by have := of_decide_eq_false hk3; omega
                 rcases hk4 : decide (191 < x2) with _ | _
                 · have h4 : ¬ ((191 : Int) < (x2 : Int)) := by have := of_decide_eq_false hk4; omega
                   (go_enter Tryd.func19, Tryd.ntmps19; go_wp2; go_quiet (fail); go_wp2; go_ret; exact ⟨rfl, below_drewN ((Below.refl _ _).alloc (Nat.le_refl _) _) _⟩)
                 · have h4 : (191 : Int) < (x2 : Int) := by have := of_decide_eq_true hk4; omega
                   (go_enter Tryd.func19, Tryd.ntmps19; go_wp2; go_quiet (fail); go_wp2; go_ret; exact ⟨rfl, below_drewN ((Below.refl _ _).alloc (Nat.le_refl _) _) _⟩)
               · have h3 : (x2 : Int) < 128 := by have := of_decide_eq_true hk3; omega
                 (go_enter Tryd.func19, Tryd.ntmps19; go_wp2; go_quiet (fail); go_wp2; go_ret; exact ⟨rfl, below_drewN ((Below.refl _ _).alloc (Nat.le_refl _) _) _⟩)
             · (go_enter Tryd.func19, Tryd.ntmps19; go_wp2; go_quiet (fail); go_wp2; go_ret; exact ⟨rfl, below_drewN ((Below.refl _ _).alloc (Nat.le_refl _) _) _⟩)
           · (go_enter Tryd.func19, Tryd.ntmps19; go_wp2; go_quiet (fail); go_wp2; go_ret; exact ⟨rfl, below_drewN ((Below.refl _ _).alloc (Nat.le_refl _) _) _⟩))

theorem full_ok (w : World) (hT : Utf w) (l : List UInt8) (hl : l.length ≤ 1000) (A : Option Addr) (c B : Nat) (hr : Row w B .u8 A (nat8 l)) :
    Calls Tryd.prog 19 #[.slice A l.length c] w fun e w' => e = .returned (.bool (UM.full l)) ∧ Below w.heap.size w w' := by
  rcases l with _ | ⟨a, t⟩
  · rw [UM.full_nil]
    clear hr hT hl
    go_enter Tryd.func19, Tryd.ntmps19
    go_wp2
    go_ret
    exact ⟨rfl, Below.refl _ _⟩
  · obtain ⟨b, off, rfl, _, hc⟩ := hr (by simp [nat8])
    refine fullRune_N w hT b off c (a :: t).length _ _ _ (by simp) hl (UInt8.toNat_lt _) ?_ (fun h => ?_) (fun h => ?_)
    · have := hc 0 (by simp [nat8]); rwa [nat8_get] at this
    · have := hc 1 (by rw [nat8_len]; exact h); rwa [nat8_get] at this
    · have := hc 2 (by rw [nat8_len]; exact h); rwa [nat8_get] at this
end Go.Proofs.YtdolekmifnenhaaDoor
