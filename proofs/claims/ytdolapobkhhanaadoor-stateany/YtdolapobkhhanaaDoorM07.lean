/-
  SUtf, SMathT, in one text.
-/
import Derived.Test.YtdolapobkhhanaaDoorM04
import Derived.Test.YtdolapobkhhanaaDoorM03
import Derived.Test.YtdolapobkhhanaaDoorM06
import Derived.Lib.LaidU8T
import Derived.Laws.IdiomCopy
import Derived.Lib.MinMax
import Derived.ChangeKeysEq
import Derived.Deep.RegionHeld3
/-
  Layer 5 (utf), for layer 11: what the library's two tables hold; utf8.FullRune; a Decoder's bytes, and the Decoder of some bytes; Right.
-/
namespace Go.Proofs.YtdolapobkhhanaaDoor
open Go.RowKit Go.Lib

theorem below_at {B : Nat} {w w1 w2 : World} (h : Below B w w1) (hB : B ≤ w1.heap.size) (k : Below w1.heap.size w1 w2) : Below B w w2 := h.trans (k.mono hB)
theorem below_next' {w w1 w2 : World} (h : Below w.heap.size w w1) (k : Below w1.heap.size w1 w2) : Below w.heap.size w w2 := h.trans (k.mono h.size)
/-- What reading runes reads. -/
structure Utf (w : World) : Prop where
  tabs : Lib.Utf8Tabs 0 1 w
  room : 1 < w.heap.size
theorem Utf.on {w w' : World} {B : Nat} (h : Utf w) (b : Below B w w') (hB : 2 ≤ B) : Utf w' := by
  obtain ⟨⟨h1, h2⟩, h3⟩ := h
  refine ⟨⟨fun c hc => ?_, fun i hi => ?_⟩, Nat.lt_of_lt_of_le h3 b.size⟩
  · rw [b.cell (p := ⟨0, c, none⟩) (by show 0 < _; omega)]; exact h1 c hc
  · obtain ⟨k1, k2⟩ := h2 i hi
    refine ⟨?_, ?_⟩
    · rw [b.cell (by show 1 < _; omega)]; exact k1
    · rw [b.cell (by show 1 < _; omega)]; exact k2

/-- Bytes as natural numbers. -/
def nat8 (l : List UInt8) : List Nat := l.map UInt8.toNat
theorem nat8_len (l : List UInt8) : (nat8 l).length = l.length := by simp [nat8]
theorem nat8_drop (l : List UInt8) (k : Nat) : (nat8 l).drop k = nat8 (l.drop k) := by simp [nat8]
theorem nat8_get (l : List UInt8) (k : Nat) : (nat8 l).getD k 0 = (l.getD k 0).toNat := by
  unfold nat8
  rcases Nat.lt_or_ge k l.length with h | h
  · simp [h]
  · simp [List.getD, List.getElem?_eq_none h]

set_option maxRecDepth 100000 in
set_option maxHeartbeats 4000000 in
theorem fullRune_N (w : World) (hT : Utf w) (b off c n x0 x1 x2 : Nat) (hn : 0 < n) (hm : n ≤ 1000) (l0 : x0 < 256) (h0 : w.cell? ⟨b, off, none⟩ = some (.int .u8 x0))
    (h1 : 1 < n → w.cell? ⟨b, off + 1, none⟩ = some (.int .u8 x1)) (h2 : 2 < n → w.cell? ⟨b, off + 2, none⟩ = some (.int .u8 x2)) :
    Calls Tryd.prog 38 #[.slice (some ⟨b, off, none⟩) n c] w fun e w' => e = .returned (.bool (UM.fullN n x0 x1 x2)) ∧ Below w.heap.size w w' := by
  have hc0 := hT.tabs.1 x0 l0
  have hA := hT.tabs.2
  have hb : b < w.heap.size := World.block_lt_of_cell? w _ h0
  have hz : (0 : Int) < (n : Int) := by omega
  have hz' : ((n : Int) == 0) = false := by simp; omega
  clear hT
  rcases UM.firstT_nine x0 with hX | hX | hX | hX | hX | hX | hX | hX | hX
  · have hf : UM.fullN n x0 x1 x2 = true := by simp [UM.fullN, hX, hn]
    rw [hf]; rw [hX] at hc0
    clear hf hX hA h1 h2
    go_enter Tryd.func38, Tryd.ntmps38
    go_wp2
    go_ret
    exact ⟨rfl, Below.refl _ _⟩
  · have hf : UM.fullN n x0 x1 x2 = true := by simp [UM.fullN, hX, hn]; omega
    rw [hf]; rw [hX] at hc0
    have h1n : (1 : Int) ≤ (n : Int) := by omega
    clear hf hX hA h1 h2
    go_enter Tryd.func38, Tryd.ntmps38
    go_wp2
    go_ret
    exact ⟨rfl, Below.refl _ _⟩
  all_goals
    have ha0 := (hA (firstT x0 / 16) (by omega)).1
    have ha1 := (hA (firstT x0 / 16) (by omega)).2
    clear hA
    by_cases hs : firstT x0 % 8 ≤ n
    · have hf : UM.fullN n x0 x1 x2 = true := by simp [UM.fullN, hn, hs]
      rw [hf]; rw [hX] at hc0 hs
      simp only [Nat.reduceMod] at hs
      clear hf hX h1 h2 ha0 ha1
      go_enter Tryd.func38, Tryd.ntmps38
      go_wp2
      go_ret
      exact ⟨rfl, Below.refl _ _⟩
    · have hf : UM.fullN n x0 x1 x2 = ((decide (1 < n) && (decide (x1 < accLo (firstT x0 / 16)) || decide (accHi (firstT x0 / 16) < x1))) || (decide (2 < n) && (decide (x2 < 128) || decide (191 < x2)))) := by simp [UM.fullN, hn, hs]
      rw [hf]
      obtain ⟨lo, hlo⟩ : ∃ lo, accLo (firstT x0 / 16) = lo := ⟨_, rfl⟩
      obtain ⟨hi, hhi⟩ : ∃ hi, accHi (firstT x0 / 16) = hi := ⟨_, rfl⟩
      rw [hlo] at ha0 ⊢
      rw [hhi] at ha1 ⊢
      rw [hX] at hc0 hs ha0 ha1
      simp only [Nat.reduceMul, Nat.reduceAdd, Nat.reduceMod, Nat.reduceDiv, Nat.not_le] at hs ha0 ha1
      clear hf hX hlo hhi
      rcases (by omega : n = 1 ∨ n = 2 ∨ n = 3) with g1 | g1 | g1
      · subst g1
        clear h1 h2
        go_enter Tryd.func38, Tryd.ntmps38
        go_wp2
        go_quiet (fail)
        go_wp2
        go_ret
        exact ⟨rfl, below_drewN ((Below.refl _ _).alloc (Nat.le_refl _) _) _⟩
      · subst g1
        have r1 := h1 (by omega)
        clear h1 h2
        first
        | (exfalso; omega)
        | (rcases hk1 : decide (x1 < lo) with _ | _
           · rcases hk2 : decide (hi < x1) with _ | _
             all_goals
              (go_enter Tryd.func38, Tryd.ntmps38; go_wp2; go_quiet (fail); go_wp2; go_ret; exact ⟨rfl, below_drewN ((Below.refl _ _).alloc (Nat.le_refl _) _) _⟩)
           · (go_enter Tryd.func38, Tryd.ntmps38; go_wp2; go_quiet (fail); go_wp2; go_ret; exact ⟨rfl, below_drewN ((Below.refl _ _).alloc (Nat.le_refl _) _) _⟩))
      · subst g1
        have r1 := h1 (by omega)
        have r2 := h2 (by omega)
        clear h1 h2
        first
        | (exfalso; omega)
        | (rcases hk1 : decide (x1 < lo) with _ | _
           · rcases hk2 : decide (hi < x1) with _ | _
             · rcases hk3 : decide (x2 < 128) with _ | _
               · have h3 : ¬ ((x2 : Int) < 128) := by have := of_decide_eq_false hk3; omega
                 rcases hk4 : decide (191 < x2) with _ | _
                 · have h4 : ¬ ((191 : Int) < (x2 : Int)) := by have := of_decide_eq_false hk4; omega
                   (go_enter Tryd.func38, Tryd.ntmps38; go_wp2; go_quiet (fail); go_wp2; go_ret; exact ⟨rfl, below_drewN ((Below.refl _ _).alloc (Nat.le_refl _) _) _⟩)
                 · have h4 : (191 : Int) < (x2 : Int) := by have := of_decide_eq_true hk4; omega
                   (go_enter Tryd.func38, Tryd.ntmps38; go_wp2; go_quiet (fail); go_wp2; go_ret; exact ⟨rfl, below_drewN ((Below.refl _ _).alloc (Nat.le_refl _) _) _⟩)
               · have h3 : (x2 : Int) < 128 := by have := of_decide_eq_true hk3; omega
                 (go_enter Tryd.func38, Tryd.ntmps38; go_wp2; go_quiet (fail); go_wp2; go_ret; exact ⟨rfl, below_drewN ((Below.refl _ _).alloc (Nat.le_refl _) _) _⟩)
             · (go_enter Tryd.func38, Tryd.ntmps38; go_wp2; go_quiet (fail); go_wp2; go_ret; exact ⟨rfl, below_drewN ((Below.refl _ _).alloc (Nat.le_refl _) _) _⟩)
           · (go_enter Tryd.func38, Tryd.ntmps38; go_wp2; go_quiet (fail); go_wp2; go_ret; exact ⟨rfl, below_drewN ((Below.refl _ _).alloc (Nat.le_refl _) _) _⟩))

theorem full_ok (w : World) (hT : Utf w) (l : List UInt8) (hl : l.length ≤ 1000) (A : Option Addr) (c B : Nat) (hr : Row w B .u8 A (nat8 l)) :
    Calls Tryd.prog 38 #[.slice A l.length c] w fun e w' => e = .returned (.bool (UM.full l)) ∧ Below w.heap.size w w' := by
  rcases l with _ | ⟨a, t⟩
  · rw [UM.full_nil]
    clear hr hT hl
    go_enter Tryd.func38, Tryd.ntmps38
    go_wp2
    go_ret
    exact ⟨rfl, Below.refl _ _⟩
  · obtain ⟨b, off, rfl, _, hc⟩ := hr (by simp [nat8])
    refine fullRune_N w hT b off c (a :: t).length _ _ _ (by simp) hl (UInt8.toNat_lt _) ?_ (fun h => ?_) (fun h => ?_)
    · have := hc 0 (by simp [nat8]); rwa [nat8_get] at this
    · have := hc 1 (by rw [nat8_len]; exact h); rwa [nat8_get] at this
    · have := hc 2 (by rw [nat8_len]; exact h); rwa [nat8_get] at this
/-- How many bytes are under way: the nearest number that may be. -/
def near (n : Int) : Nat := (min (max n 0) 3).toNat
/-- A Decoder as a value. -/
def decV (x y z : Nat) (n : Int) : Value := .agg #[.int .u8 (x : Int), .int .u8 (y : Int), .int .u8 (z : Int), .int .i64 n]

set_option maxRecDepth 100000 in
set_option maxHeartbeats 400000 in
theorem underWay_ok (w : World) (x y z : Nat) (n : Int) :
    Calls Tryd.prog 36 #[decV x y z n] w fun e w' => e = .returned (.slice (some ⟨w.heap.size, 0, none⟩) (near n) 3) ∧ w' = w.alloc (.cells #[.int .u8 (x : Int), .int .u8 (y : Int), .int .u8 (z : Int), .int .i64 n] 38) := by
  unfold decV
  rcases (by omega : n ≤ 0 ∨ n = 1 ∨ n = 2 ∨ 3 ≤ n) with h | h | h | h
  · have hn : near n = 0 := by unfold near; omega
    have hm : min (max n 0) 3 = 0 := by omega
    have ha : Tryd.prog.arrayLen 36 = 3 := by kernel_rfl
    rw [hn]
    clear hn h
    go_enter Tryd.func36, Tryd.ntmps36
    go_wp2
    go_ret
    exact ⟨rfl, rfl⟩
  · have hn : near n = 1 := by unfold near; omega
    have hm : min (max n 0) 3 = 1 := by omega
    have ha : Tryd.prog.arrayLen 36 = 3 := by kernel_rfl
    rw [hn]
    clear hn h
    go_enter Tryd.func36, Tryd.ntmps36
    go_wp2
    go_ret
    exact ⟨rfl, rfl⟩
  · have hn : near n = 2 := by unfold near; omega
    have hm : min (max n 0) 3 = 2 := by omega
    have ha : Tryd.prog.arrayLen 36 = 3 := by kernel_rfl
    rw [hn]
    clear hn h
    go_enter Tryd.func36, Tryd.ntmps36
    go_wp2
    go_ret
    exact ⟨rfl, rfl⟩
  · have hn : near n = 3 := by unfold near; omega
    have hm : min (max n 0) 3 = 3 := by omega
    have ha : Tryd.prog.arrayLen 36 = 3 := by kernel_rfl
    rw [hn]
    clear hn h
    go_enter Tryd.func36, Tryd.ntmps36
    go_wp2
    go_ret
    exact ⟨rfl, rfl⟩

theorem run_copy (w : World) (g n dc : Nat) (A : Option Addr) (l : List Nat) (c B : Nat) (ty : TypeId) (hr : Row w B .u8 A l) (hn : l.length ≤ n) (hc : ∀ j, j < l.length → (w.cell? ⟨g, j, none⟩).isSome = true) (hf : ∀ j, j < l.length → w.frozen? ⟨g, j, none⟩ = false) :
    (Builtin.copy_ #[22, 22] ty #[.slice (some ⟨g, 0, none⟩) n dc, .slice A l.length c]).run Tryd.prog w = .ok (.int .i64 (l.length : Int)) (w.setCells g 0 (nums .u8 l)) := by
  have hsz : (Tryd.prog.info? 5).map (·.size) = some 1 := by kernel_rfl
  rcases Nat.eq_zero_or_pos l.length with h0 | h0
  · obtain rfl : l = [] := List.length_eq_zero_iff.1 h0
    exact run_copy_none w 22 22 ty 5 (some ⟨g, 0, none⟩) A n dc 0 c Tryd.underlying22 hsz (by simp)
  · obtain ⟨b, off, rfl, _, h⟩ := hr h0
    have key := run_copy_cells (P := Tryd.prog) w 22 22 ty 5 g 0 n dc ⟨b, off, none⟩ l.length c (nums .u8 l) Tryd.underlying22 hsz (by rw [nums_len]; exact (Nat.min_eq_left hn).symm)
      (fun j v hv => by
        have hj : j < l.length := by
          rcases Nat.lt_or_ge j l.length with k | k
          · exact k
          · rw [List.getElem?_eq_none (by rw [nums_len]; exact k)] at hv; cases hv
        have hplain : (⟨b, off, none⟩ : Addr).add j = ⟨b, off + j, none⟩ := by unfold Addr.add; split <;> simp_all
        rw [hplain, h j hj, ← hv]
        simp [nums, hj])
      (fun j hj => by rw [nums_len] at hj; simpa using hc j hj) (fun j hj => by rw [nums_len] at hj; simpa using hf j hj)
      (fun v hv => by obtain ⟨x, _, rfl⟩ := List.mem_map.1 hv; rfl)
    rw [key, nums_len]
    rfl

/-- The Decoder that has these bytes (up to three) under way. -/
def holdV (l : List Nat) : Value := decV (l.getD 0 0) (l.getD 1 0) (l.getD 2 0) (l.length : Int)

set_option maxRecDepth 100000 in
set_option maxHeartbeats 400000 in
theorem holding_ok (w : World) (l : List Nat) (hl : l.length ≤ 3) (A : Option Addr) (c B : Nat) (hr : Row w B .u8 A l) (hB : B ≤ w.heap.size) :
    Calls Tryd.prog 37 #[.slice A l.length c] w fun e w' => e = .returned (holdV l) ∧ Below w.heap.size w w' := by
  obtain ⟨W, hW⟩ : ∃ W, W = ((w.alloc (.cells #[.int .u8 0, .int .u8 0, .int .u8 0, .int .i64 0] 38)).alloc (.cells #[.int .u8 0, .int .u8 0, .int .u8 0, .int .i64 0] 38)) := ⟨_, rfl⟩
  have hb : Below w.heap.size w W := by rw [hW]; exact ((Below.refl _ _).alloc (Nat.le_refl _) _).alloc (by simp) _
  have hrun := run_copy W (w.heap.size + 1) 3 3 A l c B 3 (hr.below (hb.mono hB)) hl (fun j hj => by
    rw [hW]
    rcases (by omega : j = 0 ∨ j = 1 ∨ j = 2) with rfl | rfl | rfl <;> simp) (fun j hj => by rw [hW]; simp)
  rw [hW] at hrun
  clear hr hb hW W
  revert hrun hl
  match l with
  | [] =>
    intro _ hrun
    simp only [nums, List.map_nil, World.setCells, List.length_nil] at hrun ⊢
    go_enter Tryd.func37, Tryd.ntmps37
    go_wp2
    exact bodyPost_ret (v := holdV []) (by simp [results, Tryd.results37, go_sem, holdV, decV]) rfl ⟨rfl, ((Below.refl _ _).alloc (Nat.le_refl _) _).alloc (by simp) _⟩
  | [x] =>
    intro _ hrun
    simp only [nums, List.map_nil, List.map_cons, World.setCells, List.length_nil, List.length_cons, Nat.reduceAdd] at hrun ⊢
    go_enter Tryd.func37, Tryd.ntmps37
    go_wp2
    exact bodyPost_ret (v := holdV [x]) (by simp [results, Tryd.results37, go_sem, holdV, decV]) rfl ⟨rfl, ((Below.refl _ _).alloc (Nat.le_refl _) _).alloc (by simp) _⟩
  | [x, y] =>
    intro _ hrun
    simp only [nums, List.map_nil, List.map_cons, World.setCells, List.length_nil, List.length_cons, Nat.reduceAdd] at hrun ⊢
    go_enter Tryd.func37, Tryd.ntmps37
    go_wp2
    exact bodyPost_ret (v := holdV [x, y]) (by simp [results, Tryd.results37, go_sem, holdV, decV]) rfl ⟨rfl, ((Below.refl _ _).alloc (Nat.le_refl _) _).alloc (by simp) _⟩
  | [x, y, z] =>
    intro _ hrun
    simp only [nums, List.map_nil, List.map_cons, World.setCells, List.length_nil, List.length_cons, Nat.reduceAdd] at hrun ⊢
    go_enter Tryd.func37, Tryd.ntmps37
    go_wp2
    exact bodyPost_ret (v := holdV [x, y, z]) (by simp [results, Tryd.results37, go_sem, holdV, decV]) rfl ⟨rfl, ((Below.refl _ _).alloc (Nat.le_refl _) _).alloc (by simp) _⟩
  | _ :: _ :: _ :: _ :: _ => intro h; simp at h
theorem near_of (n : Nat) (h : n ≤ 3) : near (n : Int) = n := by unfold near; omega
theorem run_part3 (w : World) (a b c : Int) : (part 5 #[.int .u8 a, .int .u8 b, .int .u8 c] 0).run Tryd.prog w = .ok (.int .u8 a) w ∧ (part 5 #[.int .u8 a, .int .u8 b, .int .u8 c] 1).run Tryd.prog w = .ok (.int .u8 b) w ∧ (part 5 #[.int .u8 a, .int .u8 b, .int .u8 c] 2).run Tryd.prog w = .ok (.int .u8 c) w :=
  ⟨by kernel_rfl, by kernel_rfl, by kernel_rfl⟩
theorem run_eq3' (d : Nat) (w : World) (a b c a' b' c' : Int) : (Op.equalIn (d + 2) 36 (.agg #[.int .u8 a, .int .u8 b, .int .u8 c]) (.agg #[.int .u8 a', .int .u8 b', .int .u8 c'])).run Tryd.prog w = .ok (decide (a = a' ∧ b = b' ∧ c = c')) w := by
  have hc : Tryd.prog.cellsOf 5 = 1 := by kernel_rfl
  obtain ⟨i0, hi, _, _, _⟩ := info_parts Tryd.info5
  obtain ⟨p0, p1, p2⟩ := run_part3 w a b c
  obtain ⟨q0, q1, q2⟩ := run_part3 w a' b' c'
  have he : ∀ x y : Int, (Op.equalIn (d + 1) 5 (.int .u8 x) (.int .u8 y)).run Tryd.prog w = .ok (x == y) w := fun x y => run_equalIn_int w d 5 .u8 .u8 x y Tryd.underlying5
  rw [run_equalIn_array w (d + 1) _ _ Tryd.underlying36 hi, hc]
  simp only [show List.range 3 = [0, 1, 2] from rfl, Op.eqItems, Nat.mul_one, Sem.run_bind, p0, q0, he, Result.andThen_ok]
  by_cases h0 : a = a'
  · subst h0
    simp only [beq_self_eq_true, Bool.not_true, Bool.false_eq_true, if_false, Sem.run_bind, p1, q1, he, Result.andThen_ok]
    by_cases h1 : b = b'
    · subst h1
      simp only [beq_self_eq_true, Bool.not_true, Bool.false_eq_true, if_false, Sem.run_bind, p2, q2, he, Result.andThen_ok]
      by_cases h2 : c = c'
      · simp [h2]
      · simp [h2]
    · simp [h1]
  · simp [h0]
theorem run_parts (w : World) (a b c n : Int) : (part 36 #[.int .u8 a, .int .u8 b, .int .u8 c, .int .i64 n] 0).run Tryd.prog w = .ok (.agg #[.int .u8 a, .int .u8 b, .int .u8 c]) w ∧ (part 3 #[.int .u8 a, .int .u8 b, .int .u8 c, .int .i64 n] 3).run Tryd.prog w = .ok (.int .i64 n) w :=
  ⟨by kernel_rfl, by kernel_rfl⟩
/-- Two Decoders are held against one another. -/
theorem run_eqD (w : World) (a b c n a' b' c' n' : Int) : (Op.equalIn 10000 38 (.agg #[.int .u8 a, .int .u8 b, .int .u8 c, .int .i64 n]) (.agg #[.int .u8 a', .int .u8 b', .int .u8 c', .int .i64 n'])).run Tryd.prog w = .ok (decide ((a = a' ∧ b = b' ∧ c = c') ∧ n = n')) w := by
  obtain ⟨p0, p1⟩ := run_parts w a b c n
  obtain ⟨q0, q1⟩ := run_parts w a' b' c' n'
  have he : (Op.equalIn 9999 3 (.int .i64 n) (.int .i64 n')).run Tryd.prog w = .ok (n == n') w := run_equalIn_int w 9998 3 .i64 .i64 n n' Tryd.underlying3
  have hf : (Tryd.prog.fieldsOf 38).toList.map (fun f => (f.name != "_", f.type, f.offset)) = [(true, 36, 0), (true, 3, 3)] := by kernel_rfl
  rw [show (10000 : Nat) = 9999 + 1 from rfl, run_equalIn_struct w 9999 38 _ _ (by kernel_rfl) (by kernel_rfl)]
  have e3 := run_eq3' 9997 w a b c a' b' c'
  rw [show 9997 + 2 = 9999 from rfl] at e3
  generalize (Tryd.prog.fieldsOf 38).toList = L at hf ⊢
  rcases L with _ | ⟨f, _ | ⟨g, _ | ⟨h, t⟩⟩⟩
  · simp at hf
  · simp at hf
  · simp only [List.map_cons, List.map_nil, List.cons.injEq, Prod.mk.injEq, and_true] at hf
    obtain ⟨⟨h1, h2, h3⟩, h4, h5, h6⟩ := hf
    have h1' : f.name ≠ "_" := by simpa using h1
    have h4' : g.name ≠ "_" := by simpa using h4
    unfold Op.eqFields
    rw [if_pos h1', h2, h3]
    simp only [Sem.run_bind, p0, q0, e3, Result.andThen_ok]
    by_cases hb : a = a' ∧ b = b' ∧ c = c'
    · simp only [hb, and_self, decide_true, Bool.not_true, Bool.false_eq_true, if_false, true_and]
      unfold Op.eqFields
      rw [if_pos h4', h5, h6]
      rw [← hb.1, ← hb.2.1, ← hb.2.2] at q1
      rw [← hb.1, ← hb.2.1, ← hb.2.2]
      simp only [Sem.run_bind, p1, q1, he, Result.andThen_ok]
      by_cases hn : n = n'
      · simp [hn, Op.eqFields]
      · simp [hn]
    · simp [hb]
  · simp at hf

/-- The bytes that count as under way. -/
def under (x y z : UInt8) (n : Int) : List UInt8 := [x, y, z].take (near n)
/-- Is this the Decoder that holds just these bytes? -/
def holdsB (x y z : UInt8) (n : Int) : Bool :=
  decide (((((nat8 (under x y z n)).getD 0 0 : Nat) : Int) = (x.toNat : Int) ∧ (((nat8 (under x y z n)).getD 1 0 : Nat) : Int) = (y.toNat : Int) ∧ (((nat8 (under x y z n)).getD 2 0 : Nat) : Int) = (z.toNat : Int)) ∧ ((near n : Nat) : Int) = n)

theorem under_row {W : World} {g : Nat} {x y z : UInt8} {n m : Int} (h : W.heap[g]? = some (.cells #[.int .u8 (x.toNat : Int), .int .u8 (y.toNat : Int), .int .u8 (z.toNat : Int), .int .i64 m] 38)) : Row W W.heap.size .u8 (some ⟨g, 0, none⟩) (nat8 (under x y z n)) := fun _ => by
  refine ⟨g, 0, rfl, (Array.getElem?_eq_some_iff.1 h).1, fun j hj => ?_⟩
  rw [nat8_len] at hj
  have hl : (under x y z n).length ≤ 3 := by unfold under; rw [List.length_take]; simp; omega
  rw [nat8_get]
  have e : (under x y z n).getD j 0 = [x, y, z].getD j 0 := by
    unfold under at hj ⊢
    rw [List.length_take] at hj
    simp only [List.getD, List.getElem?_take]
    rw [if_pos (by omega)]
  rw [e]
  simp only [World.cell?, h]
  rcases (by omega : j = 0 ∨ j = 1 ∨ j = 2) with rfl | rfl | rfl <;> rfl
theorem near_le (n : Int) : near n ≤ 3 := by unfold near; omega
theorem under_len (x y z : UInt8) (n : Int) : (under x y z n).length = near n := by
  have := near_le n
  unfold under
  rw [List.length_take]
  simp
  omega

set_option maxRecDepth 100000 in
set_option maxHeartbeats 1000000 in
theorem dright_ok (w : World) (hT : Utf w) (x y z : UInt8) (n : Int) :
    Calls Tryd.prog 14 #[decV x.toNat y.toNat z.toNat n] w fun e w' => e = .returned (.bool (holdsB x y z n && !UM.full (under x y z n))) ∧ Below w.heap.size w w' := by
  have HT := Lib.hid hT
  have hn3 := near_le n
  have hul := under_len x y z n
  have hrow := fun (W : World) (g : Nat) => @under_row W g x y z n n
  have heq := fun w => run_eqD w ((nat8 (under x y z n)).getD 0 0 : Nat) ((nat8 (under x y z n)).getD 1 0 : Nat) ((nat8 (under x y z n)).getD 2 0 : Nat) (near n : Nat) x.toNat y.toNat z.toNat n
  have hB : holdsB x y z n = decide (((((nat8 (under x y z n)).getD 0 0 : Nat) : Int) = (x.toNat : Int) ∧ (((nat8 (under x y z n)).getD 1 0 : Nat) : Int) = (y.toNat : Int) ∧ (((nat8 (under x y z n)).getD 2 0 : Nat) : Int) = (z.toNat : Int)) ∧ ((near n : Nat) : Int) = n) := rfl
  rw [← hB] at heq
  have hold := fun (W : World) (A : Option Addr) (c B : Nat) (h : Row W B .u8 A (nat8 (under x y z n))) (hb : B ≤ W.heap.size) => holding_ok W (nat8 (under x y z n)) (by rw [nat8_len, hul]; exact hn3) A c B h hb
  have hfull := fun (W : World) (hU : Utf W) (A : Option Addr) (c B : Nat) (h : Row W B .u8 A (nat8 (under x y z n))) => full_ok W hU (under x y z n) (by rw [hul]; omega) A c B h
  unfold holdV at hold
  rw [nat8_len, hul] at hold
  rw [hul] at hfull
  obtain ⟨p0, hp0⟩ : ∃ p, p = (nat8 (under x y z n)).getD 0 0 := ⟨_, rfl⟩
  obtain ⟨p1, hp1⟩ : ∃ p, p = (nat8 (under x y z n)).getD 1 0 := ⟨_, rfl⟩
  obtain ⟨p2, hp2⟩ : ∃ p, p = (nat8 (under x y z n)).getD 2 0 := ⟨_, rfl⟩
  rw [← hp0, ← hp1, ← hp2] at hold heq
  obtain ⟨k, hk⟩ : ∃ k, k = near n := ⟨_, rfl⟩
  have huw := fun W => underWay_ok W x.toNat y.toNat z.toNat n
  rw [← hk] at hold heq hfull hn3 huw
  obtain ⟨u, hu⟩ : ∃ u, u = under x y z n := ⟨_, rfl⟩
  rw [← hu] at hold hfull hrow ⊢
  obtain ⟨bx, hbx⟩ : ∃ b, b = x.toNat := ⟨_, rfl⟩
  obtain ⟨by', hby⟩ : ∃ b, b = y.toNat := ⟨_, rfl⟩
  obtain ⟨bz, hbz⟩ : ∃ b, b = z.toNat := ⟨_, rfl⟩
  rw [← hbx, ← hby, ← hbz] at heq huw ⊢
  rw [← hbx, ← hby, ← hbz] at hrow
  generalize holdsB x y z n = hb at *
  have HR := Lib.hid hrow; have HH := Lib.hid hold; have HF := Lib.hid hfull; have HU := Lib.hid huw
  clear hrow hold hfull huw hp0 hp1 hp2 hk hu hbx hby hbz hT hul hB
  unfold decV at *
  go_enter Tryd.func14, Tryd.ntmps14
  go_wp2_with fail
  refine (HU.out _).mono ?_
  rintro e W ⟨rfl, hW⟩
  obtain ⟨w1, hw1⟩ : ∃ w1, w1 = w.alloc (.cells #[.int .u8 (bx : Int), .int .u8 (by' : Int), .int .u8 (bz : Int), .int .i64 n] 38) := ⟨_, rfl⟩
  have hz1 : w1.heap.size = w.heap.size + 1 := by rw [hw1]; simp
  have hd1 : w1.heap[w.heap.size]? = some (.cells #[.int .u8 (bx : Int), .int .u8 (by' : Int), .int .u8 (bz : Int), .int .i64 n] 38) := by rw [hw1]; exact (MapKept.heap_alloc w _).1
  have hb1 : Below w.heap.size w w1 := by rw [hw1]; exact (Below.refl _ _).alloc (Nat.le_refl _) _
  rw [← hw1] at hW ⊢
  have hdW : W.heap[w1.heap.size]? = some (.cells #[.int .u8 (bx : Int), .int .u8 (by' : Int), .int .u8 (bz : Int), .int .i64 n] 38) := by rw [hW]; exact (MapKept.heap_alloc w1 _).1
  have hb1W : Below w1.heap.size w1 W := by rw [hW]; exact (Below.refl _ _).alloc (Nat.le_refl _) _
  have hdw := (hb1W.block w.heap.size (by omega)).trans hd1
  have hbW : Below w.heap.size w W := hb1.trans (hb1W.mono (by omega))
  have hrW := HR.out W _ hdW
  have d0 : W.cell? ⟨w.heap.size, 0, none⟩ = some (.int .u8 (bx : Int)) := by simp only [World.cell?, hdw]; rfl
  have d1 : W.cell? ⟨w.heap.size, 1, none⟩ = some (.int .u8 (by' : Int)) := by simp only [World.cell?, hdw]; rfl
  have d2 : W.cell? ⟨w.heap.size, 2, none⟩ = some (.int .u8 (bz : Int)) := by simp only [World.cell?, hdw]; rfl
  have d3 : W.cell? ⟨w.heap.size, 3, none⟩ = some (.int .i64 n) := by simp only [World.cell?, hdw]; rfl
  have HRW := Lib.hid hrW; have HBW := Lib.hid hbW; have hsW := hbW.size
  have hwW := hb1W.size
  have HDW := Lib.hid hdw
  have HEQ := Lib.hid heq
  clear hW hw1 hd1 hb1 hdW hb1W hdw hrW hbW heq hz1
  generalize w1.heap.size = g1 at *
  go_wp2
  refine wp_region_noPanic ?_
  refine wp_region_held_drew (S := fun w' => w'.cell? ⟨w.heap.size, 0, none⟩ = some (.int .u8 (bx : Int)) ∧ w'.cell? ⟨w.heap.size, 1, none⟩ = some (.int .u8 (by' : Int)) ∧ w'.cell? ⟨w.heap.size, 2, none⟩ = some (.int .u8 (bz : Int)) ∧ w'.cell? ⟨w.heap.size, 3, none⟩ = some (.int .i64 n)) (by kernel_rfl) ⟨d0, d1, d2, d3⟩ (fun hHeld => ?_)
  refine wpAnyH_take (i := 0) (v := ?va0) rfl (by kernel_rfl) (by kernel_rfl) (by kernel_rfl) (fun _ _ _ h => h) (Or.inl ⟨by rfl, ?ha0⟩) (by assumption) ?_
  case ha0 => intro w hSw; (try dsimp only at hSw); go_simp; try with_reducible rfl
  simp only [List.getElem_toArray, List.getElem_cons_zero, Act.put, List.setIfInBounds_toArray, List.set_cons_zero, List.set_cons_succ]
  refine wpAnyH_take (i := 2) (v := ?va2) rfl (by kernel_rfl) (by kernel_rfl) (by kernel_rfl) (fun _ _ _ h => h) (Or.inl ⟨by rfl, ?ha2⟩) (by assumption) ?_
  case ha2 => intro w hSw; (try dsimp only at hSw); go_simp; try with_reducible rfl
  simp only [List.getElem_toArray, List.getElem_cons_succ, List.getElem_cons_zero, Act.put, List.setIfInBounds_toArray, List.set_cons_zero, List.set_cons_succ]
  refine wpAnyH_ready (rs := [1]) (by kernel_rfl) (by simp) ?_
  refine AllReadyH.cons rfl (fun K hK => ?_) AllReadyH.nil
  go_simp
  have hdrew : Below W.heap.size W W.drew := (Below.refl _ W).drew
  have hcall := HH.out W.drew _ 3 _ (HRW.out.below hdrew) (Nat.le_refl _)
  refine hcall.mono ?_
  clear hcall
  rintro e w2 ⟨rfl, hb2⟩
  have hbW2 : Below W.heap.size W w2 := hdrew.trans hb2
  have e0 := (hbW2.cell (World.block_lt_of_cell? W _ d0)).trans d0
  have e1 := (hbW2.cell (World.block_lt_of_cell? W _ d1)).trans d1
  have e2 := (hbW2.cell (World.block_lt_of_cell? W _ d2)).trans d2
  have e3 := (hbW2.cell (World.block_lt_of_cell? W _ d3)).trans d3
  have HB2 := Lib.hid hbW2
  clear hb2 hdrew hbW2
  dsimp only
  refine hK.out _ _ ?_ (fun hHeld => ?_)
  · exact ⟨e0, e1, e2, e3⟩
  clear hK K
  have heq := HEQ.out
  rcases hb with _ | _
  · skip
    refine wpAnyH_take (i := 3) (v := ?vb3) rfl (by kernel_rfl) (by kernel_rfl) (by kernel_rfl) (fun _ _ _ h => h) (Or.inl ⟨by rfl, ?hb3⟩) (by assumption) ?_
    case hb3 => intro w hSw; (try dsimp only at hSw); go_simp; try with_reducible rfl
    simp only [List.getElem_toArray, List.getElem_cons_succ, List.getElem_cons_zero, Act.put, List.setIfInBounds_toArray, List.set_cons_zero, List.set_cons_succ]
    refine wpAnyH_take (i := 4) (v := ?vb4) rfl (by kernel_rfl) (by kernel_rfl) (by kernel_rfl) (fun _ _ _ h => h) (Or.inl ⟨by rfl, ?hb4⟩) (by assumption) ?_
    case hb4 => intro w hSw; (try dsimp only at hSw); go_simp; try with_reducible rfl
    simp only [List.getElem_toArray, List.getElem_cons_succ, List.getElem_cons_zero, Act.put, List.setIfInBounds_toArray, List.set_cons_zero, List.set_cons_succ]
    refine wpAnyH_take (i := 5) (v := undef) rfl (by kernel_rfl) (by kernel_rfl) (by kernel_rfl) (fun _ _ _ h => h) (Or.inr ⟨by rfl, rfl⟩) (by assumption) ?_
    simp only [List.getElem_toArray, List.getElem_cons_succ, List.getElem_cons_zero, Act.put, List.setIfInBounds_toArray, List.set_cons_zero, List.set_cons_succ]
    refine wpAnyH_take (i := 6) (v := undef) rfl (by kernel_rfl) (by kernel_rfl) (by kernel_rfl) (fun _ _ _ h => h) (Or.inr ⟨by rfl, rfl⟩) (by assumption) ?_
    simp only [List.getElem_toArray, List.getElem_cons_succ, List.getElem_cons_zero, Act.put, List.setIfInBounds_toArray, List.set_cons_zero, List.set_cons_succ]
    refine wpAnyH_take (i := 7) (v := undef) rfl (by kernel_rfl) (by kernel_rfl) (by kernel_rfl) (fun _ _ _ h => h) (Or.inr ⟨by rfl, rfl⟩) (by assumption) ?_
    simp only [List.getElem_toArray, List.getElem_cons_succ, List.getElem_cons_zero, Act.put, List.setIfInBounds_toArray, List.set_cons_zero, List.set_cons_succ]
    refine wpAnyH_take (i := 8) (v := ?vc8) rfl (by kernel_rfl) (by kernel_rfl) (by kernel_rfl) (fun _ _ _ h => h) (Or.inl ⟨by rfl, ?hc8⟩) (by assumption) ?_
    case hc8 => intro w hSw; (try dsimp only at hSw); go_simp; try with_reducible rfl
    simp only [List.getElem_toArray, List.getElem_cons_succ, List.getElem_cons_zero, Act.put, List.setIfInBounds_toArray, List.set_cons_zero, List.set_cons_succ]
    refine wpAnyH_take (i := 9) (v := ?vc9) rfl (by kernel_rfl) (by kernel_rfl) (by kernel_rfl) (fun _ _ _ h => h) (Or.inl ⟨by rfl, ?hc9⟩) (by assumption) ?_
    case hc9 => intro w hSw; (try dsimp only at hSw); go_simp; try with_reducible rfl
    simp only [List.getElem_toArray, List.getElem_cons_succ, List.getElem_cons_zero, Act.put, List.setIfInBounds_toArray, List.set_cons_zero, List.set_cons_succ]
    refine wpAnyH_done (by kernel_rfl) ?_ _
    refine NoPanic.normal ?_
    go_wp2
    go_ret
    exact ⟨rfl, HBW.out.trans (HB2.out.mono hsW)⟩
  · skip
    refine wpAnyH_take (i := 3) (v := ?vd3) rfl (by kernel_rfl) (by kernel_rfl) (by kernel_rfl) (fun _ _ _ h => h) (Or.inl ⟨by rfl, ?hd3⟩) (by assumption) ?_
    case hd3 => intro w hSw; (try dsimp only at hSw); go_simp; try with_reducible rfl
    simp only [List.getElem_toArray, List.getElem_cons_succ, List.getElem_cons_zero, Act.put, List.setIfInBounds_toArray, List.set_cons_zero, List.set_cons_succ]
    refine wpAnyH_take (i := 4) (v := ?vd4) rfl (by kernel_rfl) (by kernel_rfl) (by kernel_rfl) (fun _ _ _ h => h) (Or.inl ⟨by rfl, ?hd4⟩) (by assumption) ?_
    case hd4 => intro w hSw; (try dsimp only at hSw); go_simp; try with_reducible rfl
    simp only [List.getElem_toArray, List.getElem_cons_succ, List.getElem_cons_zero, Act.put, List.setIfInBounds_toArray, List.set_cons_zero, List.set_cons_succ]
    refine wpAnyH_take (i := 5) (v := ?vd5) rfl (by kernel_rfl) (by kernel_rfl) (by kernel_rfl) (fun _ _ _ h => h) (Or.inl ⟨by rfl, ?hd5⟩) (by assumption) ?_
    case hd5 => intro w hSw; (try dsimp only at hSw); go_simp; try with_reducible rfl
    simp only [List.getElem_toArray, List.getElem_cons_succ, List.getElem_cons_zero, Act.put, List.setIfInBounds_toArray, List.set_cons_zero, List.set_cons_succ]
    refine wpAnyH_ready (rs := [6]) (by kernel_rfl) (by simp) ?_
    refine AllReadyH.cons rfl (fun K hK => ?_) AllReadyH.nil
    go_simp
    refine (HF.out w2 ((HT.out.on HBW.out HT.out.room).on HB2.out (HT.out.on HBW.out HT.out.room).room) _ _ _ (HRW.out.below HB2.out)).mono ?_
    rintro e w3 ⟨rfl, hb3⟩
    have f0 := (hb3.cell (World.block_lt_of_cell? w2 _ e0)).trans e0
    have f1 := (hb3.cell (World.block_lt_of_cell? w2 _ e1)).trans e1
    have f2 := (hb3.cell (World.block_lt_of_cell? w2 _ e2)).trans e2
    have f3 := (hb3.cell (World.block_lt_of_cell? w2 _ e3)).trans e3
    have HB3 := Lib.hid (HB2.out.trans (hb3.mono HB2.out.size))
    clear hb3
    dsimp only
    refine hK.out _ _ ?_ (fun hHeld => ?_)
    · exact ⟨f0, f1, f2, f3⟩
    clear hK K
    refine wpAnyH_take (i := 7) (v := ?vf7) rfl (by kernel_rfl) (by kernel_rfl) (by kernel_rfl) (fun _ _ _ h => h) (Or.inl ⟨by rfl, ?hf7⟩) (by assumption) ?_
    case hf7 => intro w hSw; (try dsimp only at hSw); go_simp; try with_reducible rfl
    simp only [List.getElem_toArray, List.getElem_cons_succ, List.getElem_cons_zero, Act.put, List.setIfInBounds_toArray, List.set_cons_zero, List.set_cons_succ]
    refine wpAnyH_take (i := 8) (v := ?vf8) rfl (by kernel_rfl) (by kernel_rfl) (by kernel_rfl) (fun _ _ _ h => h) (Or.inl ⟨by rfl, ?hf8⟩) (by assumption) ?_
    case hf8 => intro w hSw; (try dsimp only at hSw); go_simp; try with_reducible rfl
    simp only [List.getElem_toArray, List.getElem_cons_succ, List.getElem_cons_zero, Act.put, List.setIfInBounds_toArray, List.set_cons_zero, List.set_cons_succ]
    refine wpAnyH_take (i := 9) (v := ?vf9) rfl (by kernel_rfl) (by kernel_rfl) (by kernel_rfl) (fun _ _ _ h => h) (Or.inl ⟨by rfl, ?hf9⟩) (by assumption) ?_
    case hf9 => intro w hSw; (try dsimp only at hSw); go_simp; try with_reducible rfl
    simp only [List.getElem_toArray, List.getElem_cons_succ, List.getElem_cons_zero, Act.put, List.setIfInBounds_toArray, List.set_cons_zero, List.set_cons_succ]
    refine wpAnyH_done (by kernel_rfl) ?_ _
    refine NoPanic.normal ?_
    go_wp2
    go_ret
    exact ⟨rfl, HBW.out.trans (HB3.out.mono hsW)⟩
theorem under_of (u : List UInt8) (h : u.length ≤ 3) : under (u.getD 0 0) (u.getD 1 0) (u.getD 2 0) (u.length : Int) = u := by
  unfold under
  rw [near_of _ h]
  match u, h with
  | [], _ => rfl
  | [_], _ => rfl
  | [_, _], _ => rfl
  | [_, _, _], _ => rfl
theorem right_true (w : World) (hT : Utf w) (u : List UInt8) (hu : UM.full u = false) :
    Calls Tryd.prog 14 #[holdV (nat8 u)] w fun e w' => e = .returned (.bool true) ∧ Below w.heap.size w w' := by
  have h3 := UM.full_long hu
  have key := dright_ok w hT (u.getD 0 0) (u.getD 1 0) (u.getD 2 0) (u.length : Int)
  have hB : holdsB (u.getD 0 0) (u.getD 1 0) (u.getD 2 0) (u.length : Int) = true := by
    unfold holdsB
    rw [under_of u h3, near_of _ h3, nat8_get, nat8_get, nat8_get]
    simp
  rw [under_of u h3, hB, hu] at key
  have hV : holdV (nat8 u) = decV (u.getD 0 0).toNat (u.getD 1 0).toNat (u.getD 2 0).toNat (u.length : Int) := by
    unfold holdV
    rw [nat8_get, nat8_get, nat8_get, nat8_len]
  rw [hV]
  exact key

theorem run_eq3 (w : World) (a b c a' b' c' : Int) : (Op.equalIn 10000 36 (.agg #[.int .u8 a, .int .u8 b, .int .u8 c]) (.agg #[.int .u8 a', .int .u8 b', .int .u8 c'])).run Tryd.prog w = .ok (decide (a = a' ∧ b = b' ∧ c = c')) w := run_eq3' 9998 w a b c a' b' c'
end Go.Proofs.YtdolapobkhhanaaDoor
/-
  Layer 11 (state), its mathematics: a parser, a whole terminal; their bytes, and what becomes of any bytes. No program.
-/
namespace Go.Proofs.YtdolapobkhhanaaDoor
open KM
set_option maxRecDepth 100000

theorem nat8_of (l : List Nat) (h : ∀ c ∈ l, c < 256) : nat8 (l.map UInt8.ofNat) = l := by
  unfold nat8
  rw [List.map_map]
  conv => rhs; rw [← List.map_id l]
  exact List.map_congr_left fun b hb => by simp [UInt8.toNat_ofNat', Nat.mod_eq_of_lt (h b hb)]

/-! ### a parser -/
structure Ps where
  st : Nat
  wi : Nat
  u : List UInt8
  marks : List Nat
  params : List Nat
  text : List Nat
def encP (p : Ps) : List Nat :=
  VM.enc p.st ++ (VM.enc p.wi ++ (VM.enc p.u.length ++ (nat8 p.u ++ (VM.enc p.marks.length ++ (p.marks ++ (VM.enc p.params.length ++ (VM.encs p.params ++ (VM.enc p.text.length ++ p.text))))))))
/-- So many parameters. -/
def takePs : Nat → List Nat → Bool → List Nat × List Nat × Bool
  | 0, l, bad => ([], l, bad)
  | n + 1, l, bad => ((numOf l bad 10000).1 :: (takePs n (numOf l bad 10000).2.1 (numOf l bad 10000).2.2).1, (takePs n (numOf l bad 10000).2.1 (numOf l bad 10000).2.2).2)
theorem takePs_bytes (n : Nat) {l : List Nat} {bad : Bool} (hl : ∀ x ∈ l, x < 256) : (takePs n l bad).1.length = n ∧ (∀ c ∈ (takePs n l bad).1, c < 10000) ∧ ∀ x ∈ (takePs n l bad).2.1, x < 256 := by
  induction n generalizing l bad with
  | zero => exact ⟨rfl, by simp [takePs], hl⟩
  | succ n ih =>
    obtain ⟨i1, i2, i3⟩ := ih (l := (numOf l bad 10000).2.1) (bad := (numOf l bad 10000).2.2) (num_bytes hl)
    refine ⟨by simp [takePs, i1], ?_, by simpa [takePs] using i3⟩
    intro c hc
    simp only [takePs, List.mem_cons] at hc
    rcases hc with rfl | hc
    · exact numOf_lt l bad 10000 (by omega)
    · exact i2 c hc
theorem takePs_back (n : Nat) {l : List Nat} {bad : Bool} (hl : ∀ x ∈ l, x < 256) (h : (takePs n l bad).2.2 = false) : bad = false ∧ l = VM.encs (takePs n l bad).1 ++ (takePs n l bad).2.1 := by
  induction n generalizing l bad with
  | zero => exact ⟨h, by simp [takePs, VM.encs]⟩
  | succ n ih =>
    simp only [takePs] at h ⊢
    obtain ⟨i1, i2⟩ := ih (num_bytes hl) h
    obtain ⟨j1, j2, _⟩ := num_back hl i1
    refine ⟨j1, ?_⟩
    rw [VM.encs_cons, List.append_assoc, ← i2]
    exact j2
theorem takePs_enc (ps : List Nat) (h : ∀ c ∈ ps, c < 10000) (rest : List Nat) : takePs ps.length (VM.encs ps ++ rest) false = (ps, rest, false) := by
  induction ps with
  | nil => simp [takePs, VM.encs]
  | cons c r ih =>
    rw [VM.encs_cons, List.append_assoc, List.length_cons]
    simp only [takePs]
    have := h c (by simp)
    rw [num_enc c _ 10000 this (by omega)]
    simp only
    rw [ih fun d hd => h d (by simp [hd])]
/-- The next parser: it need not be right. -/
def takeP (l : List Nat) (bad : Bool) : Ps × List Nat × Bool :=
  let s := numOf l bad 9223372036854775808
  let w := numOf s.2.1 s.2.2 9223372036854775808
  let u := textOf w.2.1 w.2.2 3
  let m := textOf u.2.1 u.2.2 40
  let n := numOf m.2.1 m.2.2 9
  let p := takePs n.1 n.2.1 n.2.2
  let t := textOf p.2.1 p.2.2 40
  (⟨s.1, w.1, u.1.map UInt8.ofNat, m.1, p.1, t.1⟩, t.2)
structure PsOk (p : Ps) : Prop where
  st : p.st < 9223372036854775808
  wi : p.wi < 9223372036854775808
  u : p.u.length ≤ 3
  marks : p.marks.length ≤ 40 ∧ ∀ c ∈ p.marks, c < 256
  params : p.params.length ≤ 8 ∧ ∀ c ∈ p.params, c < 10000
  text : p.text.length ≤ 40 ∧ ∀ c ∈ p.text, c < 256
theorem takeP_bytes {l : List Nat} {bad : Bool} (hl : ∀ x ∈ l, x < 256) : PsOk (takeP l bad).1 ∧ ∀ x ∈ (takeP l bad).2.1, x < 256 := by
  unfold takeP
  dsimp only
  have h1 := num_bytes (bad := bad) (L := 9223372036854775808) hl
  have k1 := numOf_lt l bad 9223372036854775808 (by omega)
  generalize numOf l bad 9223372036854775808 = s at *
  have h2 := num_bytes (bad := s.2.2) (L := 9223372036854775808) h1
  have k2 := numOf_lt s.2.1 s.2.2 9223372036854775808 (by omega)
  generalize numOf s.2.1 s.2.2 9223372036854775808 = w at *
  have h3 := text_bytes (bad := w.2.2) (M := 3) h2
  have k3 := text_len (l := w.2.1) (bad := w.2.2) (M := 3)
  generalize textOf w.2.1 w.2.2 3 = u at *
  have h4 := text_bytes (bad := u.2.2) (M := 40) h3.2
  have k4 := text_len (l := u.2.1) (bad := u.2.2) (M := 40)
  generalize textOf u.2.1 u.2.2 40 = m at *
  have h5 := num_bytes (bad := m.2.2) (L := 9) h4.2
  have k5 := numOf_lt m.2.1 m.2.2 9 (by omega)
  generalize numOf m.2.1 m.2.2 9 = n at *
  have h6 := takePs_bytes n.1 (bad := n.2.2) h5
  generalize takePs n.1 n.2.1 n.2.2 = p at *
  have h7 := text_bytes (bad := p.2.2) (M := 40) h6.2.2
  have k7 := text_len (l := p.2.1) (bad := p.2.2) (M := 40)
  generalize textOf p.2.1 p.2.2 40 = t at *
  exact ⟨⟨k1, k2, by simpa using k3, ⟨k4, h4.1⟩, ⟨by have := h6.1; simp only; omega, h6.2.1⟩, ⟨k7, h7.1⟩⟩, h7.2⟩
theorem takeP_back {l : List Nat} {bad : Bool} (hl : ∀ x ∈ l, x < 256) (h : (takeP l bad).2.2 = false) : bad = false ∧ l = encP (takeP l bad).1 ++ (takeP l bad).2.1 := by
  unfold takeP at h ⊢
  dsimp only at h ⊢
  have h1 := num_bytes (bad := bad) (L := 9223372036854775808) hl
  have k1 := num_back (bad := bad) (L := 9223372036854775808) hl
  generalize numOf l bad 9223372036854775808 = s at *
  have h2 := num_bytes (bad := s.2.2) (L := 9223372036854775808) h1
  have k2 := num_back (bad := s.2.2) (L := 9223372036854775808) h1
  generalize numOf s.2.1 s.2.2 9223372036854775808 = w at *
  have h3 := text_bytes (bad := w.2.2) (M := 3) h2
  have k3 := text_back (bad := w.2.2) (M := 3) h2
  generalize textOf w.2.1 w.2.2 3 = u at *
  have h4 := text_bytes (bad := u.2.2) (M := 40) h3.2
  have k4 := text_back (bad := u.2.2) (M := 40) h3.2
  generalize textOf u.2.1 u.2.2 40 = m at *
  have h5 := num_bytes (bad := m.2.2) (L := 9) h4.2
  have k5 := num_back (bad := m.2.2) (L := 9) h4.2
  generalize numOf m.2.1 m.2.2 9 = n at *
  have h6 := takePs_bytes n.1 (bad := n.2.2) h5
  have k6 := takePs_back n.1 (bad := n.2.2) h5
  generalize takePs n.1 n.2.1 n.2.2 = p at *
  have k7 := text_back (bad := p.2.2) (M := 40) h6.2.2
  generalize textOf p.2.1 p.2.2 40 = t at *
  obtain ⟨b7, e7, _⟩ := k7 h
  obtain ⟨b6, e6⟩ := k6 b7
  obtain ⟨b5, e5, _⟩ := k5 b6
  obtain ⟨b4, e4, _⟩ := k4 b5
  obtain ⟨b3, e3, _⟩ := k3 b4
  obtain ⟨b2, e2, _⟩ := k2 b3
  obtain ⟨b1, e1, _⟩ := k1 b2
  refine ⟨b1, ?_⟩
  unfold encP
  simp only [List.append_assoc, nat8_of u.1 h3.1, List.length_map]
  rw [h6.1, ← e7, ← e6, ← e5, ← e4, ← e3, ← e2]
  exact e1
theorem takeP_enc (p : Ps) (h : PsOk p) (rest : List Nat) : takeP (encP p ++ rest) false = (p, rest, false) := by
  obtain ⟨st, wi, u, marks, params, text⟩ := p
  obtain ⟨h1, h2, h3, h4, h5, h6⟩ := h
  simp only at h1 h2 h3 h4 h5 h6
  unfold takeP encP
  dsimp only
  simp only [List.append_assoc]
  rw [num_enc st _ _ h1 (by omega)]
  simp only
  rw [num_enc wi _ _ h2 (by omega)]
  simp only
  have e3 := text_enc (nat8 u) (VM.enc marks.length ++ (marks ++ (VM.enc params.length ++ (VM.encs params ++ (VM.enc text.length ++ (text ++ rest)))))) 3 (by rw [nat8_len]; exact h3) (by omega)
  rw [nat8_len] at e3
  rw [e3]
  simp only
  rw [text_enc marks _ 40 h4.1 (by omega)]
  simp only
  rw [num_enc params.length _ 9 (by omega) (by omega)]
  simp only
  rw [takePs_enc params h5.2]
  simp only
  rw [text_enc text _ 40 h6.1 (by omega)]
  have e : (nat8 u).map UInt8.ofNat = u := by
    unfold nat8
    rw [List.map_map]
    conv => rhs; rw [← List.map_id u]
    exact List.map_congr_left fun b _ => by simp
  simp only [e]

/-- Has it nothing but its state? -/
def bareP (p : Ps) : Bool := decide (p.u = []) && (decide (p.marks = []) && (decide (p.params = []) && (decide (p.text = []) && decide (p.wi = 0))))
def inEsc (c : Nat) : Bool := decide (32 ≤ c ∧ c ≤ 47)
def inEnt (c : Nat) : Bool := inEsc c || decide (60 ≤ c ∧ c ≤ 63)
def markR (f : Nat → Bool) (l : List Nat) : Bool := l.all f && decide (l.length ≤ 2)
def paramR (l : List Nat) : Bool := (l.all fun n => decide (n ≤ 9999)) && decide (l.length ≤ 8)
def textR (l : List Nat) : Bool := (l.all fun n => decide (32 ≤ n)) && decide (l.length ≤ 40)
/-- Is it right? -/
def rightP (p : Ps) : Bool :=
  if p.st = 0 then !UM.full p.u && bareP { p with u := [] }
  else if p.st = 1 then bareP p
  else if p.st = 2 then (!decide (p.marks = []) && markR inEsc p.marks) && bareP { p with marks := [] }
  else if p.st = 3 ∨ p.st = 4 then (markR inEnt p.marks && paramR p.params) && bareP { p with marks := [], params := [] }
  else if p.st = 7 then (decide (p.wi = 5 ∨ p.wi = 6)) && (textR p.text && bareP { p with wi := 0, text := [] })
  else if p.st = 5 ∨ p.st = 6 then textR p.text && bareP { p with text := [] }
  else false

/-! ### a terminal -/
structure Tm where
  w : Nat
  h : Nat
  top : Nat
  en : Nat
  m : Nat
  s : Nat
  cs : List Cur
  ls : List (List Cel)
  os : List (List Cel)
  bk : List (List Cel)
  title : List Nat
  reply : List Nat
  p : Ps
def encT (t : Tm) : List Nat :=
  VM.encs [t.w, t.h, t.top, t.en] ++ (VM.enc t.m ++ (VM.enc t.s ++ (encCs t.cs ++ (encLs t.ls ++ (encLs t.os ++ (VM.enc t.bk.length ++ (encBk t.bk ++ (VM.enc t.title.length ++ (t.title ++ (VM.enc t.reply.length ++ (t.reply ++ encP t.p)))))))))))
/-- What may be, but for the parser being right. -/
structure TmOk (t : Tm) : Prop where
  w : 1 ≤ t.w ∧ t.w ≤ 60
  h : 1 ≤ t.h ∧ t.h ≤ 60
  te : t.top < t.en ∧ t.en ≤ t.h
  m : t.m < 256
  s : t.s < 2 ^ 60
  cs : t.cs.length = 3 ∧ ∀ c ∈ t.cs, CurOk t.w t.h c
  ls : t.ls.length = t.h ∧ ∀ x ∈ t.ls, LnOk t.w x
  os : t.os.length = t.h ∧ ∀ x ∈ t.os, LnOk t.w x
  bk : t.bk.length ≤ 20 ∧ ∀ x ∈ t.bk, BkOk x
  title : t.title.length ≤ 40 ∧ ∀ c ∈ t.title, c < 256
  reply : t.reply.length ≤ 400 ∧ ∀ c ∈ t.reply, c < 256
  p : PsOk t.p
/-- A terminal's sides, and lines that go. -/
def takeSd (l : List Nat) (bad : Bool) : Option (Nat × Nat × Nat × Nat) × List Nat × Bool :=
  let w := numOf l bad 61
  let h := numOf w.2.1 w.2.2 61
  let t := numOf h.2.1 h.2.2 h.1
  let e := numOf t.2.1 t.2.2 (h.1 + 1)
  (if w.1 = 0 ∨ h.1 = 0 ∨ ¬ t.1 < e.1 then none else some (w.1, h.1, t.1, e.1), e.2)
/-- The lines that went out, as many as are told. -/
def takeB (l : List Nat) (bad : Bool) : Option (List (List Cel) × List Nat × Bool) := takeBk (numOf l bad 21).1 (numOf l bad 21).2.1 (numOf l bad 21).2.2
def takeTail (l : List Nat) (bad : Bool) : List Nat × List Nat × Ps × List Nat × Bool :=
  let a := textOf l bad 40
  let b := textOf a.2.1 a.2.2 400
  let p := takeP b.2.1 b.2.2
  (a.1, b.1, p.1, p.2)
/-- What of the bytes a terminal, and what is left. -/
def takeT (l : List Nat) (bad : Bool) : Option (Tm × List Nat × Bool) :=
  let S := takeSd l bad
  S.1.bind fun d =>
  let m := numOf S.2.1 S.2.2 256
  let s := numOf m.2.1 m.2.2 (2 ^ 60)
  (takeCs d.1 d.2.1 3 s.2.1 s.2.2).bind fun C =>
  (takeLs d.1 d.2.1 C.2.1 C.2.2).bind fun L =>
  (takeLs d.1 d.2.1 L.2.1 L.2.2).bind fun O =>
  (takeB O.2.1 O.2.2).map fun B =>
  let t := takeTail B.2.1 B.2.2
  (⟨d.1, d.2.1, d.2.2.1, d.2.2.2, m.1, s.1, C.1, L.1, O.1, B.1, t.1, t.2.1, t.2.2.1⟩, t.2.2.2)
theorem takeSd_ok {l : List Nat} {bad : Bool} {d : Nat × Nat × Nat × Nat} (hl : ∀ x ∈ l, x < 256) (h : (takeSd l bad).1 = some d) :
    (1 ≤ d.1 ∧ d.1 ≤ 60) ∧ (1 ≤ d.2.1 ∧ d.2.1 ≤ 60) ∧ (d.2.2.1 < d.2.2.2 ∧ d.2.2.2 ≤ d.2.1) ∧ ((takeSd l bad).2.2 = false → bad = false ∧ l = VM.encs [d.1, d.2.1, d.2.2.1, d.2.2.2] ++ (takeSd l bad).2.1) ∧ ∀ x ∈ (takeSd l bad).2.1, x < 256 := by
  unfold takeSd at h ⊢
  dsimp only at h ⊢
  have h1 := num_bytes (bad := bad) (L := 61) hl
  have k1 := num_back (bad := bad) (L := 61) hl
  have q1 := numOf_lt l bad 61 (by omega)
  generalize numOf l bad 61 = w at *
  have h2 := num_bytes (bad := w.2.2) (L := 61) h1
  have k2 := num_back (bad := w.2.2) (L := 61) h1
  have q2 := numOf_lt w.2.1 w.2.2 61 (by omega)
  generalize numOf w.2.1 w.2.2 61 = hh at *
  have h3 := num_bytes (bad := hh.2.2) (L := hh.1) h2
  have k3 := num_back (bad := hh.2.2) (L := hh.1) h2
  generalize numOf hh.2.1 hh.2.2 hh.1 = t at *
  have h4 := num_bytes (bad := t.2.2) (L := hh.1 + 1) h3
  have k4 := num_back (bad := t.2.2) (L := hh.1 + 1) h3
  have q4 := numOf_lt t.2.1 t.2.2 (hh.1 + 1) (by omega)
  generalize numOf t.2.1 t.2.2 (hh.1 + 1) = e at *
  split at h
  · cases h
  rename_i hc
  simp only [Option.some.injEq] at h
  subst h
  dsimp only
  refine ⟨by omega, by omega, by omega, fun hf => ?_, h4⟩
  obtain ⟨b4, e4, _⟩ := k4 hf
  obtain ⟨b3, e3, _⟩ := k3 b4
  obtain ⟨b2, e2, _⟩ := k2 b3
  obtain ⟨b1, e1, _⟩ := k1 b2
  refine ⟨b1, ?_⟩
  simp only [VM.encs_cons, VM.encs_nil, List.append_assoc, List.nil_append]
  rw [← e4, ← e3, ← e2]
  exact e1
theorem takeSd_enc (w h t e : Nat) (hw : 1 ≤ w ∧ w ≤ 60) (hh : 1 ≤ h ∧ h ≤ 60) (ht : t < e ∧ e ≤ h) (rest : List Nat) : takeSd (VM.encs [w, h, t, e] ++ rest) false = (some (w, h, t, e), rest, false) := by
  unfold takeSd
  simp only [VM.encs_cons, VM.encs_nil, List.append_assoc, List.nil_append]
  rw [num_enc w _ 61 (by omega) (by omega)]
  dsimp only
  rw [num_enc h _ 61 (by omega) (by omega)]
  dsimp only
  rw [num_enc t _ h (by omega) (by omega)]
  dsimp only
  rw [num_enc e _ (h + 1) (by omega) (by omega)]
  dsimp only
  rw [if_neg (by omega)]
theorem takeT_ok {l : List Nat} {bad : Bool} {R : Tm × List Nat × Bool} (hl : ∀ x ∈ l, x < 256) (h : takeT l bad = some R) :
    TmOk R.1 ∧ (R.2.2 = false → bad = false ∧ l = encT R.1 ++ R.2.1) := by
  unfold takeT at h
  dsimp only at h
  rcases hS : (takeSd l bad).1 with _ | d
  · rw [hS] at h; cases h
  rw [hS] at h
  simp only [Option.bind_some] at h
  obtain ⟨o1, o2, o3, o4, o5⟩ := takeSd_ok hl hS
  generalize takeSd l bad = S at *
  have m1 := num_bytes (bad := S.2.2) (L := 256) o5
  have m2 := num_back (bad := S.2.2) (L := 256) o5
  have m3 := numOf_lt S.2.1 S.2.2 256 (by omega)
  generalize numOf S.2.1 S.2.2 256 = m at *
  have s1 := num_bytes (bad := m.2.2) (L := 2 ^ 60) m1
  have s2 := num_back (bad := m.2.2) (L := 2 ^ 60) m1
  have s3 := numOf_lt m.2.1 m.2.2 (2 ^ 60) (by omega)
  generalize numOf m.2.1 m.2.2 (2 ^ 60) = s at *
  rcases hC : takeCs d.1 d.2.1 3 s.2.1 s.2.2 with _ | C
  · rw [hC] at h; cases h
  rw [hC] at h
  simp only [Option.bind_some] at h
  obtain ⟨c1, c2, c3, c4, c5⟩ := takeCs_back 3 (by omega) s1 hC
  have cb : ∀ x ∈ C.2.1, x < 256 := fun x hx => s1 x (by rw [c5]; exact List.mem_append_right _ hx)
  rcases hL : takeLs d.1 d.2.1 C.2.1 C.2.2 with _ | L
  · rw [hL] at h; cases h
  rw [hL] at h
  simp only [Option.bind_some] at h
  obtain ⟨l1, l2, l3, l4⟩ := takeLs_back (by omega) _ cb hL
  have lb : ∀ x ∈ L.2.1, x < 256 := fun x hx => cb x (by rw [l4]; exact List.mem_append_right _ hx)
  rcases hO : takeLs d.1 d.2.1 L.2.1 L.2.2 with _ | O
  · rw [hO] at h; cases h
  rw [hO] at h
  simp only [Option.bind_some] at h
  obtain ⟨p1, p2, p3, p4⟩ := takeLs_back (by omega) _ lb hO
  have pb : ∀ x ∈ O.2.1, x < 256 := fun x hx => lb x (by rw [p4]; exact List.mem_append_right _ hx)
  rcases hB : takeB O.2.1 O.2.2 with _ | B
  · rw [hB] at h; cases h
  rw [hB] at h
  unfold takeB at hB
  have n1 := num_bytes (bad := O.2.2) (L := 21) pb
  have n2 := num_back (bad := O.2.2) (L := 21) pb
  have n3 := numOf_lt O.2.1 O.2.2 21 (by omega)
  generalize numOf O.2.1 O.2.2 21 = n at *
  obtain ⟨q1, q2, q3, q4⟩ := takeBk_back _ n1 hB
  have qb : ∀ x ∈ B.2.1, x < 256 := fun x hx => n1 x (by rw [q4]; exact List.mem_append_right _ hx)
  simp only [Option.map_some, Option.some.injEq] at h
  subst h
  unfold takeTail
  dsimp only
  have t1 := text_bytes (bad := B.2.2) (M := 40) qb
  have t2 := text_back (bad := B.2.2) (M := 40) qb
  have t3 := text_len (l := B.2.1) (bad := B.2.2) (M := 40)
  generalize textOf B.2.1 B.2.2 40 = t at *
  have r1 := text_bytes (bad := t.2.2) (M := 400) t1.2
  have r2 := text_back (bad := t.2.2) (M := 400) t1.2
  have r3 := text_len (l := t.2.1) (bad := t.2.2) (M := 400)
  generalize textOf t.2.1 t.2.2 400 = r at *
  have x1 := takeP_bytes (bad := r.2.2) r1.2
  have x2 := takeP_back (bad := r.2.2) r1.2
  generalize takeP r.2.1 r.2.2 = x at *
  refine ⟨⟨o1, o2, o3, m3, s3, ⟨c3, c4⟩, ⟨l2, l3⟩, ⟨p2, p3⟩, ⟨by dsimp only; omega, q3⟩, ⟨t3, t1.1⟩, ⟨r3, r1.1⟩, x1.1⟩, fun hf => ?_⟩
  obtain ⟨b1, e1⟩ := x2 hf
  obtain ⟨b2, e2, _⟩ := r2 b1
  obtain ⟨b3, e3, _⟩ := t2 b2
  obtain ⟨b4, e4, _⟩ := n2 (q1.symm.trans b3)
  obtain ⟨b5, e5, _⟩ := s2 c1
  obtain ⟨b6, e6, _⟩ := m2 b5
  obtain ⟨b7, e7⟩ := o4 b6
  refine ⟨b7, ?_⟩
  unfold encT
  simp only [List.append_assoc]
  rw [q2, ← e1, ← e2, ← e3, ← q4, ← e4, ← p4, ← l4, ← c5, ← e5, ← e6]
  exact e7
theorem takeT_enc (t : Tm) (h : TmOk t) (rest : List Nat) : takeT (encT t ++ rest) false = some (t, rest, false) := by
  obtain ⟨w, h', top, en, m, s, cs, ls, os, bk, title, reply, p⟩ := t
  obtain ⟨h1, h2, h3, h4, h5, h6, h7, h8, h9, h10, h11, h12⟩ := h
  simp only at h1 h2 h3 h4 h5 h6 h7 h8 h9 h10 h11 h12
  unfold takeT encT
  simp only [List.append_assoc]
  rw [takeSd_enc w h' top en h1 h2 h3]
  simp only [Option.bind_some]
  rw [num_enc m _ 256 h4 (by omega)]
  dsimp only
  rw [num_enc s _ (2 ^ 60) h5 (by omega)]
  dsimp only
  have ec := takeCs_enc w h' h1.2 h2.2 cs h6.2
  rw [h6.1] at ec
  rw [ec]
  simp only [Option.bind_some]
  have el := takeLs_enc w ls h7.2
  rw [h7.1] at el
  rw [el]
  simp only [Option.bind_some]
  have eo := takeLs_enc w os h8.2
  rw [h8.1] at eo
  rw [eo]
  simp only [Option.bind_some]
  unfold takeB
  rw [num_enc bk.length _ 21 (by omega) (by omega)]
  dsimp only
  rw [takeBk_enc bk h9.2]
  simp only [Option.map_some]
  unfold takeTail
  rw [text_enc title _ 40 h10.1 (by omega)]
  dsimp only
  rw [text_enc reply _ 400 h11.1 (by omega)]
  dsimp only
  rw [takeP_enc p h12]
end Go.Proofs.YtdolapobkhhanaaDoor
