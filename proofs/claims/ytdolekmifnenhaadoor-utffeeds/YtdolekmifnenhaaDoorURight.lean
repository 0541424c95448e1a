/-
  Layer 5 (utf): Right.
-/
import Derived.Test.YtdolekmifnenhaaDoorUEq
namespace Go.Proofs.YtdolekmifnenhaaDoor
open Go.RowKit Go.Lib

theorem run_eq3' (d : Nat) (w : World) (a b c a' b' c' : Int) : (Op.equalIn (d + 2) 27 (.agg #[.int .u8 a, .int .u8 b, .int .u8 c]) (.agg #[.int .u8 a', .int .u8 b', .int .u8 c'])).run Tryd.prog w = .ok (decide (a = a' ∧ b = b' ∧ c = c')) w := by
  have hc : Tryd.prog.cellsOf 5 = 1 := by kernel_rfl
  obtain ⟨i0, hi, _, _, _⟩ := info_parts Tryd.info5
  obtain ⟨p0, p1, p2⟩ := run_part3 w a b c
  obtain ⟨q0, q1, q2⟩ := run_part3 w a' b' c'
  have he : ∀ x y : Int, (Op.equalIn (d + 1) 5 (.int .u8 x) (.int .u8 y)).run Tryd.prog w = .ok (x == y) w := fun x y => run_equalIn_int w d 5 .u8 .u8 x y Tryd.underlying5
  rw [run_equalIn_array w (d + 1) _ _ Tryd.underlying27 hi, hc]
  simp only [show List.range 3 = [0, 1, 2] from rfl, Op.eqItems, Nat.mul_one, Sem.run_bind, p0, q0, he, Result.andThen_ok]
  by_cases h0 : a = a'
  · subst h0
    simp only [beq_self_eq_true, Bool.not_true, Bool.false_eq_true, if_false, Sem.run_bind, p1, q1, he, Result.andThen_ok]
    by_cases h1 : b = b'
    · subst h1
      simp only [beq_self_eq_true, Bool.not_true, Bool.false_eq_true, if_false, Sem.run_bind, p2, q2, he, Result.andThen_ok]
      by_cases h2 : c = c'
      · simp [h2]
      · simp [h2]
    · simp [h1]
  · simp [h0]
theorem run_parts (w : World) (a b c n : Int) : (part 27 #[.int .u8 a, .int .u8 b, .int .u8 c, .int .i64 n] 0).run Tryd.prog w = .ok (.agg #[.int .u8 a, .int .u8 b, .int .u8 c]) w ∧ (part 3 #[.int .u8 a, .int .u8 b, .int .u8 c, .int .i64 n] 3).run Tryd.prog w = .ok (.int .i64 n) w :=
  ⟨by kernel_rfl, by kernel_rfl⟩
/-- Two Decoders are held against one another. -/
theorem run_eqD (w : World) (a b c n a' b' c' n' : Int) : (Op.equalIn 10000 29 (.agg #[.int .u8 a, .int .u8 b, .int .u8 c, .int .i64 n]) (.agg #[.int .u8 a', .int .u8 b', .int .u8 c', .int .i64 n'])).run Tryd.prog w = .ok (decide ((a = a' ∧ b = b' ∧ c = c') ∧ n = n')) w := by
  obtain ⟨p0, p1⟩ := run_parts w a b c n
  obtain ⟨q0, q1⟩ := run_parts w a' b' c' n'
  have he : (Op.equalIn 9999 3 (.int .i64 n) (.int .i64 n')).run Tryd.prog w = .ok (n == n') w := run_equalIn_int w 9998 3 .i64 .i64 n n' Tryd.underlying3
  have hf : (Tryd.prog.fieldsOf 29).toList.map (fun f => (f.name != "_", f.type, f.offset)) = [(true, 27, 0), (true, 3, 3)] := by kernel_rfl
  rw [show (10000 : Nat) = 9999 + 1 from rfl, run_equalIn_struct w 9999 29 _ _ (by kernel_rfl) (by kernel_rfl)]
  have e3 := run_eq3' 9997 w a b c a' b' c'
  rw [show 9997 + 2 = 9999 from rfl] at e3
  generalize (Tryd.prog.fieldsOf 29).toList = L at hf ⊢
  rcases L with _ | ⟨f, _ | ⟨g, _ | ⟨h, t⟩⟩⟩
  · simp at hf
  · simp at hf
  · simp only [List.map_cons, List.map_nil, List.cons.injEq, Prod.mk.injEq, and_true] at hf
    obtain ⟨⟨h1, h2, h3⟩, h4, h5, h6⟩ := hf
    have h1' : f.name ≠ "_" := by simpa using h1
    have h4' : g.name ≠ "_" := by simpa using h4
    unfold Op.eqFields
    rw [if_pos h1', h2, h3]
    simp only [Sem.run_bind, p0, q0, e3, Result.andThen_ok]
    by_cases hb : a = a' ∧ b = b' ∧ c = c'
    · simp only [hb, and_self, decide_true, Bool.not_true, Bool.false_eq_true, if_false, true_and]
      unfold Op.eqFields
      rw [if_pos h4', h5, h6]
      rw [← hb.1, ← hb.2.1, ← hb.2.2] at q1
      rw [← hb.1, ← hb.2.1, ← hb.2.2]
      simp only [Sem.run_bind, p1, q1, he, Result.andThen_ok]
      by_cases hn : n = n'
      · simp [hn, Op.eqFields]
      · simp [hn]
    · simp [hb]
  · simp at hf

/-- The bytes that count as under way. -/
def under (x y z : UInt8) (n : Int) : List UInt8 := [x, y, z].take (near n)
/-- Is this the Decoder that holds just these bytes? -/
def holdsB (x y z : UInt8) (n : Int) : Bool :=
  decide (((((nat8 (under x y z n)).getD 0 0 : Nat) : Int) = (x.toNat : Int) ∧ (((nat8 (under x y z n)).getD 1 0 : Nat) : Int) = (y.toNat : Int) ∧ (((nat8 (under x y z n)).getD 2 0 : Nat) : Int) = (z.toNat : Int)) ∧ ((near n : Nat) : Int) = n)

theorem under_row {W : World} {g : Nat} {x y z : UInt8} {n m : Int} (h : W.heap[g]? = some (.cells #[.int .u8 (x.toNat : Int), .int .u8 (y.toNat : Int), .int .u8 (z.toNat : Int), .int .i64 m] 29)) : Row W W.heap.size .u8 (some ⟨g, 0, none⟩) (nat8 (under x y z n)) := fun _ => by
  refine ⟨g, 0, rfl, (Array.getElem?_eq_some_iff.1 h).1, fun j hj => ?_⟩
  rw [nat8_len] at hj
  have hl : (under x y z n).length ≤ 3 := by unfold under; rw [List.length_take]; simp; omega
  rw [nat8_get]
  have e : (under x y z n).getD j 0 = [x, y, z].getD j 0 := by
    unfold under at hj ⊢
    rw [List.length_take] at hj
    simp only [List.getD, List.getElem?_take]
    rw [if_pos (by omega)]
  rw [e]
  simp only [World.cell?, h]
  rcases (by omega : j = 0 ∨ j = 1 ∨ j = 2) with rfl | rfl | rfl <;> rfl
theorem near_le (n : Int) : near n ≤ 3 := by unfold near; omega
theorem under_len (x y z : UInt8) (n : Int) : (under x y z n).length = near n := by
  have := near_le n
  unfold under
  rw [List.length_take]
  simp
  omega

set_option maxRecDepth 100000 in
set_option maxHeartbeats 1000000 in
theorem right_ok (w : World) (hT : Utf w) (x y z : UInt8) (n : Int) :
    Calls Tryd.prog 11 #[decV x.toNat y.toNat z.toNat n] w fun e w' => e = .returned (.bool (holdsB x y z n && !UM.full (under x y z n))) ∧ Below w.heap.size w w' := by
  have HT := Lib.hid hT
  have hn3 := near_le n
  have hul := under_len x y z n
  have hrow := fun (W : World) (g : Nat) => @under_row W g x y z n n
  have heq := fun w => run_eqD w ((nat8 (under x y z n)).getD 0 0 : Nat) ((nat8 (under x y z n)).getD 1 0 : Nat) ((nat8 (under x y z n)).getD 2 0 : Nat) (near n : Nat) x.toNat y.toNat z.toNat n
  have hB : holdsB x y z n = decide (((((nat8 (under x y z n)).getD 0 0 : Nat) : Int) = (x.toNat : Int) ∧ (((nat8 (under x y z n)).getD 1 0 : Nat) : Int) = (y.toNat : Int) ∧ (((nat8 (under x y z n)).getD 2 0 : Nat) : Int) = (z.toNat : Int)) ∧ ((near n : Nat) : Int) = n) := rfl
  rw [← hB] at heq
  have hold := fun (W : World) (A : Option Addr) (c B : Nat) (h : Row W B .u8 A (nat8 (under x y z n))) (hb : B ≤ W.heap.size) => holding_ok W (nat8 (under x y z n)) (by rw [nat8_len, hul]; exact hn3) A c B h hb
  have hfull := fun (W : World) (hU : Utf W) (A : Option Addr) (c B : Nat) (h : Row W B .u8 A (nat8 (under x y z n))) => full_ok W hU (under x y z n) (by rw [hul]; omega) A c B h
  unfold holdV at hold
  rw [nat8_len, hul] at hold
  rw [hul] at hfull
  obtain ⟨p0, hp0⟩ : ∃ p, p = (nat8 (under x y z n)).getD 0 0 := ⟨_, rfl⟩
  obtain ⟨p1, hp1⟩ : ∃ p, p = (nat8 (under x y z n)).getD 1 0 := ⟨_, rfl⟩
  obtain ⟨p2, hp2⟩ : ∃ p, p = (nat8 (under x y z n)).getD 2 0 := ⟨_, rfl⟩
  rw [← hp0, ← hp1, ← hp2] at hold heq
  obtain ⟨k, hk⟩ : ∃ k, k = near n := ⟨_, rfl⟩
  have huw := fun W => underWay_ok W x.toNat y.toNat z.toNat n
  rw [← hk] at hold heq hfull hn3 huw
  obtain ⟨u, hu⟩ : ∃ u, u = under x y z n := ⟨_, rfl⟩
  rw [← hu] at hold hfull hrow ⊢
  obtain ⟨bx, hbx⟩ : ∃ b, b = x.toNat := ⟨_, rfl⟩
  obtain ⟨by', hby⟩ : ∃ b, b = y.toNat := ⟨_, rfl⟩
  obtain ⟨bz, hbz⟩ : ∃ b, b = z.toNat := ⟨_, rfl⟩
  rw [← hbx, ← hby, ← hbz] at heq huw ⊢
  rw [← hbx, ← hby, ← hbz] at hrow
  generalize holdsB x y z n = hb at *
  have HR := Lib.hid hrow; have HH := Lib.hid hold; have HF := Lib.hid hfull; have HU := Lib.hid huw
  clear hrow hold hfull huw hp0 hp1 hp2 hk hu hbx hby hbz hT hul hB
  unfold decV at *
  go_enter Tryd.func11, Tryd.ntmps11
  go_wp2_with fail
  refine (HU.out _).mono ?_
  rintro e W ⟨rfl, hW⟩
  obtain ⟨w1, hw1⟩ : ∃ w1, w1 = w.alloc (.cells #[.int .u8 (bx : Int), .int .u8 (by' : Int), .int .u8 (bz : Int), .int .i64 n] 29) := ⟨_, rfl⟩
  have hz1 : w1.heap.size = w.heap.size + 1 := by rw [hw1]; simp
  have hd1 : w1.heap[w.heap.size]? = some (.cells #[.int .u8 (bx : Int), .int .u8 (by' : Int), .int .u8 (bz : Int), .int .i64 n] 29) := by rw [hw1]; exact (MapKept.heap_alloc w _).1
  have hb1 : Below w.heap.size w w1 := by rw [hw1]; exact (Below.refl _ _).alloc (Nat.le_refl _) _
  rw [← hw1] at hW ⊢
  have hdW : W.heap[w1.heap.size]? = some (.cells #[.int .u8 (bx : Int), .int .u8 (by' : Int), .int .u8 (bz : Int), .int .i64 n] 29) := by rw [hW]; exact (MapKept.heap_alloc w1 _).1
  have hb1W : Below w1.heap.size w1 W := by rw [hW]; exact (Below.refl _ _).alloc (Nat.le_refl _) _
  have hdw := (hb1W.block w.heap.size (by omega)).trans hd1
  have hbW : Below w.heap.size w W := hb1.trans (hb1W.mono (by omega))
  have hrW := HR.out W _ hdW
  have d0 : W.cell? ⟨w.heap.size, 0, none⟩ = some (.int .u8 (bx : Int)) := by simp only [World.cell?, hdw]; rfl
  have d1 : W.cell? ⟨w.heap.size, 1, none⟩ = some (.int .u8 (by' : Int)) := by simp only [World.cell?, hdw]; rfl
  have d2 : W.cell? ⟨w.heap.size, 2, none⟩ = some (.int .u8 (bz : Int)) := by simp only [World.cell?, hdw]; rfl
  have d3 : W.cell? ⟨w.heap.size, 3, none⟩ = some (.int .i64 n) := by simp only [World.cell?, hdw]; rfl
  have HRW := Lib.hid hrW; have HBW := Lib.hid hbW; have hsW := hbW.size
  have hwW := hb1W.size
  have HDW := Lib.hid hdw
  have HEQ := Lib.hid heq
  clear hW hw1 hd1 hb1 hdW hb1W hdw hrW hbW heq hz1
  generalize w1.heap.size = g1 at *
  go_wp2
  refine wp_region_noPanic ?_
  refine wp_region_held_drew (S := fun w' => w'.cell? ⟨w.heap.size, 0, none⟩ = some (.int .u8 (bx : Int)) ∧ w'.cell? ⟨w.heap.size, 1, none⟩ = some (.int .u8 (by' : Int)) ∧ w'.cell? ⟨w.heap.size, 2, none⟩ = some (.int .u8 (bz : Int)) ∧ w'.cell? ⟨w.heap.size, 3, none⟩ = some (.int .i64 n)) (by kernel_rfl) ⟨d0, d1, d2, d3⟩ (fun hHeld => ?_)
  refine wpAnyH_take (i := 0) (v := ?va0) rfl (by kernel_rfl) (by kernel_rfl) (by kernel_rfl) (fun _ _ _ h => h) (Or.inl ⟨by rfl, ?ha0⟩) (by assumption) ?_
  case ha0 => intro w hSw; (try dsimp only at hSw); go_simp; try with_reducible rfl
  simp only [List.getElem_toArray, List.getElem_cons_zero, Act.put, List.setIfInBounds_toArray, List.set_cons_zero, List.set_cons_succ]
  refine wpAnyH_take (i := 2) (v := ?va2) rfl (by kernel_rfl) (by kernel_rfl) (by kernel_rfl) (fun _ _ _ h => h) (Or.inl ⟨by rfl, ?ha2⟩) (by assumption) ?_
  case ha2 => intro w hSw; (try dsimp only at hSw); go_simp; try with_reducible rfl
  simp only [List.getElem_toArray, List.getElem_cons_succ, List.getElem_cons_zero, Act.put, List.setIfInBounds_toArray, List.set_cons_zero, List.set_cons_succ]
  refine wpAnyH_ready (rs := [1]) (by kernel_rfl) (by simp) ?_
  refine AllReadyH.cons rfl (fun K hK => ?_) AllReadyH.nil
  go_simp
  have hdrew : Below W.heap.size W W.drew := (Below.refl _ W).drew
  have hcall := HH.out W.drew _ 3 _ (HRW.out.below hdrew) (Nat.le_refl _)
  refine hcall.mono ?_
  clear hcall
  rintro e w2 ⟨rfl, hb2⟩
  have hbW2 : Below W.heap.size W w2 := hdrew.trans hb2
  have e0 := (hbW2.cell (World.block_lt_of_cell? W _ d0)).trans d0
  have e1 := (hbW2.cell (World.block_lt_of_cell? W _ d1)).trans d1
  have e2 := (hbW2.cell (World.block_lt_of_cell? W _ d2)).trans d2
  have e3 := (hbW2.cell (World.block_lt_of_cell? W _ d3)).trans d3
  have HB2 := Lib.hid hbW2
  clear hb2 hdrew hbW2
  dsimp only
  refine hK.out _ _ ?_ (fun hHeld => ?_)
  · exact ⟨e0, e1, e2, e3⟩
  clear hK K
  have heq := HEQ.out
  rcases hb with _ | _
  · skip
    refine wpAnyH_take (i := 3) (v := ?vb3) rfl (by kernel_rfl) (by kernel_rfl) (by kernel_rfl) (fun _ _ _ h => h) (Or.inl ⟨by rfl, ?hb3⟩) (by assumption) ?_
    case hb3 => intro w hSw; (try dsimp only at hSw); go_simp; try with_reducible rfl
    simp only [List.getElem_toArray, List.getElem_cons_succ, List.getElem_cons_zero, Act.put, List.setIfInBounds_toArray, List.set_cons_zero, List.set_cons_succ]
    refine wpAnyH_take (i := 4) (v := ?vb4) rfl (by kernel_rfl) (by kernel_rfl) (by kernel_rfl) (fun _ _ _ h => h) (Or.inl ⟨by rfl, ?hb4⟩) (by assumption) ?_
    case hb4 => intro w hSw; (try dsimp only at hSw); go_simp; try with_reducible rfl
    simp only [List.getElem_toArray, List.getElem_cons_succ, List.getElem_cons_zero, Act.put, List.setIfInBounds_toArray, List.set_cons_zero, List.set_cons_succ]
    refine wpAnyH_take (i := 5) (v := undef) rfl (by kernel_rfl) (by kernel_rfl) (by kernel_rfl) (fun _ _ _ h => h) (Or.inr ⟨by rfl, rfl⟩) (by assumption) ?_
    simp only [List.getElem_toArray, List.getElem_cons_succ, List.getElem_cons_zero, Act.put, List.setIfInBounds_toArray, List.set_cons_zero, List.set_cons_succ]
    refine wpAnyH_take (i := 6) (v := undef) rfl (by kernel_rfl) (by kernel_rfl) (by kernel_rfl) (fun _ _ _ h => h) (Or.inr ⟨by rfl, rfl⟩) (by assumption) ?_
    simp only [List.getElem_toArray, List.getElem_cons_succ, List.getElem_cons_zero, Act.put, List.setIfInBounds_toArray, List.set_cons_zero, List.set_cons_succ]
    refine wpAnyH_take (i := 7) (v := undef) rfl (by kernel_rfl) (by kernel_rfl) (by kernel_rfl) (fun _ _ _ h => h) (Or.inr ⟨by rfl, rfl⟩) (by assumption) ?_
    simp only [List.getElem_toArray, List.getElem_cons_succ, List.getElem_cons_zero, Act.put, List.setIfInBounds_toArray, List.set_cons_zero, List.set_cons_succ]
    refine wpAnyH_take (i := 8) (v := ?vc8) rfl (by kernel_rfl) (by kernel_rfl) (by kernel_rfl) (fun _ _ _ h => h) (Or.inl ⟨by rfl, ?hc8⟩) (by assumption) ?_
    case hc8 => intro w hSw; (try dsimp only at hSw); go_simp; try with_reducible rfl
    simp only [List.getElem_toArray, List.getElem_cons_succ, List.getElem_cons_zero, Act.put, List.setIfInBounds_toArray, List.set_cons_zero, List.set_cons_succ]
    refine wpAnyH_take (i := 9) (v := ?vc9) rfl (by kernel_rfl) (by kernel_rfl) (by kernel_rfl) (fun _ _ _ h => h) (Or.inl ⟨by rfl, ?hc9⟩) (by assumption) ?_
    case hc9 => intro w hSw; (try dsimp only at hSw); go_simp; try with_reducible rfl
    simp only [List.getElem_toArray, List.getElem_cons_succ, List.getElem_cons_zero, Act.put, List.setIfInBounds_toArray, List.set_cons_zero, List.set_cons_succ]
    refine wpAnyH_done (by kernel_rfl) ?_ _
    refine NoPanic.normal ?_
    go_wp2
    go_ret
    exact ⟨rfl, HBW.out.trans (HB2.out.mono hsW)⟩
  · skip
    refine wpAnyH_take (i := 3) (v := ?vd3) rfl (by kernel_rfl) (by kernel_rfl) (by kernel_rfl) (fun _ _ _ h => h) (Or.inl ⟨by rfl, ?hd3⟩) (by assumption) ?_
    case hd3 => intro w hSw; (try dsimp only at hSw); go_simp; try with_reducible rfl
    simp only [List.getElem_toArray, List.getElem_cons_succ, List.getElem_cons_zero, Act.put, List.setIfInBounds_toArray, List.set_cons_zero, List.set_cons_succ]
    refine wpAnyH_take (i := 4) (v := ?vd4) rfl (by kernel_rfl) (by kernel_rfl) (by kernel_rfl) (fun _ _ _ h => h) (Or.inl ⟨by rfl, ?hd4⟩) (by assumption) ?_
    case hd4 => intro w hSw; (try dsimp only at hSw); go_simp; try with_reducible rfl
    simp only [List.getElem_toArray, List.getElem_cons_succ, List.getElem_cons_zero, Act.put, List.setIfInBounds_toArray, List.set_cons_zero, List.set_cons_succ]
    refine wpAnyH_take (i := 5) (v := ?vd5) rfl (by kernel_rfl) (by kernel_rfl) (by kernel_rfl) (fun _ _ _ h => h) (Or.inl ⟨by rfl, ?hd5⟩) (by assumption) ?_
    case hd5 => intro w hSw; (try dsimp only at hSw); go_simp; try with_reducible rfl
    simp only [List.getElem_toArray, List.getElem_cons_succ, List.getElem_cons_zero, Act.put, List.setIfInBounds_toArray, List.set_cons_zero, List.set_cons_succ]
    refine wpAnyH_ready (rs := [6]) (by kernel_rfl) (by simp) ?_
    refine AllReadyH.cons rfl (fun K hK => ?_) AllReadyH.nil
    go_simp
    refine (HF.out w2 ((HT.out.on HBW.out HT.out.room).on HB2.out (HT.out.on HBW.out HT.out.room).room) _ _ _ (HRW.out.below HB2.out)).mono ?_
    rintro e w3 ⟨rfl, hb3⟩
    have f0 := (hb3.cell (World.block_lt_of_cell? w2 _ e0)).trans e0
    have f1 := (hb3.cell (World.block_lt_of_cell? w2 _ e1)).trans e1
    have f2 := (hb3.cell (World.block_lt_of_cell? w2 _ e2)).trans e2
    have f3 := (hb3.cell (World.block_lt_of_cell? w2 _ e3)).trans e3
    have HB3 := Lib.hid (HB2.out.trans (hb3.mono HB2.out.size))
    clear hb3
    dsimp only
    refine hK.out _ _ ?_ (fun hHeld => ?_)
    · exact ⟨f0, f1, f2, f3⟩
    clear hK K
    refine wpAnyH_take (i := 7) (v := ?vf7) rfl (by kernel_rfl) (by kernel_rfl) (by kernel_rfl) (fun _ _ _ h => h) (Or.inl ⟨by rfl, ?hf7⟩) (by assumption) ?_
    case hf7 => intro w hSw; (try dsimp only at hSw); go_simp; try with_reducible rfl
    simp only [List.getElem_toArray, List.getElem_cons_succ, List.getElem_cons_zero, Act.put, List.setIfInBounds_toArray, List.set_cons_zero, List.set_cons_succ]
    refine wpAnyH_take (i := 8) (v := ?vf8) rfl (by kernel_rfl) (by kernel_rfl) (by kernel_rfl) (fun _ _ _ h => h) (Or.inl ⟨by rfl, ?hf8⟩) (by assumption) ?_
    case hf8 => intro w hSw; (try dsimp only at hSw); go_simp; try with_reducible rfl
    simp only [List.getElem_toArray, List.getElem_cons_succ, List.getElem_cons_zero, Act.put, List.setIfInBounds_toArray, List.set_cons_zero, List.set_cons_succ]
    refine wpAnyH_take (i := 9) (v := ?vf9) rfl (by kernel_rfl) (by kernel_rfl) (by kernel_rfl) (fun _ _ _ h => h) (Or.inl ⟨by rfl, ?hf9⟩) (by assumption) ?_
    case hf9 => intro w hSw; (try dsimp only at hSw); go_simp; try with_reducible rfl
    simp only [List.getElem_toArray, List.getElem_cons_succ, List.getElem_cons_zero, Act.put, List.setIfInBounds_toArray, List.set_cons_zero, List.set_cons_succ]
    refine wpAnyH_done (by kernel_rfl) ?_ _
    refine NoPanic.normal ?_
    go_wp2
    go_ret
    exact ⟨rfl, HBW.out.trans (HB3.out.mono hsW)⟩
end Go.Proofs.YtdolekmifnenhaaDoor
