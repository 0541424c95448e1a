/-
  Layer 5 (utf): flush, Feed, Flush.
-/
import Derived.Test.YtdolekmifnenhaaDoorUFeedW
namespace Go.Proofs.YtdolekmifnenhaaDoor
open Go.RowKit Go.Lib

theorem OwnR.grow_below {w w' : World} {v v' : Value} {base : Nat} {l : List Nat} (ho : OwnR w base v l) (h : Grow w w' v v') (hb : base ≤ w.heap.size) : Below base w w' :=
  (Below.refl base w).grown h.grown hb fun k hk => (ho.lt k hk).1

/-- What flush answers. -/
def FlushPost (w : World) (base : Nat) (v : Value) (rs : List Nat) (n : Nat) (e : Ending) (w' : World) : Prop :=
  ∃ v', e = .returned (.tuple #[holdV [], v']) ∧ OwnR w' base v' (rs ++ List.replicate n 65533) ∧ Grow w w' v v'

/-- What holds while bytes are flushed. -/
structure FLU (w wr : World) (base : Nat) (v u : Value) (rs : List Nat) (k : Nat) : Prop where
  own : OwnR wr base u (rs ++ List.replicate k 65533)
  grow : Grow w wr v u
  res : wr.heap[w.heap.size + 1]? = some (.cells #[.int .u8 0, .int .u8 0, .int .u8 0, .int .i64 0] 29)
  apart : ∀ k, u.ownBlock = some k → k < w.heap.size ∨ w.heap.size + 2 ≤ k
  size : w.heap.size + 2 ≤ wr.heap.size
theorem FLU.step {w wr w1 : World} {base : Nat} {v u u' : Value} {rs : List Nat} {k : Nat} (h : FLU w wr base v u rs k) (ho : OwnR w1 base u' (rs ++ List.replicate k 65533 ++ [65533])) (hg : Grow wr w1 u u') : FLU w w1 base v u' rs (k + 1) := by
  have hs := h.size
  refine ⟨?_, h.grow.trans hg, ?_, ?_, Nat.le_trans hs hg.grown.size⟩
  · rw [List.replicate_succ', ← List.append_assoc]; exact ho
  · exact (hg.grown.block _ (by omega) (fun e => by have := h.apart _ e.symm; omega)).trans h.res
  · intro j hj
    rcases hg.place with e | e
    · exact h.apart j (by rw [← e]; exact hj)
    · have := e j hj; omega

set_option maxRecDepth 100000 in
set_option maxHeartbeats 1000000 in
theorem flush_ok (w : World) (v : Value) (rs : List Nat) (base : Nat) (hown : OwnR w base v rs) (hbase : base ≤ w.heap.size) (hm : rs.length ≤ 1000000) (u : List UInt8) (hu : u.length ≤ 3) :
    Calls Tryd.prog 16 #[holdV (nat8 u), v] w (FlushPost w base v rs u.length) := by
  obtain ⟨i0, hi, hz0, hz1, hz2⟩ := info_parts Tryd.info21
  have hlen : (nat8 u).length = u.length := nat8_len u
  unfold holdV decV
  rw [hlen]
  clear hlen
  generalize (nat8 u).getD 0 0 = x
  generalize (nat8 u).getD 1 0 = y
  generalize (nat8 u).getD 2 0 = z
  generalize u.length = n at *
  have hnear := near_of n hu
  have HO := Lib.hid hown
  clear hown
  go_enter Tryd.func16, Tryd.ntmps16
  go_wp2_with fail
  refine (underWay_ok _ x y z n).mono ?_
  rintro e W4 ⟨rfl, hwy⟩
  rw [hnear]
  have h0 : FLU w W4 base v v rs 0 := by
    have hb : Below w.heap.size w W4 := by rw [hwy]; exact (((Below.refl _ _).alloc (Nat.le_refl _) _).alloc (by simp) _).alloc (by simp; omega) _
    refine ⟨by rw [List.replicate_zero, List.append_nil]; exact HO.out.below hb, Grow.of_below hb (Grow.refl _ _), ?_, fun k hk => .inl (HO.out.lt k hk).2, by rw [hwy]; simp⟩
    rw [hwy, Below.heap_alloc _ _ _ (by simp)]
    have := (MapKept.heap_alloc (w.alloc (.cells #[.int .u8 (x : Int), .int .u8 (y : Int), .int .u8 (z : Int), .int .i64 (n : Int)] 29)) (.cells #[.int .u8 0, .int .u8 0, .int .u8 0, .int .i64 0] 29)).1
    simpa using this
  have H0 := Lib.hid h0
  clear h0 hwy hnear HO
  go_wp2
  go_loopw [1, 9] (fun a i wr => ∃ k : Nat, k ≤ n ∧ i = .int .i64 (k : Int) ∧ FLU w wr base v a rs k) (fun _ i _ => n - (RowKit.intOf i).toNat)
  case atStart => exact ⟨0, Nat.zero_le _, rfl, H0.out⟩
  case round =>
    obtain ⟨k, hk, rfl, hF⟩ := hrel
    have HF := Lib.hid hF
    have hs := hF.size
    clear hF
    by_cases hlt : k < n
    · have hl : (rs ++ List.replicate k 65533).length ≤ 1000003 := by simp; omega
      obtain ⟨ys, hys⟩ : ∃ ys, ys = rs ++ List.replicate k 65533 := ⟨_, rfl⟩
      have ho := HF.out.own
      have hst := fun (ww : World) (u' : Value) => @FLU.step w wr ww base v _ u' rs k HF.out
      rw [← hys] at hl ho hst
      have HO := Lib.hid ho; have HST := Lib.hid hst
      clear hys ho hst
      go_wp2_with (at_builtin; refine wpList_append_own_at _ rfl _ _ 24 rfl base 21 i0 (.int .i32 0) 1 4 Tryd.underlying24 hi hz0 hz1 hz2 rfl (by decide) _ _ _ rfl (HO.out.alloc _) ⟨wr.heap.size, 0, none⟩ 1 1 [.int .i32 65533] rfl rfl ?c1 ?c2 ?c3 ?c4 ?c5 ?_)
      case c1 => exact cell_one_new _ _ _
      case c2 => intro a ha; simp at ha; subst ha; rfl
      case c3 => unfold maxLen; omega
      case c4 => omega
      case c5 => simp; omega
      · intro v' w3 ho3 hg3 _ hp3
        have HF3 := Lib.hid (HST.out w3 v' (OwnR.snoc (x := 65533) ho3) (Grow.append hg3 hp3))
        clear ho3 hg3 hp3
        go_wp2
        go_roundw
        case rel => exact ⟨k + 1, by omega, by go_num, HF3.out⟩
        case measure => simp [RowKit.intOf]; omega
    · obtain rfl : n = k := by omega
      have c0 : wr.cell? ⟨w.heap.size + 1, 0, none⟩ = some (.int .u8 0) := by simp only [World.cell?, HF.out.res]; rfl
      have c1 : wr.cell? ⟨w.heap.size + 1, 1, none⟩ = some (.int .u8 0) := by simp only [World.cell?, HF.out.res]; rfl
      have c2 : wr.cell? ⟨w.heap.size + 1, 2, none⟩ = some (.int .u8 0) := by simp only [World.cell?, HF.out.res]; rfl
      have c3 : wr.cell? ⟨w.heap.size + 1, 3, none⟩ = some (.int .i64 0) := by simp only [World.cell?, HF.out.res]; rfl
      have g0 : wr.frozen? ⟨w.heap.size + 1, 0, none⟩ = false := by simp only [World.frozen?, HF.out.res]; rfl
      have g1 : wr.frozen? ⟨w.heap.size + 1, 1, none⟩ = false := by simp only [World.frozen?, HF.out.res]; rfl
      have g2 : wr.frozen? ⟨w.heap.size + 1, 2, none⟩ = false := by simp only [World.frozen?, HF.out.res]; rfl
      have g3 : wr.frozen? ⟨w.heap.size + 1, 3, none⟩ = false := by simp only [World.frozen?, HF.out.res]; rfl
      go_wp2
      refine bodyPost_ret (v := .tuple #[holdV [], u1]) (by simp [results, Tryd.results16, go_sem, holdV, decV, c0, c1, c2, c3]) rfl ⟨u1, rfl, ?_, ?_⟩
      · refine HF.out.own.keep fun k hk => ?_
        have := HF.out.apart k hk
        rw [Below.heap_setCell _ _ _ _ (by simp; omega), Below.heap_setCell _ _ _ _ (by simp; omega), Below.heap_setCell _ _ _ _ (by simp; omega), Below.heap_setCell _ _ _ _ (by simp; omega)]
      · exact HF.out.grow.after ((((Below.refl _ _).setCell (by simp) _).setCell (by simp) _).setCell (by simp) _ |>.setCell (by simp) _)

/-- What Feed and Flush answer: a Decoder, and a new row of runes. -/
def RunesPost (w : World) (d : Value) (rs : List Nat) (e : Ending) (w' : World) : Prop :=
  ∃ v', e = .returned (.tuple #[d, v']) ∧ OwnR w' w.heap.size v' rs ∧ Below w.heap.size w w'

theorem res_of {w W w1 : World} (hW : W.heap[w.heap.size + 1]? = some (.cells #[.int .u8 0, .int .u8 0, .int .u8 0, .int .i64 0] 29)) (hs : w.heap.size + 2 ≤ W.heap.size) (hb : Below W.heap.size W w1) :
    w1.heap[w.heap.size + 1]? = some (.cells #[.int .u8 0, .int .u8 0, .int .u8 0, .int .i64 0] 29) := (hb.block _ (by omega)).trans hW

set_option maxRecDepth 100000 in
set_option maxHeartbeats 1000000 in
theorem feed1_ok (w : World) (hT : Utf w) (u : List UInt8) (hu : u.length ≤ 3) (c : UInt8) :
    Calls Tryd.prog 10 #[holdV (nat8 u), .int .u8 (c.toNat : Int)] w (RunesPost w (holdV (nat8 (UM.eat (u ++ [c])).2)) (UM.eat (u ++ [c])).1) := by
  have hcall := fun (W : World) (h : Utf W) => feed_ok W h (.slice none 0 0) [] W.heap.size (OwnR.nil _ _) (Nat.le_refl _) h.room (by simp) u hu c
  obtain ⟨t, ht⟩ : ∃ t, t = UM.eat (u ++ [c]) := ⟨_, rfl⟩
  unfold FeedPost at hcall
  rw [← ht] at hcall ⊢
  simp only [List.nil_append] at hcall
  obtain ⟨x, y, z, n, hd⟩ : ∃ (x y z : Nat) (n : Int), holdV (nat8 u) = decV x y z n := ⟨_, _, _, _, rfl⟩
  obtain ⟨x', y', z', n', hd'⟩ : ∃ (x y z : Nat) (n : Int), holdV (nat8 t.2) = decV x y z n := ⟨_, _, _, _, rfl⟩
  rw [hd] at hcall ⊢
  rw [hd'] at hcall ⊢
  have HC := Lib.hid hcall; have HT := Lib.hid hT
  clear hcall ht hd hd' hT
  unfold decV
  go_enter Tryd.func10, Tryd.ntmps10
  obtain ⟨W, hW⟩ : ∃ W, W = (w.alloc (.cells #[.int .u8 (x : Int), .int .u8 (y : Int), .int .u8 (z : Int), .int .i64 n] 29)).alloc (.cells #[.int .u8 0, .int .u8 0, .int .u8 0, .int .i64 0] 29) := ⟨_, rfl⟩
  have hbW : Below w.heap.size w W := by rw [hW]; exact ((Below.refl _ _).alloc (Nat.le_refl _) _).alloc (by simp) _
  have hsW : w.heap.size + 2 ≤ W.heap.size := by rw [hW]; simp
  have hrW : W.heap[w.heap.size + 1]? = some (.cells #[.int .u8 0, .int .u8 0, .int .u8 0, .int .i64 0] 29) := by
    rw [hW]
    have := (MapKept.heap_alloc (w.alloc (.cells #[.int .u8 (x : Int), .int .u8 (y : Int), .int .u8 (z : Int), .int .i64 n] 29)) (.cells #[.int .u8 0, .int .u8 0, .int .u8 0, .int .i64 0] 29)).1
    simpa using this
  have HW := Lib.hid hW
  clear hW
  go_wp2_with fail
  rw [← HW.out]
  refine (HC.out W (HT.out.on hbW HT.out.room)).mono ?_
  rintro e w1 ⟨v', rfl, ho, hg⟩
  have hb1 : Below W.heap.size W w1 := (OwnR.nil _ _).grow_below hg (Nat.le_refl _)
  have hr1 := res_of hrW hsW hb1
  have HO := Lib.hid ho; have HB := Lib.hid hb1; have HBW := Lib.hid hbW
  have c0 : w1.cell? ⟨w.heap.size + 1, 0, none⟩ = some (.int .u8 0) := by simp only [World.cell?, hr1]; rfl
  have c1 : w1.cell? ⟨w.heap.size + 1, 1, none⟩ = some (.int .u8 0) := by simp only [World.cell?, hr1]; rfl
  have c2 : w1.cell? ⟨w.heap.size + 1, 2, none⟩ = some (.int .u8 0) := by simp only [World.cell?, hr1]; rfl
  have c3 : w1.cell? ⟨w.heap.size + 1, 3, none⟩ = some (.int .i64 0) := by simp only [World.cell?, hr1]; rfl
  have g0 : w1.frozen? ⟨w.heap.size + 1, 0, none⟩ = false := by simp only [World.frozen?, hr1]; rfl
  have g1 : w1.frozen? ⟨w.heap.size + 1, 1, none⟩ = false := by simp only [World.frozen?, hr1]; rfl
  have g2 : w1.frozen? ⟨w.heap.size + 1, 2, none⟩ = false := by simp only [World.frozen?, hr1]; rfl
  have g3 : w1.frozen? ⟨w.heap.size + 1, 3, none⟩ = false := by simp only [World.frozen?, hr1]; rfl
  clear ho hg hb1 hr1 hrW hbW
  unfold decV
  go_wp2
  refine bodyPost_ret (v := .tuple #[decV x' y' z' n', v']) (by simp [results, Tryd.results10, go_sem, decV, c0, c1, c2, c3]) rfl ⟨v', rfl, ?_, ?_⟩
  · refine (HO.out.mono (by omega)).keep fun k hk => ?_
    have := (HO.out.lt k hk).1
    rw [Below.heap_setCell _ _ _ _ (by simp; omega), Below.heap_setCell _ _ _ _ (by simp; omega), Below.heap_setCell _ _ _ _ (by simp; omega), Below.heap_setCell _ _ _ _ (by simp; omega)]
  · exact (((((HBW.out.trans (HB.out.mono (by omega)))).setCell (by simp) _).setCell (by simp) _).setCell (by simp) _).setCell (by simp) _
set_option maxRecDepth 100000 in
set_option maxHeartbeats 1000000 in
theorem flush1_ok (w : World) (u : List UInt8) (hu : u.length ≤ 3) :
    Calls Tryd.prog 12 #[holdV (nat8 u)] w (RunesPost w (holdV []) (List.replicate u.length 65533)) := by
  have hcall := fun (W : World) => flush_ok W (.slice none 0 0) [] W.heap.size (OwnR.nil _ _) (Nat.le_refl _) (by simp) u hu
  unfold FlushPost at hcall
  simp only [List.nil_append] at hcall
  obtain ⟨x, y, z, n, hd⟩ : ∃ (x y z : Nat) (n : Int), holdV (nat8 u) = decV x y z n := ⟨_, _, _, _, rfl⟩
  obtain ⟨x', y', z', n', hd'⟩ : ∃ (x y z : Nat) (n : Int), holdV [] = decV x y z n := ⟨_, _, _, _, rfl⟩
  rw [hd] at hcall ⊢
  rw [hd'] at hcall ⊢
  have HC := Lib.hid hcall
  clear hcall hd hd'
  unfold decV
  go_enter Tryd.func12, Tryd.ntmps12
  obtain ⟨W, hW⟩ : ∃ W, W = (w.alloc (.cells #[.int .u8 (x : Int), .int .u8 (y : Int), .int .u8 (z : Int), .int .i64 n] 29)).alloc (.cells #[.int .u8 0, .int .u8 0, .int .u8 0, .int .i64 0] 29) := ⟨_, rfl⟩
  have hbW : Below w.heap.size w W := by rw [hW]; exact ((Below.refl _ _).alloc (Nat.le_refl _) _).alloc (by simp) _
  have hsW : w.heap.size + 2 ≤ W.heap.size := by rw [hW]; simp
  have hrW : W.heap[w.heap.size + 1]? = some (.cells #[.int .u8 0, .int .u8 0, .int .u8 0, .int .i64 0] 29) := by
    rw [hW]
    have := (MapKept.heap_alloc (w.alloc (.cells #[.int .u8 (x : Int), .int .u8 (y : Int), .int .u8 (z : Int), .int .i64 n] 29)) (.cells #[.int .u8 0, .int .u8 0, .int .u8 0, .int .i64 0] 29)).1
    simpa using this
  have HW := Lib.hid hW
  clear hW
  go_wp2_with fail
  rw [← HW.out]
  refine (HC.out W).mono ?_
  rintro e w1 ⟨v', rfl, ho, hg⟩
  have hb1 : Below W.heap.size W w1 := (OwnR.nil _ _).grow_below hg (Nat.le_refl _)
  have hr1 := res_of hrW hsW hb1
  have HO := Lib.hid ho; have HB := Lib.hid hb1; have HBW := Lib.hid hbW
  have c0 : w1.cell? ⟨w.heap.size + 1, 0, none⟩ = some (.int .u8 0) := by simp only [World.cell?, hr1]; rfl
  have c1 : w1.cell? ⟨w.heap.size + 1, 1, none⟩ = some (.int .u8 0) := by simp only [World.cell?, hr1]; rfl
  have c2 : w1.cell? ⟨w.heap.size + 1, 2, none⟩ = some (.int .u8 0) := by simp only [World.cell?, hr1]; rfl
  have c3 : w1.cell? ⟨w.heap.size + 1, 3, none⟩ = some (.int .i64 0) := by simp only [World.cell?, hr1]; rfl
  have g0 : w1.frozen? ⟨w.heap.size + 1, 0, none⟩ = false := by simp only [World.frozen?, hr1]; rfl
  have g1 : w1.frozen? ⟨w.heap.size + 1, 1, none⟩ = false := by simp only [World.frozen?, hr1]; rfl
  have g2 : w1.frozen? ⟨w.heap.size + 1, 2, none⟩ = false := by simp only [World.frozen?, hr1]; rfl
  have g3 : w1.frozen? ⟨w.heap.size + 1, 3, none⟩ = false := by simp only [World.frozen?, hr1]; rfl
  clear ho hg hb1 hr1 hrW hbW
  unfold decV
  go_wp2
  refine bodyPost_ret (v := .tuple #[decV x' y' z' n', v']) (by simp [results, Tryd.results12, go_sem, decV, c0, c1, c2, c3]) rfl ⟨v', rfl, ?_, ?_⟩
  · refine (HO.out.mono (by omega)).keep fun k hk => ?_
    have := (HO.out.lt k hk).1
    rw [Below.heap_setCell _ _ _ _ (by simp; omega), Below.heap_setCell _ _ _ _ (by simp; omega), Below.heap_setCell _ _ _ _ (by simp; omega), Below.heap_setCell _ _ _ _ (by simp; omega)]
  · exact (((((HBW.out.trans (HB.out.mono (by omega)))).setCell (by simp) _).setCell (by simp) _).setCell (by simp) _).setCell (by simp) _
end Go.Proofs.YtdolekmifnenhaaDoor
