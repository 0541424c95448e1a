/-
  Layer 5 (utf): All.
-/
import Derived.Test.YtdolekmifnenhaaDoorUFlush
namespace Go.Proofs.YtdolekmifnenhaaDoor
open Go.RowKit Go.Lib

/-- A text's bytes. -/
def bytesOf (s : ByteArray) : List UInt8 := s.data.toList
theorem bytes_len (s : ByteArray) : (bytesOf s).length = s.size := (Lib.size_eq s).symm
theorem bytes_take (s : ByteArray) (k : Nat) (h : k < s.size) : (bytesOf s).take (k + 1) = (bytesOf s).take k ++ [s[k]] := by
  unfold bytesOf
  rw [List.take_succ_eq_append_getElem (by simpa using h)]; rfl

/-- What holds while All goes through a text: behind k bytes. -/
structure AL (w wr : World) (u : Value) (s : ByteArray) (k : Nat) : Prop where
  own : OwnR wr (w.heap.size + 1) u (UM.feeds [] ((bytesOf s).take k)).1
  below : Below w.heap.size w wr
  dec : ∃ x y z n, holdV (nat8 (UM.feeds [] ((bytesOf s).take k)).2) = decV x y z n ∧ wr.heap[w.heap.size]? = some (.cells #[.int .u8 (x : Int), .int .u8 (y : Int), .int .u8 (z : Int), .int .i64 n] 29)

theorem AL.count {w wr : World} {u : Value} {s : ByteArray} {k : Nat} (_h : AL w wr u s k) (hs : s.size ≤ 1000) : (UM.feeds [] ((bytesOf s).take k)).1.length ≤ 1000 := by
  have h1 := UM.feeds_count ((bytesOf s).take k) []
  have h2 : ((bytesOf s).take k).length ≤ s.size := by rw [List.length_take, bytes_len]; omega
  simp at h1 h2
  omega
/-- A Decoder's block, written anew. -/
theorem dec_set {w1 : World} {g : Nat} {x y z x' y' z' : Nat} {n n' : Int} (h : w1.heap[g]? = some (.cells #[.int .u8 (x : Int), .int .u8 (y : Int), .int .u8 (z : Int), .int .i64 n] 29)) :
    ((((w1.setCell ⟨g, 0, none⟩ (.int .u8 (x' : Int))).setCell ⟨g, 1, none⟩ (.int .u8 (y' : Int))).setCell ⟨g, 2, none⟩ (.int .u8 (z' : Int))).setCell ⟨g, 3, none⟩ (.int .i64 n')).heap[g]? = some (.cells #[.int .u8 (x' : Int), .int .u8 (y' : Int), .int .u8 (z' : Int), .int .i64 n'] 29) := by
  have h1 := heap_setCell_same w1 g 0 _ _ (.int .u8 (x' : Int)) h
  have h2 := heap_setCell_same _ g 1 _ _ (.int .u8 (y' : Int)) h1
  have h3 := heap_setCell_same _ g 2 _ _ (.int .u8 (z' : Int)) h2
  have h4 := heap_setCell_same _ g 3 _ _ (.int .i64 n') h3
  exact h4.trans (by simp)

set_option maxRecDepth 100000 in
set_option maxHeartbeats 1000000 in
theorem all_ok (w : World) (hT : Utf w) (s : ByteArray) (hs : s.size ≤ 1000) :
    Calls Tryd.prog 9 #[.string s] w fun e w' => ∃ v', e = .returned v' ∧ OwnR w' w.heap.size v' (JM.runes (bytesOf s)) ∧ Below w.heap.size w w' := by
  have HT := Lib.hid hT
  have h0 : AL w (w.alloc (.cells #[.int .u8 0, .int .u8 0, .int .u8 0, .int .i64 0] 29)) (.slice none 0 0) s 0 := by
    refine ⟨OwnR.nil _ _, (Below.refl _ _).alloc (Nat.le_refl _) _, 0, 0, 0, 0, rfl, ?_⟩
    exact (MapKept.heap_alloc w _).1
  have H0 := Lib.hid h0
  clear hT h0
  go_enter Tryd.func9, Tryd.ntmps9
  go_wp2
  go_loopw [4, 8] (fun a i wr => ∃ k : Nat, k ≤ s.size ∧ i = .int .i64 (k : Int) ∧ AL w wr a s k) (fun _ i _ => s.size - (RowKit.intOf i).toNat)
  case atStart => exact ⟨0, Nat.zero_le _, rfl, H0.out⟩
  case round =>
    obtain ⟨k, hk, rfl, hA⟩ := hrel
    have HA := Lib.hid hA
    have hsz := hA.below.size
    have hsz1 : w.heap.size < wr.heap.size := by obtain ⟨x, y, z, n, -, h⟩ := hA.dec; exact (Array.getElem?_eq_some_iff.1 h).1
    obtain ⟨x, y, z, n, hd, hblk⟩ := hA.dec
    clear hA
    by_cases hlt : k < s.size
    · have d0 : wr.cell? ⟨w.heap.size, 0, none⟩ = some (.int .u8 (x : Int)) := by simp only [World.cell?, hblk]; rfl
      have d1 : wr.cell? ⟨w.heap.size, 1, none⟩ = some (.int .u8 (y : Int)) := by simp only [World.cell?, hblk]; rfl
      have d2 : wr.cell? ⟨w.heap.size, 2, none⟩ = some (.int .u8 (z : Int)) := by simp only [World.cell?, hblk]; rfl
      have d3 : wr.cell? ⟨w.heap.size, 3, none⟩ = some (.int .i64 n) := by simp only [World.cell?, hblk]; rfl
      have HD := Lib.hid hd; have HBLK := Lib.hid hblk
      clear hd hblk
      go_wp2
      refine wp_region_noPanic ?_
      refine wp_region_held_drew (S := fun _ => True) (by kernel_rfl) trivial (fun hHeld => ?_)
      refine wpAnyH_take (i := 1) (v := ?va1) rfl (by kernel_rfl) (by kernel_rfl) (by kernel_rfl) (fun _ _ _ h => h) (Or.inl ⟨by rfl, ?ha1⟩) (by assumption) ?_
      case ha1 => intro w hSw; (try dsimp only at hSw); go_simp; try with_reducible rfl
      simp only [List.getElem_toArray, List.getElem_cons_succ, List.getElem_cons_zero, Act.put, List.setIfInBounds_toArray, List.set_cons_zero, List.set_cons_succ]
      refine wpAnyH_take (i := 2) (v := ?va2) rfl (by kernel_rfl) (by kernel_rfl) (by kernel_rfl) (fun _ _ _ h => h) (Or.inl ⟨by rfl, ?ha2⟩) (by assumption) ?_
      case ha2 => intro w hSw; (try dsimp only at hSw); go_simp; try with_reducible rfl
      simp only [List.getElem_toArray, List.getElem_cons_succ, List.getElem_cons_zero, Act.put, List.setIfInBounds_toArray, List.set_cons_zero, List.set_cons_succ]
      refine wpAnyH_take (i := 3) (v := ?va3) rfl (by kernel_rfl) (by kernel_rfl) (by kernel_rfl) (fun _ _ _ h => h) (Or.inl ⟨by rfl, ?ha3⟩) (by assumption) ?_
      case ha3 => intro w hSw; (try dsimp only at hSw); go_simp; try with_reducible rfl
      simp only [List.getElem_toArray, List.getElem_cons_succ, List.getElem_cons_zero, Act.put, List.setIfInBounds_toArray, List.set_cons_zero, List.set_cons_succ]
      refine wpAnyH_take (i := 4) (v := ?va4) rfl (by kernel_rfl) (by kernel_rfl) (by kernel_rfl) (fun _ _ _ h => h) (Or.inl ⟨by rfl, ?ha4⟩) (by assumption) ?_
      case ha4 => intro w hSw; (try dsimp only at hSw); go_simp; try with_reducible rfl
      simp only [List.getElem_toArray, List.getElem_cons_succ, List.getElem_cons_zero, Act.put, List.setIfInBounds_toArray, List.set_cons_zero, List.set_cons_succ]
      refine wpAnyH_ready (rs := [0]) (by kernel_rfl) (by simp) ?_
      refine AllReadyH.cons rfl (fun K hK => ?_) AllReadyH.nil
      go_simp
      refine hK.out _ _ ?_ (fun hHeld => ?_)
      · trivial
      clear hK K
      refine wpAnyH_ready (rs := [5]) (by kernel_rfl) (by simp) ?_
      refine AllReadyH.cons rfl (fun K hK => ?_) AllReadyH.nil
      go_simp
      have hdrew : Below wr.heap.size wr wr.drew := (Below.refl _ wr).drew
      have hTr : Utf wr.drew := (HT.out.on HA.out.below HT.out.room).on hdrew (HT.out.on HA.out.below HT.out.room).room
      have hu3 := UM.full_long (UM.feeds_left ((bytesOf s).take k) [] UM.full_nil)
      have hcall := feed_ok wr.drew hTr _ _ (w.heap.size + 1) (HA.out.own.below hdrew) (by show w.heap.size + 1 ≤ wr.heap.size; omega) (by have := HT.out.room; omega) (by have := HA.out.count hs; omega) _ hu3 s[k]
      rw [HD.out] at hcall
      refine hcall.mono ?_
      clear hcall
      rintro e w1 ⟨v', rfl, ho1, hg1⟩
      obtain ⟨x', y', z', n', hd'⟩ : ∃ (x y z : Nat) (n : Int), holdV (nat8 (UM.eat ((UM.feeds [] ((bytesOf s).take k)).2 ++ [s[k]])).2) = decV x y z n := ⟨_, _, _, _, rfl⟩
      have hne : some w.heap.size ≠ Value.ownBlock u4 := fun e => by have := (HA.out.own.lt _ e.symm).1; omega
      have hbl1 := (hg1.grown.block w.heap.size (by show w.heap.size < wr.heap.size; omega) hne).trans HBLK.out
      have hb1 : Below w.heap.size w w1 := (below_at HA.out.below hsz hdrew).trans ((HA.out.own.below hdrew).grow_below hg1 (by show w.heap.size + 1 ≤ wr.heap.size; omega) |>.mono (by omega))
      have hfs := UM.feeds_snoc [] ((bytesOf s).take k) s[k]
      rw [← bytes_take s k hlt] at hfs
      have HAL : Hid (AL w ((((w1.setCell ⟨w.heap.size, 0, none⟩ (.int .u8 (x' : Int))).setCell ⟨w.heap.size, 1, none⟩ (.int .u8 (y' : Int))).setCell ⟨w.heap.size, 2, none⟩ (.int .u8 (z' : Int))).setCell ⟨w.heap.size, 3, none⟩ (.int .i64 n')) v' s (k + 1)) := by
        refine Lib.hid ⟨?_, (((hb1.setCell (by simp) _).setCell (by simp) _).setCell (by simp) _).setCell (by simp) _, x', y', z', n', ?_, dec_set hbl1⟩
        · rw [hfs]
          refine ho1.keep fun k hk => ?_
          have := (ho1.lt k hk).1
          rw [Below.heap_setCell _ _ _ _ (by simp; omega), Below.heap_setCell _ _ _ _ (by simp; omega), Below.heap_setCell _ _ _ _ (by simp; omega), Below.heap_setCell _ _ _ _ (by simp; omega)]
        · rw [hfs]; exact hd'
      rw [hd']
      have c0 : w1.cell? ⟨w.heap.size, 0, none⟩ = some (.int .u8 (x : Int)) := by simp only [World.cell?, hbl1]; rfl
      have c1 : w1.cell? ⟨w.heap.size, 1, none⟩ = some (.int .u8 (y : Int)) := by simp only [World.cell?, hbl1]; rfl
      have c2 : w1.cell? ⟨w.heap.size, 2, none⟩ = some (.int .u8 (z : Int)) := by simp only [World.cell?, hbl1]; rfl
      have c3 : w1.cell? ⟨w.heap.size, 3, none⟩ = some (.int .i64 n) := by simp only [World.cell?, hbl1]; rfl
      have g0 : w1.frozen? ⟨w.heap.size, 0, none⟩ = false := by simp only [World.frozen?, hbl1]; rfl
      have g1 : w1.frozen? ⟨w.heap.size, 1, none⟩ = false := by simp only [World.frozen?, hbl1]; rfl
      have g2 : w1.frozen? ⟨w.heap.size, 2, none⟩ = false := by simp only [World.frozen?, hbl1]; rfl
      have g3 : w1.frozen? ⟨w.heap.size, 3, none⟩ = false := by simp only [World.frozen?, hbl1]; rfl
      clear hdrew hTr hu3 ho1 hg1 hd' hne hbl1 hb1 hfs d0 d1 d2 d3
      unfold decV
      dsimp only
      refine hK.out _ _ ?_ (fun hHeld => ?_)
      · trivial
      clear hK K
      refine wpAnyH_take (i := 6) (v := ?vb6) rfl (by kernel_rfl) (by kernel_rfl) (by kernel_rfl) (fun _ _ _ h => h) (Or.inl ⟨by rfl, ?hb6⟩) (by assumption) ?_
      case hb6 => intro w hSw; (try dsimp only at hSw); go_simp; try with_reducible rfl
      simp only [List.getElem_toArray, List.getElem_cons_succ, List.getElem_cons_zero, Act.put, List.setIfInBounds_toArray, List.set_cons_zero, List.set_cons_succ]
      refine wpAnyH_take (i := 7) (v := ?vb7) rfl (by kernel_rfl) (by kernel_rfl) (by kernel_rfl) (fun _ _ _ h => h) (Or.inl ⟨by rfl, ?hb7⟩) (by assumption) ?_
      case hb7 => intro w hSw; (try dsimp only at hSw); go_simp; try with_reducible rfl
      simp only [List.getElem_toArray, List.getElem_cons_succ, List.getElem_cons_zero, Act.put, List.setIfInBounds_toArray, List.set_cons_zero, List.set_cons_succ]
      refine wpAnyH_take (i := 8) (v := ?vb8) rfl (by kernel_rfl) (by kernel_rfl) (by kernel_rfl) (fun _ _ _ h => h) (Or.inl ⟨by rfl, ?hb8⟩) (by assumption) ?_
      case hb8 => intro w hSw; (try dsimp only at hSw); go_simp; try with_reducible rfl
      simp only [List.getElem_toArray, List.getElem_cons_succ, List.getElem_cons_zero, Act.put, List.setIfInBounds_toArray, List.set_cons_zero, List.set_cons_succ]
      refine wpAnyH_ready (rs := [9]) (by kernel_rfl) (by simp) ?_
      refine AllReadyH.cons rfl (fun K hK => ?_) AllReadyH.nil
      go_simp
      refine hK.out _ _ ?_ (fun hHeld => ?_)
      · trivial
      clear hK K
      refine wpAnyH_take (i := 10) (v := ?vc10) rfl (by kernel_rfl) (by kernel_rfl) (by kernel_rfl) (fun _ _ _ h => h) (Or.inl ⟨by rfl, ?hc10⟩) (by assumption) ?_
      case hc10 => intro w hSw; (try dsimp only at hSw); go_simp; try with_reducible rfl
      simp only [List.getElem_toArray, List.getElem_cons_succ, List.getElem_cons_zero, Act.put, List.setIfInBounds_toArray, List.set_cons_zero, List.set_cons_succ]
      refine wpAnyH_done (by kernel_rfl) ?_ _
      refine NoPanic.normal ?_
      clear hHeld c0 c1 c2 c3 g0 g1 g2 g3
      generalize ((((w1.setCell ⟨w.heap.size, 0, none⟩ (.int .u8 (x' : Int))).setCell ⟨w.heap.size, 1, none⟩ (.int .u8 (y' : Int))).setCell ⟨w.heap.size, 2, none⟩ (.int .u8 (z' : Int))).setCell ⟨w.heap.size, 3, none⟩ (.int .i64 n')) = w2 at *
      go_wp2
      go_roundw
      case rel => exact ⟨k + 1, by omega, by go_num, HAL.out⟩
      case measure => simp [RowKit.intOf]; omega
    · have d0 : wr.cell? ⟨w.heap.size, 0, none⟩ = some (.int .u8 (x : Int)) := by simp only [World.cell?, hblk]; rfl
      have d1 : wr.cell? ⟨w.heap.size, 1, none⟩ = some (.int .u8 (y : Int)) := by simp only [World.cell?, hblk]; rfl
      have d2 : wr.cell? ⟨w.heap.size, 2, none⟩ = some (.int .u8 (z : Int)) := by simp only [World.cell?, hblk]; rfl
      have d3 : wr.cell? ⟨w.heap.size, 3, none⟩ = some (.int .i64 n) := by simp only [World.cell?, hblk]; rfl
      have hu3 := UM.full_long (UM.feeds_left ((bytesOf s).take k) [] UM.full_nil)
      have hcall := flush_ok wr _ _ (w.heap.size + 1) HA.out.own (by omega) (by have := HA.out.count hs; omega) _ hu3
      rw [hd] at hcall
      have htk : (bytesOf s).take k = bytesOf s := List.take_of_length_le (by rw [bytes_len]; omega)
      have hfa := UM.feeds_all (bytesOf s)
      rw [← htk] at hfa
      unfold FlushPost at hcall
      rw [← hfa, htk] at hcall
      have HC := Lib.hid hcall
      clear hcall hd hblk hu3 htk hfa
      unfold decV at HC
      go_wp2_with fail
      refine HC.out.mono ?_
      rintro e w1 ⟨v', rfl, ho1, hg1⟩
      have hb1 : Below w.heap.size w w1 := HA.out.below.trans (HA.out.own.grow_below hg1 (by omega) |>.mono (by omega))
      have HO := Lib.hid ho1; have HB := Lib.hid hb1
      clear ho1 hg1 hb1
      go_wp2
      go_ret
      exact ⟨v', rfl, HO.out.mono (by omega), HB.out⟩
end Go.Proofs.YtdolekmifnenhaaDoor
