/-
  Layer 4 (file): New, Fuse, change, appendError, renameError.
-/
import Derived.Test.YtdaipoelicpnoaaFUsed
import Derived.Deep.RegionHeld3
namespace Go.Proofs.Ytdaipoelicpnoaa
open Go.RowKit Go.Maps FM

theorem StoB.turn {w w' : World} {sb mb : Nat} {L : List (Name × Ent)} {s s' : St} (h : StoB w sb mb L s) (hf : Fr (fun k => k = sb) w w')
    (hc : w'.heap[sb]? = some (.cells #[.map (some mb), .int .i64 (s'.quota : Int), .int .i64 s'.fuse, .bool s'.down] 55)) (hfs : s'.fs = s.fs) (hq : s'.quota = s.quota)
    (hfu : -9223372036854775808 ≤ s'.fuse ∧ s'.fuse < 9223372036854775808) : StoB w' sb mb L s' :=
  { cells := hc
    map := h.map.kept (row := some sb) ⟨hf.os, hf.tape, hf.output, hf.size, fun k hk hne => hf.block k hk (fun e => hne (by rw [e]))⟩ (by simpa using h.ne)
    own := fun p hp => (h.own p hp).grown (row := some sb) ⟨hf.os, hf.tape, hf.output, hf.size, fun k hk hne => hf.block k hk (fun e => hne (by rw [e]))⟩ (.inr (h.own_ne hp).1)
    apart := h.apart
    fs := by rw [hfs]; exact h.fs
    rise := h.rise
    sure := h.sure
    small := h.small
    short := h.short
    quota := by rw [hq]; exact h.quota
    fuse := hfu }

theorem StoB.set2 {w : World} {sb mb : Nat} {L : List (Name × Ent)} {s : St} (h : StoB w sb mb L s) (z : Int) (hz : -9223372036854775808 ≤ z ∧ z < 9223372036854775808) : StoB (w.setCell ⟨sb, 2, none⟩ (.int .i64 z)) sb mb L { s with fuse := z } :=
  h.turn (Fr.setCell _ rfl) (by rw [heap_setCell_same w sb 2 _ _ _ h.cells]; rfl) rfl rfl hz
theorem StoB.set3 {w : World} {sb mb : Nat} {L : List (Name × Ent)} {s : St} (h : StoB w sb mb L s) (b : Bool) : StoB (w.setCell ⟨sb, 3, none⟩ (.bool b)) sb mb L { s with down := b } :=
  h.turn (Fr.setCell _ rfl) (by rw [heap_setCell_same w sb 3 _ _ _ h.cells]; rfl) rfl rfl h.fuse

set_option maxRecDepth 100000 in
theorem fuse_ok (w : World) (sb mb : Nat) (L : List (Name × Ent)) (s : St) (n : Int) (hn : -9223372036854775808 ≤ n ∧ n < 9223372036854775808) (h : StoB w sb mb L s) :
    Calls Try.prog 20 #[.pointer (some ⟨sb, 0, none⟩), .int .i64 n] w fun e w' => e = .returned (.tuple #[]) ∧ StoB w' sb mb L (setFuse s n) ∧ Fr (fun k => k = sb) w w' ∧ w'.heap.size = w.heap.size := by
  have c2 := h.cell2
  have f2 := h.frozen 2
  have HS := Lib.hid (h.set2 n hn); clear h
  go_enter Try.func20, Try.ntmps20
  go_wp2
  go_end0
  exact ⟨rfl, HS.out, Fr.setCell _ rfl, by simp⟩

/-- The store behind a change. -/
def Changed (w : World) (sb mb : Nat) (L : List (Name × Ent)) (r : Nat × St) (e : Ending) (w' : World) : Prop :=
  e = .returned (.int .i64 (r.1 : Int)) ∧ StoB w' sb mb L r.2 ∧ Fr (fun k => k = sb) w w' ∧ w'.heap.size = w.heap.size

set_option maxRecDepth 100000 in
theorem change_ok (w : World) (sb mb : Nat) (L : List (Name × Ent)) (s : St) (e : Nat) (he : e ≤ 100) (h : StoB w sb mb L s) :
    Calls Try.prog 35 #[.pointer (some ⟨sb, 0, none⟩), .int .i64 (e : Int)] w (Changed w sb mb L (change s e)) := by
  have c3 := h.cell3
  have c2 := h.cell2
  have f2 := h.frozen 2
  have f3 := h.frozen 3
  have hfu := h.fuse
  have HS := Lib.hid h
  clear h
  obtain ⟨r, hr⟩ : ∃ r, r = change s e := ⟨_, rfl⟩
  rw [← hr]
  unfold change at hr
  rcases hd : s.down with _ | _
  · rw [hd] at c3 hr
    rw [if_neg (by simp)] at hr
    by_cases h0 : e = 0
    · subst h0
      rw [if_neg (by simp)] at hr
      by_cases h1 : s.fuse = 0
      · rw [if_pos h1] at hr
        rw [h1] at c2
        have HR := Lib.hid hr
        clear hfu hr
        go_enter Try.func35, Try.ntmps35
        go_wp2
        go_ret
        rw [HR.out]
        exact ⟨rfl, HS.out.set3 true, Fr.setCell _ rfl, by simp⟩
      · rw [if_neg h1] at hr
        by_cases h2 : 0 < s.fuse
        · rw [if_pos h2] at hr
          have d1 : (s.fuse == 0) = false := by simpa using h1
          have d2 : decide ((0 : Int) < s.fuse) = true := by simpa using h2
          have HR := Lib.hid hr
          clear hr
          have hw : wrap64 (s.fuse - 1) = s.fuse - 1 := by unfold wrap64; omega
          have HW := Lib.hid hw
          have HF := Lib.hid (show -9223372036854775808 ≤ s.fuse - 1 ∧ s.fuse - 1 < 9223372036854775808 by omega)
          clear hw hfu h1 h2
          go_enter Try.func35, Try.ntmps35
          go_wp2
          go_ret
          rw [HR.out, HW.out]
          exact ⟨rfl, by have := HS.out.set2 _ HF.out; rw [hd] at this; exact this, Fr.setCell _ rfl, by simp⟩
        · rw [if_neg h2] at hr
          have d1 : (s.fuse == 0) = false := by simpa using h1
          have d2 : decide ((0 : Int) < s.fuse) = false := by simpa using h2
          have HR := Lib.hid hr
          clear hr hfu h1 h2
          go_enter Try.func35, Try.ntmps35
          go_wp2
          go_ret
          rw [HR.out]
          exact ⟨rfl, HS.out, Fr.refl _ _, rfl⟩
    · rw [if_pos h0] at hr
      have d0 : ((e : Int) != 0) = true := by simp; omega
      have HR := Lib.hid hr
      clear hr h0
      go_enter Try.func35, Try.ntmps35
      go_wp2
      go_ret
      rw [HR.out]
      exact ⟨rfl, HS.out, Fr.refl _ _, rfl⟩
  · rw [hd] at c3 hr
    rw [if_pos rfl] at hr
    have HR := Lib.hid hr
    clear hr
    go_enter Try.func35, Try.ntmps35
    go_wp2
    go_ret
    rw [HR.out]
    exact ⟨rfl, HS.out, Fr.refl _ _, rfl⟩

set_option maxRecDepth 100000 in
theorem renameError_ok (w : World) (sb mb : Nat) (L : List (Name × Ent)) (s : St) (a b : ByteArray) (ha : a.size ≤ maxLen) (hb : b.size ≤ maxLen) (h : StoB w sb mb L s) :
    Calls Try.prog 40 #[.pointer (some ⟨sb, 0, none⟩), .string a, .string b] w fun e w' => e = .returned (.int .i64 (renameErr s a.data.toList b.data.toList : Int)) ∧ Below w.heap.size w w' := by
  unfold renameErr
  have HN := Lib.hid (isName_ok w b hb)
  have HM := Lib.hid (missing_ok w sb mb L s a ha h)
  clear h
  rcases hi : isName b.data.toList with _ | _
  · rw [hi] at HN
    go_enter Try.func40, Try.ntmps40
    go_wp2_with fail
    refine HN.out.mono ?_
    rintro e w1 ⟨rfl, rfl⟩
    go_wp2
    go_ret
    exact ⟨rfl, Below.refl _ _⟩
  · rw [hi] at HN
    go_enter Try.func40, Try.ntmps40
    go_wp2_with fail
    refine HN.out.mono ?_
    rintro e w1 ⟨rfl, hw⟩
    rw [hw]
    clear hw w1
    go_wp2_with fail
    refine HM.out.mono ?_
    rintro e w1 ⟨rfl, hb1⟩
    have HB := Lib.hid hb1; clear hb1
    go_wp2
    go_ret
    exact ⟨rfl, HB.out⟩

theorem below_drew (w : World) : Below w.heap.size w w.drew := ⟨rfl, rfl, rfl, Nat.le_refl _, fun _ _ => rfl⟩
theorem Below.of_drew {B : Nat} {w w' : World} (h : Below B w.drew w') : Below B w w' := ⟨h.os, h.tape, h.output, h.size, h.block⟩

set_option maxRecDepth 100000 in
set_option maxHeartbeats 1000000 in
theorem appendError_name (w : World) (sb mb : Nat) (L : List (Name × Ent)) (s : St) (n : ByteArray) (hn : n.size ≤ maxLen) (A : Option Addr) (k c : Nat) (h : StoB w sb mb L s) (hu : used s ≤ 1000000000) (hi : isName n.data.toList = true) (r : Nat) (hr : r = if s.quota - used s < k then 5 else 0) (hroom : used s ≤ s.quota) :
    Calls Try.prog 36 #[.pointer (some ⟨sb, 0, none⟩), .string n, .slice A k c] w fun e w' => e = .returned (.int .i64 (r : Int)) ∧ Below w.heap.size w w' := by
  have HN := Lib.hid (isName_ok w n hn)
  rw [hi] at HN
  have HU := Lib.hid (used_ok w.drew sb mb L s (h.below (below_drew w)) hu)
  have c1 := h.cell1
  have hq := h.quota
  clear h hi
  obtain ⟨q, hqq⟩ : ∃ q : Nat, q = s.quota := ⟨_, rfl⟩
  rw [← hqq] at c1 hq hr hroom
  clear hqq
  obtain ⟨u, huu⟩ : ∃ u : Nat, u = used s := ⟨_, rfl⟩
  rw [← huu] at HU hu hr hroom
  clear huu
  obtain ⟨b, hb⟩ : ∃ b : Bool, b = decide ((q : Int) - (u : Int) < (k : Int)) := ⟨_, rfl⟩
  have hr' : r = if b then 5 else 0 := by
    rw [hr, hb]
    by_cases h1 : q - u < k
    · rw [if_pos h1, if_pos (by simp; omega)]
    · rw [if_neg h1, if_neg (by simp; omega)]
  have hb' := hb.symm
  have HR := Lib.hid hr'
  clear hr hr' hb
  cases b <;>
  · go_enter Try.func36, Try.ntmps36
    go_wp2_with fail
    refine HN.out.mono ?_
    rintro e w1 ⟨rfl, hw⟩
    rw [hw]
    clear hw w1
    go_wp2
    refine wp_region_noPanic ?_
    refine wp_region_held_drew (S := fun w' => w'.cell? ⟨sb, 1, none⟩ = some (.int .i64 (q : Int))) (by kernel_rfl) c1 (fun hHeld => ?_)
    refine wpAnyH_take (i := 0) (v := ?va0) rfl (by kernel_rfl) (by kernel_rfl) (by kernel_rfl) (fun _ _ _ h => h) (Or.inl ⟨by rfl, ?ha0⟩) (by assumption) ?_
    case ha0 => intro w hSw; (try dsimp only at hSw); go_simp; try with_reducible rfl
    simp only [List.getElem_toArray, List.getElem_cons_zero, Act.put, List.setIfInBounds_toArray, List.set_cons_zero, List.set_cons_succ]
    refine wpAnyH_take (i := 1) (v := ?va1) rfl (by kernel_rfl) (by kernel_rfl) (by kernel_rfl) (fun _ _ _ h => h) (Or.inl ⟨by rfl, ?ha1⟩) (by assumption) ?_
    case ha1 => intro w hSw; (try dsimp only at hSw); go_simp; try with_reducible rfl
    simp only [List.getElem_toArray, List.getElem_cons_succ, List.getElem_cons_zero, Act.put, List.setIfInBounds_toArray, List.set_cons_zero, List.set_cons_succ]
    refine wpAnyH_take (i := 2) (v := ?va2) rfl (by kernel_rfl) (by kernel_rfl) (by kernel_rfl) (fun _ _ _ h => h) (Or.inl ⟨by rfl, ?ha2⟩) (by assumption) ?_
    case ha2 => intro w hSw; (try dsimp only at hSw); go_simp; try with_reducible rfl
    simp only [List.getElem_toArray, List.getElem_cons_succ, List.getElem_cons_zero, Act.put, List.setIfInBounds_toArray, List.set_cons_zero, List.set_cons_succ]
    refine wpAnyH_take (i := 3) (v := ?va3) rfl (by kernel_rfl) (by kernel_rfl) (by kernel_rfl) (fun _ _ _ h => h) (Or.inl ⟨by rfl, ?ha3⟩) (by assumption) ?_
    case ha3 => intro w hSw; (try dsimp only at hSw); go_simp; try with_reducible rfl
    simp only [List.getElem_toArray, List.getElem_cons_succ, List.getElem_cons_zero, Act.put, List.setIfInBounds_toArray, List.set_cons_zero, List.set_cons_succ]
    refine wpAnyH_take (i := 4) (v := ?va4) rfl (by kernel_rfl) (by kernel_rfl) (by kernel_rfl) (fun _ _ _ h => h) (Or.inl ⟨by rfl, ?ha4⟩) (by assumption) ?_
    case ha4 => intro w hSw; (try dsimp only at hSw); go_simp; try with_reducible rfl
    simp only [List.getElem_toArray, List.getElem_cons_succ, List.getElem_cons_zero, Act.put, List.setIfInBounds_toArray, List.set_cons_zero, List.set_cons_succ]
    refine wpAnyH_take (i := 5) (v := ?va5) rfl (by kernel_rfl) (by kernel_rfl) (by kernel_rfl) (fun _ _ _ h => h) (Or.inl ⟨by rfl, ?ha5⟩) (by assumption) ?_
    case ha5 => intro w hSw; (try dsimp only at hSw); go_simp; try with_reducible rfl
    simp only [List.getElem_toArray, List.getElem_cons_succ, List.getElem_cons_zero, Act.put, List.setIfInBounds_toArray, List.set_cons_zero, List.set_cons_succ]
    refine wpAnyH_take (i := 6) (v := ?va6) rfl (by kernel_rfl) (by kernel_rfl) (by kernel_rfl) (fun _ _ _ h => h) (Or.inl ⟨by rfl, ?ha6⟩) (by assumption) ?_
    case ha6 => intro w hSw; (try dsimp only at hSw); go_simp; try with_reducible rfl
    simp only [List.getElem_toArray, List.getElem_cons_succ, List.getElem_cons_zero, Act.put, List.setIfInBounds_toArray, List.set_cons_zero, List.set_cons_succ]
    refine wpAnyH_ready (rs := [7]) (by kernel_rfl) (by simp) ?_
    refine AllReadyH.cons rfl (fun K hK => ?_) AllReadyH.nil
    go_simp
    refine HU.out.mono ?_
    rintro e w2 ⟨rfl, hb2⟩
    have c2 : w2.cell? ⟨sb, 1, none⟩ = some (.int .i64 (q : Int)) := by
      have hlt := World.block_lt_of_cell? w ⟨sb, 1, none⟩ c1
      rw [hb2.cell hlt]; exact c1
    have HB2 := Lib.hid hb2
    clear hb2
    dsimp only
    refine hK.out _ _ ?_ (fun hHeld => ?_)
    · exact c2
    clear hK K
    refine wpAnyH_take (i := 8) (v := ?vb8) rfl (by kernel_rfl) (by kernel_rfl) (by kernel_rfl) (fun _ _ _ h => h) (Or.inl ⟨by rfl, ?hb8⟩) (by assumption) ?_
    case hb8 => intro w hSw; (try dsimp only at hSw); go_simp; try with_reducible rfl
    simp only [List.getElem_toArray, List.getElem_cons_succ, List.getElem_cons_zero, Act.put, List.setIfInBounds_toArray, List.set_cons_zero, List.set_cons_succ]
    refine wpAnyH_take (i := 9) (v := ?vb9) rfl (by kernel_rfl) (by kernel_rfl) (by kernel_rfl) (fun _ _ _ h => h) (Or.inl ⟨by rfl, ?hb9⟩) (by assumption) ?_
    case hb9 => intro w hSw; (try dsimp only at hSw); go_simp; try with_reducible rfl
    simp only [List.getElem_toArray, List.getElem_cons_succ, List.getElem_cons_zero, Act.put, List.setIfInBounds_toArray, List.set_cons_zero, List.set_cons_succ]
    refine wpAnyH_done (by kernel_rfl) ?_ _
    refine NoPanic.normal ?_
    clear hHeld c2 c1
    have hw : IntKind.i64.wrap ((q : Int) - (u : Int)) = (q : Int) - (u : Int) := by rw [IntKind.wrap_i64]; omega
    rw [hw, hb']
    clear hw
    go_wp2
    go_ret
    exact ⟨by rw [HR.out]; rfl, Below.of_drew HB2.out⟩

set_option maxRecDepth 100000 in
theorem appendError_ok (w : World) (sb mb : Nat) (L : List (Name × Ent)) (s : St) (n : ByteArray) (hn : n.size ≤ maxLen) (A : Option Addr) (l : List Nat) (c : Nat) (h : StoB w sb mb L s) (hu : used s ≤ 1000000000) (hroom : used s ≤ s.quota) :
    Calls Try.prog 36 #[.pointer (some ⟨sb, 0, none⟩), .string n, .slice A l.length c] w fun e w' => e = .returned (.int .i64 (appendErr s n.data.toList l : Int)) ∧ Below w.heap.size w w' := by
  unfold appendErr
  rcases hi : isName n.data.toList with _ | _
  · have HN := Lib.hid (isName_ok w n hn)
    rw [hi] at HN
    clear h hi hu hroom
    go_enter Try.func36, Try.ntmps36
    go_wp2_with fail
    refine HN.out.mono ?_
    rintro e w1 ⟨rfl, hw⟩
    rw [hw]
    clear hw w1
    go_wp2
    go_ret
    exact ⟨rfl, Below.refl _ _⟩
  · exact appendError_name w sb mb L s n hn A l.length c h hu hi _ rfl hroom
end Go.Proofs.Ytdaipoelicpnoaa
