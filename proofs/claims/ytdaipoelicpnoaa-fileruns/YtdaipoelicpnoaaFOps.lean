/-
  Layer 4 (file): the calls that leave the store as it is: Up, Used, Sure, Read, missing, isName; what is looked up in its map.
-/
import Derived.Test.YtdaipoelicpnoaaFMem
namespace Go.Proofs.Ytdaipoelicpnoaa
open Go.RowKit Go.Maps FM

theorem law9 : Keyed Try.prog 9 := string_keyed Try.underlying9
theorem zero_file (w : World) : (zeroValue 67).run Try.prog w = .ok (.agg #[.slice none 0 0, .int .i64 0]) w := by kernel_rfl

/-- The file of that name, or none. -/
def fileIn (L : List (Name × Ent)) (n : Name) : File := ((get n L).map Prod.snd).getD noFile

theorem fileIn_of {w : World} {sb mb : Nat} {L : List (Name × Ent)} {s : St} (h : StoB w sb mb L s) (n : Name) : fileIn L n = fileOf s n := by
  unfold fileIn fileOf; rw [h.fs, mapV_get]

theorem StoB.at_ {w : World} {sb mb : Nat} {L : List (Name × Ent)} {s : St} (h : StoB w sb mb L s) (n : ByteArray) (hn : n.size ≤ maxLen) :
    ∃ A c, (Instr.lookup 53 (.map (some mb)) (.string n) false).run Try.prog w = .ok (.agg #[.slice A (fileIn L n.data.toList).data.length c, .int .i64 ((fileIn L n.data.toList).sure : Int)]) w ∧
      (Instr.lookup 53 (.map (some mb)) (.string n) true).run Try.prog w = .ok (.tuple #[.agg #[.slice A (fileIn L n.data.toList).data.length c, .int .i64 ((fileIn L n.data.toList).sure : Int)], .bool (get n.data.toList L).isSome]) w ∧
      Own w 0 (.slice A (fileIn L n.data.toList).data.length c) (fileIn L n.data.toList).data ∧ (∀ x, get n.data.toList L = some x → x.1 = .slice A (fileIn L n.data.toList).data.length c) ∧ (get n.data.toList L = none → A = none) := by
  have hkey := WideMaps.keyOf_string_mk (P := Try.prog) Try.underlying9 (show n.size ≤ maxLen from hn)
  obtain ⟨v, ps, hrun, hv⟩ := h.map.lookup law9 Try.underlying53 (zero_file w) (fel_mk none 0 0 0) hkey
  obtain ⟨v2, ps2, hrun2, hv2⟩ := h.map.look_ok law9 Try.underlying53 (zero_file w) (fel_mk none 0 0 0) hkey
  rw [datum_get] at hv hv2
  rw [datum_has] at hrun2
  obtain ⟨A, k, c, y, rfl, hz⟩ := fel_inv hv
  obtain ⟨A2, k2, c2, y2, rfl, hz2⟩ := fel_inv hv2
  have e1 := congrArg Prod.fst hz
  have e2 := congrArg Prod.fst hz2
  unfold fileIn
  rcases hg : get n.data.toList L with _ | x
  · rw [hg] at e1 e2 hrun2
    simp only [DataW.held.injEq, Value.agg.injEq] at e1 e2
    rw [← e1] at hrun
    rw [← e2] at hrun2
    exact ⟨none, 0, hrun, hrun2, Own.nil _ _, (fun _ hh => by cases hh), fun _ => rfl⟩
  · rw [hg] at e1 e2 hrun2
    simp only [DataW.held.injEq] at e1 e2
    obtain ⟨A3, c3, hx, h1, h2, h3, h4⟩ := (h.own _ (get_some_mem hg)).form
    simp only at hx
    rw [← e1] at hrun
    rw [← e2] at hrun2
    unfold fval at hrun hrun2
    rw [hx] at hrun hrun2
    refine ⟨A3, c3, hrun, hrun2, ?_, (fun z hz => by cases hz; exact hx), fun hh => by cases hh⟩
    show Own w 0 (.slice A3 x.2.data.length c3) x.2.data
    rw [← hx]; exact h.own _ (get_some_mem hg)

theorem field_bytes (A : Option Addr) (n c : Nat) (y : Int) (w : World) : (Instr.field 67 (.agg #[.slice A n c, .int .i64 y]) 0).run Try.prog w = .ok (.slice A n c) w := by kernel_rfl
theorem field_sure (A : Option Addr) (n c : Nat) (y : Int) (w : World) : (Instr.field 67 (.agg #[.slice A n c, .int .i64 y]) 1).run Try.prog w = .ok (.int .i64 y) w := by kernel_rfl

set_option maxRecDepth 100000 in
theorem up_ok (w : World) (sb mb : Nat) (L : List (Name × Ent)) (s : St) (h : StoB w sb mb L s) :
    Calls Try.prog 22 #[.pointer (some ⟨sb, 0, none⟩)] w fun e w' => e = .returned (.bool (!s.down)) ∧ w' = w := by
  have c3 := h.cell3
  clear h
  go_enter Try.func22, Try.ntmps22
  go_wp2
  go_ret
  exact ⟨rfl, rfl⟩

set_option maxRecDepth 100000 in
theorem sure_ok (w : World) (sb mb : Nat) (L : List (Name × Ent)) (s : St) (n : ByteArray) (hn : n.size ≤ maxLen) (h : StoB w sb mb L s) :
    Calls Try.prog 14 #[.pointer (some ⟨sb, 0, none⟩), .string n] w fun e w' => e = .returned (.int .i64 ((fileOf s n.data.toList).sure : Int)) ∧ w' = w := by
  have c0 := h.cell0
  obtain ⟨A, c, h1, h2, h3, h4, _⟩ := h.at_ n hn
  rw [fileIn_of h] at h1
  clear h h2 h3 h4
  have hf := field_sure A (fileOf s n.data.toList).data.length c ((fileOf s n.data.toList).sure : Int)
  go_enter Try.func14, Try.ntmps14
  go_wp2
  go_ret
  exact ⟨rfl, rfl⟩

set_option maxRecDepth 100000 in
theorem missing_ok (w : World) (sb mb : Nat) (L : List (Name × Ent)) (s : St) (n : ByteArray) (hn : n.size ≤ maxLen) (h : StoB w sb mb L s) :
    Calls Try.prog 37 #[.pointer (some ⟨sb, 0, none⟩), .string n] w fun e w' => e = .returned (.int .i64 (missing s n.data.toList : Int)) ∧ Below w.heap.size w w' := by
  have c0 := h.cell0
  obtain ⟨A, c, h1, h2, h3, h4, _⟩ := h.at_ n hn
  have hs : (get n.data.toList s.fs).isSome = (get n.data.toList L).isSome := by rw [h.fs, mapV_get, Option.isSome_map]
  unfold missing
  rw [hs]
  clear h h1 h3 h4 hs
  generalize (get n.data.toList L).isSome = there at *
  generalize fileIn L n.data.toList = f at *
  cases there
  · go_enter Try.func37, Try.ntmps37
    go_wp2
    go_ret
    exact ⟨rfl, (Below.refl _ w).alloc (Nat.le_refl _) _⟩
  · go_enter Try.func37, Try.ntmps37
    go_wp2
    go_ret
    exact ⟨rfl, (Below.refl _ w).alloc (Nat.le_refl _) _⟩

theorem isName_ok (w : World) (n : ByteArray) (hn : n.size ≤ maxLen) :
    Calls Try.prog 41 #[.string n] w fun e w' => e = .returned (.bool (isName n.data.toList)) ∧ w' = w := by
  unfold isName
  have e : n.data.toList.length = n.size := by simp
  rw [e]
  unfold maxLen at hn
  by_cases h1 : 1 ≤ n.size
  · by_cases h2 : n.size ≤ 12
    · have d1 : decide ((1 : Int) ≤ (n.size : Int)) = true := by simp; omega
      have d2 : decide ((n.size : Int) ≤ 12) = true := by simp; omega
      go_enter Try.func41, Try.ntmps41
      go_wp2
      go_ret
      exact ⟨by simp [h1, h2], rfl⟩
    · have d1 : decide ((1 : Int) ≤ (n.size : Int)) = true := by simp; omega
      have d2 : decide ((n.size : Int) ≤ 12) = false := by simp; omega
      go_enter Try.func41, Try.ntmps41
      go_wp2
      go_ret
      exact ⟨by simp [h1, h2], rfl⟩
  · have d1 : decide ((1 : Int) ≤ (n.size : Int)) = false := by simp; omega
    go_enter Try.func41, Try.ntmps41
    go_wp2
    go_ret
    exact ⟨by simp [h1], rfl⟩

/-- What Read answers. -/
def readV (s : St) (n : Name) : List Nat × Nat := if s.down then ([], 8) else if (get n s.fs).isSome then ((fileOf s n).data, 0) else ([], 4)

set_option maxRecDepth 100000 in
set_option maxHeartbeats 1000000 in
theorem read_ok (w : World) (sb mb : Nat) (L : List (Name × Ent)) (s : St) (n : ByteArray) (hn : n.size ≤ maxLen) (h : StoB w sb mb L s) (hu : (fileOf s n.data.toList).data.length ≤ 1000000000) :
    Calls Try.prog 18 #[.pointer (some ⟨sb, 0, none⟩), .string n] w fun e w' => ∃ v, e = .returned (.tuple #[v, .int .i64 ((readV s n.data.toList).2 : Int)]) ∧ Own w' w.heap.size v (readV s n.data.toList).1 ∧ Below w.heap.size w w' := by
  have c3 := h.cell3
  unfold readV
  rcases hd : s.down with _ | _
  · rw [hd] at c3
    rcases hg : (get n.data.toList s.fs).isSome with _ | _
    · have HM := Lib.hid (missing_ok w sb mb L s n hn h)
      have hm : (missing s n.data.toList : Int) = 4 := by unfold missing; rw [hg]; rfl
      rw [hm] at HM
      clear h hm hg hd
      go_enter Try.func18, Try.ntmps18
      go_wp2_with fail
      refine HM.out.mono ?_
      rintro e w1 ⟨rfl, hb⟩
      have HB := Lib.hid hb; clear hb
      go_wp2
      go_ret2
      exact ⟨_, rfl, Own.nil _ _, HB.out⟩
    · have HM := Lib.hid (missing_ok w sb mb L s n hn h)
      have hm : (missing s n.data.toList : Int) = 0 := by unfold missing; rw [hg]; rfl
      rw [hm] at HM
      have HS := Lib.hid h
      have hfi := Lib.hid (fileIn_of h n.data.toList)
      clear h hm hg hd
      go_enter Try.func18, Try.ntmps18
      go_wp2_with fail
      refine HM.out.mono ?_
      rintro e w1 ⟨rfl, hb⟩
      have h1 := HS.out.below hb
      have c0 := h1.cell0
      obtain ⟨A, c, h2, _, h4, _, _⟩ := h1.at_ n hn
      rw [hfi.out] at h2 h4
      obtain ⟨A', c', hv, hlc, hcm, hA, hr⟩ := h4.form
      simp only [Value.slice.injEq] at hv
      obtain ⟨rfl, -, rfl⟩ := hv
      have hf := field_bytes A (fileOf s n.data.toList).data.length c ((fileOf s n.data.toList).sure : Int)
      have hsz := hb.size
      have HB := Lib.hid hb; have HR := Lib.hid hr
      clear hb h1 h4 hr
      go_wp2_with (at_builtin; refine wpList_append_row rfl _ _ rfl w.heap.size _ [] rfl (Own.nil _ _) A (fileOf s n.data.toList).data c w1.heap.size rfl HR.out hA (by simp; omega) hsz ?_; intro v1 w3 ho1 hg1; have HO1 := Lib.hid ho1; have HG1 := Lib.hid (((Below.refl w1.heap.size w1).grown hg1 (Nat.le_refl _) (Own.nil w1 _).lt)); clear ho1 hg1)
      go_ret2
      exact ⟨v1, rfl, HO1.out, HB.out.trans (HG1.out.mono hsz)⟩
  · rw [hd] at c3
    clear h
    go_enter Try.func18, Try.ntmps18
    go_wp2
    go_ret2
    exact ⟨_, rfl, Own.nil _ _, Below.refl _ _⟩
end Go.Proofs.Ytdaipoelicpnoaa
