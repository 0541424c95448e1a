/-
  Layer 4 (file): Used: the sum over a map, in whatever order.
-/
import Derived.Test.YtdaipoelicpnoaaFOps
namespace Go.Proofs.Ytdaipoelicpnoaa
open Go.RowKit Go.Maps FM

/-- How many bytes the files have that are still to come. -/
def toCome (left : Lit → Bool) : List (Name × Ent) → Nat
  | [] => 0
  | p :: r => (if left (.string p.1) then p.2.2.data.length else 0) + toCome left r

theorem toCome_all {left : Lit → Bool} : ∀ {L : List (Name × Ent)}, (∀ p ∈ L, left (.string p.1) = true) → toCome left L = sum (fun x => x.2.data.length) L
  | [], _ => rfl
  | p :: r, h => by
    simp only [toCome, sum, h p (by simp), if_true]
    rw [toCome_all fun q hq => h q (by simp [hq])]
theorem toCome_none {left : Lit → Bool} (h : ∀ k, left k = false) : ∀ L : List (Name × Ent), toCome left L = 0
  | [] => rfl
  | p :: r => by simp [toCome, h, toCome_none h r]
theorem toCome_same {left : Lit → Bool} {n : Name} : ∀ {L : List (Name × Ent)}, (∀ p ∈ L, p.1 ≠ n) → toCome (fun z => left z && !z.sameKey (.string n)) L = toCome left L
  | [], _ => rfl
  | p :: r, h => by
    have e : (Lit.string p.1).sameKey (.string n) = false := by have := h p (by simp); simpa [Lit.sameKey] using this
    simp only [toCome, e, Bool.not_false, Bool.and_true]
    rw [toCome_same fun q hq => h q (by simp [hq])]
theorem toCome_step {left : Lit → Bool} {n : Name} {x : Ent} : ∀ {L : List (Name × Ent)}, Rise L → get n L = some x → left (.string n) = true → toCome (fun z => left z && !z.sameKey (.string n)) L + x.2.data.length = toCome left L
  | p :: r, h, hg, hl => by
    rw [Rise, List.pairwise_cons] at h
    by_cases e : p.1 = n
    · have hp : p.2 = x := by unfold FM.get at hg; rw [List.find?_cons_of_pos (by simpa using e)] at hg; simpa using hg
      have e1 : (Lit.string p.1).sameKey (.string n) = true := by simpa [Lit.sameKey] using e
      simp only [toCome, e1, Bool.not_true, Bool.and_false]
      rw [toCome_same fun q hq => by rw [← e]; exact (bb_ne (h.1 q hq)).symm, e, hl, hp]
      simp; omega
    · have hg' : get n r = some x := by unfold FM.get at *; rwa [List.find?_cons_of_neg (by simpa using e)] at hg
      have e1 : (Lit.string p.1).sameKey (.string n) = false := by simpa [Lit.sameKey] using e
      have := toCome_step h.2 hg' hl
      simp only [toCome, e1, Bool.not_false, Bool.and_true]
      omega

theorem invK (key : Value) (kl : Lit) (h : keyOf Try.prog 9 key = some kl) : ∃ x : ByteArray, key = .string x := by
  cases key <;> simp [keyOf, Try.underlying9, mapKey] at h
  exact ⟨_, rfl⟩
theorem invV (v : Value) (y : DataW Value × List MemPlace) (h : fel v = some y) : ∃ c : Option Addr × Nat × Nat × Int, v = .agg #[.slice c.1 c.2.1 c.2.2.1, .int .i64 c.2.2.2] := by
  obtain ⟨A, n, c, s, rfl, _⟩ := fel_inv h
  exact ⟨(A, n, c, s), rfl⟩

theorem came_key {x : ByteArray} {kl : Lit} (h : keyOf Try.prog 9 (.string x) = some kl) : kl = .string x.data.toList := by
  simp [keyOf, Try.underlying9, mapKey] at h
  exact h.2.symm
theorem came_entry {L : List (Name × Ent)} {x : ByteArray} {kl : Lit} {v : Value} {y : DataW Value × List MemPlace} (hk : keyOf Try.prog 9 (.string x) = some kl) (hv : fel v = some y)
    (hat : ∀ zd, (datum L).atKey kl zd = y.1) : ∃ ent, get x.data.toList L = some ent ∧ fval ent.1 ent.2.sure = v := by
  obtain ⟨A, n, c, z, rfl, rfl⟩ := fel_inv hv
  rw [came_key hk] at hat
  have h1 := hat .nil
  rw [datum_get] at h1
  rcases hg : get x.data.toList L with _ | e
  · rw [hg] at h1; cases h1
  · rw [hg] at h1
    simp only [DataW.held.injEq] at h1
    exact ⟨e, rfl, h1⟩

theorem used_fs {w : World} {sb mb : Nat} {L : List (Name × Ent)} {s : St} (h : StoB w sb mb L s) : used s = sum (fun x => x.2.data.length) L := by
  unfold used; rw [h.fs, sum_mapV]

set_option maxRecDepth 100000 in
set_option maxHeartbeats 1000000 in
theorem used_ok (w : World) (sb mb : Nat) (L : List (Name × Ent)) (s : St) (h : StoB w sb mb L s) (hu : used s ≤ 1000000000) :
    Calls Try.prog 21 #[.pointer (some ⟨sb, 0, none⟩)] w fun e w' => e = .returned (.int .i64 (used s : Int)) ∧ Below w.heap.size w w' := by
  have c0 := h.cell0
  have hus := used_fs h
  have HS := Lib.hid h; clear h
  go_enter Try.func21, Try.ntmps21
  go_wp2_with (at_range; refine wpList_range_own _ rfl _ 53 rfl 9 67 law9 Try.underlying53 _ mb _ _ rfl HS.out.map ?_; intro w0 hrg0 hg0 hs0; have HR0 := Lib.hid hrg0; have HG0 := Lib.hid hg0; clear hrg0 hg0)
  go_frame
  go_loopw [3] (fun u wr => ∃ (k : Nat) (left : Lit → Bool) (cnt : Nat), u = .int .i64 (k : Int) ∧ k + toCome left L = used s ∧ wr.ranges Try.prog 9 fel mb w.heap.size L.length (datum L) left cnt ∧ Below w.heap.size w wr)
    (fun _ wr => wr.rangeLeft mb w.heap.size)
  case atStart =>
    refine ⟨0, _, _, rfl, ?_, HR0.out, ⟨HG0.out.os, HG0.out.tape, HG0.out.output, HG0.out.size, fun k hk => HG0.out.block k hk (by simp)⟩⟩
    rw [toCome_all, hus, Nat.zero_add]
    intro p hp
    rw [datum_has]
    have := get_of_mem HS.out.rise (n := p.1) (a := p.2) hp
    rw [this]; rfl
  case round =>
    obtain ⟨k, left, cnt, rfl, hk, hrg, hb⟩ := hrel
    have HK := Lib.hid hk; have HRG := Lib.hid hrg; have HB := Lib.hid hb
    clear hk hrg hb
    go_wp2_with (at_next; refine wpList_next_ranges _ rfl _ rfl 9 law9 fel (fun x : ByteArray => .string x) (fun c : Option Addr × Nat × Nat × Int => .agg #[.slice c.1 c.2.1 c.2.2.1, .int .i64 c.2.2.2]) invK invV mb w.heap.size _ _ _ _ rfl HRG.out ?_ ?_)
    · intro h0 hl
      have hfin : k = used s := by have := HK.out; rw [toCome_none hl] at this; omega
      have HF := Lib.hid hfin; clear hfin hl
      go_wp2
      go_ret
      exact ⟨by rw [HF.out]; rfl, HB.out⟩
    · intro x A m c y kl z1 z2 w1 cnt1 hkl hleft hz hat hrg1 hlt hg1 hs1 hen
      obtain ⟨ent, hge, he⟩ := came_entry hkl hz hat
      have hm : m = ent.2.data.length := by
        obtain ⟨A', c', hv, _⟩ := (HS.out.own _ (get_some_mem hge)).form
        simp only at hv
        rw [hv] at he
        simp [fval] at he
        exact he.1.2.1.symm
      have hkl' : kl = .string x.data.toList := came_key hkl
      have hst := toCome_step (left := left) HS.out.rise hge (by rw [← hkl']; exact hleft)
      rw [← hkl'] at hst
      have hle : k + m ≤ used s := by have := HK.out; omega
      have hcnt := hrg1.left_eq
      have hcnt0 := HRG.out.left_eq
      have hb1 : Below w.heap.size w w1 := HB.out.trans ⟨hg1.os, hg1.tape, hg1.output, hg1.size, fun k hk => hg1.block k (by have := HB.out.size; omega) (by simp; omega)⟩
      have HRG1 := Lib.hid hrg1; have HB1 := Lib.hid hb1; have HST := Lib.hid hst; have HM := Lib.hid hm; have HC := Lib.hid hcnt; have HC0 := Lib.hid hcnt0
      have hsz1 := hb1.size
      have HLE := Lib.hid hle
      clear hrg1 hb1 hst hm hcnt hcnt0 hg1 hat hz hkl hkl' hge he hle
      have hle2 : k + m ≤ 1000000000 := by have := HLE.out; omega
      go_wp2
      go_roundw
      case rel => exact ⟨k + m, _, cnt1, by go_num, by have := HK.out; have := HST.out; rw [HM.out]; omega, HRG1.out.alloc _, HB1.out.alloc hsz1 _⟩
      case measure =>
        rw [(HRG1.out.alloc _).left_eq, HC0.out]; exact hlt
end Go.Proofs.Ytdaipoelicpnoaa
