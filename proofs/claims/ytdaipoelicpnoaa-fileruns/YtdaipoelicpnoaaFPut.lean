/-
  Layer 4 (file): a file stored, a file deleted; Sync, Delete.
-/
import Derived.Test.YtdaipoelicpnoaaFChange
namespace Go.Proofs.Ytdaipoelicpnoaa
open Go.RowKit Go.Maps FM

theorem Own.setOther {w w' : World} {base : Nat} {v : Value} {l : List Nat} (h : Own w base v l) (hb : ∀ k, v.ownBlock = some k → w'.heap[k]? = w.heap[k]?) : Own w' base v l := by
  refine ⟨h.1, ?_⟩
  rcases h.2 with h1 | ⟨g, cap, cur, h1, h2, h3, h4⟩
  · exact .inl h1
  · exact .inr ⟨g, cap, cur, h1, h2, (hb g (by rw [h1]; rfl)).trans h3, h4⟩

/-- As StoB, but of the file n nothing is said of where its bytes lie. -/
structure StoN (w : World) (n : Name) (sb mb : Nat) (L : List (Name × Ent)) (s : St) : Prop where
  cells : w.heap[sb]? = some (.cells #[.map (some mb), .int .i64 (s.quota : Int), .int .i64 s.fuse, .bool s.down] 55)
  map : w.ownsMap Try.prog 9 fel mb L.length (datum L)
  own : ∀ p ∈ L, p.1 ≠ n → Own w 0 p.2.1 p.2.2.data
  apart : ∀ p ∈ L, ∀ q ∈ L, p.1 ≠ q.1 → p.2.1.ownBlock = none ∨ p.2.1.ownBlock ≠ q.2.1.ownBlock
  fs : s.fs = mapV Prod.snd L
  rise : Rise L
  sure : ∀ p ∈ L, p.2.2.sure ≤ p.2.2.data.length
  small : ∀ p ∈ L, ∀ x ∈ p.2.2.data, x < 256
  short : ∀ p ∈ L, p.1.length ≤ maxLen
  quota : s.quota < 9223372036854775808
  fuse : -9223372036854775808 ≤ s.fuse ∧ s.fuse < 9223372036854775808

theorem StoB.but {w w' : World} {sb mb : Nat} {L : List (Name × Ent)} {s : St} (h : StoB w sb mb L s) (n : Name) (row : Option Nat) (hblk : ∀ k, k < w.heap.size → some k ≠ row → w'.heap[k]? = w.heap[k]?) (hsb : row ≠ some sb) (hmb : row ≠ some mb)
    (hap : ∀ p ∈ L, p.1 ≠ n → p.2.1.ownBlock = none ∨ p.2.1.ownBlock ≠ row) : StoN w' n sb mb L s :=
  { cells := (hblk sb (Array.getElem?_eq_some_iff.1 h.cells).1 (fun e => hsb e.symm)).trans h.cells
    map := by
      have hlt := h.map.lt
      obtain ⟨es, cl, hb, r⟩ := h.map
      exact ⟨es, cl, (hblk mb hlt (fun e => hmb e.symm)).trans hb, r⟩
    own := fun p hp hne => (h.own p hp).setOther fun k hk => hblk k (h.own_lt hp hk) (fun e => by
      rcases hap p hp hne with h1 | h1
      · rw [h1] at hk; cases hk
      · exact h1 (by rw [hk, e]))
    apart := h.apart, fs := h.fs, rise := h.rise, sure := h.sure, small := h.small, short := h.short, quota := h.quota, fuse := h.fuse }

/-- 'files[n] = x': the store has that file. -/
theorem StoN.store {w : World} {sb mb : Nat} {L : List (Name × Ent)} {s : St} {n : ByteArray} (h : StoN w n.data.toList sb mb L s) (hn : n.size ≤ maxLen) (A : Option Addr) (c : Nat) (f : File) (hown : Own w 0 (.slice A f.data.length c) f.data)
    (hap : ∀ p ∈ L, p.1 ≠ n.data.toList → p.2.1.ownBlock = none ∨ p.2.1.ownBlock ≠ (Value.slice A f.data.length c).ownBlock) (hsure : f.sure ≤ f.data.length) (hsm : ∀ x ∈ f.data, x < 256) (hL : L.length ≤ 1000000) :
    ∃ w', (Instr.mapUpdate 53 (.map (some mb)) (.string n) (.agg #[.slice A f.data.length c, .int .i64 (f.sure : Int)])).run Try.prog w = .ok () w' ∧ StoB w' sb mb (put n.data.toList (.slice A f.data.length c, f) L) { s with fs := put n.data.toList f s.fs } ∧ w.grownBy w' (some mb) ∧ w'.heap.size = w.heap.size := by
  have hkey := WideMaps.keyOf_string_mk (P := Try.prog) Try.underlying9 (show n.size ≤ maxLen from hn)
  obtain ⟨w', hrun, hm, hg⟩ := h.map.store law9 Try.underlying53 (by unfold maxLen; omega) hkey (fel_mk A f.data.length c f.sure)
  have hsz : w'.heap.size = w.heap.size := by
    obtain ⟨_, _, _, _, _, e⟩ := hg
    rw [e]; simp [ChangeMaps.setBlock]
  have hg := hg.grown
  have hm2 : w'.ownsMap Try.prog 9 fel mb (L.length + 1) ((datum L).put (.string n.data.toList) (.held (fval ((Value.slice A f.data.length c, f) : Ent).1 ((Value.slice A f.data.length c, f) : Ent).2.sure))) := hm
  rw [datum_put] at hm2
  have hm3 := ownsMap_tight hm2
  rw [List.length_map] at hm3
  have hne : ∀ {v : Value} {l : List Nat}, Own w 0 v l → v.ownBlock ≠ some mb := fun ho e => by
    obtain ⟨cur, hc⟩ := ho.notCells e
    obtain ⟨es, cl, hb, _⟩ := h.map
    rw [hb] at hc; cases hc
  have hsm0 : mb ≠ sb := fun e => by
    obtain ⟨es, cl, hb, _⟩ := h.map
    rw [e, h.cells] at hb; cases hb
  refine ⟨w', hrun, ?_, hg, hsz⟩
  refine { cells := ?_, map := hm3, own := ?_, apart := ?_, fs := ?_, rise := h.rise.put _ _, sure := ?_, small := ?_, short := ?_, quota := h.quota, fuse := h.fuse }
  · exact (hg.block sb (Array.getElem?_eq_some_iff.1 h.cells).1 (by simpa using fun e => hsm0 e.symm)).trans h.cells
  · intro p hp
    rcases mem_put.1 hp with rfl | ⟨hp, hp1⟩
    · exact hown.grown hg (.inr (hne hown))
    · exact (h.own p hp hp1).grown hg (.inr (hne (h.own p hp hp1)))
  · intro p hp q hq hpq
    rcases mem_put.1 hp with rfl | ⟨hp, hp1⟩ <;> rcases mem_put.1 hq with rfl | ⟨hq, hq1⟩
    · exact absurd rfl hpq
    · rcases hap q hq hq1 with h1 | h1
      · rcases h2 : (Value.slice A f.data.length c).ownBlock with _ | k
        · exact .inl rfl
        · exact .inr (by rw [h1]; simp)
      · exact .inr (fun e => h1 e.symm)
    · exact hap p hp hp1
    · exact h.apart p hp q hq hpq
  · show put n.data.toList f s.fs = _
    rw [mapV_put, h.fs]
  · intro p hp
    rcases mem_put.1 hp with rfl | ⟨hp, _⟩
    · exact hsure
    · exact h.sure p hp
  · intro p hp
    rcases mem_put.1 hp with rfl | ⟨hp, _⟩
    · exact hsm
    · exact h.small p hp
  · intro p hp
    rcases mem_put.1 hp with rfl | ⟨hp, _⟩
    · simpa using hn
    · exact h.short p hp
theorem StoB.store {w : World} {sb mb : Nat} {L : List (Name × Ent)} {s : St} (h : StoB w sb mb L s) (n : ByteArray) (hn : n.size ≤ maxLen) (A : Option Addr) (c : Nat) (f : File) (hown : Own w 0 (.slice A f.data.length c) f.data)
    (hap : ∀ p ∈ L, p.1 ≠ n.data.toList → p.2.1.ownBlock = none ∨ p.2.1.ownBlock ≠ (Value.slice A f.data.length c).ownBlock) (hsure : f.sure ≤ f.data.length) (hsm : ∀ x ∈ f.data, x < 256) (hL : L.length ≤ 1000000) :
    ∃ w', (Instr.mapUpdate 53 (.map (some mb)) (.string n) (.agg #[.slice A f.data.length c, .int .i64 (f.sure : Int)])).run Try.prog w = .ok () w' ∧ StoB w' sb mb (put n.data.toList (.slice A f.data.length c, f) L) { s with fs := put n.data.toList f s.fs } ∧ w.grownBy w' (some mb) ∧ w'.heap.size = w.heap.size :=
  (h.but n.data.toList none (fun _ _ _ => rfl) (by simp) (by simp) (fun p _ _ => by rcases p.2.1.ownBlock with _ | k <;> simp)).store hn A c f hown hap hsure hsm hL

/-- 'delete(files, n)'. -/
theorem StoB.drop {w : World} {sb mb : Nat} {L : List (Name × Ent)} {s : St} (h : StoB w sb mb L s) {w' : World} {n : Name} {k : Nat} (hm : w'.ownsMap Try.prog 9 fel mb k ((datum L).del (.string n))) (ht : w.mapTurned w' mb) :
    StoB w' sb mb (del n L) { s with fs := del n s.fs } := by
  have hg := ht.grown
  rw [datum_del] at hm
  have hm3 := ownsMap_tight hm
  rw [List.length_map] at hm3
  refine { cells := ?_, map := hm3, own := ?_, apart := ?_, fs := ?_, rise := h.rise.del _, sure := ?_, small := ?_, short := ?_, quota := h.quota, fuse := h.fuse }
  · exact (hg.block sb (Array.getElem?_eq_some_iff.1 h.cells).1 (by simpa using fun e => h.ne e.symm)).trans h.cells
  · intro p hp
    exact (h.own p (mem_del.1 hp).1).grown hg (.inr (h.own_ne (mem_del.1 hp).1).2)
  · exact fun p hp q hq => h.apart p (mem_del.1 hp).1 q (mem_del.1 hq).1
  · show del n s.fs = _
    rw [mapV_del, h.fs]
  · exact fun p hp => h.sure p (mem_del.1 hp).1
  · exact fun p hp => h.small p (mem_del.1 hp).1
  · exact fun p hp => h.short p (mem_del.1 hp).1

/-- What a call leaves that may change the store. -/
def After (w : World) (S : Nat → Prop) (sb : Nat) (r : Nat × St) (e : Ending) (w' : World) : Prop :=
  e = .returned (.int .i64 (r.1 : Int)) ∧ Sto w' (wider S w w') sb r.2 ∧ Fr S w w'

theorem Sto.mk_after {w w' : World} {S : Nat → Prop} {sb mb : Nat} {L : List (Name × Ent)} {s : St} (h : StoB w' sb mb L s) (hs : S sb) (hm : S mb) (hold : ∀ p ∈ L, ∀ k, p.2.1.ownBlock = some k → S k ∨ w.heap.size ≤ k) (hlt : ∀ k, S k → k < w.heap.size) (hsz : w.heap.size ≤ w'.heap.size) :
    Sto w' (wider S w w') sb s := by
  refine ⟨mb, L, h, .inl hs, .inl hm, fun p hp k hk => ?_, fun k hk => ?_⟩
  · rcases hold p hp k hk with h1 | h1
    · exact .inl h1
    · exact .inr ⟨h1, h.own_lt hp hk⟩
  · rcases hk with h1 | h1
    · exact Nat.lt_of_lt_of_le (hlt k h1) hsz
    · exact h1.2

theorem doing_err {s : St} {e : Nat} {f : List (Name × File) → List (Name × File)} (h : (change s e).1 ≠ 0) : doing s e f = change s e := by
  unfold doing; rw [if_neg h]
theorem doing_ok {s : St} {e : Nat} {f : List (Name × File) → List (Name × File)} (h : (change s e).1 = 0) : doing s e f = (0, { (change s e).2 with fs := f s.fs }) := by
  unfold doing; rw [if_pos h, h, change_fs]
theorem change_le (s : St) (e : Nat) (he : e ≤ 100) : (change s e).1 ≤ 100 := by
  unfold change
  split
  · simp
  · split
    · exact he
    · split
      · simp
      · split <;> simp
theorem missing_le (s : St) (n : Name) : missing s n ≤ 100 := by unfold missing; split <;> simp
theorem ne_int {k : Nat} (h : k ≠ 0) : ((k : Int) != 0) = true := by simp; omega

set_option maxRecDepth 100000 in
set_option maxHeartbeats 1000000 in
theorem delete_ok (w : World) (S : Nat → Prop) (sb : Nat) (s : St) (n : ByteArray) (hn : n.size ≤ maxLen) (h : Sto w S sb s) :
    Calls Try.prog 32 #[.pointer (some ⟨sb, 0, none⟩), .string n] w (After w S sb (delete s n.data.toList)) := by
  obtain ⟨mb, L, h, hS, hM, hold, hlt⟩ := h
  obtain ⟨r, hr⟩ : ∃ r, r = delete s n.data.toList := ⟨_, rfl⟩
  rw [← hr]
  have hcl := change_le s _ (missing_le s n.data.toList)
  have HM := Lib.hid (missing_ok w sb mb L s n hn h)
  have HS := Lib.hid h; have HL := Lib.hid hold; have HT := Lib.hid hlt
  clear h hold hlt
  have hkey := WideMaps.keyOf_string_mk (P := Try.prog) Try.underlying9 (show n.size ≤ maxLen from hn)
  unfold delete at hr
  by_cases hc : (change s (missing s n.data.toList)).1 = 0
  · rw [doing_ok hc] at hr
    have HR := Lib.hid hr; have HC := Lib.hid hc
    clear hr hc hcl
    go_enter Try.func32, Try.ntmps32
    go_wp2_with fail
    refine HM.out.mono ?_
    rintro e w1 ⟨rfl, hb⟩
    have HB := Lib.hid hb; clear hb
    go_wp2_with fail
    refine (change_ok w1 sb mb L s _ (missing_le _ _) (HS.out.below HB.out)).mono ?_
    rintro e w2 ⟨rfl, h2, hf2, hz2⟩
    rw [HC.out]
    have c0 := h2.cell0
    have H2 := Lib.hid h2; have HF := Lib.hid hf2
    clear h2 hf2
    go_wp2_with (at_delete; refine wpList_delete_own _ rfl _ _ 53 9 rfl 67 law9 Try.underlying53 _ mb _ _ rfl H2.out.map _ _ rfl hkey ?_; intro w3 hm3 ht3; have HM3 := Lib.hid hm3; have HT3 := Lib.hid ht3; clear hm3 ht3)
    go_ret
    rw [HR.out]
    have h3 := H2.out.drop HM3.out HT3.out
    rw [change_fs] at h3
    have hfr : Fr S w w3 := (Fr.of_below HB.out).trans' (Fr.trans' ⟨HF.out.os, HF.out.tape, HF.out.output, HF.out.size, fun k hk hn => HF.out.block k hk (fun e => hn (by rw [e]; exact hS))⟩ (Fr.turned HT3.out hM))
    exact ⟨rfl, Sto.mk_after h3 hS hM (fun p hp k hk => .inl (HL.out p (mem_del.1 hp).1 k hk)) HT.out hfr.size, hfr⟩
  · rw [doing_err hc] at hr
    have d := ne_int hc
    have HR := Lib.hid hr
    clear hr hc
    go_enter Try.func32, Try.ntmps32
    go_wp2_with fail
    refine HM.out.mono ?_
    rintro e w1 ⟨rfl, hb⟩
    have HB := Lib.hid hb; clear hb
    go_wp2_with fail
    refine (change_ok w1 sb mb L s _ (missing_le _ _) (HS.out.below HB.out)).mono ?_
    rintro e w2 ⟨rfl, h2, hf2, hz2⟩
    have H2 := Lib.hid h2; have HF := Lib.hid hf2
    clear h2 hf2
    go_wp2
    go_ret
    rw [HR.out]
    have hfr : Fr S w w2 := (Fr.of_below HB.out).trans' ⟨HF.out.os, HF.out.tape, HF.out.output, HF.out.size, fun k hk hn => HF.out.block k hk (fun e => hn (by rw [e]; exact hS))⟩
    exact ⟨rfl, Sto.mk_after H2.out hS hM (fun p hp k hk => .inl (HL.out p hp k hk)) HT.out hfr.size, hfr⟩

theorem StoB.apart_at {w : World} {sb mb : Nat} {L : List (Name × Ent)} {s : St} (h : StoB w sb mb L s) {n : Name} {A : Option Addr} {k c : Nat} (hx : ∀ x, get n L = some x → x.1 = .slice A k c) (hnone : get n L = none → A = none) (k' c' : Nat) :
    ∀ p ∈ L, p.1 ≠ n → p.2.1.ownBlock = none ∨ p.2.1.ownBlock ≠ (Value.slice A k' c').ownBlock := by
  intro p hp hne
  rcases hg : get n L with _ | x
  · rw [hnone hg]
    rcases hb : p.2.1.ownBlock with _ | b
    · exact .inl rfl
    · exact .inr (by simp [Value.ownBlock])
  · have := h.apart p hp (n, x) (get_some_mem hg) hne
    rw [show ((n, x) : Name × Ent).2.1 = .slice A k c from hx x hg] at this
    rcases A with _ | a <;> exact this
theorem fileIn_mem {L : List (Name × Ent)} {n : Name} : fileIn L n = noFile ∨ ∃ x, (n, x) ∈ L ∧ fileIn L n = x.2 := by
  unfold fileIn
  rcases hg : get n L with _ | x
  · exact .inl rfl
  · exact .inr ⟨x, get_some_mem hg, rfl⟩
theorem StoB.file {w : World} {sb mb : Nat} {L : List (Name × Ent)} {s : St} (h : StoB w sb mb L s) (n : Name) : (fileIn L n).sure ≤ (fileIn L n).data.length ∧ (∀ x ∈ (fileIn L n).data, x < 256) ∧ (fileIn L n).data.length ≤ used s := by
  rcases fileIn_mem (L := L) (n := n) with e | ⟨x, hx, e⟩
  · rw [e]; exact ⟨Nat.le_refl _, by simp [noFile], Nat.zero_le _⟩
  · rw [e]
    refine ⟨h.sure _ hx, h.small _ hx, ?_⟩
    rw [used_fs h]
    exact sum_mem (fun x : Ent => x.2.data.length) hx
theorem StoB.len {w : World} {sb mb : Nat} {L : List (Name × Ent)} {s : St} (h : StoB w sb mb L s) : s.fs.length = L.length := by rw [h.fs, mapV_length]
theorem fr_sb {S : Nat → Prop} {sb : Nat} {w w' : World} (hS : S sb) (h : Fr (fun k => k = sb) w w') : Fr S w w' :=
  ⟨h.os, h.tape, h.output, h.size, fun k hk hn => h.block k hk (fun e => hn (by rw [e]; exact hS))⟩
/-- A file stored where its bytes lay, or in a new block. -/
theorem held_put {w : World} {S : Nat → Prop} {L : List (Name × Ent)} {n : Name} {x : Ent} (hold : ∀ p ∈ L, ∀ k, p.2.1.ownBlock = some k → S k) (hx : ∀ k, x.1.ownBlock = some k → S k ∨ w.heap.size ≤ k) : ∀ p ∈ put n x L, ∀ k, p.2.1.ownBlock = some k → S k ∨ w.heap.size ≤ k := by
  intro p hp k hk
  rcases mem_put.1 hp with rfl | ⟨hp, _⟩
  · exact hx k hk
  · exact .inl (hold p hp k hk)
theorem held_at {S : Nat → Prop} {L : List (Name × Ent)} {n : Name} {A : Option Addr} {k c : Nat} (hold : ∀ p ∈ L, ∀ k, p.2.1.ownBlock = some k → S k) (hx : ∀ x, get n L = some x → x.1 = .slice A k c) (hnone : get n L = none → A = none) (k' c' : Nat) : ∀ b, (Value.slice A k' c').ownBlock = some b → S b := by
  intro b hb
  rcases hg : get n L with _ | x
  · rw [hnone hg] at hb; cases hb
  · refine hold (n, x) (get_some_mem hg) b ?_
    show x.1.ownBlock = some b
    rw [hx x hg]
    rcases A with _ | a <;> exact hb
theorem Own.cut {w : World} {base : Nat} {A : Option Addr} {c : Nat} {l : List Nat} (h : Own w base (.slice A l.length c) l) {k : Nat} (hk : k ≤ l.length) : Own w base (.slice A k c) (l.take k) := by
  have hl : (l.take k).length = k := by rw [List.length_take]; omega
  refine ⟨by rw [nums_len]; omega, ?_⟩
  rcases h.2 with ⟨h1, h0⟩ | ⟨g, cap, cur, h1, h2, h3, h4, h5, h6, h7⟩
  · have : k = 0 := by omega
    subst this
    refine .inl ⟨?_, hl⟩
    rw [h0] at h1
    exact h1
  · simp only [Value.slice.injEq] at h1
    obtain ⟨rfl, _, rfl⟩ := h1
    refine .inr ⟨g, c, cur, by rw [hl], h2, h3, by omega, h5, h6, ?_⟩
    rw [hl]
    have e : cur.toList.take (k * 1) = (cur.toList.take (l.length * 1)).take k := by rw [List.take_take]; congr 1; omega
    rw [e, h7]
    simp [nums, List.map_take]
end Go.Proofs.Ytdaipoelicpnoaa
