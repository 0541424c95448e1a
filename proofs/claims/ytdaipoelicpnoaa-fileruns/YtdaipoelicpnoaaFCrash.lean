/-
  Layer 4 (file): Crash.
-/
import Derived.Test.YtdaipoelicpnoaaFPut
import Derived.Test.YtdaipoelicpnoaaFIter
import Derived.Lib.MinMax
namespace Go.Proofs.Ytdaipoelicpnoaa
open Go.RowKit Go.Maps Go.Sort FM

/-- The slice value at A, of as many ints as l has, reads as l and lies below block B. -/
def RowI (w : World) (B : Nat) (A : Option Addr) (l : List Int) : Prop :=
  0 < l.length → ∃ b off, A = some ⟨b, off, none⟩ ∧ b < B ∧ ∀ j, j < l.length → w.cell? ⟨b, off + j, none⟩ = some (.int .i64 (l.getD j 0))

def cutV (v : Value) (k : Nat) : Value := match v with | .slice A _ c => .slice A k c | x => x
theorem cutV_block (v : Value) (k : Nat) : (cutV v k).ownBlock = v.ownBlock := by
  unfold cutV
  split
  · rename_i A _ _; cases A <;> rfl
  · rfl
def crashE (keep : List Int) (i : Nat) (x : Ent) : Ent := (cutV x.1 (lasts x.2 (more keep i)).data.length, lasts x.2 (more keep i))

section
variable {α : Type}
theorem crashed_map {β : Type} (p : α → β) (f : Nat → α → α) (g : Nat → β → β) (h : ∀ i a, p (f i a) = g i (p a)) : ∀ (i : Nat) (l : List (Name × α)), mapV p (crashed f i l) = crashed g i (mapV p l)
  | _, [] => rfl
  | i, x :: r => by
    show (x.1, p (f i x.2)) :: mapV p (crashed f (i + 1) r) = (x.1, g i (p x.2)) :: crashed g (i + 1) (mapV p r)
    rw [crashed_map p f g h (i + 1) r, h]
theorem crashed_snoc (f : Nat → α → α) : ∀ (i : Nat) (l : List (Name × α)) (x : Name × α), crashed f i (l ++ [x]) = crashed f i l ++ [(x.1, f (i + l.length) x.2)]
  | i, [], x => by simp [crashed]
  | i, y :: r, x => by
    show (y.1, f i y.2) :: crashed f (i + 1) (r ++ [x]) = _
    rw [crashed_snoc f (i + 1) r x]
    have : i + 1 + r.length = i + (y :: r).length := by simp; omega
    rw [this]; rfl
theorem crashed_length (f : Nat → α → α) : ∀ (i : Nat) (l : List (Name × α)), (crashed f i l).length = l.length
  | _, [] => rfl
  | i, _ :: r => by simp [crashed, crashed_length f (i + 1) r]
theorem crashed_mem {f : Nat → α → α} {p : Name × α} : ∀ {i : Nat} {l : List (Name × α)}, p ∈ crashed f i l → ∃ q ∈ l, ∃ j, p = (q.1, f j q.2)
  | _, [], h => by cases h
  | i, x :: r, h => by
    rcases List.mem_cons.1 h with rfl | h
    · exact ⟨x, by simp, i, rfl⟩
    · obtain ⟨q, hq, j, e⟩ := crashed_mem h
      exact ⟨q, by simp [hq], j, e⟩
theorem ins_mid (n : Name) (a : α) : ∀ (l1 l2 : List (Name × α)), (∀ p ∈ l1, bytesBefore p.1 n = true) → (∀ p ∈ l2, bytesBefore n p.1 = true) → ins n a (l1 ++ l2) = l1 ++ (n, a) :: l2
  | [], [], _, _ => rfl
  | [], y :: r, _, h => by
    show (if bytesBefore n y.1 then (n, a) :: y :: r else y :: ins n a r) = _
    rw [if_pos (h y (by simp))]; rfl
  | y :: r, l2, h1, h2 => by
    have hy := h1 y (by simp)
    have : bytesBefore n y.1 = false := by
      rcases hb : bytesBefore n y.1 with _ | _
      · rfl
      · have := WideShapes.bytes_trans _ _ _ hy hb
        rw [WideAt.bytes_irrefl] at this; cases this
    show (if bytesBefore n y.1 then (n, a) :: y :: (r ++ l2) else y :: ins n a (r ++ l2)) = _
    rw [this, ins_mid n a r l2 (fun p hp => h1 p (by simp [hp])) h2]; rfl
theorem put_mid {n : Name} (a b : α) {l1 l2 : List (Name × α)} (h : Rise (l1 ++ (n, b) :: l2)) : put n a (l1 ++ (n, b) :: l2) = l1 ++ (n, a) :: l2 := by
  rw [Rise, List.pairwise_append] at h
  obtain ⟨h1, h2, h3⟩ := h
  rw [List.pairwise_cons] at h2
  have e : del n (l1 ++ (n, b) :: l2) = l1 ++ l2 := by
    unfold del
    rw [List.filter_append, List.filter_cons_of_neg (by simp)]
    congr 1
    · rw [List.filter_eq_self]; intro p hp; simpa using bb_ne (h3 p hp (n, b) (by simp))
    · rw [List.filter_eq_self]; intro p hp; simpa using (bb_ne (h2.1 p hp)).symm
  unfold put
  rw [e]
  exact ins_mid n a l1 l2 (fun p hp => h3 p hp (n, b) (by simp)) (fun p hp => h2.1 p hp)
end

/-- The files when the first i have been seen to. -/
def seen (keep : List Int) (L : List (Name × Ent)) (i : Nat) : List (Name × Ent) := crashed (crashE keep) 0 (L.take i) ++ L.drop i
theorem seen_at (keep : List Int) {L : List (Name × Ent)} {i : Nat} (hi : i < L.length) : seen keep L i = crashed (crashE keep) 0 (L.take i) ++ ((L[i]).1, (L[i]).2) :: L.drop (i + 1) := by
  unfold seen; rw [List.drop_eq_getElem_cons hi]
theorem seen_succ (keep : List Int) {L : List (Name × Ent)} {i : Nat} (hi : i < L.length) : seen keep L (i + 1) = crashed (crashE keep) 0 (L.take i) ++ ((L[i]).1, crashE keep i (L[i]).2) :: L.drop (i + 1) := by
  unfold seen
  rw [List.take_succ_eq_append_getElem hi, crashed_snoc, List.length_take, Nat.min_eq_left (Nat.le_of_lt hi), Nat.zero_add]
  simp
theorem seen_put (keep : List Int) {L : List (Name × Ent)} {i : Nat} (hi : i < L.length) (h : Rise (seen keep L i)) : put (L[i]).1 (crashE keep i (L[i]).2) (seen keep L i) = seen keep L (i + 1) := by
  rw [seen_at keep hi] at h ⊢
  rw [put_mid _ _ h, seen_succ keep hi]
theorem seen_get (keep : List Int) {L : List (Name × Ent)} {i : Nat} (hi : i < L.length) (h : Rise (seen keep L i)) : get (L[i]).1 (seen keep L i) = some (L[i]).2 :=
  get_of_mem h (by rw [seen_at keep hi]; simp)
theorem seen_block (keep : List Int) {L : List (Name × Ent)} {i : Nat} {S : Nat → Prop} (h : ∀ p ∈ L, ∀ k, p.2.1.ownBlock = some k → S k) : ∀ p ∈ seen keep L i, ∀ k, p.2.1.ownBlock = some k → S k := by
  intro p hp k hk
  unfold seen at hp
  rcases List.mem_append.1 hp with hp | hp
  · obtain ⟨q, hq, j, rfl⟩ := crashed_mem hp
    exact h q (List.mem_of_mem_take hq) k (by rw [← hk]; exact (cutV_block _ _).symm)
  · exact h p (List.mem_of_mem_drop hp) k hk
theorem seen_end (keep : List Int) (L : List (Name × Ent)) : seen keep L L.length = crashed (crashE keep) 0 L := by unfold seen; simp
theorem seen_fs (keep : List Int) (L : List (Name × Ent)) : mapV Prod.snd (seen keep L L.length) = crashed (fun i f => lasts f (more keep i)) 0 (mapV Prod.snd L) := by
  rw [seen_end]; exact crashed_map Prod.snd _ _ (fun _ _ => rfl) 0 L
theorem seen_length (keep : List Int) (L : List (Name × Ent)) (i : Nat) : (seen keep L i).length = L.length := by
  unfold seen; rw [List.length_append, crashed_length, List.length_take, List.length_drop]; omega
theorem lasts_length (f : File) (m : Nat) (h : f.sure ≤ f.data.length) : (lasts f m).data.length = f.sure + min m (f.data.length - f.sure) := by
  unfold lasts; rw [List.length_take]; omega

def CrashPost (w : World) (S : Nat → Prop) (sb : Nat) (s : St) (keep : List Int) (e : Ending) (w' : World) : Prop :=
  e = .returned (.tuple #[]) ∧ Sto w' (wider S w w') sb (crash s keep) ∧ Fr S w w'

set_option maxRecDepth 100000 in
set_option maxHeartbeats 2000000 in
theorem crash_ok (w : World) (S : Nat → Prop) (sb : Nat) (s : St) (A2 : Option Addr) (keep : List Int) (c2 B : Nat) (h : Sto w S sb s) (hN : s.fs.length ≤ 1000000) (hu : used s ≤ 1000000000)
    (hl : keep.length ≤ 1000000000) (hkw : ∀ x ∈ keep, x ≤ 9223372036854775807) (hr2 : RowI w B A2 keep) (hB : B ≤ w.heap.size) (hns : 0 < keep.length → ∀ a, A2 = some a → ¬ S a.block) :
    Calls Try.prog 15 #[.pointer (some ⟨sb, 0, none⟩), .slice A2 keep.length c2] w (CrashPost w S sb s keep) := by
  obtain ⟨mb, L, h, hS, hM, hold, hlt⟩ := h
  have hlen := h.len
  have hLl : L.length ≤ 1000000 := by omega
  have hus := used_fs h
  have cc3 := h.cell3
  have ff3 := h.frozen 3
  have h1 := h.set3 false
  have cc2 := h1.cell2
  have ff2 := h1.frozen 2
  have h2 := h1.set2 (-1) (by omega)
  have hf12 : Fr S w ((w.setCell ⟨sb, 3, none⟩ (.bool false)).setCell ⟨sb, 2, none⟩ (.int .i64 (-1))) := (Fr.setCell (a := ⟨sb, 3, none⟩) _ hS).trans' (Fr.setCell (a := ⟨sb, 2, none⟩) _ hS)
  obtain ⟨w2, hw2⟩ : ∃ w2, w2 = (w.setCell ⟨sb, 3, none⟩ (.bool false)).setCell ⟨sb, 2, none⟩ (.int .i64 (-1)) := ⟨_, rfl⟩
  have hz2 : w2.heap.size = w.heap.size := by rw [hw2]; simp
  rw [← hw2] at h2 hf12
  have HN := Lib.hid (names_ok w2 sb mb L _ h2 hLl)
  rw [hw2] at HN
  have H2 := Lib.hid h2; have HF12 := Lib.hid hf12; have HL := Lib.hid hold; have HT := Lib.hid hlt; have HW2 := Lib.hid hw2; have HR2 := Lib.hid hr2; have HNS := Lib.hid hns; have HKW := Lib.hid hkw; have HUS := Lib.hid hus; have HFS := Lib.hid h.fs; have HZ2 := Lib.hid hz2
  clear h h1 h2 hf12 hold hlt hw2 hr2 hns hkw hlen hus hz2
  go_enter Try.func15, Try.ntmps15
  go_wp2_with fail
  refine HN.out.mono ?_
  rintro e w3 ⟨v, rfl, hrow, hb3⟩
  rw [← HW2.out] at hrow hb3
  have hvform : ∃ A3 c3, v = .slice A3 L.length c3 ∧ (0 < L.length → ∃ g, A3 = some ⟨g, 0, none⟩ ∧ w2.heap.size ≤ g ∧ g < w3.heap.size ∧ ∀ j (hj : j < L.length), w3.cell? ⟨g, 0 + j, none⟩ = some (encStr (L[j]).1)) := by
    rcases hrow.2 with ⟨rfl, h0⟩ | ⟨g, cap, cur, rfl, hg, hh, _⟩
    · exact ⟨none, 0, by rw [h0], fun hp => by omega⟩
    · refine ⟨_, _, rfl, fun _ => ⟨g, rfl, hg, (Array.getElem?_eq_some_iff.1 hh).1, fun j hj => ?_⟩⟩
      have := hrow.cells (g := g) rfl j (encStr (L[j]).1) (by simp [hj])
      rw [← this]
      unfold Addr.add
      split <;> simp_all
  obtain ⟨A3, c3, rfl, hnm⟩ := hvform
  have h3 := H2.out.below hb3
  have hz3 := hb3.size
  have hst0 : StoB w3 sb mb (seen keep L 0) { quota := s.quota, fuse := -1, down := false, fs := mapV Prod.snd (seen keep L 0) } := by
    have e0 : seen keep L 0 = L := by unfold seen; simp [crashed]
    rw [e0, ← HFS.out]
    exact h3
  have H3 := Lib.hid hst0; have HNM := Lib.hid hnm; have HB3 := Lib.hid hb3
  clear hrow hb3 h3 hst0 hnm HN
  go_wp2
  go_loopw [18] (fun u wr => ∃ i : Nat, i ≤ L.length ∧ u = .int .i64 (i : Int) ∧ StoB wr sb mb (seen keep L i) { quota := s.quota, fuse := -1, down := false, fs := mapV Prod.snd (seen keep L i) } ∧ Fr S w3 wr)
    (fun u _ => L.length - (intOf u).toNat)
  case atStart => exact ⟨0, Nat.zero_le _, rfl, H3.out, Fr.refl _ _⟩
  case round =>
    obtain ⟨i, hi, rfl, hst, hfr⟩ := hrel
    have HST0 := Lib.hid hst; have HFR0 := Lib.hid hfr
    have hzr := hfr.size
    clear hst hfr
    by_cases hlt : i < L.length
    · obtain ⟨g, hA3, hg, hg3, hcell⟩ := HNM.out (by omega)
      subst hA3
      have hst := HST0.out
      have hgS : ¬ S g := fun hs => by have h1 := HT.out g hs; have h2 := HZ2.out; omega
      have hci : wr.cell? ⟨g, 0 + i, none⟩ = some (encStr (L[i]).1) := (World.cell?_of_block (a := ⟨g, 0 + i, none⟩) (HFR0.out.block g (by omega) hgS)).trans (hcell i hlt)
      obtain ⟨n, hn⟩ : ∃ n : ByteArray, n = ⟨⟨(L[i]).1⟩⟩ := ⟨_, rfl⟩
      have hnl : n.data.toList = (L[i]).1 := by rw [hn]
      have hns : n.size ≤ maxLen := by
        have hsh := hst.short _ (show ((L[i]).1, (L[i]).2) ∈ seen keep L i by rw [seen_at keep hlt]; simp)
        have : n.size = n.data.toList.length := by simp
        rw [this, hnl]; exact hsh
      have hen : encStr (L[i]).1 = .string n := by rw [hn]
      rw [hen, Nat.zero_add] at hci
      have hget := seen_get keep hlt hst.rise
      rw [← hnl] at hget
      have c0 := hst.cell0
      obtain ⟨A, c, hl1, hl2, ho, hx, hnone⟩ := hst.at_ n hns
      have hfile := hst.file n.data.toList
      have hfx : fileIn (seen keep L i) n.data.toList = (L[i]).2.2 := by unfold fileIn; rw [hget]; rfl
      rw [hfx] at hl1 ho hx hfile
      have hx1 := hx _ hget
      obtain ⟨f, hf⟩ : ∃ f, f = (L[i]).2.2 := ⟨_, rfl⟩
      rw [← hf] at hl1 ho hx hfile hx1
      obtain ⟨hfs, hfm, _⟩ := hfile
      have hfl : f.data.length ≤ 1000000000 := by
        have h1 := sum_mem (fun x : Ent => x.2.data.length) (List.getElem_mem hlt)
        rw [← HUS.out] at h1
        simp only [← hf] at h1
        omega
      obtain ⟨m, hm⟩ : ∃ m, m = more keep i := ⟨_, rfl⟩
      obtain ⟨k, hk⟩ : ∃ k, k = f.sure + min m (f.data.length - f.sure) := ⟨_, rfl⟩
      have hla : lasts f m = ⟨f.data.take k, k⟩ := by unfold lasts; rw [← hk]
      have hkl : k ≤ f.data.length := by omega
      have htl : (f.data.take k).length = k := by rw [List.length_take]; omega
      have hsub : (f.data.length : Int) - (f.sure : Int) = ((f.data.length - f.sure : Nat) : Int) := by omega
      have hmin : min (m : Int) ((f.data.length - f.sure : Nat) : Int) = ((k - f.sure : Nat) : Int) := by omega
      have hadd : (f.sure : Int) + ((k - f.sure : Nat) : Int) = (k : Int) := by omega
      have hcap : f.data.length ≤ c := by
        obtain ⟨A', c', hv, h1, _⟩ := ho.form
        simp only [Value.slice.injEq] at hv
        obtain ⟨_, _, rfl⟩ := hv
        exact h1
      have hoc := Own.cut (k := k) ho hkl
      obtain ⟨w4, hrun, h4, hg4, hz4⟩ := ((hst.below ((Below.refl _ _).alloc (Nat.le_refl _) (.cells #[.slice A f.data.length c, .int .i64 (f.sure : Int)] 67))).below (below_drew _)).store n hns A c ⟨f.data.take k, k⟩
        (by simp only [htl]; exact ((hoc.below ((Below.refl _ _).alloc (Nat.le_refl _) _))).below (below_drew _)) (hst.apart_at hx hnone _ _) (by simp only [htl]; omega) (fun x hx => hfm x (List.mem_of_mem_take hx)) (by rw [seen_length]; exact hLl)
      simp only [htl] at hrun h4
      have hce : crashE keep i (L[i]).2 = (.slice A k c, ⟨f.data.take k, k⟩) := by
        unfold crashE
        rw [← hf, ← hm, hla, hx1]
        simp [cutV, htl]
      have hst' : StoB w4 sb mb (seen keep L (i + 1)) { quota := s.quota, fuse := -1, down := false, fs := mapV Prod.snd (seen keep L (i + 1)) } := by
        have e := mapV_put Prod.snd n.data.toList ((.slice A k c, ⟨f.data.take k, k⟩) : Ent) (seen keep L i)
        rw [← seen_put keep hlt hst.rise, hce, ← hnl, e]
        exact h4
      have hmb := hst.map.lt
      have hsb := World.block_lt_of_cell? wr _ c0
      have hhead : ∀ W, (Instr.slice 31 (.slice A f.data.length c) none (some (.int .i64 (k : Int))) none).run Try.prog W = .ok (.slice A k c) W := fun W => run_head A f.data.length c k W (by omega)
      have hfr' : Fr S w3 w4 := HFR0.out.trans' ((Fr.of_below ((Below.refl _ _).alloc (Nat.le_refl _) _)).trans' (Fr.trans' (Fr.of_below (below_drew _)) (Fr.grown hg4 (fun k e => by injection e with e; subst e; exact hM))))
      have s0 : (wr.alloc (.cells #[.slice A f.data.length c, .int .i64 (f.sure : Int)] 67)).drew.cell? ⟨sb, 0, none⟩ = some (.map (some mb)) ∧ (wr.alloc (.cells #[.slice A f.data.length c, .int .i64 (f.sure : Int)] 67)).drew.cell? ⟨wr.heap.size, 0, none⟩ = some (.slice A f.data.length c) ∧
          (wr.alloc (.cells #[.slice A f.data.length c, .int .i64 (f.sure : Int)] 67)).drew.cell? ⟨wr.heap.size, 1, none⟩ = some (.int .i64 (f.sure : Int)) :=
        ⟨(((Below.refl _ wr).alloc (Nat.le_refl _) _).cell hsb).trans c0, by simp, by simp⟩
      have s4 : w4.cell? ⟨sb, 0, none⟩ = some (.map (some mb)) ∧ w4.cell? ⟨wr.heap.size, 0, none⟩ = some (.slice A f.data.length c) ∧ w4.cell? ⟨wr.heap.size, 1, none⟩ = some (.int .i64 (f.sure : Int)) := by
        refine ⟨h4.cell0, ?_, ?_⟩
        · exact (World.cell?_of_block (a := ⟨wr.heap.size, 0, none⟩) (hg4.block wr.heap.size (by simp) (by simp; omega))).trans s0.2.1
        · exact (World.cell?_of_block (a := ⟨wr.heap.size, 1, none⟩) (hg4.block wr.heap.size (by simp) (by simp; omega))).trans s0.2.2
      have HST := Lib.hid hst'; have HFR := Lib.hid hfr'
      have hik : i < keep.length → ∃ b off z, A2 = some ⟨b, off, none⟩ ∧ wr.cell? ⟨b, off + i, none⟩ = some (.int .i64 z) ∧ max z 0 = (m : Int) := fun hik => by
        obtain ⟨b, off, e, hb, hc⟩ := HR2.out (by omega)
        have hnb := HNS.out (by omega) _ e
        refine ⟨b, off, keep.getD i 0, e, ?_, by rw [hm]; unfold more; omega⟩
        refine (World.cell?_of_block (a := ⟨b, off + i, none⟩) ?_).trans (hc i hik)
        exact (HFR0.out.block b (by have := HZ2.out; omega) hnb).trans ((HB3.out.block b (by have := HZ2.out; omega)).trans (HF12.out.block b (by omega) hnb))
      have hik0 : ¬ i < keep.length → m = 0 := fun hik => by rw [hm]; unfold more; rw [List.getD_eq_getElem?_getD, List.getElem?_eq_none (by omega)]; rfl
      have hmk : (m : Int) ≤ 9223372036854775807 := by
        rw [hm]; unfold more
        by_cases hik : i < keep.length
        · have := HKW.out (keep.getD i 0) (by simp [hik])
          omega
        · rw [List.getD_eq_getElem?_getD, List.getElem?_eq_none (by omega)]; simp
      clear hst hgS hn hnl hns hen hget hl2 ho hx hnone hfx hx1 hf hfm hla htl hoc hg4 hz4 h4 hce hst' hfr' hk hcell hm
      by_cases hik1 : i < keep.length
      · obtain ⟨b, off, z, rfl, hcz, hmz⟩ := hik hik1
        have d1 : decide ((i : Int) < (keep.length : Int)) = true := by simp; omega
        clear hik hik0
        go_wp2
        refine wp_region_noPanic ?_
        refine wp_region_held_drew (S := fun w' => w'.cell? ⟨sb, 0, none⟩ = some (.map (some mb)) ∧ w'.cell? ⟨wr.heap.size, 0, none⟩ = some (.slice A f.data.length c) ∧ w'.cell? ⟨wr.heap.size, 1, none⟩ = some (.int .i64 (f.sure : Int))) (by kernel_rfl) s0 (fun hHeld => ?_)
        refine wpAnyH_take (i := 0) (v := ?va0) rfl (by kernel_rfl) (by kernel_rfl) (by kernel_rfl) (fun _ _ _ h => h) (Or.inl ⟨by rfl, ?ha0⟩) (by assumption) ?_
        case ha0 => intro w hSw; (try dsimp only at hSw); go_simp; try with_reducible rfl
        simp only [List.getElem_toArray, List.getElem_cons_zero, Act.put, List.setIfInBounds_toArray, List.set_cons_zero, List.set_cons_succ]
        refine wpAnyH_take (i := 1) (v := ?va1) rfl (by kernel_rfl) (by kernel_rfl) (by kernel_rfl) (fun _ _ _ h => h) (Or.inl ⟨by rfl, ?ha1⟩) (by assumption) ?_
        case ha1 => intro w hSw; (try dsimp only at hSw); go_simp; try with_reducible rfl
        simp only [List.getElem_toArray, List.getElem_cons_succ, List.getElem_cons_zero, Act.put, List.setIfInBounds_toArray, List.set_cons_zero, List.set_cons_succ]
        refine wpAnyH_take (i := 2) (v := ?va2) rfl (by kernel_rfl) (by kernel_rfl) (by kernel_rfl) (fun _ _ _ h => h) (Or.inl ⟨by rfl, ?ha2⟩) (by assumption) ?_
        case ha2 => intro w hSw; (try dsimp only at hSw); go_simp; try with_reducible rfl
        simp only [List.getElem_toArray, List.getElem_cons_succ, List.getElem_cons_zero, Act.put, List.setIfInBounds_toArray, List.set_cons_zero, List.set_cons_succ]
        refine wpAnyH_take (i := 3) (v := ?va3) rfl (by kernel_rfl) (by kernel_rfl) (by kernel_rfl) (fun _ _ _ h => h) (Or.inl ⟨by rfl, ?ha3⟩) (by assumption) ?_
        case ha3 => intro w hSw; (try dsimp only at hSw); go_simp; try with_reducible rfl
        simp only [List.getElem_toArray, List.getElem_cons_succ, List.getElem_cons_zero, Act.put, List.setIfInBounds_toArray, List.set_cons_zero, List.set_cons_succ]
        refine wpAnyH_take (i := 4) (v := ?va4) rfl (by kernel_rfl) (by kernel_rfl) (by kernel_rfl) (fun _ _ _ h => h) (Or.inl ⟨by rfl, ?ha4⟩) (by assumption) ?_
        case ha4 => intro w hSw; (try dsimp only at hSw); go_simp; try with_reducible rfl
        simp only [List.getElem_toArray, List.getElem_cons_succ, List.getElem_cons_zero, Act.put, List.setIfInBounds_toArray, List.set_cons_zero, List.set_cons_succ]
        refine wpAnyH_take (i := 5) (v := ?va5) rfl (by kernel_rfl) (by kernel_rfl) (by kernel_rfl) (fun _ _ _ h => h) (Or.inl ⟨by rfl, ?ha5⟩) (by assumption) ?_
        case ha5 => intro w hSw; (try dsimp only at hSw); go_simp; try with_reducible rfl
        simp only [List.getElem_toArray, List.getElem_cons_succ, List.getElem_cons_zero, Act.put, List.setIfInBounds_toArray, List.set_cons_zero, List.set_cons_succ]
        refine wpAnyH_take (i := 6) (v := ?va6) rfl (by kernel_rfl) (by kernel_rfl) (by kernel_rfl) (fun _ _ _ h => h) (Or.inl ⟨by rfl, ?ha6⟩) (by assumption) ?_
        case ha6 => intro w hSw; (try dsimp only at hSw); go_simp; try with_reducible rfl
        simp only [List.getElem_toArray, List.getElem_cons_succ, List.getElem_cons_zero, Act.put, List.setIfInBounds_toArray, List.set_cons_zero, List.set_cons_succ]
        refine wpAnyH_take (i := 7) (v := ?va7) rfl (by kernel_rfl) (by kernel_rfl) (by kernel_rfl) (fun _ _ _ h => h) (Or.inl ⟨by rfl, ?ha7⟩) (by assumption) ?_
        case ha7 => intro w hSw; (try dsimp only at hSw); go_simp; try with_reducible rfl
        simp only [List.getElem_toArray, List.getElem_cons_succ, List.getElem_cons_zero, Act.put, List.setIfInBounds_toArray, List.set_cons_zero, List.set_cons_succ]
        refine wpAnyH_take (i := 8) (v := ?va8) rfl (by kernel_rfl) (by kernel_rfl) (by kernel_rfl) (fun _ _ _ h => h) (Or.inl ⟨by rfl, ?ha8⟩) (by assumption) ?_
        case ha8 => intro w hSw; (try dsimp only at hSw); go_simp; try with_reducible rfl
        simp only [List.getElem_toArray, List.getElem_cons_succ, List.getElem_cons_zero, Act.put, List.setIfInBounds_toArray, List.set_cons_zero, List.set_cons_succ]
        refine wpAnyH_take (i := 9) (v := ?va9) rfl (by kernel_rfl) (by kernel_rfl) (by kernel_rfl) (fun _ _ _ h => h) (Or.inl ⟨by rfl, ?ha9⟩) (by assumption) ?_
        case ha9 => intro w hSw; (try dsimp only at hSw); go_simp; try with_reducible rfl
        simp only [List.getElem_toArray, List.getElem_cons_succ, List.getElem_cons_zero, Act.put, List.setIfInBounds_toArray, List.set_cons_zero, List.set_cons_succ]
        refine wpAnyH_take (i := 10) (v := ?va10) rfl (by kernel_rfl) (by kernel_rfl) (by kernel_rfl) (fun _ _ _ h => h) (Or.inl ⟨by rfl, ?ha10⟩) (by assumption) ?_
        case ha10 => intro w hSw; (try dsimp only at hSw); go_simp; try with_reducible rfl
        simp only [List.getElem_toArray, List.getElem_cons_succ, List.getElem_cons_zero, Act.put, List.setIfInBounds_toArray, List.set_cons_zero, List.set_cons_succ]
        refine wpAnyH_ready (rs := [11]) (by kernel_rfl) (by simp) ?_
        refine AllReadyH.cons rfl (fun K hK => ?_) AllReadyH.nil
        go_simp
        refine hK.out _ _ ?_ (fun hHeld => ?_)
        · exact s4
        clear hK K
        refine wpAnyH_done (by kernel_rfl) ?_ _
        refine NoPanic.normal ?_
        clear hHeld s0 s4
        go_wp2
        go_roundw
        case rel => exact ⟨i + 1, by omega, by go_num, HST.out, HFR.out⟩
        case measure => simp [intOf]; omega
      · obtain rfl := hik0 hik1
        have d1 : decide ((i : Int) < (keep.length : Int)) = false := by simp; omega
        have hmin' : min (0 : Int) ((f.data.length - f.sure : Nat) : Int) = ((k - f.sure : Nat) : Int) := hmin
        clear hik hik0
        go_wp2
        refine wp_region_noPanic ?_
        refine wp_region_held_drew (S := fun w' => w'.cell? ⟨sb, 0, none⟩ = some (.map (some mb)) ∧ w'.cell? ⟨wr.heap.size, 0, none⟩ = some (.slice A f.data.length c) ∧ w'.cell? ⟨wr.heap.size, 1, none⟩ = some (.int .i64 (f.sure : Int))) (by kernel_rfl) s0 (fun hHeld => ?_)
        refine wpAnyH_take (i := 0) (v := ?vb0) rfl (by kernel_rfl) (by kernel_rfl) (by kernel_rfl) (fun _ _ _ h => h) (Or.inl ⟨by rfl, ?hb0⟩) (by assumption) ?_
        case hb0 => intro w hSw; (try dsimp only at hSw); go_simp; try with_reducible rfl
        simp only [List.getElem_toArray, List.getElem_cons_zero, Act.put, List.setIfInBounds_toArray, List.set_cons_zero, List.set_cons_succ]
        refine wpAnyH_take (i := 1) (v := ?vb1) rfl (by kernel_rfl) (by kernel_rfl) (by kernel_rfl) (fun _ _ _ h => h) (Or.inl ⟨by rfl, ?hb1⟩) (by assumption) ?_
        case hb1 => intro w hSw; (try dsimp only at hSw); go_simp; try with_reducible rfl
        simp only [List.getElem_toArray, List.getElem_cons_succ, List.getElem_cons_zero, Act.put, List.setIfInBounds_toArray, List.set_cons_zero, List.set_cons_succ]
        refine wpAnyH_take (i := 2) (v := ?vb2) rfl (by kernel_rfl) (by kernel_rfl) (by kernel_rfl) (fun _ _ _ h => h) (Or.inl ⟨by rfl, ?hb2⟩) (by assumption) ?_
        case hb2 => intro w hSw; (try dsimp only at hSw); go_simp; try with_reducible rfl
        simp only [List.getElem_toArray, List.getElem_cons_succ, List.getElem_cons_zero, Act.put, List.setIfInBounds_toArray, List.set_cons_zero, List.set_cons_succ]
        refine wpAnyH_take (i := 3) (v := ?vb3) rfl (by kernel_rfl) (by kernel_rfl) (by kernel_rfl) (fun _ _ _ h => h) (Or.inl ⟨by rfl, ?hb3⟩) (by assumption) ?_
        case hb3 => intro w hSw; (try dsimp only at hSw); go_simp; try with_reducible rfl
        simp only [List.getElem_toArray, List.getElem_cons_succ, List.getElem_cons_zero, Act.put, List.setIfInBounds_toArray, List.set_cons_zero, List.set_cons_succ]
        refine wpAnyH_take (i := 4) (v := ?vb4) rfl (by kernel_rfl) (by kernel_rfl) (by kernel_rfl) (fun _ _ _ h => h) (Or.inl ⟨by rfl, ?hb4⟩) (by assumption) ?_
        case hb4 => intro w hSw; (try dsimp only at hSw); go_simp; try with_reducible rfl
        simp only [List.getElem_toArray, List.getElem_cons_succ, List.getElem_cons_zero, Act.put, List.setIfInBounds_toArray, List.set_cons_zero, List.set_cons_succ]
        refine wpAnyH_take (i := 5) (v := ?vb5) rfl (by kernel_rfl) (by kernel_rfl) (by kernel_rfl) (fun _ _ _ h => h) (Or.inl ⟨by rfl, ?hb5⟩) (by assumption) ?_
        case hb5 => intro w hSw; (try dsimp only at hSw); go_simp; try with_reducible rfl
        simp only [List.getElem_toArray, List.getElem_cons_succ, List.getElem_cons_zero, Act.put, List.setIfInBounds_toArray, List.set_cons_zero, List.set_cons_succ]
        refine wpAnyH_take (i := 6) (v := ?vb6) rfl (by kernel_rfl) (by kernel_rfl) (by kernel_rfl) (fun _ _ _ h => h) (Or.inl ⟨by rfl, ?hb6⟩) (by assumption) ?_
        case hb6 => intro w hSw; (try dsimp only at hSw); go_simp; try with_reducible rfl
        simp only [List.getElem_toArray, List.getElem_cons_succ, List.getElem_cons_zero, Act.put, List.setIfInBounds_toArray, List.set_cons_zero, List.set_cons_succ]
        refine wpAnyH_take (i := 7) (v := ?vb7) rfl (by kernel_rfl) (by kernel_rfl) (by kernel_rfl) (fun _ _ _ h => h) (Or.inl ⟨by rfl, ?hb7⟩) (by assumption) ?_
        case hb7 => intro w hSw; (try dsimp only at hSw); go_simp; try with_reducible rfl
        simp only [List.getElem_toArray, List.getElem_cons_succ, List.getElem_cons_zero, Act.put, List.setIfInBounds_toArray, List.set_cons_zero, List.set_cons_succ]
        refine wpAnyH_take (i := 8) (v := ?vb8) rfl (by kernel_rfl) (by kernel_rfl) (by kernel_rfl) (fun _ _ _ h => h) (Or.inl ⟨by rfl, ?hb8⟩) (by assumption) ?_
        case hb8 => intro w hSw; (try dsimp only at hSw); go_simp; try with_reducible rfl
        simp only [List.getElem_toArray, List.getElem_cons_succ, List.getElem_cons_zero, Act.put, List.setIfInBounds_toArray, List.set_cons_zero, List.set_cons_succ]
        refine wpAnyH_take (i := 9) (v := ?vb9) rfl (by kernel_rfl) (by kernel_rfl) (by kernel_rfl) (fun _ _ _ h => h) (Or.inl ⟨by rfl, ?hb9⟩) (by assumption) ?_
        case hb9 => intro w hSw; (try dsimp only at hSw); go_simp; try with_reducible rfl
        simp only [List.getElem_toArray, List.getElem_cons_succ, List.getElem_cons_zero, Act.put, List.setIfInBounds_toArray, List.set_cons_zero, List.set_cons_succ]
        refine wpAnyH_take (i := 10) (v := ?vb10) rfl (by kernel_rfl) (by kernel_rfl) (by kernel_rfl) (fun _ _ _ h => h) (Or.inl ⟨by rfl, ?hb10⟩) (by assumption) ?_
        case hb10 => intro w hSw; (try dsimp only at hSw); go_simp; try with_reducible rfl
        simp only [List.getElem_toArray, List.getElem_cons_succ, List.getElem_cons_zero, Act.put, List.setIfInBounds_toArray, List.set_cons_zero, List.set_cons_succ]
        refine wpAnyH_ready (rs := [11]) (by kernel_rfl) (by simp) ?_
        refine AllReadyH.cons rfl (fun K hK => ?_) AllReadyH.nil
        go_simp
        refine hK.out _ _ ?_ (fun hHeld => ?_)
        · exact s4
        clear hK K
        refine wpAnyH_done (by kernel_rfl) ?_ _
        refine NoPanic.normal ?_
        clear hHeld s0 s4
        go_wp2
        go_roundw
        case rel => exact ⟨i + 1, by omega, by go_num, HST.out, HFR.out⟩
        case measure => simp [intOf]; omega
    · have hiL : i = L.length := by omega
      subst hiL
      go_wp2
      go_end0
      have hfr : Fr S w wr := HF12.out.trans' ((Fr.of_below HB3.out).trans' HFR0.out)
      refine ⟨rfl, ?_, hfr⟩
      have h9 := HST0.out
      rw [seen_fs, ← HFS.out] at h9
      exact Sto.mk_after h9 hS hM (fun p hp k hk => .inl (seen_block keep HL.out p hp k hk)) HT.out hfr.size

end Go.Proofs.Ytdaipoelicpnoaa
