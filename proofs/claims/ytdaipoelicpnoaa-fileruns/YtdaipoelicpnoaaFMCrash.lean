/-
  FileRuns' model: crash.
-/
import Derived.Test.YtdaipoelicpnoaaFMod
namespace Go.Proofs.Ytdaipoelicpnoaa
open Go.RowKit Go.Maps FM

def seenF (keep : List Int) (fs : List (Name × File)) (i : Nat) : List (Name × File) := crashed (fun i f => lasts f (more keep i)) 0 (fs.take i) ++ fs.drop i
theorem seenF_length (keep : List Int) (fs : List (Name × File)) (i : Nat) : (seenF keep fs i).length = fs.length := by
  unfold seenF; rw [List.length_append, crashed_length, List.length_take, List.length_drop]; omega
theorem seenF_at (keep : List Int) {fs : List (Name × File)} {i : Nat} (hi : i < fs.length) : (seenF keep fs i)[i]? = some fs[i] := by
  unfold seenF
  rw [List.getElem?_append_right (by rw [crashed_length, List.length_take]; omega), crashed_length, List.length_take, Nat.min_eq_left (by omega), Nat.sub_self, List.getElem?_drop, Nat.add_zero, List.getElem?_eq_getElem hi]
theorem seenF_succ (keep : List Int) {fs : List (Name × File)} {i : Nat} (hi : i < fs.length) : (seenF keep fs i).set i ((fs[i]).1, lasts (fs[i]).2 (more keep i)) = seenF keep fs (i + 1) := by
  unfold seenF
  rw [List.take_succ_eq_append_getElem hi, crashed_snoc, List.length_take, Nat.min_eq_left (Nat.le_of_lt hi), Nat.zero_add, List.drop_eq_getElem_cons hi]
  rw [List.set_append_right _ _ (by rw [crashed_length, List.length_take]; omega), crashed_length, List.length_take, Nat.min_eq_left (Nat.le_of_lt hi), Nat.sub_self, List.set_cons_zero, List.append_assoc]
  rfl
theorem seenF_end (keep : List Int) (s : St) : seenF keep s.fs s.fs.length = (crash s keep).fs := by unfold seenF; simp [crash]

theorem addr_ne {b b' o o' : Nat} (h : b ≠ b') : (⟨b, o, none⟩ : Addr) ≠ ⟨b', o', none⟩ := fun e => h (by injection e)

theorem MoB.set {w : World} {pb g n c : Nat} {s : St} {i : Nat} (h : MoB w pb (.slice (some ⟨g, 0, none⟩) n c) s) (hi : i < s.fs.length) (f : File) (hn : n = s.fs.length) :
    MoB ((w.setCell ⟨g, i * 3 + 1, none⟩ (.string (str f.data))).setCell ⟨g, i * 3 + 2, none⟩ (.int .i64 (f.sure : Int))) pb (.slice (some ⟨g, 0, none⟩) n c) { s with fs := s.fs.set i ((s.fs[i]).1, f) } := by
  subst hn
  have hne := h.ne
  refine ⟨?_, ?_⟩
  · rw [Below.heap_setCell _ _ _ _ (fun e => hne (by simp [Value.ownBlock, e])), Below.heap_setCell _ _ _ _ (fun e => hne (by simp [Value.ownBlock, e]))]
    exact h.cells
  · unfold OwnO
    rw [ones_set hi, List.length_set]
    exact OwnO.set (OwnO.set h.own (i * 3 + 1) _) (i * 3 + 2) _

set_option maxRecDepth 100000 in
set_option maxHeartbeats 4000000 in
theorem mcrash_ok (w : World) (pb : Nat) (v : Value) (s : St) (A2 : Option Addr) (keep : List Int) (c2 B : Nat) (h : MoB w pb v s) (hl : s.fs.length ≤ 1000) (hu : used s ≤ 1000000) (hsu : ∀ p ∈ s.fs, p.2.sure ≤ p.2.data.length)
    (hkl : keep.length ≤ 1000000) (hkw : ∀ x ∈ keep, x ≤ 9223372036854775807) (hr2 : RowI w B A2 keep) (hB : B ≤ w.heap.size) (hns : 0 < keep.length → ∀ a, A2 = some a → some a.block ≠ v.ownBlock ∧ a.block ≠ pb) :
    Calls Try.prog 25 #[.pointer (some ⟨pb, 0, none⟩), .slice A2 keep.length c2] w fun e w' => e = .returned (.tuple #[]) ∧ MoB w' pb v (crash s keep) ∧ Fr (fun k => k = pb ∨ v.ownBlock = some k) w w' := by
  obtain ⟨A, c, hv, _, _, _, _⟩ := h.own.form
  subst hv
  have c0 := h.cell0
  have H := Lib.hid h; have HSU := Lib.hid hsu; have HKW := Lib.hid hkw; have HR2 := Lib.hid hr2; have HNS := Lib.hid hns
  clear h hsu hkw hr2 hns
  go_enter Try.func25, Try.ntmps25
  go_wp2
  go_loopw [13] (fun u wr => ∃ i : Nat, i ≤ s.fs.length ∧ u = .int .i64 (i : Int) ∧ MoB wr pb (.slice A s.fs.length c) { s with fs := seenF keep s.fs i } ∧ Fr (fun k => k = pb ∨ (Value.slice A s.fs.length c).ownBlock = some k) w wr)
    (fun u _ => s.fs.length - (intOf u).toNat)
  case atStart => exact ⟨0, Nat.zero_le _, rfl, by have e : seenF keep s.fs 0 = s.fs := by {unfold seenF; simp [crashed]}; rw [e]; exact H.out, Fr.refl _ _⟩
  case round =>
    obtain ⟨i, hi, rfl, hM, hfr⟩ := hrel
    have HM := Lib.hid hM; have HF := Lib.hid hfr
    have hzr := hfr.size
    clear hM hfr
    by_cases hlt : i < s.fs.length
    · have hM := HM.out
      have hsl : i < (seenF keep s.fs i).length := by rw [seenF_length]; exact hlt
      obtain ⟨A', c', hv', _, _, _, hcell⟩ := hM.own.form
      simp only [Value.slice.injEq] at hv'
      obtain ⟨rfl, -, rfl⟩ := hv'
      obtain ⟨g, hA, hg, k1, k2, k3, fz1, fz2⟩ := hcell i hsl
      subst hA
      have hat : (seenF keep s.fs i)[i] = s.fs[i] := by
        have := seenF_at keep hlt
        rw [List.getElem?_eq_getElem hsl] at this
        exact Option.some.inj this
      rw [hat] at k1 k2 k3
      obtain ⟨f, hf⟩ : ∃ f, f = (s.fs[i]).2 := ⟨_, rfl⟩
      rw [← hf] at k2 k3
      have hfs : f.sure ≤ f.data.length := by rw [hf]; exact HSU.out _ (List.getElem_mem _)
      have hfl : f.data.length ≤ 1000000 := by
        have := sum_mem (fun x : File => x.data.length) (List.getElem_mem hlt)
        rw [← hf] at this
        exact Nat.le_trans this hu
      obtain ⟨m, hm⟩ : ∃ m, m = more keep i := ⟨_, rfl⟩
      obtain ⟨K, hK⟩ : ∃ K, K = min m (f.data.length - f.sure) := ⟨_, rfl⟩
      have hla : lasts f m = ⟨f.data.take (f.sure + K), f.sure + K⟩ := by unfold lasts; rw [← hK]
      have hKl : f.sure + K ≤ f.data.length := by omega
      have hKm' : K ≤ m := by omega
      have hKc : K < m → f.sure + K = f.data.length := fun _ => by omega
      clear hK
      have cpb := hM.cell0
      have hpbg : pb ≠ g := fun e => hM.ne (by simp [Value.ownBlock, e])
      have hwsz : (str f.data).size = f.data.length := str_size f.data
      obtain ⟨X, hX⟩ : ∃ X, X = f.data.take (f.sure + K) := ⟨_, rfl⟩
      have q1 : ∀ V, (Instr.slice 9 (.string (str f.data)) none (some (.int .i64 ((f.sure : Int) + (K : Int)))) none).run Try.prog V = .ok (.string (str X)) V := fun V => by
        have := run_cut_str f.data (f.sure + K) hKl V
        rw [← hX] at this
        exact this
      have hik : i < keep.length → ∃ b off z, A2 = some ⟨b, off, none⟩ ∧ wr.cell? ⟨b, off + i, none⟩ = some (.int .i64 z) ∧ max z 0 = (m : Int) ∧ b < wr.heap.size := fun hik => by
        obtain ⟨b, off, e, hb, hc⟩ := HR2.out (by omega)
        obtain ⟨hnb, hnp⟩ := HNS.out (by omega) _ e
        refine ⟨b, off, keep.getD i 0, e, ?_, by rw [hm]; unfold more; omega, by omega⟩
        refine (World.cell?_of_block (a := ⟨b, off + i, none⟩) (HF.out.block b (by omega) ?_)).trans (hc i hik)
        rintro (h1 | h1)
        · exact hnp h1
        · exact hnb h1.symm
      have hik0 : ¬ i < keep.length → m = 0 := fun hik => by rw [hm]; unfold more; rw [List.getD_eq_getElem?_getD, List.getElem?_eq_none (by omega)]; rfl
      have HIK := Lib.hid hik; have HIK0 := Lib.hid hik0
      clear hik hik0
      obtain ⟨wa, hwa⟩ : ∃ wa, wa = wr.alloc (.cells #[.string (nm (s.fs[i]).1), .string (str f.data), .int .i64 (f.sure : Int)] 62) := ⟨_, rfl⟩
      have hba : Below wr.heap.size wr wa := by rw [hwa]; exact (Below.refl _ _).alloc (Nat.le_refl _) _
      have hMa := hM.below hba
      have hbx : wa.heap[wr.heap.size]? = some (.cells #[.string (nm (s.fs[i]).1), .string (str f.data), .int .i64 (f.sure : Int)] 62) := by rw [hwa]; exact (MapKept.heap_alloc wr _).1
      have hgr : g ≠ wr.heap.size := by omega
      have hpr : pb ≠ wr.heap.size := by have := hM.lt; omega
      have hst : MoB (((wa.drew).setCell ⟨g, i * 3 + 1, none⟩ (.string (str X))).setCell ⟨g, i * 3 + 2, none⟩ (.int .i64 ((f.sure + K : Nat) : Int))) pb (.slice (some ⟨g, 0, none⟩) s.fs.length c) { s with fs := seenF keep s.fs (i + 1) } := by
        have h1 := (hMa.below (below_drew _)).set hsl ⟨f.data.take (f.sure + K), f.sure + K⟩ (by rw [seenF_length])
        simp only [hat] at h1
        rw [hX]
        have he : (seenF keep s.fs i).set i ((s.fs[i]).1, lasts f m) = seenF keep s.fs (i + 1) := by rw [hf, hm]; exact seenF_succ keep hlt
        rw [← hla, he] at h1
        exact h1
      have hfr2 : Fr (fun k => k = pb ∨ (Value.slice (some ⟨g, 0, none⟩) s.fs.length c).ownBlock = some k) w (((wa.drew).setCell ⟨g, i * 3 + 1, none⟩ (.string (str X))).setCell ⟨g, i * 3 + 2, none⟩ (.int .i64 ((f.sure + K : Nat) : Int))) :=
        HF.out.trans' ((Fr.of_below hba).trans' ((Fr.of_below (below_drew _)).trans' ((Fr.setCell (a := ⟨g, i * 3 + 1, none⟩) _ (.inr rfl)).trans' (Fr.setCell (a := ⟨g, i * 3 + 2, none⟩) _ (.inr rfl)))))
      have hcast : ((f.sure + K : Nat) : Int) = (f.sure : Int) + (K : Int) := by omega
      rw [hcast] at hst hfr2
      have HST := Lib.hid hst; have HFR := Lib.hid hfr2
      have s0 : wa.drew.cell? ⟨pb, 0, none⟩ = some (.slice (some ⟨g, 0, none⟩) s.fs.length c) := hMa.cell0
      have s1 : wa.drew.cell? ⟨wr.heap.size, 1, none⟩ = some (.string (str f.data)) := by
        have : wa.cell? ⟨wr.heap.size, 1, none⟩ = some (.string (str f.data)) := by simp only [World.cell?, hbx]; rfl
        exact this
      have g1 := (hba.cell (p := ⟨g, i * 3 + 1, none⟩) hg).trans k2
      have g2 := (hba.cell (p := ⟨g, i * 3 + 2, none⟩) hg).trans k3
      have fg1 : wa.frozen? ⟨g, i * 3 + 1, none⟩ = false := (World.frozen?_of_block (a := ⟨g, i * 3 + 1, none⟩) (hba.block g hg)).trans fz1
      have fg2 : wa.frozen? ⟨g, i * 3 + 2, none⟩ = false := (World.frozen?_of_block (a := ⟨g, i * 3 + 2, none⟩) (hba.block g hg)).trans fz2
      have t1 : wa.cell? ⟨wr.heap.size, 1, none⟩ = some (.string (str f.data)) := s1
      have t2 : wa.cell? ⟨wr.heap.size, 2, none⟩ = some (.int .i64 (f.sure : Int)) := by simp only [World.cell?, hbx]; rfl
      have t0 : wa.cell? ⟨pb, 0, none⟩ = some (.slice (some ⟨g, 0, none⟩) s.fs.length c) := s0
      have d1 : wa.drew.cell? ⟨g, i * 3 + 1, none⟩ = some (.string (str f.data)) := g1
      have d2 : wa.drew.cell? ⟨g, i * 3 + 2, none⟩ = some (.int .i64 (f.sure : Int)) := g2
      have df1 : wa.drew.frozen? ⟨g, i * 3 + 1, none⟩ = false := fg1
      have df2 : wa.drew.frozen? ⟨g, i * 3 + 2, none⟩ = false := fg2
      have HWA := Lib.hid hwa
      clear hM hMa hst hfr2 hat hcell hsl hla hbx hm hf hwa hX
      by_cases hik1 : i < keep.length
      · obtain ⟨b, off, z, hA2, hcz, hmz, hbl⟩ := HIK.out hik1
        subst hA2
        have e1 : decide ((i : Int) < (keep.length : Int)) = true := decide_eq_true (by omega)
        have hcz2 : wa.cell? ⟨b, off + i, none⟩ = some (.int .i64 z) := (hba.cell hbl).trans hcz
        go_wp2
        go_loopw [6, 7] (fun a x wq => ∃ k : Nat, k ≤ K ∧ a = .int .i64 ((f.sure : Int) + (k : Int)) ∧ x = .int .i64 (k : Int) ∧ wq = wa)
          (fun _ x _ => K - (intOf x).toNat)
        case atStart => exact ⟨0, Nat.zero_le _, by simp, rfl, HWA.out.symm⟩
        case round =>
          rename World => wq
          obtain ⟨k, hk, rfl, rfl, hwq⟩ := hrel
          subst hwq
          by_cases hkK : k < K
          · have e2 : decide ((k : Int) < z) = true := decide_eq_true (by omega)
            have e3 : decide ((f.sure : Int) + (k : Int) < (f.data.length : Int)) = true := decide_eq_true (by omega)
            go_wp2
            go_roundw
            case rel => exact ⟨k + 1, by omega, by go_num, by go_num, trivial⟩
            case measure => simp [intOf]; omega
          · have hkk : k = K := by omega
            subst hkk
            by_cases hKm : k < m
            · have e2 : decide ((k : Int) < z) = true := decide_eq_true (by omega)
              have e3 : decide ((f.sure : Int) + (k : Int) < (f.data.length : Int)) = false := decide_eq_false (by omega)
              go_wp2
              refine wp_region_noPanic ?_
              refine wp_region_held_drew (S := fun w' => w'.cell? ⟨pb, 0, none⟩ = some (.slice (some ⟨g, 0, none⟩) s.fs.length c) ∧ w'.cell? ⟨wr.heap.size, 1, none⟩ = some (.string (str f.data))) (by kernel_rfl) ⟨s0, s1⟩ (fun hHeld => ?_)
              refine wpAnyH_take (i := 0) (v := ?va0) rfl (by kernel_rfl) (by kernel_rfl) (by kernel_rfl) (fun _ _ _ h => h) (Or.inl ⟨by rfl, ?ha0⟩) (by assumption) ?_
              case ha0 => intro w hSw; (try dsimp only at hSw); go_simp; try with_reducible rfl
              simp only [List.getElem_toArray, List.getElem_cons_zero, Act.put, List.setIfInBounds_toArray, List.set_cons_zero, List.set_cons_succ]
              refine wpAnyH_take (i := 1) (v := ?va1) rfl (by kernel_rfl) (by kernel_rfl) (by kernel_rfl) (fun _ _ _ h => h) (Or.inl ⟨by rfl, ?ha1⟩) (by assumption) ?_
              case ha1 => intro w hSw; (try dsimp only at hSw); go_simp; try with_reducible rfl
              simp only [List.getElem_toArray, List.getElem_cons_succ, List.getElem_cons_zero, Act.put, List.setIfInBounds_toArray, List.set_cons_zero, List.set_cons_succ]
              refine wpAnyH_take (i := 2) (v := ?va2) rfl (by kernel_rfl) (by kernel_rfl) (by kernel_rfl) (fun _ _ _ h => h) (Or.inl ⟨by rfl, ?ha2⟩) (by assumption) ?_
              case ha2 => intro w hSw; (try dsimp only at hSw); go_simp; try with_reducible rfl
              simp only [List.getElem_toArray, List.getElem_cons_succ, List.getElem_cons_zero, Act.put, List.setIfInBounds_toArray, List.set_cons_zero, List.set_cons_succ]
              refine wpAnyH_take (i := 3) (v := ?va3) rfl (by kernel_rfl) (by kernel_rfl) (by kernel_rfl) (fun _ _ _ h => h) (Or.inl ⟨by rfl, ?ha3⟩) (by assumption) ?_
              case ha3 => intro w hSw; (try dsimp only at hSw); go_simp; try with_reducible rfl
              simp only [List.getElem_toArray, List.getElem_cons_succ, List.getElem_cons_zero, Act.put, List.setIfInBounds_toArray, List.set_cons_zero, List.set_cons_succ]
              refine wpAnyH_take (i := 4) (v := ?va4) rfl (by kernel_rfl) (by kernel_rfl) (by kernel_rfl) (fun _ _ _ h => h) (Or.inl ⟨by rfl, ?ha4⟩) (by assumption) ?_
              case ha4 => intro w hSw; (try dsimp only at hSw); go_simp; try with_reducible rfl
              simp only [List.getElem_toArray, List.getElem_cons_succ, List.getElem_cons_zero, Act.put, List.setIfInBounds_toArray, List.set_cons_zero, List.set_cons_succ]
              refine wpAnyH_take (i := 5) (v := ?va5) rfl (by kernel_rfl) (by kernel_rfl) (by kernel_rfl) (fun _ _ _ h => h) (Or.inl ⟨by rfl, ?ha5⟩) (by assumption) ?_
              case ha5 => intro w hSw; (try dsimp only at hSw); go_simp; try with_reducible rfl
              simp only [List.getElem_toArray, List.getElem_cons_succ, List.getElem_cons_zero, Act.put, List.setIfInBounds_toArray, List.set_cons_zero, List.set_cons_succ]
              refine wpAnyH_take (i := 6) (v := ?va6) rfl (by kernel_rfl) (by kernel_rfl) (by kernel_rfl) (fun _ _ _ h => h) (Or.inl ⟨by rfl, ?ha6⟩) (by assumption) ?_
              case ha6 => intro w hSw; (try dsimp only at hSw); go_simp; try with_reducible rfl
              simp only [List.getElem_toArray, List.getElem_cons_succ, List.getElem_cons_zero, Act.put, List.setIfInBounds_toArray, List.set_cons_zero, List.set_cons_succ]
              refine wpAnyH_take (i := 7) (v := ?va7) rfl (by kernel_rfl) (by kernel_rfl) (by kernel_rfl) (fun _ _ _ h => h) (Or.inl ⟨by rfl, ?ha7⟩) (by assumption) ?_
              case ha7 => intro w hSw; (try dsimp only at hSw); go_simp; try with_reducible rfl
              simp only [List.getElem_toArray, List.getElem_cons_succ, List.getElem_cons_zero, Act.put, List.setIfInBounds_toArray, List.set_cons_zero, List.set_cons_succ]
              refine wpAnyH_take (i := 8) (v := ?va8) rfl (by kernel_rfl) (by kernel_rfl) (by kernel_rfl) (fun _ _ _ h => h) (Or.inl ⟨by rfl, ?ha8⟩) (by assumption) ?_
              case ha8 => intro w hSw; (try dsimp only at hSw); go_simp; try with_reducible rfl
              simp only [List.getElem_toArray, List.getElem_cons_succ, List.getElem_cons_zero, Act.put, List.setIfInBounds_toArray, List.set_cons_zero, List.set_cons_succ]
              refine wpAnyH_take (i := 9) (v := ?va9) rfl (by kernel_rfl) (by kernel_rfl) (by kernel_rfl) (fun _ _ _ h => h) (Or.inl ⟨by rfl, ?ha9⟩) (by assumption) ?_
              case ha9 => intro w hSw; (try dsimp only at hSw); go_simp; try with_reducible rfl
              simp only [List.getElem_toArray, List.getElem_cons_succ, List.getElem_cons_zero, Act.put, List.setIfInBounds_toArray, List.set_cons_zero, List.set_cons_succ]
              refine wpAnyH_take (i := 10) (v := ?va10) rfl (by kernel_rfl) (by kernel_rfl) (by kernel_rfl) (fun _ _ _ h => h) (Or.inl ⟨by rfl, ?ha10⟩) (by assumption) ?_
              case ha10 => intro w hSw; (try dsimp only at hSw); go_simp; try with_reducible rfl
              simp only [List.getElem_toArray, List.getElem_cons_succ, List.getElem_cons_zero, Act.put, List.setIfInBounds_toArray, List.set_cons_zero, List.set_cons_succ]
              refine wpAnyH_take (i := 11) (v := ?va11) rfl (by kernel_rfl) (by kernel_rfl) (by kernel_rfl) (fun _ _ _ h => h) (Or.inl ⟨by rfl, ?ha11⟩) (by assumption) ?_
              case ha11 => intro w hSw; (try dsimp only at hSw); go_simp; try with_reducible rfl
              simp only [List.getElem_toArray, List.getElem_cons_succ, List.getElem_cons_zero, Act.put, List.setIfInBounds_toArray, List.set_cons_zero, List.set_cons_succ]
              refine wpAnyH_take (i := 12) (v := ?va12) rfl (by kernel_rfl) (by kernel_rfl) (by kernel_rfl) (fun _ _ _ h => h) (Or.inl ⟨by rfl, ?ha12⟩) (by assumption) ?_
              case ha12 => intro w hSw; (try dsimp only at hSw); go_simp; try with_reducible rfl
              simp only [List.getElem_toArray, List.getElem_cons_succ, List.getElem_cons_zero, Act.put, List.setIfInBounds_toArray, List.set_cons_zero, List.set_cons_succ]
              refine wpAnyH_take (i := 13) (v := ?va13) rfl (by kernel_rfl) (by kernel_rfl) (by kernel_rfl) (fun _ _ _ h => h) (Or.inl ⟨by rfl, ?ha13⟩) (by assumption) ?_
              case ha13 => intro w hSw; (try dsimp only at hSw); go_simp; try with_reducible rfl
              simp only [List.getElem_toArray, List.getElem_cons_succ, List.getElem_cons_zero, Act.put, List.setIfInBounds_toArray, List.set_cons_zero, List.set_cons_succ]
              refine wpAnyH_take (i := 14) (v := ?va14) rfl (by kernel_rfl) (by kernel_rfl) (by kernel_rfl) (fun _ _ _ h => h) (Or.inl ⟨by rfl, ?ha14⟩) (by assumption) ?_
              case ha14 => intro w hSw; (try dsimp only at hSw); go_simp; try with_reducible rfl
              simp only [List.getElem_toArray, List.getElem_cons_succ, List.getElem_cons_zero, Act.put, List.setIfInBounds_toArray, List.set_cons_zero, List.set_cons_succ]
              refine wpAnyH_take (i := 15) (v := ?va15) rfl (by kernel_rfl) (by kernel_rfl) (by kernel_rfl) (fun _ _ _ h => h) (Or.inl ⟨by rfl, ?ha15⟩) (by assumption) ?_
              case ha15 => intro w hSw; (try dsimp only at hSw); go_simp; try with_reducible rfl
              simp only [List.getElem_toArray, List.getElem_cons_succ, List.getElem_cons_zero, Act.put, List.setIfInBounds_toArray, List.set_cons_zero, List.set_cons_succ]
              refine wpAnyH_take (i := 16) (v := ?va16) rfl (by kernel_rfl) (by kernel_rfl) (by kernel_rfl) (fun _ _ _ h => h) (Or.inl ⟨by rfl, ?ha16⟩) (by assumption) ?_
              case ha16 => intro w hSw; (try dsimp only at hSw); go_simp; try with_reducible rfl
              simp only [List.getElem_toArray, List.getElem_cons_succ, List.getElem_cons_zero, Act.put, List.setIfInBounds_toArray, List.set_cons_zero, List.set_cons_succ]
              refine wpAnyH_ready (rs := [17]) (by kernel_rfl) (by simp) ?_
              refine AllReadyH.cons rfl (fun K hK => ?_) AllReadyH.nil
              go_simp
              refine hK.out _ _ ?_ (fun hHeld => ?_)
              · exact ⟨(World.cell?_setCell_other _ _ _ _ (addr_ne hpbg.symm)).trans s0, (World.cell?_setCell_other _ _ _ _ (addr_ne hgr)).trans s1⟩
              clear hK K
              refine wpAnyH_take (i := 18) (v := ?vaa18) rfl (by kernel_rfl) (by kernel_rfl) (by kernel_rfl) (fun _ _ _ h => h) (Or.inl ⟨by rfl, ?haa18⟩) (by assumption) ?_
              case haa18 => intro w hSw; (try dsimp only at hSw); go_simp; try with_reducible rfl
              simp only [List.getElem_toArray, List.getElem_cons_succ, List.getElem_cons_zero, Act.put, List.setIfInBounds_toArray, List.set_cons_zero, List.set_cons_succ]
              refine wpAnyH_take (i := 19) (v := ?vaa19) rfl (by kernel_rfl) (by kernel_rfl) (by kernel_rfl) (fun _ _ _ h => h) (Or.inl ⟨by rfl, ?haa19⟩) (by assumption) ?_
              case haa19 => intro w hSw; (try dsimp only at hSw); go_simp; try with_reducible rfl
              simp only [List.getElem_toArray, List.getElem_cons_succ, List.getElem_cons_zero, Act.put, List.setIfInBounds_toArray, List.set_cons_zero, List.set_cons_succ]
              refine wpAnyH_ready (rs := [20]) (by kernel_rfl) (by simp) ?_
              refine AllReadyH.cons rfl (fun K hK => ?_) AllReadyH.nil
              go_simp
              refine hK.out _ _ ?_ (fun hHeld => ?_)
              · exact ⟨(World.cell?_setCell_other _ _ _ _ (addr_ne hpbg.symm)).trans ((World.cell?_setCell_other _ _ _ _ (addr_ne hpbg.symm)).trans s0), (World.cell?_setCell_other _ _ _ _ (addr_ne hgr)).trans ((World.cell?_setCell_other _ _ _ _ (addr_ne hgr)).trans s1)⟩
              clear hK K
              refine wpAnyH_done (by kernel_rfl) ?_ _
              refine NoPanic.normal ?_
              clear hHeld
              go_wp2
              go_roundw
              case rel => exact ⟨i + 1, by omega, by go_num, HST.out, HFR.out⟩
              case measure => simp [intOf]; omega
            · have e2 : decide ((k : Int) < z) = false := decide_eq_false (by omega)
              go_wp2
              refine wp_region_noPanic ?_
              refine wp_region_held_drew (S := fun w' => w'.cell? ⟨pb, 0, none⟩ = some (.slice (some ⟨g, 0, none⟩) s.fs.length c) ∧ w'.cell? ⟨wr.heap.size, 1, none⟩ = some (.string (str f.data))) (by kernel_rfl) ⟨s0, s1⟩ (fun hHeld => ?_)
              refine wpAnyH_take (i := 0) (v := ?vb0) rfl (by kernel_rfl) (by kernel_rfl) (by kernel_rfl) (fun _ _ _ h => h) (Or.inl ⟨by rfl, ?hb0⟩) (by assumption) ?_
              case hb0 => intro w hSw; (try dsimp only at hSw); go_simp; try with_reducible rfl
              simp only [List.getElem_toArray, List.getElem_cons_zero, Act.put, List.setIfInBounds_toArray, List.set_cons_zero, List.set_cons_succ]
              refine wpAnyH_take (i := 1) (v := ?vb1) rfl (by kernel_rfl) (by kernel_rfl) (by kernel_rfl) (fun _ _ _ h => h) (Or.inl ⟨by rfl, ?hb1⟩) (by assumption) ?_
              case hb1 => intro w hSw; (try dsimp only at hSw); go_simp; try with_reducible rfl
              simp only [List.getElem_toArray, List.getElem_cons_succ, List.getElem_cons_zero, Act.put, List.setIfInBounds_toArray, List.set_cons_zero, List.set_cons_succ]
              refine wpAnyH_take (i := 2) (v := ?vb2) rfl (by kernel_rfl) (by kernel_rfl) (by kernel_rfl) (fun _ _ _ h => h) (Or.inl ⟨by rfl, ?hb2⟩) (by assumption) ?_
              case hb2 => intro w hSw; (try dsimp only at hSw); go_simp; try with_reducible rfl
              simp only [List.getElem_toArray, List.getElem_cons_succ, List.getElem_cons_zero, Act.put, List.setIfInBounds_toArray, List.set_cons_zero, List.set_cons_succ]
              refine wpAnyH_take (i := 3) (v := ?vb3) rfl (by kernel_rfl) (by kernel_rfl) (by kernel_rfl) (fun _ _ _ h => h) (Or.inl ⟨by rfl, ?hb3⟩) (by assumption) ?_
              case hb3 => intro w hSw; (try dsimp only at hSw); go_simp; try with_reducible rfl
              simp only [List.getElem_toArray, List.getElem_cons_succ, List.getElem_cons_zero, Act.put, List.setIfInBounds_toArray, List.set_cons_zero, List.set_cons_succ]
              refine wpAnyH_take (i := 4) (v := ?vb4) rfl (by kernel_rfl) (by kernel_rfl) (by kernel_rfl) (fun _ _ _ h => h) (Or.inl ⟨by rfl, ?hb4⟩) (by assumption) ?_
              case hb4 => intro w hSw; (try dsimp only at hSw); go_simp; try with_reducible rfl
              simp only [List.getElem_toArray, List.getElem_cons_succ, List.getElem_cons_zero, Act.put, List.setIfInBounds_toArray, List.set_cons_zero, List.set_cons_succ]
              refine wpAnyH_take (i := 5) (v := ?vb5) rfl (by kernel_rfl) (by kernel_rfl) (by kernel_rfl) (fun _ _ _ h => h) (Or.inl ⟨by rfl, ?hb5⟩) (by assumption) ?_
              case hb5 => intro w hSw; (try dsimp only at hSw); go_simp; try with_reducible rfl
              simp only [List.getElem_toArray, List.getElem_cons_succ, List.getElem_cons_zero, Act.put, List.setIfInBounds_toArray, List.set_cons_zero, List.set_cons_succ]
              refine wpAnyH_take (i := 6) (v := ?vb6) rfl (by kernel_rfl) (by kernel_rfl) (by kernel_rfl) (fun _ _ _ h => h) (Or.inl ⟨by rfl, ?hb6⟩) (by assumption) ?_
              case hb6 => intro w hSw; (try dsimp only at hSw); go_simp; try with_reducible rfl
              simp only [List.getElem_toArray, List.getElem_cons_succ, List.getElem_cons_zero, Act.put, List.setIfInBounds_toArray, List.set_cons_zero, List.set_cons_succ]
              refine wpAnyH_take (i := 7) (v := ?vb7) rfl (by kernel_rfl) (by kernel_rfl) (by kernel_rfl) (fun _ _ _ h => h) (Or.inl ⟨by rfl, ?hb7⟩) (by assumption) ?_
              case hb7 => intro w hSw; (try dsimp only at hSw); go_simp; try with_reducible rfl
              simp only [List.getElem_toArray, List.getElem_cons_succ, List.getElem_cons_zero, Act.put, List.setIfInBounds_toArray, List.set_cons_zero, List.set_cons_succ]
              refine wpAnyH_take (i := 8) (v := ?vb8) rfl (by kernel_rfl) (by kernel_rfl) (by kernel_rfl) (fun _ _ _ h => h) (Or.inl ⟨by rfl, ?hb8⟩) (by assumption) ?_
              case hb8 => intro w hSw; (try dsimp only at hSw); go_simp; try with_reducible rfl
              simp only [List.getElem_toArray, List.getElem_cons_succ, List.getElem_cons_zero, Act.put, List.setIfInBounds_toArray, List.set_cons_zero, List.set_cons_succ]
              refine wpAnyH_take (i := 9) (v := ?vb9) rfl (by kernel_rfl) (by kernel_rfl) (by kernel_rfl) (fun _ _ _ h => h) (Or.inl ⟨by rfl, ?hb9⟩) (by assumption) ?_
              case hb9 => intro w hSw; (try dsimp only at hSw); go_simp; try with_reducible rfl
              simp only [List.getElem_toArray, List.getElem_cons_succ, List.getElem_cons_zero, Act.put, List.setIfInBounds_toArray, List.set_cons_zero, List.set_cons_succ]
              refine wpAnyH_take (i := 10) (v := ?vb10) rfl (by kernel_rfl) (by kernel_rfl) (by kernel_rfl) (fun _ _ _ h => h) (Or.inl ⟨by rfl, ?hb10⟩) (by assumption) ?_
              case hb10 => intro w hSw; (try dsimp only at hSw); go_simp; try with_reducible rfl
              simp only [List.getElem_toArray, List.getElem_cons_succ, List.getElem_cons_zero, Act.put, List.setIfInBounds_toArray, List.set_cons_zero, List.set_cons_succ]
              refine wpAnyH_take (i := 11) (v := ?vb11) rfl (by kernel_rfl) (by kernel_rfl) (by kernel_rfl) (fun _ _ _ h => h) (Or.inl ⟨by rfl, ?hb11⟩) (by assumption) ?_
              case hb11 => intro w hSw; (try dsimp only at hSw); go_simp; try with_reducible rfl
              simp only [List.getElem_toArray, List.getElem_cons_succ, List.getElem_cons_zero, Act.put, List.setIfInBounds_toArray, List.set_cons_zero, List.set_cons_succ]
              refine wpAnyH_take (i := 12) (v := ?vb12) rfl (by kernel_rfl) (by kernel_rfl) (by kernel_rfl) (fun _ _ _ h => h) (Or.inl ⟨by rfl, ?hb12⟩) (by assumption) ?_
              case hb12 => intro w hSw; (try dsimp only at hSw); go_simp; try with_reducible rfl
              simp only [List.getElem_toArray, List.getElem_cons_succ, List.getElem_cons_zero, Act.put, List.setIfInBounds_toArray, List.set_cons_zero, List.set_cons_succ]
              refine wpAnyH_take (i := 13) (v := ?vb13) rfl (by kernel_rfl) (by kernel_rfl) (by kernel_rfl) (fun _ _ _ h => h) (Or.inl ⟨by rfl, ?hb13⟩) (by assumption) ?_
              case hb13 => intro w hSw; (try dsimp only at hSw); go_simp; try with_reducible rfl
              simp only [List.getElem_toArray, List.getElem_cons_succ, List.getElem_cons_zero, Act.put, List.setIfInBounds_toArray, List.set_cons_zero, List.set_cons_succ]
              refine wpAnyH_take (i := 14) (v := ?vb14) rfl (by kernel_rfl) (by kernel_rfl) (by kernel_rfl) (fun _ _ _ h => h) (Or.inl ⟨by rfl, ?hb14⟩) (by assumption) ?_
              case hb14 => intro w hSw; (try dsimp only at hSw); go_simp; try with_reducible rfl
              simp only [List.getElem_toArray, List.getElem_cons_succ, List.getElem_cons_zero, Act.put, List.setIfInBounds_toArray, List.set_cons_zero, List.set_cons_succ]
              refine wpAnyH_take (i := 15) (v := ?vb15) rfl (by kernel_rfl) (by kernel_rfl) (by kernel_rfl) (fun _ _ _ h => h) (Or.inl ⟨by rfl, ?hb15⟩) (by assumption) ?_
              case hb15 => intro w hSw; (try dsimp only at hSw); go_simp; try with_reducible rfl
              simp only [List.getElem_toArray, List.getElem_cons_succ, List.getElem_cons_zero, Act.put, List.setIfInBounds_toArray, List.set_cons_zero, List.set_cons_succ]
              refine wpAnyH_take (i := 16) (v := ?vb16) rfl (by kernel_rfl) (by kernel_rfl) (by kernel_rfl) (fun _ _ _ h => h) (Or.inl ⟨by rfl, ?hb16⟩) (by assumption) ?_
              case hb16 => intro w hSw; (try dsimp only at hSw); go_simp; try with_reducible rfl
              simp only [List.getElem_toArray, List.getElem_cons_succ, List.getElem_cons_zero, Act.put, List.setIfInBounds_toArray, List.set_cons_zero, List.set_cons_succ]
              refine wpAnyH_ready (rs := [17]) (by kernel_rfl) (by simp) ?_
              refine AllReadyH.cons rfl (fun K hK => ?_) AllReadyH.nil
              go_simp
              refine hK.out _ _ ?_ (fun hHeld => ?_)
              · exact ⟨(World.cell?_setCell_other _ _ _ _ (addr_ne hpbg.symm)).trans s0, (World.cell?_setCell_other _ _ _ _ (addr_ne hgr)).trans s1⟩
              clear hK K
              refine wpAnyH_take (i := 18) (v := ?vbb18) rfl (by kernel_rfl) (by kernel_rfl) (by kernel_rfl) (fun _ _ _ h => h) (Or.inl ⟨by rfl, ?hbb18⟩) (by assumption) ?_
              case hbb18 => intro w hSw; (try dsimp only at hSw); go_simp; try with_reducible rfl
              simp only [List.getElem_toArray, List.getElem_cons_succ, List.getElem_cons_zero, Act.put, List.setIfInBounds_toArray, List.set_cons_zero, List.set_cons_succ]
              refine wpAnyH_take (i := 19) (v := ?vbb19) rfl (by kernel_rfl) (by kernel_rfl) (by kernel_rfl) (fun _ _ _ h => h) (Or.inl ⟨by rfl, ?hbb19⟩) (by assumption) ?_
              case hbb19 => intro w hSw; (try dsimp only at hSw); go_simp; try with_reducible rfl
              simp only [List.getElem_toArray, List.getElem_cons_succ, List.getElem_cons_zero, Act.put, List.setIfInBounds_toArray, List.set_cons_zero, List.set_cons_succ]
              refine wpAnyH_ready (rs := [20]) (by kernel_rfl) (by simp) ?_
              refine AllReadyH.cons rfl (fun K hK => ?_) AllReadyH.nil
              go_simp
              refine hK.out _ _ ?_ (fun hHeld => ?_)
              · exact ⟨(World.cell?_setCell_other _ _ _ _ (addr_ne hpbg.symm)).trans ((World.cell?_setCell_other _ _ _ _ (addr_ne hpbg.symm)).trans s0), (World.cell?_setCell_other _ _ _ _ (addr_ne hgr)).trans ((World.cell?_setCell_other _ _ _ _ (addr_ne hgr)).trans s1)⟩
              clear hK K
              refine wpAnyH_done (by kernel_rfl) ?_ _
              refine NoPanic.normal ?_
              clear hHeld
              go_wp2
              go_roundw
              case rel => exact ⟨i + 1, by omega, by go_num, HST.out, HFR.out⟩
              case measure => simp [intOf]; omega
      · have e1 : decide ((i : Int) < (keep.length : Int)) = false := decide_eq_false (by omega)
        obtain rfl := HIK0.out hik1
        have hK0 : K = 0 := by omega
        have hKl0 := hKl
        go_wp2
        go_loopw [6, 7] (fun a x wq => ∃ k : Nat, k ≤ K ∧ a = .int .i64 ((f.sure : Int) + (k : Int)) ∧ x = .int .i64 (k : Int) ∧ wq = wa)
          (fun _ x _ => K - (intOf x).toNat)
        case atStart => exact ⟨0, Nat.zero_le _, by simp, rfl, HWA.out.symm⟩
        case round =>
          rename World => wq
          obtain ⟨k, hk, rfl, rfl, hwq⟩ := hrel
          subst hwq
          obtain rfl : k = 0 := by omega
          obtain rfl : K = 0 := hK0
          have hz0 : (f.sure : Int) + ((0 : Nat) : Int) = (f.sure : Int) := by simp
          have q10 : ∀ V, (Instr.slice 9 (.string (str f.data)) none (some (.int .i64 (f.sure : Int))) none).run Try.prog V = .ok (.string (str X)) V := fun V => by have := q1 V; rwa [hz0] at this
          have h8 := HST.out; have h9 := HFR.out
          rw [hz0] at h8 h9
          have HST0 := Lib.hid h8; have HFR0 := Lib.hid h9
          clear h8 h9 q1
          go_wp2
          refine wp_region_noPanic ?_
          refine wp_region_held_drew (S := fun w' => w'.cell? ⟨pb, 0, none⟩ = some (.slice (some ⟨g, 0, none⟩) s.fs.length c) ∧ w'.cell? ⟨wr.heap.size, 1, none⟩ = some (.string (str f.data))) (by kernel_rfl) ⟨s0, s1⟩ (fun hHeld => ?_)
          refine wpAnyH_take (i := 0) (v := ?vc0) rfl (by kernel_rfl) (by kernel_rfl) (by kernel_rfl) (fun _ _ _ h => h) (Or.inl ⟨by rfl, ?hc0⟩) (by assumption) ?_
          case hc0 => intro w hSw; (try dsimp only at hSw); go_simp; try with_reducible rfl
          simp only [List.getElem_toArray, List.getElem_cons_zero, Act.put, List.setIfInBounds_toArray, List.set_cons_zero, List.set_cons_succ]
          refine wpAnyH_take (i := 1) (v := ?vc1) rfl (by kernel_rfl) (by kernel_rfl) (by kernel_rfl) (fun _ _ _ h => h) (Or.inl ⟨by rfl, ?hc1⟩) (by assumption) ?_
          case hc1 => intro w hSw; (try dsimp only at hSw); go_simp; try with_reducible rfl
          simp only [List.getElem_toArray, List.getElem_cons_succ, List.getElem_cons_zero, Act.put, List.setIfInBounds_toArray, List.set_cons_zero, List.set_cons_succ]
          refine wpAnyH_take (i := 2) (v := ?vc2) rfl (by kernel_rfl) (by kernel_rfl) (by kernel_rfl) (fun _ _ _ h => h) (Or.inl ⟨by rfl, ?hc2⟩) (by assumption) ?_
          case hc2 => intro w hSw; (try dsimp only at hSw); go_simp; try with_reducible rfl
          simp only [List.getElem_toArray, List.getElem_cons_succ, List.getElem_cons_zero, Act.put, List.setIfInBounds_toArray, List.set_cons_zero, List.set_cons_succ]
          refine wpAnyH_take (i := 3) (v := ?vc3) rfl (by kernel_rfl) (by kernel_rfl) (by kernel_rfl) (fun _ _ _ h => h) (Or.inl ⟨by rfl, ?hc3⟩) (by assumption) ?_
          case hc3 => intro w hSw; (try dsimp only at hSw); go_simp; try with_reducible rfl
          simp only [List.getElem_toArray, List.getElem_cons_succ, List.getElem_cons_zero, Act.put, List.setIfInBounds_toArray, List.set_cons_zero, List.set_cons_succ]
          refine wpAnyH_take (i := 4) (v := ?vc4) rfl (by kernel_rfl) (by kernel_rfl) (by kernel_rfl) (fun _ _ _ h => h) (Or.inl ⟨by rfl, ?hc4⟩) (by assumption) ?_
          case hc4 => intro w hSw; (try dsimp only at hSw); go_simp; try with_reducible rfl
          simp only [List.getElem_toArray, List.getElem_cons_succ, List.getElem_cons_zero, Act.put, List.setIfInBounds_toArray, List.set_cons_zero, List.set_cons_succ]
          refine wpAnyH_take (i := 5) (v := ?vc5) rfl (by kernel_rfl) (by kernel_rfl) (by kernel_rfl) (fun _ _ _ h => h) (Or.inl ⟨by rfl, ?hc5⟩) (by assumption) ?_
          case hc5 => intro w hSw; (try dsimp only at hSw); go_simp; try with_reducible rfl
          simp only [List.getElem_toArray, List.getElem_cons_succ, List.getElem_cons_zero, Act.put, List.setIfInBounds_toArray, List.set_cons_zero, List.set_cons_succ]
          refine wpAnyH_take (i := 6) (v := ?vc6) rfl (by kernel_rfl) (by kernel_rfl) (by kernel_rfl) (fun _ _ _ h => h) (Or.inl ⟨by rfl, ?hc6⟩) (by assumption) ?_
          case hc6 => intro w hSw; (try dsimp only at hSw); go_simp; try with_reducible rfl
          simp only [List.getElem_toArray, List.getElem_cons_succ, List.getElem_cons_zero, Act.put, List.setIfInBounds_toArray, List.set_cons_zero, List.set_cons_succ]
          refine wpAnyH_take (i := 7) (v := ?vc7) rfl (by kernel_rfl) (by kernel_rfl) (by kernel_rfl) (fun _ _ _ h => h) (Or.inl ⟨by rfl, ?hc7⟩) (by assumption) ?_
          case hc7 => intro w hSw; (try dsimp only at hSw); go_simp; try with_reducible rfl
          simp only [List.getElem_toArray, List.getElem_cons_succ, List.getElem_cons_zero, Act.put, List.setIfInBounds_toArray, List.set_cons_zero, List.set_cons_succ]
          refine wpAnyH_take (i := 8) (v := ?vc8) rfl (by kernel_rfl) (by kernel_rfl) (by kernel_rfl) (fun _ _ _ h => h) (Or.inl ⟨by rfl, ?hc8⟩) (by assumption) ?_
          case hc8 => intro w hSw; (try dsimp only at hSw); go_simp; try with_reducible rfl
          simp only [List.getElem_toArray, List.getElem_cons_succ, List.getElem_cons_zero, Act.put, List.setIfInBounds_toArray, List.set_cons_zero, List.set_cons_succ]
          refine wpAnyH_take (i := 9) (v := ?vc9) rfl (by kernel_rfl) (by kernel_rfl) (by kernel_rfl) (fun _ _ _ h => h) (Or.inl ⟨by rfl, ?hc9⟩) (by assumption) ?_
          case hc9 => intro w hSw; (try dsimp only at hSw); go_simp; try with_reducible rfl
          simp only [List.getElem_toArray, List.getElem_cons_succ, List.getElem_cons_zero, Act.put, List.setIfInBounds_toArray, List.set_cons_zero, List.set_cons_succ]
          refine wpAnyH_take (i := 10) (v := ?vc10) rfl (by kernel_rfl) (by kernel_rfl) (by kernel_rfl) (fun _ _ _ h => h) (Or.inl ⟨by rfl, ?hc10⟩) (by assumption) ?_
          case hc10 => intro w hSw; (try dsimp only at hSw); go_simp; try with_reducible rfl
          simp only [List.getElem_toArray, List.getElem_cons_succ, List.getElem_cons_zero, Act.put, List.setIfInBounds_toArray, List.set_cons_zero, List.set_cons_succ]
          refine wpAnyH_take (i := 11) (v := ?vc11) rfl (by kernel_rfl) (by kernel_rfl) (by kernel_rfl) (fun _ _ _ h => h) (Or.inl ⟨by rfl, ?hc11⟩) (by assumption) ?_
          case hc11 => intro w hSw; (try dsimp only at hSw); go_simp; try with_reducible rfl
          simp only [List.getElem_toArray, List.getElem_cons_succ, List.getElem_cons_zero, Act.put, List.setIfInBounds_toArray, List.set_cons_zero, List.set_cons_succ]
          refine wpAnyH_take (i := 12) (v := ?vc12) rfl (by kernel_rfl) (by kernel_rfl) (by kernel_rfl) (fun _ _ _ h => h) (Or.inl ⟨by rfl, ?hc12⟩) (by assumption) ?_
          case hc12 => intro w hSw; (try dsimp only at hSw); go_simp; try with_reducible rfl
          simp only [List.getElem_toArray, List.getElem_cons_succ, List.getElem_cons_zero, Act.put, List.setIfInBounds_toArray, List.set_cons_zero, List.set_cons_succ]
          refine wpAnyH_take (i := 13) (v := ?vc13) rfl (by kernel_rfl) (by kernel_rfl) (by kernel_rfl) (fun _ _ _ h => h) (Or.inl ⟨by rfl, ?hc13⟩) (by assumption) ?_
          case hc13 => intro w hSw; (try dsimp only at hSw); go_simp; try with_reducible rfl
          simp only [List.getElem_toArray, List.getElem_cons_succ, List.getElem_cons_zero, Act.put, List.setIfInBounds_toArray, List.set_cons_zero, List.set_cons_succ]
          refine wpAnyH_take (i := 14) (v := ?vc14) rfl (by kernel_rfl) (by kernel_rfl) (by kernel_rfl) (fun _ _ _ h => h) (Or.inl ⟨by rfl, ?hc14⟩) (by assumption) ?_
          case hc14 => intro w hSw; (try dsimp only at hSw); go_simp; try with_reducible rfl
          simp only [List.getElem_toArray, List.getElem_cons_succ, List.getElem_cons_zero, Act.put, List.setIfInBounds_toArray, List.set_cons_zero, List.set_cons_succ]
          refine wpAnyH_take (i := 15) (v := ?vc15) rfl (by kernel_rfl) (by kernel_rfl) (by kernel_rfl) (fun _ _ _ h => h) (Or.inl ⟨by rfl, ?hc15⟩) (by assumption) ?_
          case hc15 => intro w hSw; (try dsimp only at hSw); go_simp; try with_reducible rfl
          simp only [List.getElem_toArray, List.getElem_cons_succ, List.getElem_cons_zero, Act.put, List.setIfInBounds_toArray, List.set_cons_zero, List.set_cons_succ]
          refine wpAnyH_take (i := 16) (v := ?vc16) rfl (by kernel_rfl) (by kernel_rfl) (by kernel_rfl) (fun _ _ _ h => h) (Or.inl ⟨by rfl, ?hc16⟩) (by assumption) ?_
          case hc16 => intro w hSw; (try dsimp only at hSw); go_simp; try with_reducible rfl
          simp only [List.getElem_toArray, List.getElem_cons_succ, List.getElem_cons_zero, Act.put, List.setIfInBounds_toArray, List.set_cons_zero, List.set_cons_succ]
          refine wpAnyH_ready (rs := [17]) (by kernel_rfl) (by simp) ?_
          refine AllReadyH.cons rfl (fun K hK => ?_) AllReadyH.nil
          go_simp
          refine hK.out _ _ ?_ (fun hHeld => ?_)
          · exact ⟨(World.cell?_setCell_other _ _ _ _ (addr_ne hpbg.symm)).trans s0, (World.cell?_setCell_other _ _ _ _ (addr_ne hgr)).trans s1⟩
          clear hK K
          refine wpAnyH_take (i := 18) (v := ?vcc18) rfl (by kernel_rfl) (by kernel_rfl) (by kernel_rfl) (fun _ _ _ h => h) (Or.inl ⟨by rfl, ?hcc18⟩) (by assumption) ?_
          case hcc18 => intro w hSw; (try dsimp only at hSw); go_simp; try with_reducible rfl
          simp only [List.getElem_toArray, List.getElem_cons_succ, List.getElem_cons_zero, Act.put, List.setIfInBounds_toArray, List.set_cons_zero, List.set_cons_succ]
          refine wpAnyH_take (i := 19) (v := ?vcc19) rfl (by kernel_rfl) (by kernel_rfl) (by kernel_rfl) (fun _ _ _ h => h) (Or.inl ⟨by rfl, ?hcc19⟩) (by assumption) ?_
          case hcc19 => intro w hSw; (try dsimp only at hSw); go_simp; try with_reducible rfl
          simp only [List.getElem_toArray, List.getElem_cons_succ, List.getElem_cons_zero, Act.put, List.setIfInBounds_toArray, List.set_cons_zero, List.set_cons_succ]
          refine wpAnyH_ready (rs := [20]) (by kernel_rfl) (by simp) ?_
          refine AllReadyH.cons rfl (fun K hK => ?_) AllReadyH.nil
          go_simp
          refine hK.out _ _ ?_ (fun hHeld => ?_)
          · exact ⟨(World.cell?_setCell_other _ _ _ _ (addr_ne hpbg.symm)).trans ((World.cell?_setCell_other _ _ _ _ (addr_ne hpbg.symm)).trans s0), (World.cell?_setCell_other _ _ _ _ (addr_ne hgr)).trans ((World.cell?_setCell_other _ _ _ _ (addr_ne hgr)).trans s1)⟩
          clear hK K
          refine wpAnyH_done (by kernel_rfl) ?_ _
          refine NoPanic.normal ?_
          clear hHeld
          go_wp2
          go_roundw
          case rel => exact ⟨i + 1, by omega, by go_num, HST0.out, HFR0.out⟩
          case measure => simp [intOf]; omega
    · have hiL : i = s.fs.length := by omega
      subst hiL
      have n2 := HM.out.cell2; have n3 := HM.out.cell3; have nf2 := HM.out.frozen 2; have nf3 := HM.out.frozen 3
      have hpb := HM.out.ne
      go_wp2
      go_end0
      have h9 := HM.out
      rw [seenF_end] at h9
      refine ⟨rfl, ⟨?_, ?_⟩, ?_⟩
      · rw [heap_setCell_same _ pb 3 _ _ _ (heap_setCell_same wr pb 2 _ _ _ h9.cells)]
        rfl
      · exact h9.own.keep fun k hk => by
          have hne : k ≠ pb := fun e => hpb (by rw [← e]; exact hk)
          rw [Below.heap_setCell _ _ _ _ hne, Below.heap_setCell _ _ _ _ hne]
      · exact HF.out.trans' ((Fr.setCell (a := ⟨pb, 2, none⟩) _ (.inl rfl)).trans' (Fr.setCell (a := ⟨pb, 3, none⟩) _ (.inl rfl)))
end Go.Proofs.Ytdaipoelicpnoaa
