/-
  Layer 9 (grid): Clear.
-/
import Derived.Test.YtbpkklcegiiheaaDoorDStep
namespace Go.Proofs.YtbpkklcegiiheaaDoor
open Go.RowKit Go.Lib KM

/-- A style's box. -/
def StyIn (w : World) (b : Nat) (s : Sty) : Prop := w.heap[b]? = some (.cells #[.bool s.bold, .bool s.under, .bool s.turned, .int .i64 s.fore, .int .i64 s.back] 35 (0, 0))
theorem StyIn.cells {w : World} {b : Nat} {s : Sty} (h : StyIn w b s) : w.cell? ⟨b, 0, none⟩ = some (.bool s.bold) ∧ w.cell? ⟨b, 1, none⟩ = some (.bool s.under) ∧ w.cell? ⟨b, 2, none⟩ = some (.bool s.turned) ∧ w.cell? ⟨b, 3, none⟩ = some (.int .i64 s.fore) ∧ w.cell? ⟨b, 4, none⟩ = some (.int .i64 s.back) := by
  unfold StyIn at h
  refine ⟨?_, ?_, ?_, ?_, ?_⟩ <;> simp [World.cell?, h]
theorem StyIn.keep {w w' : World} {b : Nat} {s : Sty} (h : StyIn w b s) (hk : w'.heap[b]? = w.heap[b]?) : StyIn w' b s := hk.trans h
theorem StyIn.lt {w : World} {b : Nat} {s : Sty} (h : StyIn w b s) : b < w.heap.size := (Array.getElem?_eq_some_iff.1 h).1
theorem StyIn.below {w w' : World} {b : Nat} {s : Sty} (h : StyIn w b s) (hb : Below w.heap.size w w') : StyIn w' b s := h.keep (hb.block b h.lt)
theorem StyIn.fresh (w : World) (s : Sty) : StyIn (w.alloc (.cells #[.bool s.bold, .bool s.under, .bool s.turned, .int .i64 s.fore, .int .i64 s.back] 35)) w.heap.size s := heap_alloc_new w _

set_option maxRecDepth 100000 in
set_option maxHeartbeats 2000000 in
theorem clear_ok (w : World) (hT : Tabs w) {p : Nat} {F : List Nat} {g : Gr} (h : GridAt w F p g) (hok : g.Ok) (y a b : Int) (s : Sty) :
    Calls Tryd.prog 38 #[.pointer (some ⟨p, 0, none⟩), .int .i64 y, .int .i64 a, .int .i64 b, styV s] w fun e w' => e = .returned (.tuple #[]) ∧ GPost w F p (gclear g y a b s) w' := by
  obtain ⟨hb, hc, L, hG, rfl⟩ := h
  obtain ⟨w1, hw1⟩ : ∃ w1, w1 = w.alloc (.cells #[.bool s.bold, .bool s.under, .bool s.turned, .int .i64 s.fore, .int .i64 s.back] 35) := ⟨_, rfl⟩
  have hb1 : Below w.heap.size w w1 := by rw [hw1]; exact (Below.refl _ _).alloc (Nat.le_refl _) _
  have hz1 : w1.heap.size = w.heap.size + 1 := by rw [hw1]; simp
  have hs1 : StyIn w1 w.heap.size s := by rw [hw1]; exact StyIn.fresh w s
  obtain ⟨w2, hw2⟩ : ∃ w2, w2 = w1.drew := ⟨_, rfl⟩
  have hd2 : Below w1.heap.size w1 w2 := by rw [hw2]; exact (Below.refl _ _).drew
  have hb2 := below_next hb1 hd2
  have hG2 := hG.below hb2
  have HT2 := Lib.hid (hT.on hb2 hT.room)
  have HG := Lib.hid hG
  have HG2 := Lib.hid hG2
  have HB2 := Lib.hid hb2
  have HS2 := Lib.hid (hs1.below hd2)
  have W1 := Lib.hid hw1
  have W2 := Lib.hid hw2
  have HOK := Lib.hid hok
  have g0 : w1.cell? ⟨p, 0, none⟩ = some (.int .i64 (g.w : Int)) := (hG.below hb1).cell0
  have t0 : w2.cell? ⟨p, 0, none⟩ = some (.int .i64 (g.w : Int)) := hG2.cell0
  obtain ⟨sb, su, st, sf, sk⟩ := s
  simp only [styV] at *
  clear hw1 hb1 hG hG2 hT hok hw2 hd2 hb2 hs1
  have HTHE := Lib.hid (there_ok w2 HG2.out 0 y)
  obtain ⟨ma, hma⟩ : ∃ m, m = max a 0 := ⟨_, rfl⟩
  obtain ⟨mb, hmb⟩ : ∃ m, m = min b (g.w : Int) := ⟨_, rfl⟩
  have hgc : gclear g y a b ⟨sb, su, st, sf, sk⟩ = if g.there 0 y = true ∧ ma < mb then g.setL y.toNat (mend (clearC (g.line y.toNat) ma.toNat mb.toNat ⟨sb, su, st, sf, sk⟩)) else g := by rw [hma, hmb]; rfl
  rw [hgc]
  clear hgc
  have HMA := Lib.hid hma
  have HMB := Lib.hid hmb
  clear hma hmb
  rcases hth : g.there 0 y with _ | _
  · rw [hth] at HTHE
    rw [if_neg (by simp)]
    clear hth
    go_enter Tryd.func38, Tryd.ntmps38
    go_wp2_with fail
    rw [← W1.out]
    refine wp_region_noPanic ?_
    refine wp_region_held_drew (S := fun w' => w'.cell? ⟨p, 0, none⟩ = some (.int .i64 (g.w : Int))) (by kernel_rfl) (by rw [← W2.out]; exact t0) (fun hHeld => ?_)
    refine wpAnyH_take (i := 0) (v := ?va10) rfl (by kernel_rfl) (by kernel_rfl) (by kernel_rfl) (fun _ _ _ h => h) (Or.inl ⟨by rfl, ?ha10⟩) (by assumption) ?_
    case ha10 => intro w hSw; (try dsimp only at hSw); go_simp; try with_reducible rfl
    simp only [List.getElem_toArray, List.getElem_cons_zero, Act.put, List.setIfInBounds_toArray, List.set_cons_zero, List.set_cons_succ]
    refine wpAnyH_take (i := 1) (v := ?va11) rfl (by kernel_rfl) (by kernel_rfl) (by kernel_rfl) (fun _ _ _ h => h) (Or.inl ⟨by rfl, ?ha11⟩) (by assumption) ?_
    case ha11 => intro w hSw; (try dsimp only at hSw); go_simp; try with_reducible rfl
    simp only [List.getElem_toArray, List.getElem_cons_succ, List.getElem_cons_zero, Act.put, List.setIfInBounds_toArray, List.set_cons_zero, List.set_cons_succ]
    refine wpAnyH_take (i := 2) (v := ?va12) rfl (by kernel_rfl) (by kernel_rfl) (by kernel_rfl) (fun _ _ _ h => h) (Or.inl ⟨by rfl, ?ha12⟩) (by assumption) ?_
    case ha12 => intro w hSw; (try dsimp only at hSw); go_simp; try with_reducible rfl
    simp only [List.getElem_toArray, List.getElem_cons_succ, List.getElem_cons_zero, Act.put, List.setIfInBounds_toArray, List.set_cons_zero, List.set_cons_succ]
    refine wpAnyH_take (i := 3) (v := ?va13) rfl (by kernel_rfl) (by kernel_rfl) (by kernel_rfl) (fun _ _ _ h => h) (Or.inl ⟨by rfl, ?ha13⟩) (by assumption) ?_
    case ha13 => intro w hSw; (try dsimp only at hSw); go_simp; try with_reducible rfl
    simp only [List.getElem_toArray, List.getElem_cons_succ, List.getElem_cons_zero, Act.put, List.setIfInBounds_toArray, List.set_cons_zero, List.set_cons_succ]
    refine wpAnyH_take (i := 4) (v := ?va14) rfl (by kernel_rfl) (by kernel_rfl) (by kernel_rfl) (fun _ _ _ h => h) (Or.inl ⟨by rfl, ?ha14⟩) (by assumption) ?_
    case ha14 => intro w hSw; (try dsimp only at hSw); go_simp; try with_reducible rfl
    simp only [List.getElem_toArray, List.getElem_cons_succ, List.getElem_cons_zero, Act.put, List.setIfInBounds_toArray, List.set_cons_zero, List.set_cons_succ]
    refine wpAnyH_take (i := 5) (v := ?va15) rfl (by kernel_rfl) (by kernel_rfl) (by kernel_rfl) (fun _ _ _ h => h) (Or.inl ⟨by rfl, ?ha15⟩) (by assumption) ?_
    case ha15 => intro w hSw; (try dsimp only at hSw); go_simp; try with_reducible rfl
    simp only [List.getElem_toArray, List.getElem_cons_succ, List.getElem_cons_zero, Act.put, List.setIfInBounds_toArray, List.set_cons_zero, List.set_cons_succ]
    refine wpAnyH_take (i := 6) (v := ?va16) rfl (by kernel_rfl) (by kernel_rfl) (by kernel_rfl) (fun _ _ _ h => h) (Or.inl ⟨by rfl, ?ha16⟩) (by assumption) ?_
    case ha16 => intro w hSw; (try dsimp only at hSw); go_simp; try with_reducible rfl
    simp only [List.getElem_toArray, List.getElem_cons_succ, List.getElem_cons_zero, Act.put, List.setIfInBounds_toArray, List.set_cons_zero, List.set_cons_succ]
    refine wpAnyH_take (i := 7) (v := ?va17) rfl (by kernel_rfl) (by kernel_rfl) (by kernel_rfl) (fun _ _ _ h => h) (Or.inl ⟨by rfl, ?ha17⟩) (by assumption) ?_
    case ha17 => intro w hSw; (try dsimp only at hSw); go_simp; try with_reducible rfl
    simp only [List.getElem_toArray, List.getElem_cons_succ, List.getElem_cons_zero, Act.put, List.setIfInBounds_toArray, List.set_cons_zero, List.set_cons_succ]
    refine wpAnyH_take (i := 8) (v := ?vb18) rfl (by kernel_rfl) (by kernel_rfl) (by kernel_rfl) (fun _ _ _ h => h) (Or.inl ⟨by rfl, ?hb18⟩) (by assumption) ?_
    case hb18 => intro w hSw; (try dsimp only at hSw); go_simp; try with_reducible rfl
    simp only [List.getElem_toArray, List.getElem_cons_succ, List.getElem_cons_zero, Act.put, List.setIfInBounds_toArray, List.set_cons_zero, List.set_cons_succ]
    refine wpAnyH_take (i := 9) (v := ?vb19) rfl (by kernel_rfl) (by kernel_rfl) (by kernel_rfl) (fun _ _ _ h => h) (Or.inl ⟨by rfl, ?hb19⟩) (by assumption) ?_
    case hb19 => intro w hSw; (try dsimp only at hSw); go_simp; try with_reducible rfl
    simp only [List.getElem_toArray, List.getElem_cons_succ, List.getElem_cons_zero, Act.put, List.setIfInBounds_toArray, List.set_cons_zero, List.set_cons_succ]
    refine wpAnyH_done (by kernel_rfl) ?_ _
    refine NoPanic.normal ?_
    clear hHeld
    rw [← W2.out, ← HMA.out, ← HMB.out]
    go_wp2_with fail
    refine HTHE.out.mono ?_
    rintro e w3 ⟨rfl, rfl⟩
    go_wp2_with fail
    (try simp only [Exit.inBlock, Exit.then]); refine bodyPost_ret (results_none rfl _ _ _) rfl ?_
    exact ⟨rfl, GPost.of_below ⟨_, _, _, HG.out, rfl⟩ HB2.out⟩
  by_cases hlt : ma < mb
  · rw [hth] at HTHE
    rw [if_pos ⟨rfl, hlt⟩]
    have hy := ((g.there_iff 0 y).1 hth).2
    obtain ⟨Y, rfl⟩ := Int.eq_ofNat_of_zero_le hy.1
    obtain ⟨A, rfl⟩ := Int.eq_ofNat_of_zero_le (show 0 ≤ ma by have := HMA.out; omega)
    obtain ⟨B, rfl⟩ := Int.eq_ofNat_of_zero_le (show 0 ≤ mb by omega)
    simp only [Int.toNat_natCast]
    have hAB : A < B := by omega
    have hBW : B ≤ g.w := by have := HMB.out; omega
    have hYh : Y < g.h := by omega
    have hle : decide ((B : Int) ≤ (A : Int)) = false := decide_eq_false (by omega)
    have hle' : decide (B ≤ A) = false := decide_eq_false (by omega)
    clear hth hlt hy
    have hG3 := HG2.out
    have hLl : L.length = g.h := hG3.len.trans HOK.out.len
    have hYL : Y < L.length := by omega
    have hlo := HOK.out.line hYh
    have hll : (g.line Y).length = g.w := hlo.len
    have d2 := hG3.cell2
    have dh := hG3.hcell' hYL
    rw [hll] at dh
    have hcc : g.w ≤ L[Y].c := by
      have := (hG3.row' hYL).block rfl
      obtain ⟨_, _, _, h, _⟩ := this
      omega
    have H0 := Lib.hid (hG3.pos HT2.out HOK.out)
    obtain ⟨n, hn⟩ : ∃ n, n = B - A := ⟨_, rfl⟩
    have hsub : (B : Int) - (A : Int) = (n : Int) := by omega
    have hwn : IntKind.i64.wrap (n : Int) = (n : Int) := by rw [IntKind.wrap_i64]; have := HOK.out.w2; omega
    obtain ⟨lz, hlz⟩ : ∃ l, l = clearC (g.line Y) A B ⟨sb, su, st, sf, sk⟩ := ⟨_, rfl⟩
    rw [← hlz]
    have hlzl : lz.length = g.w := by rw [hlz, clearC_len _ _ _ _ (by omega) (by omega), hll]
    have hlzt : (g.line Y).take A ++ (KM.blanks n ⟨sb, su, st, sf, sk⟩).take n ++ (g.line Y).drop (A + n) = lz := by
      rw [hlz]
      unfold clearC
      rw [List.take_of_length_le (l := KM.blanks n ⟨sb, su, st, sf, sk⟩) (by rw [blanks_len]; omega), hn, show A + (B - A) = B by omega]
    have HLZ := Lib.hid hlzl
    have HLT := Lib.hid hlzt
    have HYL := Lib.hid hYL
    have HN := Lib.hid hn
    have HLL := Lib.hid hll
    have HFO := Lib.hid (foot_same (p := p) (hb := hb) hYL L[Y].c lz)
    have HCOPY := Lib.hid (fun (v : World) (hv : GridB v p hb hc L g) (g1 c1 : Nat) (hr : celE.Row v v.heap.size (some ⟨g1, 0, none⟩) (KM.blanks n ⟨sb, su, st, sf, sk⟩)) => hv.copy hYL 3 (some ⟨L[Y].b, A * 6, none⟩) (B - A) (L[Y].c - A) (some ⟨g1, 0, none⟩) (KM.blanks n ⟨sb, su, st, sf, sk⟩) n c1 v.heap.size A n hr (blanks_len _ _).symm (by rw [blanks_len]; omega) (fun _ => rfl) (by omega))
    rw [hlzt] at HCOPY
    clear hG3 hLl hlo hll hlz hlzl hlzt hn
    generalize hb0 : L[Y].b = b0 at *
    generalize hcc0 : L[Y].c = cc at *
    clear hb0 hcc0
    have hmid : ∀ V, (Instr.slice 23 (.slice (some ⟨b0, 0, none⟩) g.w cc) (some (.int .i64 (A : Int))) (some (.int .i64 (B : Int))) none).run Tryd.prog V = .ok (.slice (some ⟨b0, A * 6, none⟩) (B - A) (cc - A)) V := fun V => by
      rw [midC _ _ _ _ _ V (by omega) (by omega), celE.cutA_some _ _ _ _ (by omega), Nat.zero_add]; rfl
    have HBK := Lib.hid (fun v => blanks_ok v n (by have := HN.out; have := HOK.out.w2; omega) ⟨sb, su, st, sf, sk⟩)
    simp only [styV] at HBK
    obtain ⟨w4, hw4⟩ : ∃ w4, w4 = w2.drew := ⟨_, rfl⟩
    have hd4 : Below w2.heap.size w2 w4 := by rw [hw4]; exact (Below.refl _ _).drew
    have hG4 := HG2.out.below hd4
    have hS4 := HS2.out.below (hd4.mono (Nat.le_refl _))
    have hS4c := hS4.cells
    simp only at hS4c
    have W4 := Lib.hid hw4
    have HG4 := Lib.hid hG4
    have HB4 := Lib.hid (below_next HB2.out hd4)
    have HS4 := Lib.hid hS4
    have HT4 := Lib.hid (HT2.out.on hd4 HT2.out.room)
    clear hw4 hd4 hG4 hS4
    go_enter Tryd.func38, Tryd.ntmps38
    go_wp2_with fail
    rw [← W1.out]
    refine wp_region_noPanic ?_
    refine wp_region_held_drew (S := fun w' => w'.cell? ⟨p, 0, none⟩ = some (.int .i64 (g.w : Int))) (by kernel_rfl) (by rw [← W2.out]; exact t0) (fun hHeld => ?_)
    refine wpAnyH_take (i := 0) (v := ?va20) rfl (by kernel_rfl) (by kernel_rfl) (by kernel_rfl) (fun _ _ _ h => h) (Or.inl ⟨by rfl, ?ha20⟩) (by assumption) ?_
    case ha20 => intro w hSw; (try dsimp only at hSw); go_simp; try with_reducible rfl
    simp only [List.getElem_toArray, List.getElem_cons_zero, Act.put, List.setIfInBounds_toArray, List.set_cons_zero, List.set_cons_succ]
    refine wpAnyH_take (i := 1) (v := ?va21) rfl (by kernel_rfl) (by kernel_rfl) (by kernel_rfl) (fun _ _ _ h => h) (Or.inl ⟨by rfl, ?ha21⟩) (by assumption) ?_
    case ha21 => intro w hSw; (try dsimp only at hSw); go_simp; try with_reducible rfl
    simp only [List.getElem_toArray, List.getElem_cons_succ, List.getElem_cons_zero, Act.put, List.setIfInBounds_toArray, List.set_cons_zero, List.set_cons_succ]
    refine wpAnyH_take (i := 2) (v := ?va22) rfl (by kernel_rfl) (by kernel_rfl) (by kernel_rfl) (fun _ _ _ h => h) (Or.inl ⟨by rfl, ?ha22⟩) (by assumption) ?_
    case ha22 => intro w hSw; (try dsimp only at hSw); go_simp; try with_reducible rfl
    simp only [List.getElem_toArray, List.getElem_cons_succ, List.getElem_cons_zero, Act.put, List.setIfInBounds_toArray, List.set_cons_zero, List.set_cons_succ]
    refine wpAnyH_take (i := 3) (v := ?va23) rfl (by kernel_rfl) (by kernel_rfl) (by kernel_rfl) (fun _ _ _ h => h) (Or.inl ⟨by rfl, ?ha23⟩) (by assumption) ?_
    case ha23 => intro w hSw; (try dsimp only at hSw); go_simp; try with_reducible rfl
    simp only [List.getElem_toArray, List.getElem_cons_succ, List.getElem_cons_zero, Act.put, List.setIfInBounds_toArray, List.set_cons_zero, List.set_cons_succ]
    refine wpAnyH_take (i := 4) (v := ?va24) rfl (by kernel_rfl) (by kernel_rfl) (by kernel_rfl) (fun _ _ _ h => h) (Or.inl ⟨by rfl, ?ha24⟩) (by assumption) ?_
    case ha24 => intro w hSw; (try dsimp only at hSw); go_simp; try with_reducible rfl
    simp only [List.getElem_toArray, List.getElem_cons_succ, List.getElem_cons_zero, Act.put, List.setIfInBounds_toArray, List.set_cons_zero, List.set_cons_succ]
    refine wpAnyH_take (i := 5) (v := ?va25) rfl (by kernel_rfl) (by kernel_rfl) (by kernel_rfl) (fun _ _ _ h => h) (Or.inl ⟨by rfl, ?ha25⟩) (by assumption) ?_
    case ha25 => intro w hSw; (try dsimp only at hSw); go_simp; try with_reducible rfl
    simp only [List.getElem_toArray, List.getElem_cons_succ, List.getElem_cons_zero, Act.put, List.setIfInBounds_toArray, List.set_cons_zero, List.set_cons_succ]
    refine wpAnyH_take (i := 6) (v := ?va26) rfl (by kernel_rfl) (by kernel_rfl) (by kernel_rfl) (fun _ _ _ h => h) (Or.inl ⟨by rfl, ?ha26⟩) (by assumption) ?_
    case ha26 => intro w hSw; (try dsimp only at hSw); go_simp; try with_reducible rfl
    simp only [List.getElem_toArray, List.getElem_cons_succ, List.getElem_cons_zero, Act.put, List.setIfInBounds_toArray, List.set_cons_zero, List.set_cons_succ]
    refine wpAnyH_take (i := 7) (v := ?va27) rfl (by kernel_rfl) (by kernel_rfl) (by kernel_rfl) (fun _ _ _ h => h) (Or.inl ⟨by rfl, ?ha27⟩) (by assumption) ?_
    case ha27 => intro w hSw; (try dsimp only at hSw); go_simp; try with_reducible rfl
    simp only [List.getElem_toArray, List.getElem_cons_succ, List.getElem_cons_zero, Act.put, List.setIfInBounds_toArray, List.set_cons_zero, List.set_cons_succ]
    refine wpAnyH_take (i := 8) (v := ?vb28) rfl (by kernel_rfl) (by kernel_rfl) (by kernel_rfl) (fun _ _ _ h => h) (Or.inl ⟨by rfl, ?hb28⟩) (by assumption) ?_
    case hb28 => intro w hSw; (try dsimp only at hSw); go_simp; try with_reducible rfl
    simp only [List.getElem_toArray, List.getElem_cons_succ, List.getElem_cons_zero, Act.put, List.setIfInBounds_toArray, List.set_cons_zero, List.set_cons_succ]
    refine wpAnyH_take (i := 9) (v := ?vb29) rfl (by kernel_rfl) (by kernel_rfl) (by kernel_rfl) (fun _ _ _ h => h) (Or.inl ⟨by rfl, ?hb29⟩) (by assumption) ?_
    case hb29 => intro w hSw; (try dsimp only at hSw); go_simp; try with_reducible rfl
    simp only [List.getElem_toArray, List.getElem_cons_succ, List.getElem_cons_zero, Act.put, List.setIfInBounds_toArray, List.set_cons_zero, List.set_cons_succ]
    refine wpAnyH_done (by kernel_rfl) ?_ _
    refine NoPanic.normal ?_
    clear hHeld
    rw [← W2.out, ← HMA.out, ← HMB.out]
    go_wp2_with fail
    refine HTHE.out.mono ?_
    rintro e w3 ⟨rfl, hw3⟩
    rw [hw3]
    clear hw3 w3
    go_wp2_with fail
    refine wp_region_noPanic ?_
    refine wp_region_held_drew (S := fun w' => w'.cell? ⟨w.heap.size, 0, none⟩ = some (.bool sb) ∧ w'.cell? ⟨w.heap.size, 1, none⟩ = some (.bool su) ∧ w'.cell? ⟨w.heap.size, 2, none⟩ = some (.bool st) ∧ w'.cell? ⟨w.heap.size, 3, none⟩ = some (.int .i64 sf) ∧ w'.cell? ⟨w.heap.size, 4, none⟩ = some (.int .i64 sk)) (by kernel_rfl) (by rw [← W4.out]; exact hS4c) (fun hHeld => ?_)
    rw [← W4.out]
    refine wpAnyH_take (i := 0) (v := ?vc0) rfl (by kernel_rfl) (by kernel_rfl) (by kernel_rfl) (fun _ _ _ h => h) (Or.inl ⟨by rfl, ?hc0⟩) (by assumption) ?_
    case hc0 => intro w hSw; (try dsimp only at hSw); go_simp; try with_reducible rfl
    simp only [List.getElem_toArray, List.getElem_cons_zero, Act.put, List.setIfInBounds_toArray, List.set_cons_zero, List.set_cons_succ]
    refine wpAnyH_take (i := 1) (v := ?vc1) rfl (by kernel_rfl) (by kernel_rfl) (by kernel_rfl) (fun _ _ _ h => h) (Or.inl ⟨by rfl, ?hc1⟩) (by assumption) ?_
    case hc1 => intro w hSw; (try dsimp only at hSw); go_simp; try with_reducible rfl
    simp only [List.getElem_toArray, List.getElem_cons_succ, List.getElem_cons_zero, Act.put, List.setIfInBounds_toArray, List.set_cons_zero, List.set_cons_succ]
    refine wpAnyH_take (i := 2) (v := ?vc2) rfl (by kernel_rfl) (by kernel_rfl) (by kernel_rfl) (fun _ _ _ h => h) (Or.inl ⟨by rfl, ?hc2⟩) (by assumption) ?_
    case hc2 => intro w hSw; (try dsimp only at hSw); go_simp; try with_reducible rfl
    simp only [List.getElem_toArray, List.getElem_cons_succ, List.getElem_cons_zero, Act.put, List.setIfInBounds_toArray, List.set_cons_zero, List.set_cons_succ]
    refine wpAnyH_take (i := 3) (v := ?vc3) rfl (by kernel_rfl) (by kernel_rfl) (by kernel_rfl) (fun _ _ _ h => h) (Or.inl ⟨by rfl, ?hc3⟩) (by assumption) ?_
    case hc3 => intro w hSw; (try dsimp only at hSw); go_simp; try with_reducible rfl
    simp only [List.getElem_toArray, List.getElem_cons_succ, List.getElem_cons_zero, Act.put, List.setIfInBounds_toArray, List.set_cons_zero, List.set_cons_succ]
    refine wpAnyH_take (i := 4) (v := ?vc4) rfl (by kernel_rfl) (by kernel_rfl) (by kernel_rfl) (fun _ _ _ h => h) (Or.inl ⟨by rfl, ?hc4⟩) (by assumption) ?_
    case hc4 => intro w hSw; (try dsimp only at hSw); go_simp; try with_reducible rfl
    simp only [List.getElem_toArray, List.getElem_cons_succ, List.getElem_cons_zero, Act.put, List.setIfInBounds_toArray, List.set_cons_zero, List.set_cons_succ]
    refine wpAnyH_take (i := 5) (v := ?vc5) rfl (by kernel_rfl) (by kernel_rfl) (by kernel_rfl) (fun _ _ _ h => h) (Or.inl ⟨by rfl, ?hc5⟩) (by assumption) ?_
    case hc5 => intro w hSw; (try dsimp only at hSw); go_simp; try with_reducible rfl
    simp only [List.getElem_toArray, List.getElem_cons_succ, List.getElem_cons_zero, Act.put, List.setIfInBounds_toArray, List.set_cons_zero, List.set_cons_succ]
    refine wpAnyH_take (i := 6) (v := ?vc6) rfl (by kernel_rfl) (by kernel_rfl) (by kernel_rfl) (fun _ _ _ h => h) (Or.inl ⟨by rfl, ?hc6⟩) (by assumption) ?_
    case hc6 => intro w hSw; (try dsimp only at hSw); go_simp; try with_reducible rfl
    simp only [List.getElem_toArray, List.getElem_cons_succ, List.getElem_cons_zero, Act.put, List.setIfInBounds_toArray, List.set_cons_zero, List.set_cons_succ]
    refine wpAnyH_take (i := 7) (v := ?vc7) rfl (by kernel_rfl) (by kernel_rfl) (by kernel_rfl) (fun _ _ _ h => h) (Or.inl ⟨by rfl, ?hc7⟩) (by assumption) ?_
    case hc7 => intro w hSw; (try dsimp only at hSw); go_simp; try with_reducible rfl
    simp only [List.getElem_toArray, List.getElem_cons_succ, List.getElem_cons_zero, Act.put, List.setIfInBounds_toArray, List.set_cons_zero, List.set_cons_succ]
    refine wpAnyH_ready (rs := [8]) (by kernel_rfl) (by simp) ?_
    refine AllReadyH.cons rfl (fun K hK => ?_) AllReadyH.nil
    go_simp
    refine (HBK.out w4).mono ?_
    rintro e w5 ⟨v5, rfl, ho5, hb5⟩
    obtain ⟨g1, c1, hv5, -, -, -, -, -, -⟩ := ho5.place (by rw [blanks_len]; have := HN.out; omega)
    rw [blanks_len] at hv5
    have hS5 := HS4.out.below hb5
    have hS5c := hS5.cells
    simp only at hS5c
    have hG5 := HG4.out.below hb5
    rw [hv5] at ho5
    obtain ⟨w6, hrun, hG6, hf6, hz6⟩ := HCOPY.out w5 hG5 g1 c1 (El.Row.of_own (c := c1) (by rw [blanks_len]; exact ho5))
    have HGZ := Lib.hid hG6
    have hF5 := (Fr.of_below (S := (· ∈ foot p hb L)) (below_next HB4.out hb5))
    have HFZ := Lib.hid (hF5.trans' hf6)
    have hT5 := HT4.out.on hb5 HT4.out.room
    have HTZ := Lib.hid (hT5.of_block (hf6.block 0 hT5.room H0.out) hf6.size)
    have HFT := Lib.hid HFO.out
    have hS6 := hS5.keep (hf6.block _ hS5.lt (fun hm => by have := HG.out.lt _ hm; omega))
    have hS6c := hS6.cells
    simp only at hS6c
    rw [hv5]
    clear ho5 hv5 hb5 hG5 hG6 hf6 hF5 hT5 hS5 hS6
    dsimp only
    refine hK.out _ _ ?_ (fun hHeld => ?_)
    · exact hS5c
    clear hK K
    refine wpAnyH_ready (rs := [9]) (by kernel_rfl) (by simp) ?_
    refine AllReadyH.cons rfl (fun K hK => ?_) AllReadyH.nil
    go_simp
    refine hK.out _ _ ?_ (fun hHeld => ?_)
    · exact hS6c
    clear hK K
    refine wpAnyH_done (by kernel_rfl) ?_ _
    refine NoPanic.normal ?_
    clear hHeld
    clear hS4c hS5c hS6c d2 dh hrun
    -- the line mended and laid: at world w6, line lz
    have HM := Lib.hid (fun (v : World) (hv : Tabs v) (hr : celE.Row v v.heap.size (some ⟨b0, 0, none⟩) lz) => mend_ok v hv lz (some ⟨b0, 0, none⟩) cc v.heap.size hr (by simp) (Nat.le_refl _) (by have := HLZ.out; have := HOK.out.w2; omega))
    rw [HLZ.out] at HM
    have hdr : Below w6.heap.size w6 w6.drew := (Below.refl _ w6).drew
    have hGd := HGZ.out.below hdr
    have hYz : Y < (L.set Y ⟨b0, cc, lz⟩).length := by rw [List.length_set]; exact HYL.out
    have e2 := hGd.cell2
    have eh := hGd.hcell' hYz
    rw [List.length_set] at e2
    have ef := hGd.hfrozen Y
    have hrr := hGd.rowR hYz
    have hlz : (g.setL Y lz).line Y = lz := Gr.line_setL g Y lz (by rw [← HG.out.len]; exact HYL.out)
    rw [hlz] at hrr eh
    simp only [List.getElem_set_self] at hrr eh
    have HRR := Lib.hid hrr
    have HTD := Lib.hid (HTZ.out.on hdr HTZ.out.room)
    have hpl : p < w6.drew.heap.size := hGd.lt p (by simp [foot])
    have hhl : hb < w6.drew.heap.size := hGd.lt hb (by simp [foot])
    have hphb : p ≠ hb := hGd.ne_hb
    have hYi : (Y : Int) < (L.length : Int) := by have := HYL.out; omega
    clear hdr hGd hrr hYz hlz
    go_wp2_with fail
    refine wp_region_noPanic ?_
    refine wp_region_held_drew (S := fun w' => w'.cell? ⟨p, 2, none⟩ = some (.slice (some ⟨hb, 0, none⟩) L.length hc)) (by kernel_rfl) e2 (fun hHeld => ?_)
    refine wpAnyH_take (i := 0) (v := ?vda0) rfl (by kernel_rfl) (by kernel_rfl) (by kernel_rfl) (fun _ _ _ h => h) (Or.inl ⟨by rfl, ?hda0⟩) (by assumption) ?_
    case hda0 => intro w hSw; (try dsimp only at hSw); go_simp; try with_reducible rfl
    simp only [List.getElem_toArray, List.getElem_cons_zero, Act.put, List.setIfInBounds_toArray, List.set_cons_zero, List.set_cons_succ]
    refine wpAnyH_take (i := 1) (v := ?vda1) rfl (by kernel_rfl) (by kernel_rfl) (by kernel_rfl) (fun _ _ _ h => h) (Or.inl ⟨by rfl, ?hda1⟩) (by assumption) ?_
    case hda1 => intro w hSw; (try dsimp only at hSw); go_simp; try with_reducible rfl
    simp only [List.getElem_toArray, List.getElem_cons_succ, List.getElem_cons_zero, Act.put, List.setIfInBounds_toArray, List.set_cons_zero, List.set_cons_succ]
    refine wpAnyH_take (i := 2) (v := ?vda2) rfl (by kernel_rfl) (by kernel_rfl) (by kernel_rfl) (fun _ _ _ h => h) (Or.inl ⟨by rfl, ?hda2⟩) (by assumption) ?_
    case hda2 => intro w hSw; (try dsimp only at hSw); go_simp; try with_reducible rfl
    simp only [List.getElem_toArray, List.getElem_cons_succ, List.getElem_cons_zero, Act.put, List.setIfInBounds_toArray, List.set_cons_zero, List.set_cons_succ]
    refine wpAnyH_take (i := 3) (v := ?vda3) rfl (by kernel_rfl) (by kernel_rfl) (by kernel_rfl) (fun _ _ _ h => h) (Or.inl ⟨by rfl, ?hda3⟩) (by assumption) ?_
    case hda3 => intro w hSw; (try dsimp only at hSw); go_simp; try with_reducible rfl
    simp only [List.getElem_toArray, List.getElem_cons_succ, List.getElem_cons_zero, Act.put, List.setIfInBounds_toArray, List.set_cons_zero, List.set_cons_succ]
    refine wpAnyH_take (i := 4) (v := ?vda4) rfl (by kernel_rfl) (by kernel_rfl) (by kernel_rfl) (fun _ _ _ h => h) (Or.inl ⟨by rfl, ?hda4⟩) (by assumption) ?_
    case hda4 => intro w hSw; (try dsimp only at hSw); go_simp; try with_reducible rfl
    simp only [List.getElem_toArray, List.getElem_cons_succ, List.getElem_cons_zero, Act.put, List.setIfInBounds_toArray, List.set_cons_zero, List.set_cons_succ]
    refine wpAnyH_take (i := 5) (v := ?vda5) rfl (by kernel_rfl) (by kernel_rfl) (by kernel_rfl) (fun _ _ _ h => h) (Or.inl ⟨by rfl, ?hda5⟩) (by assumption) ?_
    case hda5 => intro w hSw; (try dsimp only at hSw); go_simp; try with_reducible rfl
    simp only [List.getElem_toArray, List.getElem_cons_succ, List.getElem_cons_zero, Act.put, List.setIfInBounds_toArray, List.set_cons_zero, List.set_cons_succ]
    refine wpAnyH_ready (rs := [6]) (by kernel_rfl) (by simp) ?_
    refine AllReadyH.cons rfl (fun K hK => ?_) AllReadyH.nil
    go_simp
    refine (HM.out _ HTD.out HRR.out).mono ?_
    rintro e w7 ⟨v7, rfl, ho7, hb7⟩
    obtain ⟨gx, cx, hv7, -, -, -, -, -, -⟩ := ho7.place (by rw [mend_len]; have := HLZ.out; omega)
    obtain ⟨x, hxd⟩ : ∃ x : Ln, x = ⟨gx, cx, mend lz⟩ := ⟨_, rfl⟩
    have hvs : v7 = x.s.v := by rw [hv7, hxd]; rfl
    have hxl : x.l = mend lz := by rw [hxd]
    rw [hvs, ← hxl] at ho7
    have hfin := GPost.finish (w := w) (L := L) HFZ.out HGZ.out HFT.out (by rw [List.length_set]; exact HYL.out) x (ho7.mono (show w6.heap.size ≤ w6.drew.heap.size from Nat.le_refl _)) (((Below.refl w6.heap.size w6).drew).trans hb7)
    rw [hxl, ← hvs, hv7] at hfin
    have HFIN := Lib.hid hfin
    have s7 : w7.cell? ⟨p, 2, none⟩ = some (.slice (some ⟨hb, 0, none⟩) L.length hc) := (hb7.cell (p := ⟨p, 2, none⟩) hpl).trans e2
    have u7 := (hb7.cell (p := ⟨hb, Y, none⟩) hhl).trans eh
    have f7 := (hb7.frozen (p := ⟨hb, Y, none⟩) hhl).trans ef
    rw [hv7]
    clear hfin hv7 hvs hxl hxd ho7 hb7
    generalize (mend lz).length = m at *
    dsimp only
    refine hK.out _ _ ?_ (fun hHeld => ?_)
    · exact s7
    clear hK K
    refine wpAnyH_take (i := 7) (v := ?vdb7) rfl (by kernel_rfl) (by kernel_rfl) (by kernel_rfl) (fun _ _ _ h => h) (Or.inl ⟨by rfl, ?hdb7⟩) (by assumption) ?_
    case hdb7 => intro w hSw; (try dsimp only at hSw); go_simp; try with_reducible rfl
    simp only [List.getElem_toArray, List.getElem_cons_succ, List.getElem_cons_zero, Act.put, List.setIfInBounds_toArray, List.set_cons_zero, List.set_cons_succ]
    refine wpAnyH_ready (rs := [8]) (by kernel_rfl) (by simp) ?_
    refine AllReadyH.cons rfl (fun K hK => ?_) AllReadyH.nil
    go_simp
    refine hK.out _ _ ?_ (fun hHeld => ?_)
    · exact (World.cell?_setCell_other _ _ _ _ (fun e => hphb.symm (by simpa using congrArg Addr.block e))).trans s7
    clear hK K
    refine wpAnyH_done (by kernel_rfl) ?_ _
    refine NoPanic.normal ?_
    clear hHeld
    go_wp2
    go_end0
    exact ⟨rfl, HFIN.out⟩
  · rw [hth] at HTHE
    rw [if_neg (fun h => hlt h.2)]
    have hle : decide (mb ≤ ma) = true := decide_eq_true (by omega)
    clear hth hlt
    go_enter Tryd.func38, Tryd.ntmps38
    go_wp2_with fail
    rw [← W1.out]
    refine wp_region_noPanic ?_
    refine wp_region_held_drew (S := fun w' => w'.cell? ⟨p, 0, none⟩ = some (.int .i64 (g.w : Int))) (by kernel_rfl) (by rw [← W2.out]; exact t0) (fun hHeld => ?_)
    refine wpAnyH_take (i := 0) (v := ?va30) rfl (by kernel_rfl) (by kernel_rfl) (by kernel_rfl) (fun _ _ _ h => h) (Or.inl ⟨by rfl, ?ha30⟩) (by assumption) ?_
    case ha30 => intro w hSw; (try dsimp only at hSw); go_simp; try with_reducible rfl
    simp only [List.getElem_toArray, List.getElem_cons_zero, Act.put, List.setIfInBounds_toArray, List.set_cons_zero, List.set_cons_succ]
    refine wpAnyH_take (i := 1) (v := ?va31) rfl (by kernel_rfl) (by kernel_rfl) (by kernel_rfl) (fun _ _ _ h => h) (Or.inl ⟨by rfl, ?ha31⟩) (by assumption) ?_
    case ha31 => intro w hSw; (try dsimp only at hSw); go_simp; try with_reducible rfl
    simp only [List.getElem_toArray, List.getElem_cons_succ, List.getElem_cons_zero, Act.put, List.setIfInBounds_toArray, List.set_cons_zero, List.set_cons_succ]
    refine wpAnyH_take (i := 2) (v := ?va32) rfl (by kernel_rfl) (by kernel_rfl) (by kernel_rfl) (fun _ _ _ h => h) (Or.inl ⟨by rfl, ?ha32⟩) (by assumption) ?_
    case ha32 => intro w hSw; (try dsimp only at hSw); go_simp; try with_reducible rfl
    simp only [List.getElem_toArray, List.getElem_cons_succ, List.getElem_cons_zero, Act.put, List.setIfInBounds_toArray, List.set_cons_zero, List.set_cons_succ]
    refine wpAnyH_take (i := 3) (v := ?va33) rfl (by kernel_rfl) (by kernel_rfl) (by kernel_rfl) (fun _ _ _ h => h) (Or.inl ⟨by rfl, ?ha33⟩) (by assumption) ?_
    case ha33 => intro w hSw; (try dsimp only at hSw); go_simp; try with_reducible rfl
    simp only [List.getElem_toArray, List.getElem_cons_succ, List.getElem_cons_zero, Act.put, List.setIfInBounds_toArray, List.set_cons_zero, List.set_cons_succ]
    refine wpAnyH_take (i := 4) (v := ?va34) rfl (by kernel_rfl) (by kernel_rfl) (by kernel_rfl) (fun _ _ _ h => h) (Or.inl ⟨by rfl, ?ha34⟩) (by assumption) ?_
    case ha34 => intro w hSw; (try dsimp only at hSw); go_simp; try with_reducible rfl
    simp only [List.getElem_toArray, List.getElem_cons_succ, List.getElem_cons_zero, Act.put, List.setIfInBounds_toArray, List.set_cons_zero, List.set_cons_succ]
    refine wpAnyH_take (i := 5) (v := ?va35) rfl (by kernel_rfl) (by kernel_rfl) (by kernel_rfl) (fun _ _ _ h => h) (Or.inl ⟨by rfl, ?ha35⟩) (by assumption) ?_
    case ha35 => intro w hSw; (try dsimp only at hSw); go_simp; try with_reducible rfl
    simp only [List.getElem_toArray, List.getElem_cons_succ, List.getElem_cons_zero, Act.put, List.setIfInBounds_toArray, List.set_cons_zero, List.set_cons_succ]
    refine wpAnyH_take (i := 6) (v := ?va36) rfl (by kernel_rfl) (by kernel_rfl) (by kernel_rfl) (fun _ _ _ h => h) (Or.inl ⟨by rfl, ?ha36⟩) (by assumption) ?_
    case ha36 => intro w hSw; (try dsimp only at hSw); go_simp; try with_reducible rfl
    simp only [List.getElem_toArray, List.getElem_cons_succ, List.getElem_cons_zero, Act.put, List.setIfInBounds_toArray, List.set_cons_zero, List.set_cons_succ]
    refine wpAnyH_take (i := 7) (v := ?va37) rfl (by kernel_rfl) (by kernel_rfl) (by kernel_rfl) (fun _ _ _ h => h) (Or.inl ⟨by rfl, ?ha37⟩) (by assumption) ?_
    case ha37 => intro w hSw; (try dsimp only at hSw); go_simp; try with_reducible rfl
    simp only [List.getElem_toArray, List.getElem_cons_succ, List.getElem_cons_zero, Act.put, List.setIfInBounds_toArray, List.set_cons_zero, List.set_cons_succ]
    refine wpAnyH_take (i := 8) (v := ?vb38) rfl (by kernel_rfl) (by kernel_rfl) (by kernel_rfl) (fun _ _ _ h => h) (Or.inl ⟨by rfl, ?hb38⟩) (by assumption) ?_
    case hb38 => intro w hSw; (try dsimp only at hSw); go_simp; try with_reducible rfl
    simp only [List.getElem_toArray, List.getElem_cons_succ, List.getElem_cons_zero, Act.put, List.setIfInBounds_toArray, List.set_cons_zero, List.set_cons_succ]
    refine wpAnyH_take (i := 9) (v := ?vb39) rfl (by kernel_rfl) (by kernel_rfl) (by kernel_rfl) (fun _ _ _ h => h) (Or.inl ⟨by rfl, ?hb39⟩) (by assumption) ?_
    case hb39 => intro w hSw; (try dsimp only at hSw); go_simp; try with_reducible rfl
    simp only [List.getElem_toArray, List.getElem_cons_succ, List.getElem_cons_zero, Act.put, List.setIfInBounds_toArray, List.set_cons_zero, List.set_cons_succ]
    refine wpAnyH_done (by kernel_rfl) ?_ _
    refine NoPanic.normal ?_
    clear hHeld
    rw [← W2.out, ← HMA.out, ← HMB.out]
    go_wp2_with fail
    refine HTHE.out.mono ?_
    rintro e w3 ⟨rfl, rfl⟩
    go_wp2_with fail
    (try simp only [Exit.inBlock, Exit.then]); refine bodyPost_ret (results_none rfl _ _ _) rfl ?_
    exact ⟨rfl, GPost.of_below ⟨_, _, _, HG.out, rfl⟩ HB2.out⟩
end Go.Proofs.YtbpkklcegiiheaaDoor
