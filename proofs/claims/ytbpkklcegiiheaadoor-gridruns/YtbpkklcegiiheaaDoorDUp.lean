/-
  Layer 9 (grid): Up, Down.
-/
import Derived.Test.YtbpkklcegiiheaaDoorDUpM
namespace Go.Proofs.YtbpkklcegiiheaaDoor
open Go.RowKit Go.Lib KM

/-- Behind Up: the grid, and the lines that went out, none of whose blocks is the grid's. -/
def UpPost (w : World) (F : List Nat) (p : Nat) (r : Gr × List (List Cel)) (e : Ending) (w' : World) : Prop :=
  ∃ A c F', e = .returned (.slice A r.2.length c) ∧ GridAt w' F' p r.1 ∧ (∀ k ∈ F', k ∈ F ∨ w.heap.size ≤ k) ∧ Fr (· ∈ F) w w' ∧ LinesAt w' (fun k => k ∉ F') A r.2 ∧ (A = none → c = 0)

theorem upL_map {L N : List Ln} {T k m w : Nat} {s : Sty} (hk : T + k ≤ L.length) (hm : m ≤ k) (hN : N.length = m) (hl : ∀ x ∈ N, x.l = KM.blanks w s) :
    upL (L.map Ln.l) w T (T + k) m s = ((L.take T) ++ (((L.drop T).take k) ++ N).drop m ++ (L.drop (T + k))).map Ln.l := by
  have e1 : N.map Ln.l = List.replicate m (KM.blanks w s) := by rw [← hN]; exact List.map_eq_replicate_iff.2 hl
  have e2 : (((L.drop T).take k) ++ N).drop m = ((L.drop T).take k).drop m ++ N := by
    rw [List.drop_append]
    have : m - ((L.drop T).take k).length = 0 := by simp; omega
    rw [this, List.drop_zero]
  unfold upL
  rw [e2, List.map_append, List.map_append, List.map_append, e1, List.drop_take, List.drop_drop, List.map_take, List.map_take, List.map_drop, List.map_drop, show T + k - T - m = k - m by omega]
theorem downL_map {L N : List Ln} {T k m w : Nat} {s : Sty} (_hk : T + k ≤ L.length) (hm : m ≤ k) (hN : N.length = m) (hl : ∀ x ∈ N, x.l = KM.blanks w s) :
    downL (L.map Ln.l) w T (T + k) m s = ((L.take T) ++ (N ++ ((L.drop T).take k)).take k ++ (L.drop (T + k))).map Ln.l := by
  have e1 : N.map Ln.l = List.replicate m (KM.blanks w s) := by rw [← hN]; exact List.map_eq_replicate_iff.2 hl
  have e2 : (N ++ ((L.drop T).take k)).take k = N ++ (L.drop T).take (k - m) := by
    rw [List.take_append, List.take_of_length_le (by omega), hN, List.take_take, Nat.min_eq_left (by omega)]
  unfold downL
  rw [e2, List.map_append, List.map_append, List.map_append, e1, List.map_take, List.map_take, List.map_drop, List.map_drop, show T + k - T - m = k - m by omega]
theorem split3 {α : Type} (L : List α) (T k : Nat) : L = L.take T ++ (L.drop T).take k ++ L.drop (T + k) := by
  rw [List.append_assoc, ← List.drop_drop, List.take_append_drop, List.take_append_drop]
/-- The memory behind Up. -/
theorem up_final {w w3 w4 w6 w7 : World} {p hb hc : Nat} {L N : List Ln} {g : Gr} {T k m g4 B5 c6 : Nat} {A6 : Option Addr} (hG : GridB w p hb hc L g) (hG6 : GridB w6 p hb hc L g) (hB6 : Below w.heap.size w w6) (hBL : BL w3 w4 g4 m N) (hN : N.length = m) (hz3 : w.heap.size ≤ w3.heap.size) (hB46 : Below w4.heap.size w4 w6)
    (hT : T + k ≤ L.length) (hmk : m ≤ k) (hB5 : w4.heap.size ≤ B5) (ho6 : linE.Own w6 B5 (.slice A6 (k + m) c6) (((L.drop T).take k ++ N).map Ln.s))
    (hh7 : linE.Own w7 0 (.slice (some ⟨hb, 0, none⟩) L.length hc) ((L.map Ln.s).take T ++ (((L.drop T).take k ++ N).map Ln.s).drop m ++ (L.map Ln.s).drop (T + k))) (hf7 : Fr (· = hb) w6 w7) :
    ∃ F', GridAt w7 F' p ⟨g.w, g.h, (L.take T ++ ((L.drop T).take k ++ N).drop m ++ L.drop (T + k)).map Ln.l⟩ ∧ (∀ j ∈ F', j ∈ foot p hb L ∨ w.heap.size ≤ j) ∧ Fr (· ∈ foot p hb L) w w7 ∧ LinesAt w7 (fun j => j ∉ F') A6 (((L.drop T).take m).map Ln.l) := by
  obtain ⟨X, hX⟩ : ∃ X, X = L.take T := ⟨_, rfl⟩
  obtain ⟨Y, hY⟩ : ∃ Y, Y = (L.drop T).take k := ⟨_, rfl⟩
  obtain ⟨Z, hZ⟩ : ∃ Z, Z = L.drop (T + k) := ⟨_, rfl⟩
  have hL : L = X ++ Y ++ Z := by rw [hX, hY, hZ]; exact split3 L T k
  have hYl : Y.length = k := by rw [hY]; simp; omega
  have hym : (L.drop T).take m = Y.take m := by rw [hY, List.take_take, Nat.min_eq_left hmk]
  have hlt := hG.lt
  have hbw : hb < w.heap.size := hlt hb (by simp [foot])
  have hN4 : ∀ x ∈ N, w3.heap.size ≤ x.b ∧ x.b < w4.heap.size := fun x hx => (hBL.rows x hx).lt x.b rfl
  have hNf : ∀ x ∈ N, x.b ∉ foot p hb L := fun x hx hm => by have := hlt _ hm; have := hN4 x hx; omega
  have hrows : ∀ x ∈ N, celE.Own w7 0 x.s.v x.l := fun x hx => by
    have h1 := ((hBL.rows x hx).below hB46).mono (Nat.zero_le _)
    refine h1.keep fun j e => ?_
    cases e
    have := hN4 x hx
    exact hf7.block x.b (by have := hB46.size; omega) (by omega)
  have e7 : (L.map Ln.s).take T ++ ((Y ++ N).map Ln.s).drop m ++ (L.map Ln.s).drop (T + k) = (X ++ (Y ++ N).drop m ++ Z).map Ln.s := by
    rw [hX, hZ]
    simp only [List.map_append, List.map_take, List.map_drop]
  rw [← hY, e7] at hh7
  rw [← hY] at ho6
  rw [hym, ← hX, ← hY, ← hZ]
  have hgr := hG6.splice (w' := w7) (N := N) (Q := (Y ++ N).drop m) hL (.inl (List.drop_sublist _ _)) hNf hBL.nodup (by simp; omega) hh7 hrows (fun j hj hne => hf7.block j (by have := hlt j hj; have := hB6.size; omega) hne)
  refine ⟨_, ⟨_, _, _, hgr, rfl⟩, fun j hj => ?_, ?_, fun hp => ?_⟩
  · simp only [foot, List.mem_cons, List.mem_map] at hj
    rcases hj with rfl | rfl | ⟨x, hx, rfl⟩
    · exact .inl (by simp [foot])
    · exact .inl (by simp [foot])
    · have hx' : x ∈ L ∨ x ∈ N := by
        rw [hL]
        simp only [List.mem_append] at hx ⊢
        rcases hx with (hx | hx) | hx
        · exact .inl (.inl (.inl hx))
        · rcases List.mem_append.1 (List.mem_of_mem_drop hx) with hx | hx
          · exact .inl (.inl (.inr hx))
          · exact .inr hx
        · exact .inl (.inr hx)
      rcases hx' with hx | hx
      · exact .inl (by simp only [foot, List.mem_cons, List.mem_map]; exact .inr (.inr ⟨x, hx, rfl⟩))
      · have := hN4 x hx
        exact .inr (by omega)
  · exact (Fr.of_below hB6).trans' (hf7.mono (fun j e => by rw [e]; simp [foot]))
  · have hm0 : 0 < m := by simp [hYl] at hp; omega
    obtain ⟨b6, c, hv, hb5, hb6, _, _, _, hcell⟩ := ho6.place (by simp; omega)
    simp only [Value.slice.injEq] at hv
    obtain ⟨rfl, _, rfl⟩ := hv
    have hs4 := hB46.size
    have hbs := hBL.below.size
    have hs67 := hf7.size
    have hb6n : b6 ∉ foot p hb (X ++ (Y ++ N).drop m ++ Z) := fun hm => by
      simp only [foot, List.mem_cons, List.mem_map] at hm
      rcases hm with rfl | rfl | ⟨x, hx, rfl⟩
      · have := hlt b6 (by simp [foot]); omega
      · omega
      · simp only [List.mem_append] at hx
        have hx' : x ∈ L ∨ x ∈ N := by
          rw [hL]
          simp only [List.mem_append]
          rcases hx with (hx | hx) | hx
          · exact .inl (.inl (.inl hx))
          · rcases List.mem_append.1 (List.mem_of_mem_drop hx) with hx | hx
            · exact .inl (.inl (.inr hx))
            · exact .inr hx
          · exact .inl (.inr hx)
        rcases hx' with hx | hx
        · have := hlt x.b (by simp only [foot, List.mem_cons, List.mem_map]; exact .inr (.inr ⟨x, hx, rfl⟩)); omega
        · have := hN4 x hx; omega
    refine ⟨b6, 0, rfl, by omega, hb6n, fun j hj => ?_⟩
    have hjm : j < m := by simp [hYl] at hj; omega
    have hjY : j < Y.length := by omega
    have hxL : Y[j] ∈ L := by rw [hL]; simp
    have hc := hcell j (by simp; omega) 0 (by decide)
    have e1 : ((Y ++ N).map Ln.s)[j]'(by simp; omega) = Y[j].s := by rw [List.getElem_map, List.getElem_append_left hjY]
    rw [e1] at hc
    have hc7 : w7.cell? ⟨b6, 0 + j, none⟩ = some Y[j].s.v := by
      have : w7.cell? ⟨b6, 0 + j, none⟩ = w6.cell? ⟨b6, 0 + j, none⟩ := World.cell?_of_block (w := w6) (a := ⟨b6, 0 + j, none⟩) (hf7.block b6 hb6 (by omega))
      rw [this]
      simpa [linE] using hc
    have el : ((Y.take m).map Ln.l)[j] = Y[j].l := by simp
    rw [el]
    have hrn := hG.row_ne hxL
    have hro : celE.Own w7 0 Y[j].s.v Y[j].l := (hG6.rows _ hxL).keep fun q e => by
      cases e
      exact hf7.block _ ((hG6.lt _ (by simp only [foot, List.mem_cons, List.mem_map]; exact .inr (.inr ⟨_, hxL, rfl⟩)))) hrn.2
    refine ⟨some ⟨Y[j].b, 0, none⟩, Y[j].c, hc7, row_of_own hro, fun _ a ha => ?_, by simp⟩
    injection ha with ha
    subst ha
    intro hm
    have hnd := hG.nodup
    simp only [foot, List.nodup_cons] at hnd
    have hL2 : L = X ++ (Y.take m ++ Y.drop m) ++ Z := by rw [List.take_append_drop]; exact hL
    have hnd2 := hnd.2.2
    rw [hL2] at hnd2
    simp only [List.map_append, List.nodup_append, List.mem_append, List.mem_map] at hnd2
    obtain ⟨⟨_, ⟨_, _, d1⟩, d2⟩, _, d3⟩ := hnd2
    have hin : Y[j] ∈ Y.take m := by
      have : Y[j] = (Y.take m)[j]'(by simp; omega) := by simp
      rw [this]; exact List.getElem_mem _
    simp only [foot, List.mem_cons, List.mem_map] at hm
    rcases hm with e | e | ⟨x, hx, e⟩
    · exact hrn.1 e
    · exact hrn.2 e
    · simp only [List.mem_append] at hx
      rcases hx with (hx | hx) | hx
      · exact d2 _ ⟨x, hx, rfl⟩ _ (.inl ⟨_, hin, rfl⟩) e
      · rw [List.drop_append, List.mem_append] at hx
        rcases hx with hx | hx
        · exact d1 _ ⟨_, hin, rfl⟩ _ ⟨x, hx, rfl⟩ e.symm
        · have := hN4 x (List.mem_of_mem_drop hx)
          have h2 := hlt Y[j].b (by simp only [foot, List.mem_cons, List.mem_map]; exact .inr (.inr ⟨_, hxL, rfl⟩))
          omega
      · exact d3 _ (.inr (.inl ⟨_, hin, rfl⟩)) _ ⟨x, hx, rfl⟩ e.symm
/-- The memory behind Down. -/
theorem down_final {w w3 w4 w6 w7 : World} {p hb hc : Nat} {L N : List Ln} {g : Gr} {T k m g4 : Nat} (hG : GridB w p hb hc L g) (hG6 : GridB w6 p hb hc L g) (hB6 : Below w.heap.size w w6) (hBL : BL w3 w4 g4 m N) (hz3 : w.heap.size ≤ w3.heap.size) (hB46 : Below w4.heap.size w4 w6)
    (hT : T + k ≤ L.length) (hh7 : linE.Own w7 0 (.slice (some ⟨hb, 0, none⟩) L.length hc) ((L.map Ln.s).take T ++ ((N ++ (L.drop T).take k).map Ln.s).take k ++ (L.map Ln.s).drop (T + k))) (hf7 : Fr (· = hb) w6 w7) :
    GPost w (foot p hb L) p ⟨g.w, g.h, (L.take T ++ (N ++ (L.drop T).take k).take k ++ L.drop (T + k)).map Ln.l⟩ w7 := by
  obtain ⟨X, hX⟩ : ∃ X, X = L.take T := ⟨_, rfl⟩
  obtain ⟨Y, hY⟩ : ∃ Y, Y = (L.drop T).take k := ⟨_, rfl⟩
  obtain ⟨Z, hZ⟩ : ∃ Z, Z = L.drop (T + k) := ⟨_, rfl⟩
  have hL : L = X ++ Y ++ Z := by rw [hX, hY, hZ]; exact split3 L T k
  have hYl : Y.length = k := by rw [hY]; simp; omega
  have hlt := hG.lt
  have hbw : hb < w.heap.size := hlt hb (by simp [foot])
  have hN4 : ∀ x ∈ N, w3.heap.size ≤ x.b ∧ x.b < w4.heap.size := fun x hx => (hBL.rows x hx).lt x.b rfl
  have hNf : ∀ x ∈ N, x.b ∉ foot p hb L := fun x hx hm => by have := hlt _ hm; have := hN4 x hx; omega
  have hrows : ∀ x ∈ N, celE.Own w7 0 x.s.v x.l := fun x hx => by
    have h1 := ((hBL.rows x hx).below hB46).mono (Nat.zero_le _)
    refine h1.keep fun j e => ?_
    cases e
    have := hN4 x hx
    exact hf7.block x.b (by have := hB46.size; omega) (by omega)
  have e7 : (L.map Ln.s).take T ++ ((N ++ Y).map Ln.s).take k ++ (L.map Ln.s).drop (T + k) = (X ++ (N ++ Y).take k ++ Z).map Ln.s := by
    rw [hX, hZ]
    simp only [List.map_append, List.map_take, List.map_drop]
  rw [← hY, e7] at hh7
  rw [← hX, ← hY, ← hZ]
  have hgr := hG6.splice (w' := w7) (N := N) (Q := (N ++ Y).take k) hL (.inr (List.take_sublist _ _)) hNf hBL.nodup (by simp; omega) hh7 hrows (fun j hj hne => hf7.block j (by have := hlt j hj; have := hB6.size; omega) hne)
  refine ⟨⟨_, ⟨_, _, _, hgr, rfl⟩, fun j hj => ?_⟩, ?_⟩
  · simp only [foot, List.mem_cons, List.mem_map] at hj
    rcases hj with rfl | rfl | ⟨x, hx, rfl⟩
    · exact .inl (by simp [foot])
    · exact .inl (by simp [foot])
    · have hx' : x ∈ L ∨ x ∈ N := by
        rw [hL]
        simp only [List.mem_append] at hx ⊢
        rcases hx with (hx | hx) | hx
        · exact .inl (.inl (.inl hx))
        · rcases List.mem_append.1 (List.mem_of_mem_take hx) with hx | hx
          · exact .inr hx
          · exact .inl (.inl (.inr hx))
        · exact .inl (.inr hx)
      rcases hx' with hx | hx
      · exact .inl (by simp only [foot, List.mem_cons, List.mem_map]; exact .inr (.inr ⟨x, hx, rfl⟩))
      · have := hN4 x hx
        exact .inr (by omega)
  · exact (Fr.of_below hB6).trans' (hf7.mono (fun j e => by rw [e]; simp [foot]))
/-- A new header's row, all of it laid. -/
theorem BL.full {w0 w : World} {g n : Nat} {L : List Ln} (h : BL w0 w g n L) (hl : L.length = n) : linE.Own w w0.heap.size (.slice (some ⟨g, 0, none⟩) n n) (L.map Ln.s) := by
  have := h.head
  rw [hl, Nat.sub_self, List.replicate_zero, List.append_nil] at this
  exact this

set_option maxRecDepth 100000 in
set_option maxHeartbeats 4000000 in
theorem up_ok (w : World) {p : Nat} {F : List Nat} {g : Gr} (h : GridAt w F p g) (hok : g.Ok) (a b n : Int) (s : Sty) :
    Calls Tryd.prog 19 #[.pointer (some ⟨p, 0, none⟩), .int .i64 a, .int .i64 b, .int .i64 n, styV s] w (UpPost w F p (gup g a b n s)) := by
  obtain ⟨hb, hc, L, hG, rfl⟩ := h
  obtain ⟨w1, hw1⟩ : ∃ w1, w1 = w.alloc (.cells #[.bool s.bold, .bool s.under, .bool s.turned, .int .i64 s.fore, .int .i64 s.back] 35) := ⟨_, rfl⟩
  have hb1 : Below w.heap.size w w1 := by rw [hw1]; exact (Below.refl _ _).alloc (Nat.le_refl _) _
  have hz1 : w1.heap.size = w.heap.size + 1 := by rw [hw1]; simp
  have hs1 : StyIn w1 w.heap.size s := by rw [hw1]; exact StyIn.fresh w s
  have hG1 := hG.below hb1
  obtain ⟨T, k, m, Pa, pc, hPI, hPa, hPn, hpart⟩ := part_ok w1 hG1 hok a b n
  have hLh : L.length = g.h := hG.len.trans hok.len
  have hkL : T + k ≤ L.length := by have := hPI.le; omega
  have hmk : m ≤ k := hPI.few
  have hk60 : k ≤ 60 := by have := hok.h2; omega
  have hBL := fun (v : World) => blankLines_ok v m g.w (by omega) hok.w2 hok.w1 s
  have HBL := Lib.hid hBL
  rw [hPI.up s]
  rw [hG.lines]
  have HPART := Lib.hid hpart
  have W1 := Lib.hid hw1
  have HG := Lib.hid hG
  have HG1 := Lib.hid hG1
  have HB1 := Lib.hid hb1
  have HS1 := Lib.hid hs1
  have HPA := Lib.hid hPa
  have HPN := Lib.hid hPn
  have HMAP := Lib.hid (fun (N : List Ln) (hN : N.length = m) (hl : ∀ x ∈ N, x.l = KM.blanks g.w s) => upL_map hkL hmk hN hl)
  have hpw : p < w.heap.size := hG.lt p (by simp [foot])
  have hbw : hb < w.heap.size := hG.lt hb (by simp [foot])
  have HPHB := Lib.hid hG.ne_hb
  clear hw1 hb1 hG hG1 hs1 hPa hPn hpart hPI hok hLh hBL
  obtain ⟨sb, su, st, sf, sk⟩ := s
  simp only [styV] at *
  go_enter Tryd.func19, Tryd.ntmps19
  go_wp2_with fail
  rw [← W1.out]
  refine HPART.out.mono ?_
  rintro e w2 ⟨rfl, hb2⟩
  obtain ⟨w3, hw3⟩ : ∃ w3, w3 = w2.drew := ⟨_, rfl⟩
  have hd3 : Below w1.heap.size w1 w3 := hb2.trans (by rw [hw3]; exact (Below.refl _ _).drew)
  have HB3 := Lib.hid (below_next HB1.out hd3)
  have HG3 := Lib.hid (HG1.out.below hd3)
  have hs3 := (HS1.out.below hd3).cells
  have e0 := (HG1.out.below hd3).cell0
  have hpl : p < w3.heap.size := by have := HB3.out.size; omega
  have hwl : w.heap.size < w3.heap.size := by have := hd3.size; omega
  have W3 := Lib.hid hw3
  simp only at hs3
  have HSK := Lib.hid (fun (v : World) (hv : Below w3.heap.size w3 v) => show v.cell? ⟨p, 0, none⟩ = some (.int .i64 (g.w : Int)) ∧ v.cell? ⟨w.heap.size, 0, none⟩ = some (.bool sb) ∧ v.cell? ⟨w.heap.size, 1, none⟩ = some (.bool su) ∧ v.cell? ⟨w.heap.size, 2, none⟩ = some (.bool st) ∧ v.cell? ⟨w.heap.size, 3, none⟩ = some (.int .i64 sf) ∧ v.cell? ⟨w.heap.size, 4, none⟩ = some (.int .i64 sk) from
    ⟨(hv.cell (p := ⟨p, 0, none⟩) hpl).trans e0, (hv.cell (p := ⟨w.heap.size, 0, none⟩) hwl).trans hs3.1, (hv.cell (p := ⟨w.heap.size, 1, none⟩) hwl).trans hs3.2.1, (hv.cell (p := ⟨w.heap.size, 2, none⟩) hwl).trans hs3.2.2.1, (hv.cell (p := ⟨w.heap.size, 3, none⟩) hwl).trans hs3.2.2.2.1, (hv.cell (p := ⟨w.heap.size, 4, none⟩) hwl).trans hs3.2.2.2.2⟩)
  have hS3 := HSK.out w3 (Below.refl _ _)
  clear hw3 hd3 hs3 e0 hb2
  go_wp2_with fail
  refine wp_region_noPanic ?_
  refine wp_region_held_drew (S := fun v => v.cell? ⟨p, 0, none⟩ = some (.int .i64 (g.w : Int)) ∧ v.cell? ⟨w.heap.size, 0, none⟩ = some (.bool sb) ∧ v.cell? ⟨w.heap.size, 1, none⟩ = some (.bool su) ∧ v.cell? ⟨w.heap.size, 2, none⟩ = some (.bool st) ∧ v.cell? ⟨w.heap.size, 3, none⟩ = some (.int .i64 sf) ∧ v.cell? ⟨w.heap.size, 4, none⟩ = some (.int .i64 sk)) (by kernel_rfl) (by rw [← W3.out]; exact hS3) (fun hHeld => ?_)
  rw [← W3.out]
  refine wpAnyH_take (i := 0) (v := ?vua0) rfl (by kernel_rfl) (by kernel_rfl) (by kernel_rfl) (fun _ _ _ h => h) (Or.inl ⟨by rfl, ?hua0⟩) (by assumption) ?_
  case hua0 => intro w hSw; (try dsimp only at hSw); go_simp; try with_reducible rfl
  simp only [List.getElem_toArray, List.getElem_cons_zero, Act.put, List.setIfInBounds_toArray, List.set_cons_zero, List.set_cons_succ]
  refine wpAnyH_take (i := 1) (v := ?vua1) rfl (by kernel_rfl) (by kernel_rfl) (by kernel_rfl) (fun _ _ _ h => h) (Or.inl ⟨by rfl, ?hua1⟩) (by assumption) ?_
  case hua1 => intro w hSw; (try dsimp only at hSw); go_simp; try with_reducible rfl
  simp only [List.getElem_toArray, List.getElem_cons_succ, List.getElem_cons_zero, Act.put, List.setIfInBounds_toArray, List.set_cons_zero, List.set_cons_succ]
  refine wpAnyH_take (i := 2) (v := ?vua2) rfl (by kernel_rfl) (by kernel_rfl) (by kernel_rfl) (fun _ _ _ h => h) (Or.inl ⟨by rfl, ?hua2⟩) (by assumption) ?_
  case hua2 => intro w hSw; (try dsimp only at hSw); go_simp; try with_reducible rfl
  simp only [List.getElem_toArray, List.getElem_cons_succ, List.getElem_cons_zero, Act.put, List.setIfInBounds_toArray, List.set_cons_zero, List.set_cons_succ]
  refine wpAnyH_take (i := 3) (v := ?vua3) rfl (by kernel_rfl) (by kernel_rfl) (by kernel_rfl) (fun _ _ _ h => h) (Or.inl ⟨by rfl, ?hua3⟩) (by assumption) ?_
  case hua3 => intro w hSw; (try dsimp only at hSw); go_simp; try with_reducible rfl
  simp only [List.getElem_toArray, List.getElem_cons_succ, List.getElem_cons_zero, Act.put, List.setIfInBounds_toArray, List.set_cons_zero, List.set_cons_succ]
  refine wpAnyH_take (i := 4) (v := ?vua4) rfl (by kernel_rfl) (by kernel_rfl) (by kernel_rfl) (fun _ _ _ h => h) (Or.inl ⟨by rfl, ?hua4⟩) (by assumption) ?_
  case hua4 => intro w hSw; (try dsimp only at hSw); go_simp; try with_reducible rfl
  simp only [List.getElem_toArray, List.getElem_cons_succ, List.getElem_cons_zero, Act.put, List.setIfInBounds_toArray, List.set_cons_zero, List.set_cons_succ]
  refine wpAnyH_take (i := 5) (v := ?vua5) rfl (by kernel_rfl) (by kernel_rfl) (by kernel_rfl) (fun _ _ _ h => h) (Or.inl ⟨by rfl, ?hua5⟩) (by assumption) ?_
  case hua5 => intro w hSw; (try dsimp only at hSw); go_simp; try with_reducible rfl
  simp only [List.getElem_toArray, List.getElem_cons_succ, List.getElem_cons_zero, Act.put, List.setIfInBounds_toArray, List.set_cons_zero, List.set_cons_succ]
  refine wpAnyH_take (i := 6) (v := ?vua6) rfl (by kernel_rfl) (by kernel_rfl) (by kernel_rfl) (fun _ _ _ h => h) (Or.inl ⟨by rfl, ?hua6⟩) (by assumption) ?_
  case hua6 => intro w hSw; (try dsimp only at hSw); go_simp; try with_reducible rfl
  simp only [List.getElem_toArray, List.getElem_cons_succ, List.getElem_cons_zero, Act.put, List.setIfInBounds_toArray, List.set_cons_zero, List.set_cons_succ]
  refine wpAnyH_ready (rs := [7]) (by kernel_rfl) (by simp) ?_
  refine AllReadyH.cons rfl (fun K hK => ?_) AllReadyH.nil
  go_simp
  refine (HBL.out w3).mono ?_
  rintro e w4 ⟨g4, N, rfl, hbl, hNl, hNx⟩
  have HBLK := Lib.hid hbl
  have HNL := Lib.hid hNl
  have HNX := Lib.hid hNx
  have hS4 := HSK.out w4 hbl.below
  have HB34 := Lib.hid hbl.below
  have hrp : linE.Row w4 w4.heap.size Pa (((L.drop T).take k).map Ln.s) := (HG3.out.below hbl.below).headRow hkL HPA.out
  have hrn : linE.Row w4 w4.heap.size (some ⟨g4, 0, none⟩) (N.map Ln.s) := El.Row.of_own (c := m) (by rw [List.length_map, hNl]; exact hbl.full hNl)
  have hrr := rows2 (w := w4) (B := w4.heap.size) (A1 := Pa) (A2 := some ⟨g4, 0, none⟩) (c1 := pc) (c2 := m) (n1 := k) (n2 := m) hrp hrn HPN.out (by simp) (by simp; omega) (by rw [List.length_map]; exact HNL.out.symm) (Nat.le_refl _) 29
  have HRR := Lib.hid hrr
  clear hbl hNl hNx hrp hrn hrr
  dsimp only
  refine hK.out _ _ ?_ (fun hHeld => ?_)
  · exact hS4
  clear hK K
  refine wpAnyH_ready (rs := [8]) (by kernel_rfl) (by simp) ?_
  refine AllReadyH.cons rfl (fun K hK => ?_) AllReadyH.nil
  go_simp
  obtain ⟨w5, hw5⟩ : ∃ w5, w5 = w4.alloc (.cells #[.slice Pa k pc, .slice (some ⟨g4, 0, none⟩) m m] 29) := ⟨_, rfl⟩
  have hb45 : Below w4.heap.size w4 w5 := by rw [hw5]; exact (Below.refl _ _).alloc (Nat.le_refl _) _
  have hz5 : w5.heap.size = w4.heap.size + 1 := by rw [hw5]; simp
  have hb35 : Below w3.heap.size w3 w5 := below_next HB34.out hb45
  have hS5 := HSK.out w5 hb35
  rw [← hw5] at HRR ⊢
  have HB45 := Lib.hid hb45
  have HB35 := Lib.hid hb35
  have hcat := concatL w5 (some ⟨w4.heap.size, 0, none⟩) 2 (w4.heap.size + 1) [((L.drop T).take k).map Ln.s, N.map Ln.s] HRR.out (by omega) (by simp) (by have := HNL.out; simp only [sizes, List.map_cons, List.map_nil, List.sum_cons, List.sum_nil, List.length_map, List.length_take, List.length_drop]; omega)
  have hflat : [((L.drop T).take k).map Ln.s, N.map Ln.s].flatten = ((L.drop T).take k ++ N).map Ln.s := by simp
  rw [hflat] at hcat
  have HCAT := Lib.hid hcat
  have hz4 := HB34.out.size
  clear hw5 hb45 hb35 hflat hcat
  refine hK.out _ _ ?_ (fun hHeld => ?_)
  · exact hS5
  clear hK K
  refine wpAnyH_ready (rs := [9]) (by kernel_rfl) (by simp) ?_
  refine AllReadyH.cons rfl (fun K hK => ?_) AllReadyH.nil
  go_simp
  refine HCAT.out.mono ?_
  rintro e w6 ⟨v6, rfl, ho6, hb56⟩
  have hlen6 : (((L.drop T).take k ++ N).map Ln.s).length = k + m := by have := HNL.out; simp; omega
  obtain ⟨A6, c6, hv6, hc6, _, hA6, hr6⟩ := ho6.row
  rw [hlen6] at hv6 hc6
  have hb46 := HB45.out.trans (hb56.mono HB45.out.size)
  have hb36 := below_next HB34.out hb46
  have hS6 := HSK.out w6 hb36
  have hG6 := HG3.out.below hb36
  have HB6 := Lib.hid (HB3.out.trans (hb36.mono HB3.out.size))
  have HG6 := Lib.hid hG6
  have HB46 := Lib.hid hb46
  have HB36 := Lib.hid hb36
  have HR6 := Lib.hid hr6
  have HO6 := Lib.hid ho6
  have HA6 := Lib.hid hA6
  rw [hv6]
  clear hr6 hA6 hb56 hb46 hb36 hG6
  dsimp only
  refine hK.out _ _ ?_ (fun hHeld => ?_)
  · exact hS6
  clear hK K
  refine wpAnyH_take (i := 10) (v := ?vub10) rfl (by kernel_rfl) (by kernel_rfl) (by kernel_rfl) (fun _ _ _ h => h) (Or.inl ⟨by rfl, ?hub10⟩) (by assumption) ?_
  case hub10 => intro w hSw; (try dsimp only at hSw); go_simp; try with_reducible rfl
  simp only [List.getElem_toArray, List.getElem_cons_succ, List.getElem_cons_zero, Act.put, List.setIfInBounds_toArray, List.set_cons_zero, List.set_cons_succ]
  refine wpAnyH_done (by kernel_rfl) ?_ _
  refine NoPanic.normal ?_
  clear hHeld
  have hcut : ∀ V, (Instr.slice 29 (.slice A6 (k + m) c6) (some (.int .i64 (m : Int))) none none).run Tryd.prog V = .ok (.slice (linE.cutA A6 c6 m) k (c6 - m)) V := fun V => by
    rw [cutL _ _ _ _ V (by omega)]
    congr 2
    omega
  have hthree : ∀ V, (Instr.slice 29 (.slice A6 (k + m) c6) none (some (.int .i64 (m : Int))) (some (.int .i64 (m : Int)))).run Tryd.prog V = .ok (.slice A6 m m) V := fun V => threeL _ _ _ _ V (by omega)
  have hMl : ((((L.drop T).take k ++ N).map Ln.s).drop m).length = k := by rw [List.length_drop, hlen6]; omega
  obtain ⟨w7, hrun, hh7, hf7, hz7⟩ := HG6.out.headCopy hkL HPA.out 3 (pc := pc) (linE.cutA A6 c6 m) ((((L.drop T).take k ++ N).map Ln.s).drop m) k (c6 - m) w6.heap.size (HR6.out.cut (by rw [hlen6]; omega) (by rw [hlen6]; exact hc6)) hMl.symm hMl
  have HH7 := Lib.hid hh7
  have HF7 := Lib.hid hf7
  clear hh7 hf7 hMl hS3 hS4 hS5 hS6
  generalize hcu : linE.cutA A6 c6 m = cu at *
  have HCU := Lib.hid hcu
  clear hcu
  go_wp2_with fail
  go_ret
  have ho := HO6.out
  rw [hv6] at ho
  obtain ⟨F', h1, h2, h3, h4⟩ := up_final HG.out HG6.out HB6.out HBLK.out HNL.out (HB3.out.size) HB46.out hkL hmk (show w4.heap.size ≤ w5.heap.size by omega) ho HH7.out HF7.out
  rw [HMAP.out N HNL.out HNX.out]
  refine ⟨A6, m, F', ?_, h1, h2, h3, ?_, ?_⟩
  · simp; omega
  · simp only [List.map_take, List.map_drop] at h4 ⊢
    exact h4
  · intro hn
    have := HA6.out hn
    omega

set_option maxRecDepth 100000 in
set_option maxHeartbeats 4000000 in
theorem down_ok (w : World) {p : Nat} {F : List Nat} {g : Gr} (h : GridAt w F p g) (hok : g.Ok) (a b n : Int) (s : Sty) :
    Calls Tryd.prog 20 #[.pointer (some ⟨p, 0, none⟩), .int .i64 a, .int .i64 b, .int .i64 n, styV s] w fun e w' => e = .returned (.tuple #[]) ∧ GPost w F p (gdown g a b n s) w' := by
  obtain ⟨hb, hc, L, hG, rfl⟩ := h
  obtain ⟨w1, hw1⟩ : ∃ w1, w1 = w.alloc (.cells #[.bool s.bold, .bool s.under, .bool s.turned, .int .i64 s.fore, .int .i64 s.back] 35) := ⟨_, rfl⟩
  have hb1 : Below w.heap.size w w1 := by rw [hw1]; exact (Below.refl _ _).alloc (Nat.le_refl _) _
  have hz1 : w1.heap.size = w.heap.size + 1 := by rw [hw1]; simp
  have hs1 : StyIn w1 w.heap.size s := by rw [hw1]; exact StyIn.fresh w s
  have hG1 := hG.below hb1
  obtain ⟨T, k, m, Pa, pc, hPI, hPa, hPn, hpart⟩ := part_ok w1 hG1 hok a b n
  have hLh : L.length = g.h := hG.len.trans hok.len
  have hkL : T + k ≤ L.length := by have := hPI.le; omega
  have hmk : m ≤ k := hPI.few
  have hk60 : k ≤ 60 := by have := hok.h2; omega
  have hBL := fun (v : World) => blankLines_ok v m g.w (by omega) hok.w2 hok.w1 s
  have HBL := Lib.hid hBL
  rw [hPI.down s]
  rw [hG.lines]
  have HPART := Lib.hid hpart
  have W1 := Lib.hid hw1
  have HG := Lib.hid hG
  have HG1 := Lib.hid hG1
  have HB1 := Lib.hid hb1
  have HS1 := Lib.hid hs1
  have HPA := Lib.hid hPa
  have HPN := Lib.hid hPn
  have HMAP := Lib.hid (fun (N : List Ln) (hN : N.length = m) (hl : ∀ x ∈ N, x.l = KM.blanks g.w s) => downL_map hkL hmk hN hl)
  have hpw : p < w.heap.size := hG.lt p (by simp [foot])
  have hbw : hb < w.heap.size := hG.lt hb (by simp [foot])
  have HPHB := Lib.hid hG.ne_hb
  clear hw1 hb1 hG hG1 hs1 hPa hPn hpart hPI hok hLh hBL
  obtain ⟨sb, su, st, sf, sk⟩ := s
  simp only [styV] at *
  go_enter Tryd.func20, Tryd.ntmps20
  go_wp2_with fail
  rw [← W1.out]
  refine HPART.out.mono ?_
  rintro e w2 ⟨rfl, hb2⟩
  obtain ⟨w3, hw3⟩ : ∃ w3, w3 = w2.drew := ⟨_, rfl⟩
  have hd3 : Below w1.heap.size w1 w3 := hb2.trans (by rw [hw3]; exact (Below.refl _ _).drew)
  have HB3 := Lib.hid (below_next HB1.out hd3)
  have HG3 := Lib.hid (HG1.out.below hd3)
  have hs3 := (HS1.out.below hd3).cells
  have e0 := (HG1.out.below hd3).cell0
  have hpl : p < w3.heap.size := by have := HB3.out.size; omega
  have hwl : w.heap.size < w3.heap.size := by have := hd3.size; omega
  have W3 := Lib.hid hw3
  simp only at hs3
  have HSK := Lib.hid (fun (v : World) (hv : Below w3.heap.size w3 v) => show v.cell? ⟨p, 0, none⟩ = some (.int .i64 (g.w : Int)) ∧ v.cell? ⟨w.heap.size, 0, none⟩ = some (.bool sb) ∧ v.cell? ⟨w.heap.size, 1, none⟩ = some (.bool su) ∧ v.cell? ⟨w.heap.size, 2, none⟩ = some (.bool st) ∧ v.cell? ⟨w.heap.size, 3, none⟩ = some (.int .i64 sf) ∧ v.cell? ⟨w.heap.size, 4, none⟩ = some (.int .i64 sk) from
    ⟨(hv.cell (p := ⟨p, 0, none⟩) hpl).trans e0, (hv.cell (p := ⟨w.heap.size, 0, none⟩) hwl).trans hs3.1, (hv.cell (p := ⟨w.heap.size, 1, none⟩) hwl).trans hs3.2.1, (hv.cell (p := ⟨w.heap.size, 2, none⟩) hwl).trans hs3.2.2.1, (hv.cell (p := ⟨w.heap.size, 3, none⟩) hwl).trans hs3.2.2.2.1, (hv.cell (p := ⟨w.heap.size, 4, none⟩) hwl).trans hs3.2.2.2.2⟩)
  have hS3 := HSK.out w3 (Below.refl _ _)
  clear hw3 hd3 hs3 e0 hb2
  go_wp2_with fail
  refine wp_region_noPanic ?_
  refine wp_region_held_drew (S := fun v => v.cell? ⟨p, 0, none⟩ = some (.int .i64 (g.w : Int)) ∧ v.cell? ⟨w.heap.size, 0, none⟩ = some (.bool sb) ∧ v.cell? ⟨w.heap.size, 1, none⟩ = some (.bool su) ∧ v.cell? ⟨w.heap.size, 2, none⟩ = some (.bool st) ∧ v.cell? ⟨w.heap.size, 3, none⟩ = some (.int .i64 sf) ∧ v.cell? ⟨w.heap.size, 4, none⟩ = some (.int .i64 sk)) (by kernel_rfl) (by rw [← W3.out]; exact hS3) (fun hHeld => ?_)
  rw [← W3.out]
  refine wpAnyH_take (i := 0) (v := ?vda0) rfl (by kernel_rfl) (by kernel_rfl) (by kernel_rfl) (fun _ _ _ h => h) (Or.inl ⟨by rfl, ?hda0⟩) (by assumption) ?_
  case hda0 => intro w hSw; (try dsimp only at hSw); go_simp; try with_reducible rfl
  simp only [List.getElem_toArray, List.getElem_cons_zero, Act.put, List.setIfInBounds_toArray, List.set_cons_zero, List.set_cons_succ]
  refine wpAnyH_take (i := 1) (v := ?vda1) rfl (by kernel_rfl) (by kernel_rfl) (by kernel_rfl) (fun _ _ _ h => h) (Or.inl ⟨by rfl, ?hda1⟩) (by assumption) ?_
  case hda1 => intro w hSw; (try dsimp only at hSw); go_simp; try with_reducible rfl
  simp only [List.getElem_toArray, List.getElem_cons_succ, List.getElem_cons_zero, Act.put, List.setIfInBounds_toArray, List.set_cons_zero, List.set_cons_succ]
  refine wpAnyH_take (i := 2) (v := ?vda2) rfl (by kernel_rfl) (by kernel_rfl) (by kernel_rfl) (fun _ _ _ h => h) (Or.inl ⟨by rfl, ?hda2⟩) (by assumption) ?_
  case hda2 => intro w hSw; (try dsimp only at hSw); go_simp; try with_reducible rfl
  simp only [List.getElem_toArray, List.getElem_cons_succ, List.getElem_cons_zero, Act.put, List.setIfInBounds_toArray, List.set_cons_zero, List.set_cons_succ]
  refine wpAnyH_take (i := 3) (v := ?vda3) rfl (by kernel_rfl) (by kernel_rfl) (by kernel_rfl) (fun _ _ _ h => h) (Or.inl ⟨by rfl, ?hda3⟩) (by assumption) ?_
  case hda3 => intro w hSw; (try dsimp only at hSw); go_simp; try with_reducible rfl
  simp only [List.getElem_toArray, List.getElem_cons_succ, List.getElem_cons_zero, Act.put, List.setIfInBounds_toArray, List.set_cons_zero, List.set_cons_succ]
  refine wpAnyH_take (i := 4) (v := ?vda4) rfl (by kernel_rfl) (by kernel_rfl) (by kernel_rfl) (fun _ _ _ h => h) (Or.inl ⟨by rfl, ?hda4⟩) (by assumption) ?_
  case hda4 => intro w hSw; (try dsimp only at hSw); go_simp; try with_reducible rfl
  simp only [List.getElem_toArray, List.getElem_cons_succ, List.getElem_cons_zero, Act.put, List.setIfInBounds_toArray, List.set_cons_zero, List.set_cons_succ]
  refine wpAnyH_take (i := 5) (v := ?vda5) rfl (by kernel_rfl) (by kernel_rfl) (by kernel_rfl) (fun _ _ _ h => h) (Or.inl ⟨by rfl, ?hda5⟩) (by assumption) ?_
  case hda5 => intro w hSw; (try dsimp only at hSw); go_simp; try with_reducible rfl
  simp only [List.getElem_toArray, List.getElem_cons_succ, List.getElem_cons_zero, Act.put, List.setIfInBounds_toArray, List.set_cons_zero, List.set_cons_succ]
  refine wpAnyH_take (i := 6) (v := ?vda6) rfl (by kernel_rfl) (by kernel_rfl) (by kernel_rfl) (fun _ _ _ h => h) (Or.inl ⟨by rfl, ?hda6⟩) (by assumption) ?_
  case hda6 => intro w hSw; (try dsimp only at hSw); go_simp; try with_reducible rfl
  simp only [List.getElem_toArray, List.getElem_cons_succ, List.getElem_cons_zero, Act.put, List.setIfInBounds_toArray, List.set_cons_zero, List.set_cons_succ]
  refine wpAnyH_take (i := 8) (v := ?vda8) rfl (by kernel_rfl) (by kernel_rfl) (by kernel_rfl) (fun _ _ _ h => h) (Or.inl ⟨by rfl, ?hda8⟩) (by assumption) ?_
  case hda8 => intro w hSw; (try dsimp only at hSw); go_simp; try with_reducible rfl
  simp only [List.getElem_toArray, List.getElem_cons_succ, List.getElem_cons_zero, Act.put, List.setIfInBounds_toArray, List.set_cons_zero, List.set_cons_succ]
  refine wpAnyH_ready (rs := [7]) (by kernel_rfl) (by simp) ?_
  refine AllReadyH.cons rfl (fun K hK => ?_) AllReadyH.nil
  go_simp
  refine (HBL.out w3).mono ?_
  rintro e w4 ⟨g4, N, rfl, hbl, hNl, hNx⟩
  have HBLK := Lib.hid hbl
  have HNL := Lib.hid hNl
  have HNX := Lib.hid hNx
  have hS4 := HSK.out w4 hbl.below
  have HB34 := Lib.hid hbl.below
  have hrp : linE.Row w4 w4.heap.size Pa (((L.drop T).take k).map Ln.s) := (HG3.out.below hbl.below).headRow hkL HPA.out
  have hrn : linE.Row w4 w4.heap.size (some ⟨g4, 0, none⟩) (N.map Ln.s) := El.Row.of_own (c := m) (by rw [List.length_map, hNl]; exact hbl.full hNl)
  have hrr := rows2 (w := w4) (B := w4.heap.size) (A1 := some ⟨g4, 0, none⟩) (A2 := Pa) (c1 := m) (c2 := pc) (n1 := m) (n2 := k) hrn hrp (by simp) HPN.out (by rw [List.length_map]; exact HNL.out.symm) (by simp; omega) (Nat.le_refl _) 29
  have HRR := Lib.hid hrr
  clear hbl hNl hNx hrp hrn hrr
  dsimp only
  refine hK.out _ _ ?_ (fun hHeld => ?_)
  · exact hS4
  clear hK K
  refine wpAnyH_ready (rs := [9]) (by kernel_rfl) (by simp) ?_
  refine AllReadyH.cons rfl (fun K hK => ?_) AllReadyH.nil
  go_simp
  obtain ⟨w5, hw5⟩ : ∃ w5, w5 = w4.alloc (.cells #[.slice (some ⟨g4, 0, none⟩) m m, .slice Pa k pc] 29) := ⟨_, rfl⟩
  have hb45 : Below w4.heap.size w4 w5 := by rw [hw5]; exact (Below.refl _ _).alloc (Nat.le_refl _) _
  have hz5 : w5.heap.size = w4.heap.size + 1 := by rw [hw5]; simp
  have hb35 : Below w3.heap.size w3 w5 := below_next HB34.out hb45
  have hS5 := HSK.out w5 hb35
  rw [← hw5] at HRR ⊢
  have HB45 := Lib.hid hb45
  have HB35 := Lib.hid hb35
  have hcat := concatL w5 (some ⟨w4.heap.size, 0, none⟩) 2 (w4.heap.size + 1) [N.map Ln.s, ((L.drop T).take k).map Ln.s] HRR.out (by omega) (by simp) (by have := HNL.out; simp only [sizes, List.map_cons, List.map_nil, List.sum_cons, List.sum_nil, List.length_map, List.length_take, List.length_drop]; omega)
  have hflat : [N.map Ln.s, ((L.drop T).take k).map Ln.s].flatten = (N ++ (L.drop T).take k).map Ln.s := by simp
  rw [hflat] at hcat
  have HCAT := Lib.hid hcat
  have hz4 := HB34.out.size
  clear hw5 hb45 hb35 hflat hcat
  refine hK.out _ _ ?_ (fun hHeld => ?_)
  · exact hS5
  clear hK K
  refine wpAnyH_ready (rs := [10]) (by kernel_rfl) (by simp) ?_
  refine AllReadyH.cons rfl (fun K hK => ?_) AllReadyH.nil
  go_simp
  refine HCAT.out.mono ?_
  rintro e w6 ⟨v6, rfl, ho6, hb56⟩
  have hlen6 : ((N ++ (L.drop T).take k).map Ln.s).length = k + m := by have := HNL.out; simp; omega
  obtain ⟨A6, c6, hv6, hc6, _, hA6, hr6⟩ := ho6.row
  rw [hlen6] at hv6 hc6
  have hb46 := HB45.out.trans (hb56.mono HB45.out.size)
  have hb36 := below_next HB34.out hb46
  have hS6 := HSK.out w6 hb36
  have hG6 := HG3.out.below hb36
  have HB6 := Lib.hid (HB3.out.trans (hb36.mono HB3.out.size))
  have HG6 := Lib.hid hG6
  have HB46 := Lib.hid hb46
  have HB36 := Lib.hid hb36
  have HR6 := Lib.hid hr6
  have HO6 := Lib.hid ho6
  have HA6 := Lib.hid hA6
  rw [hv6]
  obtain ⟨w7, hrun, hh7, hf7, hz7⟩ := hG6.headCopy' hkL HPA.out 3 (pc := pc) A6 ((N ++ (L.drop T).take k).map Ln.s) (k + m) c6 w6.heap.size hr6 hlen6.symm (by rw [hlen6]; omega)
  have HH7 := Lib.hid hh7
  have HF7 := Lib.hid hf7
  have hcell7 : ∀ q j, q ≠ hb → q < w6.heap.size → w7.cell? ⟨q, j, none⟩ = w6.cell? ⟨q, j, none⟩ := fun q j hq hlt => World.cell?_of_block (w := w6) (a := ⟨q, j, none⟩) (hf7.block q hlt hq)
  have hp6 : p < w6.heap.size := by have := hb36.size; omega
  have hw6 : w.heap.size < w6.heap.size := by have := hb36.size; omega
  have hwhb : w.heap.size ≠ hb := by omega
  have hS7 : w7.cell? ⟨p, 0, none⟩ = some (.int .i64 (g.w : Int)) ∧ w7.cell? ⟨w.heap.size, 0, none⟩ = some (.bool sb) ∧ w7.cell? ⟨w.heap.size, 1, none⟩ = some (.bool su) ∧ w7.cell? ⟨w.heap.size, 2, none⟩ = some (.bool st) ∧ w7.cell? ⟨w.heap.size, 3, none⟩ = some (.int .i64 sf) ∧ w7.cell? ⟨w.heap.size, 4, none⟩ = some (.int .i64 sk) :=
    ⟨(hcell7 p 0 HPHB.out hp6).trans hS6.1, (hcell7 _ 0 hwhb hw6).trans hS6.2.1, (hcell7 _ 1 hwhb hw6).trans hS6.2.2.1, (hcell7 _ 2 hwhb hw6).trans hS6.2.2.2.1, (hcell7 _ 3 hwhb hw6).trans hS6.2.2.2.2.1, (hcell7 _ 4 hwhb hw6).trans hS6.2.2.2.2.2⟩
  clear hr6 hA6 hb56 hb46 hb36 hG6 hh7 hf7 hcell7
  dsimp only
  refine hK.out _ _ ?_ (fun hHeld => ?_)
  · exact hS6
  clear hK K
  refine wpAnyH_ready (rs := [11]) (by kernel_rfl) (by simp) ?_
  refine AllReadyH.cons rfl (fun K hK => ?_) AllReadyH.nil
  go_simp
  refine hK.out _ _ ?_ (fun hHeld => ?_)
  · exact hS7
  clear hK K
  refine wpAnyH_done (by kernel_rfl) ?_ _
  refine NoPanic.normal ?_
  clear hHeld
  go_wp2_with fail
  go_end0
  rw [HMAP.out N HNL.out HNX.out]
  exact ⟨rfl, down_final HG.out HG6.out HB6.out HBLK.out (HB3.out.size) HB46.out hkL HH7.out HF7.out⟩
end Go.Proofs.YtbpkklcegiiheaaDoor
