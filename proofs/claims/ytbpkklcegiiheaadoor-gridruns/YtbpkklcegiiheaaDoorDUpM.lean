/-
  Layer 9 (grid): part in one form; headers copied over a part of a grid's.
-/
import Derived.Test.YtbpkklcegiiheaaDoorDPart
namespace Go.Proofs.YtbpkklcegiiheaaDoor
open Go.RowKit Go.Lib KM

/-- From which line on, how many, how many of them go. -/
structure PartIs (g : Gr) (a b n : Int) (T k m : Nat) : Prop where
  le : T + k ≤ g.h
  few : m ≤ k
  up : ∀ s, gup g a b n s = (⟨g.w, g.h, upL g.ls g.w T (T + k) m s⟩, (g.ls.drop T).take m)
  down : ∀ s, gdown g a b n s = ⟨g.w, g.h, downL g.ls g.w T (T + k) m s⟩
theorem part_ok (w : World) {p hb hc : Nat} {L : List Ln} {g : Gr} (h : GridB w p hb hc L g) (hok : g.Ok) (a b n : Int) :
    ∃ T k m Pa pc, PartIs g a b n T k m ∧ (0 < k → Pa = some ⟨hb, T, none⟩) ∧ (Pa = none → pc = 0) ∧
    Calls Tryd.prog 42 #[.pointer (some ⟨p, 0, none⟩), .int .i64 a, .int .i64 b, .int .i64 n] w fun e w' => e = .returned (.tuple #[.slice Pa k pc, .int .i64 (m : Int)]) ∧ Below w.heap.size w w' := by
  by_cases hlt : max a 0 < min b (g.h : Int)
  · have hc := part_some w h hok a b n hlt
    have hn := nr_in (n := n) (a := 0) (b := min b (g.h : Int) - max a 0) (by omega)
    obtain ⟨m, hm⟩ := Int.eq_ofNat_of_zero_le hn.1
    obtain ⟨T, hT⟩ : ∃ T, T = (max a 0).toNat := ⟨_, rfl⟩
    obtain ⟨E, hE⟩ : ∃ E, E = (min b (g.h : Int)).toNat := ⟨_, rfl⟩
    have hTE : T + (E - T) = E := by omega
    rw [hm, ← hT, ← hE] at hc
    refine ⟨T, E - T, m, _, _, ⟨by omega, by omega, fun s => ?_, fun s => ?_⟩, fun _ => rfl, by simp, hc⟩
    · unfold gup
      rw [if_pos hlt, hm, ← hT, ← hE, hTE]
      rfl
    · unfold gdown
      rw [if_pos hlt, hm, ← hT, ← hE, hTE]
      rfl
  · refine ⟨0, 0, 0, none, 0, ⟨by omega, by omega, fun s => ?_, fun s => ?_⟩, fun h => absurd h (by omega), fun _ => rfl, part_none w h a b n hlt⟩
    · unfold gup upL
      rw [if_neg hlt]
      simp
    · unfold gdown downL
      rw [if_neg hlt]
      simp

section
variable {w w' : World} {p hb hc : Nat} {L : List Ln} {g : Gr}
/-- The headers of a part of a grid's lines, as a row. -/
theorem GridB.headRow (h : GridB w p hb hc L g) {T k : Nat} (hk : T + k ≤ L.length) {Pa : Option Addr} (hP : 0 < k → Pa = some ⟨hb, T, none⟩) : linE.Row w w.heap.size Pa (((L.drop T).take k).map Ln.s) := fun hp => by
  have hk0 : 0 < k := by simp at hp; omega
  have hh : linE.Own w 0 (.slice (some ⟨hb, 0, none⟩) (L.map Ln.s).length hc) (L.map Ln.s) := by rw [List.length_map]; exact h.head
  have hr := (El.Row.of_own hh).mid (k := T) (j := T + k) (c := hc) (by omega) (by simpa using hk) (by simpa using h.hcap)
  have hcap := h.hcap
  rw [linE.cutA_some _ _ _ _ (by omega)] at hr
  have e : ((L.map Ln.s).drop T).take (T + k - T) = ((L.drop T).take k).map Ln.s := by rw [List.map_take, List.map_drop]; congr 1; omega
  rw [e] at hr
  have := hr hp
  rw [hP hk0]
  simpa [linE] using this
/-- Headers copied over a part of a grid's. -/
theorem GridB.headCopy (h : GridB w p hb hc L g) {T k : Nat} (hk : T + k ≤ L.length) {Pa : Option Addr} {pc : Nat} (hP : 0 < k → Pa = some ⟨hb, T, none⟩) (ty : TypeId) (A : Option Addr) (M : List Sl) (n c B : Nat) (hr : linE.Row w B A M) (hn : n = M.length) (hM : M.length = k) :
    ∃ w', (Builtin.copy_ #[29, 29] ty #[.slice Pa k pc, .slice A n c]).run Tryd.prog w = .ok (.int .i64 (k : Int)) w' ∧ linE.Own w' 0 (.slice (some ⟨hb, 0, none⟩) L.length hc) ((L.map Ln.s).take T ++ M ++ (L.map Ln.s).drop (T + k)) ∧ Fr (· = hb) w w' ∧ w'.heap.size = w.heap.size := by
  obtain ⟨w', h1, h2, h3, h4⟩ := copyL h.head (by rw [List.length_map]) ty Pa k pc A M n c B T k hr hn (by omega) hP (by simpa using hk)
  rw [List.take_of_length_le (l := M) (by omega)] at h2
  exact ⟨w', h1, h2, h3, h4⟩
/-- .. as many of them as there is room for. -/
theorem GridB.headCopy' (h : GridB w p hb hc L g) {T k : Nat} (hk : T + k ≤ L.length) {Pa : Option Addr} {pc : Nat} (hP : 0 < k → Pa = some ⟨hb, T, none⟩) (ty : TypeId) (A : Option Addr) (M : List Sl) (n c B : Nat) (hr : linE.Row w B A M) (hn : n = M.length) (hM : k ≤ M.length) :
    ∃ w', (Builtin.copy_ #[29, 29] ty #[.slice Pa k pc, .slice A n c]).run Tryd.prog w = .ok (.int .i64 (k : Int)) w' ∧ linE.Own w' 0 (.slice (some ⟨hb, 0, none⟩) L.length hc) ((L.map Ln.s).take T ++ M.take k ++ (L.map Ln.s).drop (T + k)) ∧ Fr (· = hb) w w' ∧ w'.heap.size = w.heap.size :=
  copyL h.head (by rw [List.length_map]) ty Pa k pc A M n c B T k hr hn (by omega) hP (by simpa using hk)
/-- A part of a grid's lines replaced, some of them by new ones. -/
theorem GridB.splice (h : GridB w p hb hc L g) {X Y Z Q N : List Ln} (hL : L = X ++ Y ++ Z) (hQ : Q.Sublist (Y ++ N) ∨ Q.Sublist (N ++ Y)) (hN : ∀ x ∈ N, x.b ∉ foot p hb L) (hNn : (N.map Ln.b).Nodup) (hlen : Q.length = Y.length)
    (head : linE.Own w' 0 (.slice (some ⟨hb, 0, none⟩) L.length hc) ((X ++ Q ++ Z).map Ln.s)) (rowsN : ∀ x ∈ N, celE.Own w' 0 x.s.v x.l) (hrest : ∀ k ∈ foot p hb L, k ≠ hb → w'.heap[k]? = w.heap[k]?) :
    GridB w' p hb hc (X ++ Q ++ Z) ⟨g.w, g.h, (X ++ Q ++ Z).map Ln.l⟩ := by
  have hll : (X ++ Q ++ Z).length = L.length := by rw [hL]; simp [hlen]
  have hQm : ∀ x ∈ Q, x ∈ Y ∨ x ∈ N := fun x hx => by
    rcases hQ with hQ | hQ
    · exact List.mem_append.1 (hQ.subset hx)
    · exact (List.mem_append.1 (hQ.subset hx)).symm
  have hold : ∀ x ∈ X ++ Q ++ Z, x ∈ L ∨ x ∈ N := fun x hx => by
    rw [hL]
    simp only [List.mem_append] at hx ⊢
    rcases hx with (hx | hx) | hx
    · exact .inl (.inl (.inl hx))
    · rcases hQm x hx with hx | hx
      · exact .inl (.inl (.inr hx))
      · exact .inr hx
    · exact .inl (.inr hx)
  have hnd := h.nodup
  simp only [foot, List.nodup_cons, List.mem_cons, List.mem_map, not_or, not_exists, not_and] at hnd
  obtain ⟨⟨hph, hp⟩, hh, hLn⟩ := hnd
  have hbN : ∀ x ∈ N, x.b ≠ p ∧ x.b ≠ hb ∧ ∀ z ∈ L, z.b ≠ x.b := fun x hx => by
    have := hN x hx
    simp only [foot, List.mem_cons, List.mem_map, not_or, not_exists, not_and] at this
    exact ⟨this.1, this.2.1, this.2.2⟩
  refine ⟨?_, ?_, fun x hx => ?_, rfl, ?_⟩
  · rw [hll]
    exact (hrest p (by simp [foot]) hph).trans h.cells
  · rw [hll]; exact head
  · rcases hold x hx with hx | hx
    · exact (h.rows x hx).keep fun k e => by
        cases e
        exact hrest x.b (by simp only [foot, List.mem_cons, List.mem_map]; exact .inr (.inr ⟨x, hx, rfl⟩)) (hh x hx)
    · exact rowsN x hx
  · simp only [foot, List.nodup_cons, List.mem_cons, List.mem_map, not_or, not_exists, not_and]
    refine ⟨⟨hph, fun x hx => ?_⟩, fun x hx => ?_, ?_⟩
    · rcases hold x hx with hx | hx
      · exact hp x hx
      · exact (hbN x hx).1
    · rcases hold x hx with hx | hx
      · exact hh x hx
      · exact (hbN x hx).2.1
    · rw [hL] at hLn hbN
      simp only [List.map_append, List.nodup_append, List.mem_append, List.mem_map] at hLn ⊢
      obtain ⟨⟨nX, nY, dXY⟩, nZ, dZ⟩ := hLn
      have nYN : ((Y ++ N).map Ln.b).Nodup := by
        rw [List.map_append, List.nodup_append]
        refine ⟨nY, hNn, fun a ha c hc' e => ?_⟩
        obtain ⟨y, hy, rfl⟩ := List.mem_map.1 ha
        obtain ⟨z, hz, rfl⟩ := List.mem_map.1 hc'
        exact (hbN z hz).2.2 y (by simp [hy]) e
      have nQ : (Q.map Ln.b).Nodup := by
        rcases hQ with hQ | hQ
        · exact nYN.sublist (hQ.map _)
        · have : ((N ++ Y).map Ln.b).Nodup := by
            rw [List.map_append] at nYN ⊢
            exact (List.perm_append_comm.nodup_iff).1 nYN
          exact this.sublist (hQ.map _)
      refine ⟨⟨nX, nQ, fun a ha c hc' e => ?_⟩, nZ, fun a ha c hc' e => ?_⟩
      · obtain ⟨x, hx, rfl⟩ := ha
        obtain ⟨q, hq, rfl⟩ := hc'
        rcases hQm q hq with hq | hq
        · exact dXY _ ⟨x, hx, rfl⟩ _ ⟨q, hq, rfl⟩ e
        · exact (hbN q hq).2.2 x (by simp [hx]) e
      · obtain ⟨z, hz, rfl⟩ := hc'
        rcases ha with ⟨x, hx, rfl⟩ | ⟨q, hq, rfl⟩
        · exact dZ _ (.inl ⟨x, hx, rfl⟩) _ ⟨z, hz, rfl⟩ e
        · rcases hQm q hq with hq | hq
          · exact dZ _ (.inr ⟨q, hq, rfl⟩) _ ⟨z, hz, rfl⟩ e
          · exact (hbN q hq).2.2 z (by simp [hz]) e.symm
end
/-- A new block of two slices. -/
theorem rows2 {α : Type} {E : El α} {w : World} {B : Nat} {A1 A2 : Option Addr} {c1 c2 n1 n2 : Nat} {l1 l2 : List α} (h1 : E.Row w B A1 l1) (h2 : E.Row w B A2 l2) (e1 : A1 = none → c1 = 0) (e2 : A2 = none → c2 = 0) (m1 : n1 = l1.length) (m2 : n2 = l2.length) (hB : B ≤ w.heap.size) (t : TypeId) :
    E.Rows (w.alloc (.cells #[.slice A1 n1 c1, .slice A2 n2 c2] t)) (w.heap.size + 1) (some ⟨w.heap.size, 0, none⟩) [l1, l2] := fun _ => by
  subst m1 m2
  have hb : Below B w (w.alloc (.cells #[.slice A1 l1.length c1, .slice A2 l2.length c2] t)) := (Below.refl _ _).alloc hB _
  refine ⟨w.heap.size, 0, rfl, by omega, fun j hj => ?_⟩
  match j, hj with
  | 0, _ => exact ⟨A1, c1, by simp, (h1.below hb).mono (by omega), e1⟩
  | 1, _ => exact ⟨A2, c2, by simp, (h2.below hb).mono (by omega), e2⟩
end Go.Proofs.YtbpkklcegiiheaaDoor
