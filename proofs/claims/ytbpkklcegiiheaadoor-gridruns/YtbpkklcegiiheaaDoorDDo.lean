/-
  Layer 9's laws: a deed done.
-/
import Derived.Test.YtbpkklcegiiheaaDoorDPut
import Derived.Test.YtbpkklcegiiheaaDoorDClear
import Derived.Test.YtbpkklcegiiheaaDoorDOpenL
import Derived.Test.YtbpkklcegiiheaaDoorDUp
import Derived.Test.YtbpkklcegiiheaaDoorDResize
import Derived.Test.YtbpkklcegiiheaaDoorDLawK
namespace Go.Proofs.YtbpkklcegiiheaaDoor
open Go.RowKit Go.Lib KM

/-- A deed in memory. -/
def DeIn (w : World) (b : Nat) (d : De) : Prop := w.heap[b]? = some (.cells #[.int .i64 d.kind, .int .i64 d.a, .int .i64 d.b, .int .i64 d.c, .int .i32 d.cel.rune, .bool d.cel.sty.bold, .bool d.cel.sty.under, .bool d.cel.sty.turned, .int .i64 d.cel.sty.fore, .int .i64 d.cel.sty.back] 39 (0, 0))
theorem DeIn.cells {w : World} {b : Nat} {d : De} (h : DeIn w b d) : w.cell? ⟨b, 0, none⟩ = some (.int .i64 d.kind) ∧ w.cell? ⟨b, 1, none⟩ = some (.int .i64 d.a) ∧ w.cell? ⟨b, 2, none⟩ = some (.int .i64 d.b) ∧ w.cell? ⟨b, 3, none⟩ = some (.int .i64 d.c) ∧
    w.cell? ⟨b, 4, none⟩ = some (.int .i32 d.cel.rune) ∧ w.cell? ⟨b, 5, none⟩ = some (.bool d.cel.sty.bold) ∧ w.cell? ⟨b, 6, none⟩ = some (.bool d.cel.sty.under) ∧ w.cell? ⟨b, 7, none⟩ = some (.bool d.cel.sty.turned) ∧ w.cell? ⟨b, 8, none⟩ = some (.int .i64 d.cel.sty.fore) ∧ w.cell? ⟨b, 9, none⟩ = some (.int .i64 d.cel.sty.back) := by
  unfold DeIn at h
  refine ⟨?_, ?_, ?_, ?_, ?_, ?_, ?_, ?_, ?_, ?_⟩ <;> simp [World.cell?, h]
theorem DeIn.keep {w w' : World} {b : Nat} {d : De} (h : DeIn w b d) (hk : w'.heap[b]? = w.heap[b]?) : DeIn w' b d := hk.trans h
theorem DeIn.lt {w : World} {b : Nat} {d : De} (h : DeIn w b d) : b < w.heap.size := (Array.getElem?_eq_some_iff.1 h).1
theorem DeIn.below {w w' : World} {b : Nat} {d : De} (h : DeIn w b d) (hb : Below w.heap.size w w') : DeIn w' b d := h.keep (hb.block b h.lt)
theorem DeIn.fresh (w : World) (d : De) : DeIn (w.alloc (.cells #[.int .i64 d.kind, .int .i64 d.a, .int .i64 d.b, .int .i64 d.c, .int .i32 d.cel.rune, .bool d.cel.sty.bold, .bool d.cel.sty.under, .bool d.cel.sty.turned, .int .i64 d.cel.sty.fore, .int .i64 d.cel.sty.back] 39)) w.heap.size d := heap_alloc_new w _

theorem UpPost.of_g {w w1 w2 : World} {F : List Nat} {p : Nat} {g' : Gr} (hb : Below w.heap.size w w1) (h : GPost w1 F p g' w2) : UpPost w F p (g', []) (.returned (.slice none 0 0)) w2 := by
  obtain ⟨F', h1, h2⟩ := h.at_
  refine ⟨none, 0, F', rfl, h1, fun k hk => ?_, (Fr.of_below hb).trans' h.fr, LinesAt.nil, fun _ => rfl⟩
  rcases h2 k hk with h | h
  · exact .inl h
  · have := hb.size
    exact .inr (by omega)
theorem UpPost.of_up {w w1 w2 : World} {F : List Nat} {p : Nat} {r : Gr × List (List Cel)} {e : Ending} (hb : Below w.heap.size w w1) (h : UpPost w1 F p r e w2) : UpPost w F p r e w2 := by
  obtain ⟨A, c, F', h1, h2, h3, h4, h5, h6⟩ := h
  refine ⟨A, c, F', h1, h2, fun k hk => ?_, (Fr.of_below hb).trans' h4, h5, h6⟩
  rcases h3 k hk with h | h
  · exact .inl h
  · have := hb.size
    exact .inr (by omega)

set_option maxRecDepth 100000 in
set_option maxHeartbeats 4000000 in
theorem do_ok0 (w : World) (hT : Tabs w) {p : Nat} {F : List Nat} {g : Gr} (h : GridAt w F p g) (hok : g.Ok) (d : De) (hk : d.k = 0) :
    Calls Tryd.prog 16 #[.pointer (some ⟨p, 0, none⟩), deV d] w (UpPost w F p (gput g d.a d.b d.cel, [])) := by
  obtain ⟨w1, hw1⟩ : ∃ w1, w1 = w.alloc (.cells #[.int .i64 d.kind, .int .i64 d.a, .int .i64 d.b, .int .i64 d.c, .int .i32 d.cel.rune, .bool d.cel.sty.bold, .bool d.cel.sty.under, .bool d.cel.sty.turned, .int .i64 d.cel.sty.fore, .int .i64 d.cel.sty.back] 39) := ⟨_, rfl⟩
  have hb1 : Below w.heap.size w w1 := by rw [hw1]; exact (Below.refl _ _).alloc (Nat.le_refl _) _
  have hd1 : DeIn w1 w.heap.size d := by rw [hw1]; exact DeIn.fresh w d
  have HD1 := Lib.hid hd1
  have HB1 := Lib.hid hb1
  have W1 := Lib.hid hw1
  have HAT := Lib.hid h
  have HT := Lib.hid hT
  have HTM := Lib.hid (fun v => ltame_ok v d.cel.sty)
  have HKD : Hid (∀ v, Calls Tryd.prog 35 #[deV d] v fun e w' => e = .returned (.int .i64 0) ∧ Below v.heap.size v w') := Lib.hid (fun v => by
    have := kind_ok v d
    rw [hk] at this
    exact this)
  have HC := Lib.hid (fun (v : World) (hv : Tabs v) (ha : GridAt v F p g) => put_ok v hv ha hok d.a d.b d.cel)
  clear hw1 hb1 hd1 h hok hT hk
  obtain ⟨kd, a, b, c, ⟨r, ⟨sb, su, st, sf, sk⟩⟩⟩ := d
  obtain ⟨q0, q1, q2, q3, q4, q5, q6, q7, q8, q9⟩ := HD1.out.cells
  simp only [deV, styV, celV] at *
  generalize stame ⟨sb, su, st, sf, sk⟩ = s' at *
  obtain ⟨tb, tu, tt, tf, tk⟩ := s'
  simp only at *
  obtain ⟨R, hR⟩ : ∃ R, R = ((gput g a b ⟨r, ⟨sb, su, st, sf, sk⟩⟩, []) : Gr × List (List Cel)) := ⟨_, rfl⟩
  rw [← hR]
  have HR := Lib.hid hR
  clear hR
  go_enter Tryd.func16, Tryd.ntmps16
  go_wp2_with fail
  rw [← W1.out]
  refine (HTM.out w1).mono ?_
  rintro e w2 ⟨rfl, hb2⟩
  clear q0 q1 q2 q3 q4 q5 q6 q7 q8 q9
  have HD2 := Lib.hid (HD1.out.below hb2)
  have HB2 := Lib.hid (below_next HB1.out hb2)
  obtain ⟨w3, hw3⟩ : ∃ w3, w3 = w2.alloc (.cells #[.bool tb, .bool tu, .bool tt, .int .i64 tf, .int .i64 tk] 35) := ⟨_, rfl⟩
  have hb3 : Below w2.heap.size w2 w3 := by rw [hw3]; exact (Below.refl _ _).alloc (Nat.le_refl _) _
  have hs3 : StyIn w3 w2.heap.size ⟨tb, tu, tt, tf, tk⟩ := by rw [hw3]; exact StyIn.fresh w2 ⟨tb, tu, tt, tf, tk⟩
  obtain ⟨q0, q1, q2, q3, q4, q5, q6, q7, q8, q9⟩ := (HD2.out.below hb3).cells
  simp only at q0 q1 q2 q3 q4 q5 q6 q7 q8 q9
  have HD3 := Lib.hid (HD2.out.below hb3)
  have HS3 := Lib.hid hs3
  have HB3 := Lib.hid (below_next HB2.out hb3)
  have W3 := Lib.hid hw3
  clear hb2 hw3 hb3 hs3
  go_upto_region 2 with fail
  rw [← W3.out]
  go_wp2_with fail
  refine (HKD.out w3).mono ?_
  rintro e w4 ⟨rfl, hb4⟩
  clear q0 q1 q2 q3 q4 q5 q6 q7 q8 q9
  obtain ⟨q0, q1, q2, q3, q4, q5, q6, q7, q8, q9⟩ := (HD3.out.below hb4).cells
  obtain ⟨k0, k1, k2, k3, k4⟩ := (HS3.out.below hb4).cells
  simp only at q0 q1 q2 q3 q4 q5 q6 q7 q8 q9 k0 k1 k2 k3 k4
  have HB4 := Lib.hid (below_next HB3.out hb4)
  have HC4 := Lib.hid (HC.out w4 (HT.out.on HB4.out HT.out.room) (HAT.out.below HB4.out))
  clear hb4
  go_wp2_with fail
  refine HC4.out.mono ?_
  rintro e w5 ⟨rfl, hp⟩
  have HP := Lib.hid (UpPost.of_g HB4.out hp)
  rw [← HR.out] at HP
  clear hp
  go_wp2_with fail
  refine bodyPost_ret (v := .slice none 0 0) ?_ rfl HP.out
  simp [results, Tryd.results16, go_sem]
set_option maxRecDepth 100000 in
set_option maxHeartbeats 4000000 in
theorem do_ok1 (w : World) (hT : Tabs w) {p : Nat} {F : List Nat} {g : Gr} (h : GridAt w F p g) (hok : g.Ok) (d : De) (hk : d.k = 1) :
    Calls Tryd.prog 16 #[.pointer (some ⟨p, 0, none⟩), deV d] w (UpPost w F p (gclear g d.a d.b d.c (stame d.cel.sty), [])) := by
  obtain ⟨w1, hw1⟩ : ∃ w1, w1 = w.alloc (.cells #[.int .i64 d.kind, .int .i64 d.a, .int .i64 d.b, .int .i64 d.c, .int .i32 d.cel.rune, .bool d.cel.sty.bold, .bool d.cel.sty.under, .bool d.cel.sty.turned, .int .i64 d.cel.sty.fore, .int .i64 d.cel.sty.back] 39) := ⟨_, rfl⟩
  have hb1 : Below w.heap.size w w1 := by rw [hw1]; exact (Below.refl _ _).alloc (Nat.le_refl _) _
  have hd1 : DeIn w1 w.heap.size d := by rw [hw1]; exact DeIn.fresh w d
  have HD1 := Lib.hid hd1
  have HB1 := Lib.hid hb1
  have W1 := Lib.hid hw1
  have HAT := Lib.hid h
  have HT := Lib.hid hT
  have HTM := Lib.hid (fun v => ltame_ok v d.cel.sty)
  have HKD : Hid (∀ v, Calls Tryd.prog 35 #[deV d] v fun e w' => e = .returned (.int .i64 1) ∧ Below v.heap.size v w') := Lib.hid (fun v => by
    have := kind_ok v d
    rw [hk] at this
    exact this)
  have HC := Lib.hid (fun (v : World) (hv : Tabs v) (ha : GridAt v F p g) => clear_ok v hv ha hok d.a d.b d.c (stame d.cel.sty))
  clear hw1 hb1 hd1 h hok hT hk
  obtain ⟨kd, a, b, c, ⟨r, ⟨sb, su, st, sf, sk⟩⟩⟩ := d
  obtain ⟨q0, q1, q2, q3, q4, q5, q6, q7, q8, q9⟩ := HD1.out.cells
  simp only [deV, styV] at *
  generalize stame ⟨sb, su, st, sf, sk⟩ = s' at *
  obtain ⟨tb, tu, tt, tf, tk⟩ := s'
  simp only at *
  obtain ⟨R, hR⟩ : ∃ R, R = ((gclear g a b c ⟨tb, tu, tt, tf, tk⟩, []) : Gr × List (List Cel)) := ⟨_, rfl⟩
  rw [← hR]
  have HR := Lib.hid hR
  clear hR
  go_enter Tryd.func16, Tryd.ntmps16
  go_wp2_with fail
  rw [← W1.out]
  refine (HTM.out w1).mono ?_
  rintro e w2 ⟨rfl, hb2⟩
  clear q0 q1 q2 q3 q4 q5 q6 q7 q8 q9
  have HD2 := Lib.hid (HD1.out.below hb2)
  have HB2 := Lib.hid (below_next HB1.out hb2)
  obtain ⟨w3, hw3⟩ : ∃ w3, w3 = w2.alloc (.cells #[.bool tb, .bool tu, .bool tt, .int .i64 tf, .int .i64 tk] 35) := ⟨_, rfl⟩
  have hb3 : Below w2.heap.size w2 w3 := by rw [hw3]; exact (Below.refl _ _).alloc (Nat.le_refl _) _
  have hs3 : StyIn w3 w2.heap.size ⟨tb, tu, tt, tf, tk⟩ := by rw [hw3]; exact StyIn.fresh w2 ⟨tb, tu, tt, tf, tk⟩
  obtain ⟨q0, q1, q2, q3, q4, q5, q6, q7, q8, q9⟩ := (HD2.out.below hb3).cells
  simp only at q0 q1 q2 q3 q4 q5 q6 q7 q8 q9
  have HD3 := Lib.hid (HD2.out.below hb3)
  have HS3 := Lib.hid hs3
  have HB3 := Lib.hid (below_next HB2.out hb3)
  have W3 := Lib.hid hw3
  clear hb2 hw3 hb3 hs3
  go_upto_region 2 with fail
  rw [← W3.out]
  go_wp2_with fail
  refine (HKD.out w3).mono ?_
  rintro e w4 ⟨rfl, hb4⟩
  clear q0 q1 q2 q3 q4 q5 q6 q7 q8 q9
  obtain ⟨q0, q1, q2, q3, q4, q5, q6, q7, q8, q9⟩ := (HD3.out.below hb4).cells
  obtain ⟨k0, k1, k2, k3, k4⟩ := (HS3.out.below hb4).cells
  simp only at q0 q1 q2 q3 q4 q5 q6 q7 q8 q9 k0 k1 k2 k3 k4
  have HB4 := Lib.hid (below_next HB3.out hb4)
  have HC4 := Lib.hid (HC.out w4 (HT.out.on HB4.out HT.out.room) (HAT.out.below HB4.out))
  clear hb4
  go_wp2_with fail
  refine HC4.out.mono ?_
  rintro e w5 ⟨rfl, hp⟩
  have HP := Lib.hid (UpPost.of_g HB4.out hp)
  rw [← HR.out] at HP
  clear hp
  go_wp2_with fail
  refine bodyPost_ret (v := .slice none 0 0) ?_ rfl HP.out
  simp [results, Tryd.results16, go_sem]
set_option maxRecDepth 100000 in
set_option maxHeartbeats 4000000 in
theorem do_ok2 (w : World) (hT : Tabs w) {p : Nat} {F : List Nat} {g : Gr} (h : GridAt w F p g) (hok : g.Ok) (d : De) (hk : d.k = 2) :
    Calls Tryd.prog 16 #[.pointer (some ⟨p, 0, none⟩), deV d] w (UpPost w F p (gup g d.a d.b d.c (stame d.cel.sty))) := by
  obtain ⟨w1, hw1⟩ : ∃ w1, w1 = w.alloc (.cells #[.int .i64 d.kind, .int .i64 d.a, .int .i64 d.b, .int .i64 d.c, .int .i32 d.cel.rune, .bool d.cel.sty.bold, .bool d.cel.sty.under, .bool d.cel.sty.turned, .int .i64 d.cel.sty.fore, .int .i64 d.cel.sty.back] 39) := ⟨_, rfl⟩
  have hb1 : Below w.heap.size w w1 := by rw [hw1]; exact (Below.refl _ _).alloc (Nat.le_refl _) _
  have hd1 : DeIn w1 w.heap.size d := by rw [hw1]; exact DeIn.fresh w d
  have HD1 := Lib.hid hd1
  have HB1 := Lib.hid hb1
  have W1 := Lib.hid hw1
  have HAT := Lib.hid h
  have HT := Lib.hid hT
  have HTM := Lib.hid (fun v => ltame_ok v d.cel.sty)
  have HKD : Hid (∀ v, Calls Tryd.prog 35 #[deV d] v fun e w' => e = .returned (.int .i64 2) ∧ Below v.heap.size v w') := Lib.hid (fun v => by
    have := kind_ok v d
    rw [hk] at this
    exact this)
  have HC := Lib.hid (fun (v : World) (hv : Tabs v) (ha : GridAt v F p g) => up_ok v ha hok d.a d.b d.c (stame d.cel.sty))
  clear hw1 hb1 hd1 h hok hT hk
  obtain ⟨kd, a, b, c, ⟨r, ⟨sb, su, st, sf, sk⟩⟩⟩ := d
  obtain ⟨q0, q1, q2, q3, q4, q5, q6, q7, q8, q9⟩ := HD1.out.cells
  simp only [deV, styV] at *
  generalize stame ⟨sb, su, st, sf, sk⟩ = s' at *
  obtain ⟨tb, tu, tt, tf, tk⟩ := s'
  simp only at *
  obtain ⟨R, hR⟩ : ∃ R, R = ((gup g a b c ⟨tb, tu, tt, tf, tk⟩) : Gr × List (List Cel)) := ⟨_, rfl⟩
  rw [← hR]
  have HR := Lib.hid hR
  clear hR
  go_enter Tryd.func16, Tryd.ntmps16
  go_wp2_with fail
  rw [← W1.out]
  refine (HTM.out w1).mono ?_
  rintro e w2 ⟨rfl, hb2⟩
  clear q0 q1 q2 q3 q4 q5 q6 q7 q8 q9
  have HD2 := Lib.hid (HD1.out.below hb2)
  have HB2 := Lib.hid (below_next HB1.out hb2)
  obtain ⟨w3, hw3⟩ : ∃ w3, w3 = w2.alloc (.cells #[.bool tb, .bool tu, .bool tt, .int .i64 tf, .int .i64 tk] 35) := ⟨_, rfl⟩
  have hb3 : Below w2.heap.size w2 w3 := by rw [hw3]; exact (Below.refl _ _).alloc (Nat.le_refl _) _
  have hs3 : StyIn w3 w2.heap.size ⟨tb, tu, tt, tf, tk⟩ := by rw [hw3]; exact StyIn.fresh w2 ⟨tb, tu, tt, tf, tk⟩
  obtain ⟨q0, q1, q2, q3, q4, q5, q6, q7, q8, q9⟩ := (HD2.out.below hb3).cells
  simp only at q0 q1 q2 q3 q4 q5 q6 q7 q8 q9
  have HD3 := Lib.hid (HD2.out.below hb3)
  have HS3 := Lib.hid hs3
  have HB3 := Lib.hid (below_next HB2.out hb3)
  have W3 := Lib.hid hw3
  clear hb2 hw3 hb3 hs3
  go_upto_region 2 with fail
  rw [← W3.out]
  go_wp2_with fail
  refine (HKD.out w3).mono ?_
  rintro e w4 ⟨rfl, hb4⟩
  clear q0 q1 q2 q3 q4 q5 q6 q7 q8 q9
  obtain ⟨q0, q1, q2, q3, q4, q5, q6, q7, q8, q9⟩ := (HD3.out.below hb4).cells
  obtain ⟨k0, k1, k2, k3, k4⟩ := (HS3.out.below hb4).cells
  simp only at q0 q1 q2 q3 q4 q5 q6 q7 q8 q9 k0 k1 k2 k3 k4
  have HB4 := Lib.hid (below_next HB3.out hb4)
  have HC4 := Lib.hid (HC.out w4 (HT.out.on HB4.out HT.out.room) (HAT.out.below HB4.out))
  rw [← HR.out] at HC4
  clear hb4
  go_wp2_with fail
  refine HC4.out.mono ?_
  rintro e w5 hp
  have HP := Lib.hid (UpPost.of_up HB4.out hp)
  obtain ⟨A, cc, F', rfl, -⟩ := hp
  go_wp2_with fail
  refine bodyPost_ret (v := .slice A _ cc) ?_ rfl HP.out
  simp [results, Tryd.results16, go_sem]
set_option maxRecDepth 100000 in
set_option maxHeartbeats 4000000 in
theorem do_ok3 (w : World) (hT : Tabs w) {p : Nat} {F : List Nat} {g : Gr} (h : GridAt w F p g) (hok : g.Ok) (d : De) (hk : d.k = 3) :
    Calls Tryd.prog 16 #[.pointer (some ⟨p, 0, none⟩), deV d] w (UpPost w F p (gdown g d.a d.b d.c (stame d.cel.sty), [])) := by
  obtain ⟨w1, hw1⟩ : ∃ w1, w1 = w.alloc (.cells #[.int .i64 d.kind, .int .i64 d.a, .int .i64 d.b, .int .i64 d.c, .int .i32 d.cel.rune, .bool d.cel.sty.bold, .bool d.cel.sty.under, .bool d.cel.sty.turned, .int .i64 d.cel.sty.fore, .int .i64 d.cel.sty.back] 39) := ⟨_, rfl⟩
  have hb1 : Below w.heap.size w w1 := by rw [hw1]; exact (Below.refl _ _).alloc (Nat.le_refl _) _
  have hd1 : DeIn w1 w.heap.size d := by rw [hw1]; exact DeIn.fresh w d
  have HD1 := Lib.hid hd1
  have HB1 := Lib.hid hb1
  have W1 := Lib.hid hw1
  have HAT := Lib.hid h
  have HT := Lib.hid hT
  have HTM := Lib.hid (fun v => ltame_ok v d.cel.sty)
  have HKD : Hid (∀ v, Calls Tryd.prog 35 #[deV d] v fun e w' => e = .returned (.int .i64 3) ∧ Below v.heap.size v w') := Lib.hid (fun v => by
    have := kind_ok v d
    rw [hk] at this
    exact this)
  have HC := Lib.hid (fun (v : World) (hv : Tabs v) (ha : GridAt v F p g) => down_ok v ha hok d.a d.b d.c (stame d.cel.sty))
  clear hw1 hb1 hd1 h hok hT hk
  obtain ⟨kd, a, b, c, ⟨r, ⟨sb, su, st, sf, sk⟩⟩⟩ := d
  obtain ⟨q0, q1, q2, q3, q4, q5, q6, q7, q8, q9⟩ := HD1.out.cells
  simp only [deV, styV] at *
  generalize stame ⟨sb, su, st, sf, sk⟩ = s' at *
  obtain ⟨tb, tu, tt, tf, tk⟩ := s'
  simp only at *
  obtain ⟨R, hR⟩ : ∃ R, R = ((gdown g a b c ⟨tb, tu, tt, tf, tk⟩, []) : Gr × List (List Cel)) := ⟨_, rfl⟩
  rw [← hR]
  have HR := Lib.hid hR
  clear hR
  go_enter Tryd.func16, Tryd.ntmps16
  go_wp2_with fail
  rw [← W1.out]
  refine (HTM.out w1).mono ?_
  rintro e w2 ⟨rfl, hb2⟩
  clear q0 q1 q2 q3 q4 q5 q6 q7 q8 q9
  have HD2 := Lib.hid (HD1.out.below hb2)
  have HB2 := Lib.hid (below_next HB1.out hb2)
  obtain ⟨w3, hw3⟩ : ∃ w3, w3 = w2.alloc (.cells #[.bool tb, .bool tu, .bool tt, .int .i64 tf, .int .i64 tk] 35) := ⟨_, rfl⟩
  have hb3 : Below w2.heap.size w2 w3 := by rw [hw3]; exact (Below.refl _ _).alloc (Nat.le_refl _) _
  have hs3 : StyIn w3 w2.heap.size ⟨tb, tu, tt, tf, tk⟩ := by rw [hw3]; exact StyIn.fresh w2 ⟨tb, tu, tt, tf, tk⟩
  obtain ⟨q0, q1, q2, q3, q4, q5, q6, q7, q8, q9⟩ := (HD2.out.below hb3).cells
  simp only at q0 q1 q2 q3 q4 q5 q6 q7 q8 q9
  have HD3 := Lib.hid (HD2.out.below hb3)
  have HS3 := Lib.hid hs3
  have HB3 := Lib.hid (below_next HB2.out hb3)
  have W3 := Lib.hid hw3
  clear hb2 hw3 hb3 hs3
  go_upto_region 2 with fail
  rw [← W3.out]
  go_wp2_with fail
  refine (HKD.out w3).mono ?_
  rintro e w4 ⟨rfl, hb4⟩
  clear q0 q1 q2 q3 q4 q5 q6 q7 q8 q9
  obtain ⟨q0, q1, q2, q3, q4, q5, q6, q7, q8, q9⟩ := (HD3.out.below hb4).cells
  obtain ⟨k0, k1, k2, k3, k4⟩ := (HS3.out.below hb4).cells
  simp only at q0 q1 q2 q3 q4 q5 q6 q7 q8 q9 k0 k1 k2 k3 k4
  have HB4 := Lib.hid (below_next HB3.out hb4)
  have HC4 := Lib.hid (HC.out w4 (HT.out.on HB4.out HT.out.room) (HAT.out.below HB4.out))
  clear hb4
  go_wp2_with fail
  refine HC4.out.mono ?_
  rintro e w5 ⟨rfl, hp⟩
  have HP := Lib.hid (UpPost.of_g HB4.out hp)
  rw [← HR.out] at HP
  clear hp
  go_wp2_with fail
  refine bodyPost_ret (v := .slice none 0 0) ?_ rfl HP.out
  simp [results, Tryd.results16, go_sem]
set_option maxRecDepth 100000 in
set_option maxHeartbeats 4000000 in
theorem do_ok4 (w : World) (hT : Tabs w) {p : Nat} {F : List Nat} {g : Gr} (h : GridAt w F p g) (hok : g.Ok) (d : De) (hk : d.k = 4) :
    Calls Tryd.prog 16 #[.pointer (some ⟨p, 0, none⟩), deV d] w (UpPost w F p (gopen g d.a d.b d.c (stame d.cel.sty), [])) := by
  obtain ⟨w1, hw1⟩ : ∃ w1, w1 = w.alloc (.cells #[.int .i64 d.kind, .int .i64 d.a, .int .i64 d.b, .int .i64 d.c, .int .i32 d.cel.rune, .bool d.cel.sty.bold, .bool d.cel.sty.under, .bool d.cel.sty.turned, .int .i64 d.cel.sty.fore, .int .i64 d.cel.sty.back] 39) := ⟨_, rfl⟩
  have hb1 : Below w.heap.size w w1 := by rw [hw1]; exact (Below.refl _ _).alloc (Nat.le_refl _) _
  have hd1 : DeIn w1 w.heap.size d := by rw [hw1]; exact DeIn.fresh w d
  have HD1 := Lib.hid hd1
  have HB1 := Lib.hid hb1
  have W1 := Lib.hid hw1
  have HAT := Lib.hid h
  have HT := Lib.hid hT
  have HTM := Lib.hid (fun v => ltame_ok v d.cel.sty)
  have HKD : Hid (∀ v, Calls Tryd.prog 35 #[deV d] v fun e w' => e = .returned (.int .i64 4) ∧ Below v.heap.size v w') := Lib.hid (fun v => by
    have := kind_ok v d
    rw [hk] at this
    exact this)
  have HC := Lib.hid (fun (v : World) (hv : Tabs v) (ha : GridAt v F p g) => open_ok v hv ha hok d.a d.b d.c (stame d.cel.sty))
  clear hw1 hb1 hd1 h hok hT hk
  obtain ⟨kd, a, b, c, ⟨r, ⟨sb, su, st, sf, sk⟩⟩⟩ := d
  obtain ⟨q0, q1, q2, q3, q4, q5, q6, q7, q8, q9⟩ := HD1.out.cells
  simp only [deV, styV] at *
  generalize stame ⟨sb, su, st, sf, sk⟩ = s' at *
  obtain ⟨tb, tu, tt, tf, tk⟩ := s'
  simp only at *
  obtain ⟨R, hR⟩ : ∃ R, R = ((gopen g a b c ⟨tb, tu, tt, tf, tk⟩, []) : Gr × List (List Cel)) := ⟨_, rfl⟩
  rw [← hR]
  have HR := Lib.hid hR
  clear hR
  go_enter Tryd.func16, Tryd.ntmps16
  go_wp2_with fail
  rw [← W1.out]
  refine (HTM.out w1).mono ?_
  rintro e w2 ⟨rfl, hb2⟩
  clear q0 q1 q2 q3 q4 q5 q6 q7 q8 q9
  have HD2 := Lib.hid (HD1.out.below hb2)
  have HB2 := Lib.hid (below_next HB1.out hb2)
  obtain ⟨w3, hw3⟩ : ∃ w3, w3 = w2.alloc (.cells #[.bool tb, .bool tu, .bool tt, .int .i64 tf, .int .i64 tk] 35) := ⟨_, rfl⟩
  have hb3 : Below w2.heap.size w2 w3 := by rw [hw3]; exact (Below.refl _ _).alloc (Nat.le_refl _) _
  have hs3 : StyIn w3 w2.heap.size ⟨tb, tu, tt, tf, tk⟩ := by rw [hw3]; exact StyIn.fresh w2 ⟨tb, tu, tt, tf, tk⟩
  obtain ⟨q0, q1, q2, q3, q4, q5, q6, q7, q8, q9⟩ := (HD2.out.below hb3).cells
  simp only at q0 q1 q2 q3 q4 q5 q6 q7 q8 q9
  have HD3 := Lib.hid (HD2.out.below hb3)
  have HS3 := Lib.hid hs3
  have HB3 := Lib.hid (below_next HB2.out hb3)
  have W3 := Lib.hid hw3
  clear hb2 hw3 hb3 hs3
  go_upto_region 2 with fail
  rw [← W3.out]
  go_wp2_with fail
  refine (HKD.out w3).mono ?_
  rintro e w4 ⟨rfl, hb4⟩
  clear q0 q1 q2 q3 q4 q5 q6 q7 q8 q9
  obtain ⟨q0, q1, q2, q3, q4, q5, q6, q7, q8, q9⟩ := (HD3.out.below hb4).cells
  obtain ⟨k0, k1, k2, k3, k4⟩ := (HS3.out.below hb4).cells
  simp only at q0 q1 q2 q3 q4 q5 q6 q7 q8 q9 k0 k1 k2 k3 k4
  have HB4 := Lib.hid (below_next HB3.out hb4)
  have HC4 := Lib.hid (HC.out w4 (HT.out.on HB4.out HT.out.room) (HAT.out.below HB4.out))
  clear hb4
  go_wp2_with fail
  refine HC4.out.mono ?_
  rintro e w5 ⟨rfl, hp⟩
  have HP := Lib.hid (UpPost.of_g HB4.out hp)
  rw [← HR.out] at HP
  clear hp
  go_wp2_with fail
  refine bodyPost_ret (v := .slice none 0 0) ?_ rfl HP.out
  simp [results, Tryd.results16, go_sem]
set_option maxRecDepth 100000 in
set_option maxHeartbeats 4000000 in
theorem do_ok5 (w : World) (hT : Tabs w) {p : Nat} {F : List Nat} {g : Gr} (h : GridAt w F p g) (hok : g.Ok) (d : De) (hk : d.k = 5) :
    Calls Tryd.prog 16 #[.pointer (some ⟨p, 0, none⟩), deV d] w (UpPost w F p (gshut g d.a d.b d.c (stame d.cel.sty), [])) := by
  obtain ⟨w1, hw1⟩ : ∃ w1, w1 = w.alloc (.cells #[.int .i64 d.kind, .int .i64 d.a, .int .i64 d.b, .int .i64 d.c, .int .i32 d.cel.rune, .bool d.cel.sty.bold, .bool d.cel.sty.under, .bool d.cel.sty.turned, .int .i64 d.cel.sty.fore, .int .i64 d.cel.sty.back] 39) := ⟨_, rfl⟩
  have hb1 : Below w.heap.size w w1 := by rw [hw1]; exact (Below.refl _ _).alloc (Nat.le_refl _) _
  have hd1 : DeIn w1 w.heap.size d := by rw [hw1]; exact DeIn.fresh w d
  have HD1 := Lib.hid hd1
  have HB1 := Lib.hid hb1
  have W1 := Lib.hid hw1
  have HAT := Lib.hid h
  have HT := Lib.hid hT
  have HTM := Lib.hid (fun v => ltame_ok v d.cel.sty)
  have HKD : Hid (∀ v, Calls Tryd.prog 35 #[deV d] v fun e w' => e = .returned (.int .i64 5) ∧ Below v.heap.size v w') := Lib.hid (fun v => by
    have := kind_ok v d
    rw [hk] at this
    exact this)
  have HC := Lib.hid (fun (v : World) (hv : Tabs v) (ha : GridAt v F p g) => shut_ok v hv ha hok d.a d.b d.c (stame d.cel.sty))
  clear hw1 hb1 hd1 h hok hT hk
  obtain ⟨kd, a, b, c, ⟨r, ⟨sb, su, st, sf, sk⟩⟩⟩ := d
  obtain ⟨q0, q1, q2, q3, q4, q5, q6, q7, q8, q9⟩ := HD1.out.cells
  simp only [deV, styV] at *
  generalize stame ⟨sb, su, st, sf, sk⟩ = s' at *
  obtain ⟨tb, tu, tt, tf, tk⟩ := s'
  simp only at *
  obtain ⟨R, hR⟩ : ∃ R, R = ((gshut g a b c ⟨tb, tu, tt, tf, tk⟩, []) : Gr × List (List Cel)) := ⟨_, rfl⟩
  rw [← hR]
  have HR := Lib.hid hR
  clear hR
  go_enter Tryd.func16, Tryd.ntmps16
  go_wp2_with fail
  rw [← W1.out]
  refine (HTM.out w1).mono ?_
  rintro e w2 ⟨rfl, hb2⟩
  clear q0 q1 q2 q3 q4 q5 q6 q7 q8 q9
  have HD2 := Lib.hid (HD1.out.below hb2)
  have HB2 := Lib.hid (below_next HB1.out hb2)
  obtain ⟨w3, hw3⟩ : ∃ w3, w3 = w2.alloc (.cells #[.bool tb, .bool tu, .bool tt, .int .i64 tf, .int .i64 tk] 35) := ⟨_, rfl⟩
  have hb3 : Below w2.heap.size w2 w3 := by rw [hw3]; exact (Below.refl _ _).alloc (Nat.le_refl _) _
  have hs3 : StyIn w3 w2.heap.size ⟨tb, tu, tt, tf, tk⟩ := by rw [hw3]; exact StyIn.fresh w2 ⟨tb, tu, tt, tf, tk⟩
  obtain ⟨q0, q1, q2, q3, q4, q5, q6, q7, q8, q9⟩ := (HD2.out.below hb3).cells
  simp only at q0 q1 q2 q3 q4 q5 q6 q7 q8 q9
  have HD3 := Lib.hid (HD2.out.below hb3)
  have HS3 := Lib.hid hs3
  have HB3 := Lib.hid (below_next HB2.out hb3)
  have W3 := Lib.hid hw3
  clear hb2 hw3 hb3 hs3
  go_upto_region 2 with fail
  rw [← W3.out]
  go_wp2_with fail
  refine (HKD.out w3).mono ?_
  rintro e w4 ⟨rfl, hb4⟩
  clear q0 q1 q2 q3 q4 q5 q6 q7 q8 q9
  obtain ⟨q0, q1, q2, q3, q4, q5, q6, q7, q8, q9⟩ := (HD3.out.below hb4).cells
  obtain ⟨k0, k1, k2, k3, k4⟩ := (HS3.out.below hb4).cells
  simp only at q0 q1 q2 q3 q4 q5 q6 q7 q8 q9 k0 k1 k2 k3 k4
  have HB4 := Lib.hid (below_next HB3.out hb4)
  have HC4 := Lib.hid (HC.out w4 (HT.out.on HB4.out HT.out.room) (HAT.out.below HB4.out))
  clear hb4
  go_wp2_with fail
  refine HC4.out.mono ?_
  rintro e w5 ⟨rfl, hp⟩
  have HP := Lib.hid (UpPost.of_g HB4.out hp)
  rw [← HR.out] at HP
  clear hp
  go_wp2_with fail
  refine bodyPost_ret (v := .slice none 0 0) ?_ rfl HP.out
  simp [results, Tryd.results16, go_sem]
set_option maxRecDepth 100000 in
set_option maxHeartbeats 4000000 in
theorem do_ok6 (w : World) (hT : Tabs w) {p : Nat} {F : List Nat} {g : Gr} (h : GridAt w F p g) (hok : g.Ok) (d : De) (hk : d.k = 6) :
    Calls Tryd.prog 16 #[.pointer (some ⟨p, 0, none⟩), deV d] w (UpPost w F p (gresize g d.a d.b d.c)) := by
  obtain ⟨w1, hw1⟩ : ∃ w1, w1 = w.alloc (.cells #[.int .i64 d.kind, .int .i64 d.a, .int .i64 d.b, .int .i64 d.c, .int .i32 d.cel.rune, .bool d.cel.sty.bold, .bool d.cel.sty.under, .bool d.cel.sty.turned, .int .i64 d.cel.sty.fore, .int .i64 d.cel.sty.back] 39) := ⟨_, rfl⟩
  have hb1 : Below w.heap.size w w1 := by rw [hw1]; exact (Below.refl _ _).alloc (Nat.le_refl _) _
  have hd1 : DeIn w1 w.heap.size d := by rw [hw1]; exact DeIn.fresh w d
  have HD1 := Lib.hid hd1
  have HB1 := Lib.hid hb1
  have W1 := Lib.hid hw1
  have HAT := Lib.hid h
  have HT := Lib.hid hT
  have HTM := Lib.hid (fun v => ltame_ok v d.cel.sty)
  have HKD : Hid (∀ v, Calls Tryd.prog 35 #[deV d] v fun e w' => e = .returned (.int .i64 6) ∧ Below v.heap.size v w') := Lib.hid (fun v => by
    have := kind_ok v d
    rw [hk] at this
    exact this)
  have HC := Lib.hid (fun (v : World) (hv : Tabs v) (ha : GridAt v F p g) => resize_ok v hv ha hok d.a d.b d.c)
  clear hw1 hb1 hd1 h hok hT hk
  obtain ⟨kd, a, b, c, ⟨r, ⟨sb, su, st, sf, sk⟩⟩⟩ := d
  obtain ⟨q0, q1, q2, q3, q4, q5, q6, q7, q8, q9⟩ := HD1.out.cells
  simp only [deV, styV] at *
  generalize stame ⟨sb, su, st, sf, sk⟩ = s' at *
  obtain ⟨tb, tu, tt, tf, tk⟩ := s'
  simp only at *
  obtain ⟨R, hR⟩ : ∃ R, R = ((gresize g a b c) : Gr × List (List Cel)) := ⟨_, rfl⟩
  rw [← hR]
  have HR := Lib.hid hR
  clear hR
  go_enter Tryd.func16, Tryd.ntmps16
  go_wp2_with fail
  rw [← W1.out]
  refine (HTM.out w1).mono ?_
  rintro e w2 ⟨rfl, hb2⟩
  clear q0 q1 q2 q3 q4 q5 q6 q7 q8 q9
  have HD2 := Lib.hid (HD1.out.below hb2)
  have HB2 := Lib.hid (below_next HB1.out hb2)
  obtain ⟨w3, hw3⟩ : ∃ w3, w3 = w2.alloc (.cells #[.bool tb, .bool tu, .bool tt, .int .i64 tf, .int .i64 tk] 35) := ⟨_, rfl⟩
  have hb3 : Below w2.heap.size w2 w3 := by rw [hw3]; exact (Below.refl _ _).alloc (Nat.le_refl _) _
  have hs3 : StyIn w3 w2.heap.size ⟨tb, tu, tt, tf, tk⟩ := by rw [hw3]; exact StyIn.fresh w2 ⟨tb, tu, tt, tf, tk⟩
  obtain ⟨q0, q1, q2, q3, q4, q5, q6, q7, q8, q9⟩ := (HD2.out.below hb3).cells
  simp only at q0 q1 q2 q3 q4 q5 q6 q7 q8 q9
  have HD3 := Lib.hid (HD2.out.below hb3)
  have HS3 := Lib.hid hs3
  have HB3 := Lib.hid (below_next HB2.out hb3)
  have W3 := Lib.hid hw3
  clear hb2 hw3 hb3 hs3
  go_upto_region 2 with fail
  rw [← W3.out]
  go_wp2_with fail
  refine (HKD.out w3).mono ?_
  rintro e w4 ⟨rfl, hb4⟩
  clear q0 q1 q2 q3 q4 q5 q6 q7 q8 q9
  obtain ⟨q0, q1, q2, q3, q4, q5, q6, q7, q8, q9⟩ := (HD3.out.below hb4).cells
  obtain ⟨k0, k1, k2, k3, k4⟩ := (HS3.out.below hb4).cells
  simp only at q0 q1 q2 q3 q4 q5 q6 q7 q8 q9 k0 k1 k2 k3 k4
  have HB4 := Lib.hid (below_next HB3.out hb4)
  have HC4 := Lib.hid (HC.out w4 (HT.out.on HB4.out HT.out.room) (HAT.out.below HB4.out))
  rw [← HR.out] at HC4
  clear hb4
  go_wp2_with fail
  refine HC4.out.mono ?_
  rintro e w5 hp
  have HP := Lib.hid (UpPost.of_up HB4.out hp)
  obtain ⟨A, cc, F', rfl, -⟩ := hp
  go_wp2_with fail
  refine bodyPost_ret (v := .slice A _ cc) ?_ rfl HP.out
  simp [results, Tryd.results16, go_sem]
theorem do_ok (w : World) (hT : Tabs w) {p : Nat} {F : List Nat} {g : Gr} (h : GridAt w F p g) (hok : g.Ok) (d : De) :
    Calls Tryd.prog 16 #[.pointer (some ⟨p, 0, none⟩), deV d] w (UpPost w F p (gdo g d)) := by
  have h7 := d.k_lt
  unfold gdo
  rcases (show d.k = 0 ∨ d.k = 1 ∨ d.k = 2 ∨ d.k = 3 ∨ d.k = 4 ∨ d.k = 5 ∨ d.k = 6 by omega) with e | e | e | e | e | e | e
  · simpa [e] using do_ok0 w hT h hok d e
  · simpa [e] using do_ok1 w hT h hok d e
  · simpa [e] using do_ok2 w hT h hok d e
  · simpa [e] using do_ok3 w hT h hok d e
  · simpa [e] using do_ok4 w hT h hok d e
  · simpa [e] using do_ok5 w hT h hok d e
  · simpa [e] using do_ok6 w hT h hok d e
end Go.Proofs.YtbpkklcegiiheaaDoor
