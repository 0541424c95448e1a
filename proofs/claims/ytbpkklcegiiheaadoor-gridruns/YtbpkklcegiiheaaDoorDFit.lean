/-
  Layer 9 (grid): At, Fit.
-/
import Derived.Test.YtbpkklcegiiheaaDoorDStep
import Derived.Test.YtbpkklcegiiheaaDoorKTame
namespace Go.Proofs.YtbpkklcegiiheaaDoor
open Go.RowKit Go.Lib KM

/-- A grid's cell; the zero one of none. -/
def gat (g : Gr) (x y : Int) : Cel := if g.there x y = true then (g.line y.toNat).getD x.toNat ⟨0, zero⟩ else ⟨0, zero⟩
theorem build_zcell (w : World) : (Instr.build 37 #[]).run Tryd.prog w = .ok (.agg #[.int .i32 0, .bool false, .bool false, .bool false, .int .i64 0, .int .i64 0]) w := by kernel_rfl

set_option maxRecDepth 100000 in
set_option maxHeartbeats 1000000 in
theorem at_ok (w : World) {p hb hc : Nat} {L : List Ln} {g : Gr} (h : GridB w p hb hc L g) (hok : g.Ok) (x y : Int) :
    Calls Tryd.prog 24 #[.pointer (some ⟨p, 0, none⟩), .int .i64 x, .int .i64 y] w fun e w' => e = .returned (celV (gat g x y)) ∧ Below w.heap.size w w' := by
  obtain ⟨w1, hw1⟩ : ∃ w1, w1 = w.alloc (.cells #[.int .i32 0, .bool false, .bool false, .bool false, .int .i64 0, .int .i64 0] 37) := ⟨_, rfl⟩
  have hb1 : Below w.heap.size w w1 := by rw [hw1]; exact (Below.refl _ _).alloc (Nat.le_refl _) _
  have hz1 : w1.heap.size = w.heap.size + 1 := by rw [hw1]; simp
  have hc1 : CelAt w1 w.heap.size ⟨0, zero⟩ := by rw [hw1]; exact CelAt.fresh w ⟨0, zero⟩
  have hG1 := h.below hb1
  have HTHE := Lib.hid (there_ok w1 hG1 x y)
  have HB1 := Lib.hid hb1
  have W1 := Lib.hid hw1
  obtain ⟨k0, k1, k2, k3, k4, k5⟩ := hc1.cells
  have f0 := hc1.thaw 0; have f1 := hc1.thaw 1; have f2 := hc1.thaw 2; have f3 := hc1.thaw 3; have f4 := hc1.thaw 4; have f5 := hc1.thaw 5
  have HC1 := Lib.hid hc1
  simp only [zero] at k0 k1 k2 k3 k4 k5
  have hset : ∀ c : Cel, Below w.heap.size w (setCel w1 w.heap.size 0 c) ∧ CelAt (setCel w1 w.heap.size 0 c) w.heap.size c := fun c => by
    refine ⟨?_, ?_⟩
    · exact hb1.trans ((setCel_fr (S := fun k => w.heap.size ≤ k) w1 w.heap.size 0 c (Nat.le_refl _)).below (by omega) (fun k hk => hk))
    · have h1 := setRune_at hc1 c.rune
      exact setSt_at h1 c.sty.bold c.sty.under c.sty.turned c.sty.fore c.sty.back
  have HSET := Lib.hid hset
  clear hw1 hb1 hset hc1
  unfold gat
  rcases hth : g.there x y with _ | _
  · rw [hth] at HTHE
    have hbz := fun w => build_zcell w
    clear hth hG1 h HC1
    simp only [celV, zero]
    go_enter Tryd.func24, Tryd.ntmps24
    go_wp2_with fail
    rw [← W1.out]
    refine HTHE.out.mono ?_
    rintro e w3 ⟨rfl, hw3⟩
    rw [hw3]
    clear hw3 w3
    go_wp2_with fail
    obtain ⟨s1, s2⟩ := HSET.out ⟨0, zero⟩
    obtain ⟨j0, j1, j2, j3, j4, j5⟩ := s2.cells
    unfold setCel at s1 j0 j1 j2 j3 j4 j5
    simp only [zero, Nat.zero_add] at s1 j0 j1 j2 j3 j4 j5
    refine bodyPost_ret (v := .agg #[.int .i32 0, .bool false, .bool false, .bool false, .int .i64 0, .int .i64 0]) ?_ rfl ⟨rfl, s1⟩
    simp [results, Tryd.results24, go_sem, j0, j1, j2, j3, j4, j5]
  · rw [hth] at HTHE
    have hxy := (g.there_iff x y).1 hth
    obtain ⟨X, rfl⟩ := Int.eq_ofNat_of_zero_le hxy.1.1
    obtain ⟨Y, rfl⟩ := Int.eq_ofNat_of_zero_le hxy.2.1
    simp only [Int.toNat_natCast]
    have hYL : Y < L.length := by have := h.len.trans hok.len; omega
    have hlo := hok.line (y := Y) (by omega)
    have hXl : X < (g.line Y).length := by rw [hlo.len]; omega
    have hgd : (g.line Y).getD X ⟨0, zero⟩ = (g.line Y)[X] := by simp [hXl]
    rw [hgd]
    have d2 := hG1.cell2
    have dh := hG1.hcell' hYL
    rw [hlo.len] at dh
    obtain ⟨b', off', e', hb', q0, q1, q2, q3, q4, q5⟩ := cel_at (hG1.rowR hYL) hXl
    simp only [Option.some.injEq, Addr.mk.injEq, and_true] at e'
    obtain ⟨rfl, rfl⟩ := e'
    simp only [Nat.zero_add] at q0 q1 q2 q3 q4 q5
    have hXw : X < g.w := by omega
    clear hth hxy hgd hG1 h hlo hb'
    generalize (g.line Y)[X] = c at *
    generalize L[Y].b = b0 at *
    generalize L[Y].c = cc at *
    clear HC1
    obtain ⟨r, ⟨bo, u, t, f, k⟩⟩ := c
    simp only [celV] at *
    go_enter Tryd.func24, Tryd.ntmps24
    go_wp2_with fail
    rw [← W1.out]
    refine HTHE.out.mono ?_
    rintro e w3 ⟨rfl, hw3⟩
    rw [hw3]
    clear hw3 w3
    go_wp2_with fail
    obtain ⟨s1, s2⟩ := HSET.out ⟨r, ⟨bo, u, t, f, k⟩⟩
    obtain ⟨j0, j1, j2, j3, j4, j5⟩ := s2.cells
    unfold setCel at s1 j0 j1 j2 j3 j4 j5
    simp only [Nat.zero_add] at s1 j0 j1 j2 j3 j4 j5
    refine bodyPost_ret (v := .agg #[.int .i32 r, .bool bo, .bool u, .bool t, .int .i64 f, .int .i64 k]) ?_ rfl ⟨rfl, s1⟩
    simp [results, Tryd.results24, go_sem, j0, j1, j2, j3, j4, j5]

set_option maxRecDepth 100000 in
set_option maxHeartbeats 2000000 in
theorem fitL_ok' (w : World) (hT : Tabs w) (l : List Cel) (A : Option Addr) (c B W : Nat) (hr : celE.Row w B A l) (hA : A = none → c = 0) (hB : B ≤ w.heap.size) (hl : l.length ≤ 1000) (hlc : l.length ≤ c) (hW : W ≤ 1000) :
    Calls Tryd.prog 29 #[.slice A l.length c, .int .i64 (W : Int)] w (CelsPost w (fitL l W)) := by
  have HT := Lib.hid hT
  have HR := Lib.hid hr
  have HA := Lib.hid hA
  obtain ⟨q, hq⟩ : ∃ q, q = min W l.length := ⟨_, rfl⟩
  have hmin : min (W : Int) (l.length : Int) = (q : Int) := by omega
  have hql : q ≤ l.length := by omega
  have hqW : q ≤ W := by omega
  have hhd : ∀ V, (Instr.slice 23 (.slice A l.length c) none (some (.int .i64 (q : Int))) none).run Tryd.prog V = .ok (.slice A q c) V := fun V => headC _ _ _ _ V (by omega)
  obtain ⟨n, hn⟩ : ∃ n, n = W - q := ⟨_, rfl⟩
  have hsub : (W : Int) - (q : Int) = (n : Int) := by omega
  have hwn : IntKind.i64.wrap (n : Int) = (n : Int) := by rw [IntKind.wrap_i64]; omega
  have hg1 : decide ((W : Int) < 0) = false := decide_eq_false (by omega)
  have hg2 : decide ((2147483647 : Int) < (W : Int)) = false := decide_eq_false (by omega)
  have hbs := fun w => build_zstyle w
  have hfit : fitL l W = mend (l.take q) ++ KM.blanks n zero := by
    unfold fitL
    have e1 : l.take W = l.take q := by
      rw [hq]
      rcases Nat.le_total W l.length with h | h
      · rw [Nat.min_eq_left h]
      · rw [Nat.min_eq_right h, List.take_of_length_le h, List.take_length]
    rw [e1]
    congr 2
    omega
  rw [hfit]
  have hml := mend_ok w hT (l.take q) A c B (hr.take q) hA hB (by rw [List.length_take]; omega)
  rw [List.length_take, Nat.min_eq_left hql] at hml
  have HM := Lib.hid hml
  have hmq : (mend (l.take q)).length = q := by rw [mend_len, List.length_take]; omega
  have HMQ := Lib.hid hmq
  have HBK := Lib.hid (fun v => blanks_ok v n (by omega) zero)
  simp only [styV, zero] at HBK
  have hnW : n ≤ W := by omega
  clear hr hA hT hml hfit hmq hq hn
  generalize mend (l.take q) = M at *
  go_enter Tryd.func29, Tryd.ntmps29
  go_wp2_with fail
  refine HM.out.mono ?_
  rintro e w1 ⟨v1, rfl, ho1, hb1⟩
  obtain ⟨A1, c1, hv1, hc1, _, _, _⟩ := ho1.row
  rw [HMQ.out] at hv1
  have HO1 := Lib.hid ho1
  have HB1 := Lib.hid hb1
  rw [hv1]
  have hz1 := hb1.size
  have HV1 := Lib.hid hv1
  clear ho1 hb1 hv1 hc1
  go_wp2_with fail
  refine (HBK.out _).mono ?_
  rintro e w2 ⟨v2, rfl, ho2, hb2⟩
  obtain ⟨A2, c2, hv2, _, _, hA2, hr2⟩ := ho2.row
  have hO12 := HO1.out.below hb2
  have HB2 := Lib.hid (below_next HB1.out hb2)
  have HO12 := Lib.hid (show celE.Own w2 w.heap.size (.slice A1 q c1) M by rw [← HV1.out]; exact hO12)
  have HR2 := Lib.hid hr2
  have HA2 := Lib.hid hA2
  have hz2 := HB2.out.size
  have hbl : (KM.blanks n ⟨false, false, false, 0, 0⟩).length = n := blanks_len _ _
  rw [hbl] at hv2
  rw [hv2]
  have HBL := Lib.hid hbl
  clear ho2 hb2 hv2 hO12 hr2 hA2 hbl
  go_wp2_with (at_builtin; refine celE.wp_append rfl (.tmp 19) (.tmp 25) rfl w.heap.size _ M rfl HO12.out A2 (KM.blanks n ⟨false, false, false, 0, 0⟩) n c2 w2.heap.size HBL.out.symm rfl HR2.out HA2.out ?c1 ?c2 hz2 ?_)
  case c1 => rw [HMQ.out, HBL.out]; simp only [celE]; omega
  case c2 => rw [HMQ.out, HBL.out]; unfold maxLen; omega
  intro v3 w3 ho3 hg3
  have HO3 := Lib.hid ho3
  have HB3 := Lib.hid (HB2.out.trans (HO12.out.grow_below hg3 hz2))
  clear ho3 hg3
  go_wp2_with fail
  go_ret
  exact ⟨v3, rfl, HO3.out, HB3.out⟩
set_option maxRecDepth 100000 in
theorem fitL_neg (w : World) (l : List Cel) (A : Option Addr) (c : Nat) (W : Int) (hW : W < 0) :
    Calls Tryd.prog 29 #[.slice A l.length c, .int .i64 W] w (CelsPost w []) := by
  have hg1 : decide (W < 0) = true := decide_eq_true hW
  go_enter Tryd.func29, Tryd.ntmps29
  go_wp2_with fail
  go_ret
  exact ⟨_, rfl, El.Own.nil _ _, Below.refl _ _⟩
end Go.Proofs.YtbpkklcegiiheaaDoor
