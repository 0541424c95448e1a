/-
  Layer 15 (play): New.
-/
import Derived.Test.YtdbnpdbnjipjiaaYDo
import Derived.Test.YtdbnpdbnjipjiaaEList
namespace Go.Proofs.Ytdbnpdbnjipjiaa
open Go.RowKit Go.Lib EM PM
set_option maxRecDepth 100000

/-- May a player be made of these? -/
def mayP (l : List Ev) (s p q : Int) : Bool := decide (0 ≤ s) && decide (s < 4611686018427387904) && rightS p q && listB 0 l
theorem mayP_iff {l : List Ev} {s p q : Int} : mayP l s p q = true ↔ 0 ≤ s ∧ s < 4611686018427387904 ∧ rightS p q = true ∧ listB 0 l = true := by
  unfold mayP
  simp only [Bool.and_eq_true, decide_eq_true_eq, and_assoc]
theorem mayP_ok {l : List Ev} {s p q : Int} (hl : l.length ≤ 1000) (h : mayP l s p q = true) : (new l s p q).Ok := by
  obtain ⟨h0, h1, hr, hb⟩ := mayP_iff.1 h
  exact new_ok hl hb h0 h1 hr
theorem build_pl (w : World) (A : Option Addr) (n c : Nat) (t s p q : Int) : (Instr.build 57 #[(0, .slice A n c), (1, .int .i64 t), (2, .int .i64 s), (4, .int .i64 p), (5, .int .i64 q)]).run Try.prog w =
    .ok (.agg #[.slice A n c, .int .i64 t, .int .i64 s, .int .i64 0, .int .i64 p, .int .i64 q, .bool false]) w := by kernel_rfl

/-- A new player, behind a new block. -/
def NewPost (w : World) (P : Pl) (e : Ending) (w' : World) : Prop :=
  ∃ g A c, e = .returned (.tuple #[.pointer (some ⟨g, 0, none⟩), .int .i64 0]) ∧ w.heap.size ≤ g ∧ PlAt w' g A c P ∧ Below w.heap.size w w' ∧ ∀ a, A = some a → w.heap.size ≤ a.block

theorem new_bad (w : World) (l : List Ev) (A : Option Addr) (c B : Nat) (s p q : Int) (hr : evE.Row w B A l) (hB : B ≤ w.heap.size) (hl : l.length ≤ 1000) (h : mayP l s p q = false) :
    Calls Try.prog 10 #[.slice A l.length c, .int .i64 s, .int .i64 p, .int .i64 q] w fun e w' => e = .returned (.tuple #[.pointer none, .int .i64 3]) ∧ Below w.heap.size w w' := by
  have HS := Lib.hid (fun v => speedS_ok v p q)
  have HL := Lib.hid (fun v (hb : Below w.heap.size w v) => list_ok v l A c B (hr.below (hb.mono hB)) (Nat.le_trans hB hb.size) (by omega))
  clear hr
  by_cases h0 : 0 ≤ s
  · have g0 : decide (s < 0) = false := decide_eq_false (by omega)
    by_cases h1 : s < 4611686018427387904
    · have g1 : decide (4611686018427387904 ≤ s) = false := decide_eq_false (by omega)
      rcases h2 : rightS p q with _ | _
      · rw [h2] at HS
        clear h h2
        go_enter Try.func10, Try.ntmps10
        go_wp2_with fail
        refine (HS.out w).mono ?_
        rintro e w1 ⟨rfl, hw⟩
        rw [hw]
        clear hw w1
        go_wp2_with fail
        go_ret2
        exact ⟨rfl, Below.refl _ _⟩
      · rw [h2] at HS
        have h3 : listB 0 l = false := by
          rcases h3 : listB 0 l with _ | _
          · rfl
          · rw [mayP_iff.2 ⟨h0, h1, h2, h3⟩] at h; cases h
        rw [h3] at HL
        clear h h2 h3
        go_enter Try.func10, Try.ntmps10
        go_wp2_with fail
        refine (HS.out w).mono ?_
        rintro e w1 ⟨rfl, hw⟩
        rw [hw]
        clear hw w1
        go_wp2_with fail
        refine (HL.out w (Below.refl _ _)).mono ?_
        rintro e w1 ⟨rfl, hb⟩
        have HB := Lib.hid hb
        clear hb
        go_wp2_with fail
        go_ret2
        exact ⟨rfl, HB.out⟩
    · have g1 : decide (4611686018427387904 ≤ s) = true := decide_eq_true (by omega)
      clear h
      go_enter Try.func10, Try.ntmps10
      go_wp2_with fail
      go_ret2
      exact ⟨rfl, Below.refl _ _⟩
  · have g0 : decide (s < 0) = true := decide_eq_true (by omega)
    clear h
    go_enter Try.func10, Try.ntmps10
    go_wp2_with fail
    go_ret2
    exact ⟨rfl, Below.refl _ _⟩

set_option maxHeartbeats 2000000 in
theorem new_good (w : World) (l : List Ev) (A : Option Addr) (c B : Nat) (s p q : Int) (hr : evE.Row w B A l) (hA : A = none → c = 0) (hB : B ≤ w.heap.size) (hl : l.length ≤ 1000) (h : mayP l s p q = true) :
    Calls Try.prog 10 #[.slice A l.length c, .int .i64 s, .int .i64 p, .int .i64 q] w (NewPost w (new l s p q)) := by
  obtain ⟨h0, h1, h2, h3⟩ := mayP_iff.1 h
  have g0 : decide (s < 0) = false := decide_eq_false (by omega)
  have g1 : decide (4611686018427387904 ≤ s) = false := decide_eq_false (by omega)
  have HS := Lib.hid (fun v => speedS_ok v p q)
  have HL := Lib.hid (fun v (hb : Below w.heap.size w v) => list_ok v l A c B (hr.below (hb.mono hB)) (Nat.le_trans hB hb.size) (by omega))
  have HC := Lib.hid (fun v (hb : Below w.heap.size w v) => eclone_ok v l A c B (hr.below (hb.mono hB)) hA (Nat.le_trans hB hb.size) hl)
  have HU := Lib.hid (fun v (hb : Below w.heap.size w v) => until_ok v l A c B s (hr.below (hb.mono hB)) (Nat.le_trans hB hb.size) hl (fun i hi j hj hij => (listB_rise h3 i hi).2 j hj hij))
  have hbu := fun w A n c t => build_pl w A n c t s p q
  have hul := upTo_le l s
  rw [h2] at HS
  rw [h3] at HL
  have hnew : new l s p q = ⟨l, upTo l s, s, 0, p, q, false⟩ := rfl
  rw [hnew]
  clear h h0 h1 h2 h3 hr hA hnew
  generalize upTo l s = u at *
  go_enter Try.func10, Try.ntmps10
  go_wp2_with fail
  refine (HS.out w).mono ?_
  rintro e w1 ⟨rfl, hw⟩
  rw [hw]
  clear hw w1
  go_wp2_with fail
  refine (HL.out w (Below.refl _ _)).mono ?_
  rintro e w1 ⟨rfl, hb⟩
  have HB1 := Lib.hid hb
  clear hb
  go_wp2_with fail
  refine (HC.out w1 HB1.out).mono ?_
  rintro e w2 ⟨v, rfl, ho, hb⟩
  obtain ⟨A2, c2, hv, hlc, -, hA2, hr2⟩ := ho.row
  subst hv
  have HAB := Lib.hid (show ∀ a, A2 = some a → w.heap.size ≤ a.block from fun a ha => Nat.le_trans HB1.out.size (ho.lt a.block (by rw [ha]; rfl)).1)
  have hb2 := below_next HB1.out hb
  have HB2 := Lib.hid hb2
  have HR2 := Lib.hid hr2
  clear ho hb hb2 hr2
  go_wp2_with fail
  refine (HU.out w2 HB2.out).mono ?_
  rintro e w3 ⟨rfl, hb⟩
  have HB3 := Lib.hid (below_next HB2.out hb)
  have HR3 := Lib.hid ((HR2.out.below hb).mono hb.size)
  have hA2' := Lib.hid hA2
  clear hb hA2
  go_wp2_with fail
  go_ret2
  exact ⟨w3.heap.size, A2, c2, rfl, HB3.out.size, ⟨heap_alloc_new w3 _, HR3.out.below ((Below.refl _ _).alloc (Nat.le_refl _) _), hA2'.out, hlc⟩, below_next HB3.out ((Below.refl _ _).alloc (Nat.le_refl _) _), HAB.out⟩
end Go.Proofs.Ytdbnpdbnjipjiaa
