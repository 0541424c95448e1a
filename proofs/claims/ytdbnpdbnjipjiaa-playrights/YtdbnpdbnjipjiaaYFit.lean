/-
  Layer 15's laws: the anchor (half as fast, an event at 5 is due behind 10).
-/
import Derived.Test.YtdbnpdbnjipjiaaYNew
namespace Go.Proofs.Ytdbnpdbnjipjiaa
open Go.RowKit Go.Lib EM PM
set_option maxRecDepth 100000

def fitL : List Ev := [⟨5, 0, ⟨#[97]⟩, 0, 0⟩]
def fitP (told : Nat) (wall : Int) : Pl := ⟨fitL, told, 0, wall, 1, 2, false⟩
theorem fit_up0 : upTo fitL 0 = 0 := by decide
theorem fit_up4 : upTo fitL 4 = 0 := by decide
theorem fit_up5 : upTo fitL 5 = 1 := by decide
theorem fit_new : new fitL 0 1 2 = fitP 0 0 := by unfold new; rw [fit_up0]; rfl
theorem fit_t9 : (fitP 0 0).tick 9 = fitP 0 9 := by
  have e : (fitP 0 0).goes 9 = fitP 0 9 := by unfold Pl.goes fitP; simp; rfl
  unfold Pl.tick
  rw [e]
  show ({ fitP 0 9 with told := upTo fitL 4 } : Pl) = _
  rw [fit_up4]; rfl
theorem fit_t1 : (fitP 0 9).tick 1 = fitP 1 10 := by
  have e : (fitP 0 9).goes 1 = fitP 0 10 := by unfold Pl.goes fitP; simp; rfl
  unfold Pl.tick
  rw [e]
  show ({ fitP 0 10 with told := upTo fitL 5 } : Pl) = _
  rw [fit_up5]; rfl
theorem fit_may : mayP fitL 0 1 2 = true := by kernel_rfl

set_option maxHeartbeats 2000000 in
theorem pfit_ok (w : World) : Calls Try.prog 8 #[] w fun e w' => e = .returned (.bool true) ∧ Below w.heap.size w w' := by
  have hx := fun w => build_evx w 5 ⟨#[97]⟩
  obtain ⟨w1, hw1⟩ : ∃ w1, w1 = w.alloc (.cells #[.int .i64 5, .int .i64 0, .string ⟨#[97]⟩, .int .i64 0, .int .i64 0] 54) := ⟨_, rfl⟩
  have hb1 : Below w.heap.size w w1 := by rw [hw1]; exact (Below.refl _ _).alloc (Nat.le_refl _) _
  have hr1 : evE.Row w1 w1.heap.size (some ⟨w.heap.size, 0, none⟩) fitL := by
    have := evE.row_new w ⟨5, 0, ⟨#[97]⟩, 0, 0⟩ #[.int .i64 5, .int .i64 0, .string ⟨#[97]⟩, .int .i64 0, .int .i64 0] 54 rfl
    have hs : w1.heap.size = w.heap.size + 1 := by rw [hw1]; simp
    rw [hs, hw1]
    exact this
  have HN := Lib.hid (new_good w1 fitL (some ⟨w.heap.size, 0, none⟩) 1 w1.heap.size 0 1 2 hr1 (by simp) (Nat.le_refl _) (by decide) fit_may)
  rw [fit_new] at HN
  have ok0 : (fitP 0 0).Ok := by rw [← fit_new]; exact mayP_ok (by decide) fit_may
  have f0 : (fitP 0 0).Full := by rw [← fit_new]; exact new_full _ _ _ _ (by decide)
  have ok9 : (fitP 0 9).Ok := by rw [← fit_t9]; exact ok0.tick 9
  have f9 : (fitP 0 9).Full := by rw [← fit_t9]; rfl
  have ok10 : (fitP 1 10).Ok := by rw [← fit_t1]; exact ok9.tick 1
  have HT9 := Lib.hid (fun v g c A (h : PlAt v g A c (fitP 0 0)) => tick_ok v g c A _ h ok0 f0 9)
  have HT1 := Lib.hid (fun v g c A (h : PlAt v g A c (fitP 0 9)) => tick_ok v g c A _ h ok9 f9 1)
  rw [fit_t9] at HT9
  rw [fit_t1] at HT1
  have HLF := Lib.hid (fun v g c A (h : PlAt v g A c (fitP 1 10)) => left_ok v g c A _ h (by decide) (by decide))
  have HNW := Lib.hid (fun v g c A (h : PlAt v g A c (fitP 1 10)) => now_ok v g c A _ h ok10)
  rw [show (fitP 1 10).now = 5 from rfl] at HNW
  rw [show (((fitP 1 10).l.length : Int) - ((fitP 1 10).told : Int)) = 0 from rfl] at HLF
  rw [show fitL.length = 1 from rfl] at HN
  have W1 := Lib.hid hw1
  have HB1 := Lib.hid hb1
  clear hw1 hb1 hr1 ok0 f0 ok9 f9 ok10
  go_enter Try.func8, Try.ntmps8
  go_wp2_with fail
  rw [← W1.out]
  refine HN.out.mono ?_
  rintro e w2 ⟨g, A, c, rfl, hg, hp, hb, -⟩
  have HP2 := Lib.hid hp
  have HB2 := Lib.hid (below_next HB1.out hb)
  have hgs : w.heap.size ≤ g := Nat.le_trans HB1.out.size hg
  clear hp hb hg
  go_wp2_with fail
  refine (HT9.out w2 g c A HP2.out).mono ?_
  rintro e w3 ⟨v, rfl, ho, hp, hf⟩
  obtain ⟨A3, c3, hv, -, -, -, -⟩ := ho.row
  subst hv
  have HP3 := Lib.hid hp
  have HB3 := Lib.hid (HB2.out.trans (hf.below HB2.out.size (fun k hk => by omega)))
  rw [show (seg (fitP 0 0).l (fitP 0 0).told (fitP 0 9).told).length = 0 from rfl]
  clear hp hf ho
  go_wp2_with fail
  refine (HT1.out w3 g c A HP3.out).mono ?_
  rintro e w4 ⟨v, rfl, ho, hp, hf⟩
  obtain ⟨A4, c4, hv, -, -, -, -⟩ := ho.row
  subst hv
  have HP4 := Lib.hid hp
  have HB4 := Lib.hid (HB3.out.trans (hf.below HB3.out.size (fun k hk => by omega)))
  rw [show (seg (fitP 0 9).l (fitP 0 9).told (fitP 1 10).told).length = 1 from rfl]
  clear hp hf ho
  go_wp2_with fail
  refine (HLF.out w4 g c A HP4.out).mono ?_
  rintro e w5 ⟨rfl, k, hw⟩
  have HP5 := Lib.hid (show PlAt w5 g A c (fitP 1 10) by rw [hw]; exact HP4.out.next (below_drewN (Below.refl _ _) _))
  have HB5 := Lib.hid (show Below w.heap.size w w5 by rw [hw]; exact below_drewN HB4.out _)
  clear hw
  go_wp2_with fail
  refine (HNW.out w5 g c A HP5.out).mono ?_
  rintro e w6 ⟨rfl, k, hw⟩
  have HB6 := Lib.hid (show Below w.heap.size w w6 by rw [hw]; exact below_drewN HB5.out _)
  clear hw
  go_wp2_with fail
  go_ret
  exact ⟨rfl, HB6.out⟩
end Go.Proofs.Ytdbnpdbnjipjiaa
