/-
  Layer 12 (event): may they be a list? The reference's answer.
-/
import Derived.Test.YtciogdhapogolaaDoorERRight
import Derived.Test.YtciogdhapogolaaDoorEWd
namespace Go.Proofs.YtciogdhapogolaaDoor
open Go.RowKit Go.Lib EM
set_option maxRecDepth 100000

/-- The time ahead of place k. -/
def prevT (l : List Ev) (k : Nat) : Int := if k = 0 then 0 else (l.getD (k - 1) zero).t

set_option maxHeartbeats 2000000 in
theorem rlist_ok (w : World) (l : List Ev) (A : Option Addr) (c B : Nat) (hr : evE.Row w B A l) (hB : B ≤ w.heap.size) (hl : l.length ≤ 1000000) :
    Calls Tryd.prog 15 #[.slice A l.length c] w fun e w' => e = .returned (.bool (listB 0 l)) ∧ Below w.heap.size w w' := by
  have HR := Lib.hid hr
  clear hr
  generalize hR : listB 0 l = R
  have HRL := Lib.hid hR
  clear hR
  go_enter Tryd.func15, Tryd.ntmps15
  go_wp2
  go_loopw [3] (fun i wr => ∃ (k : Nat), k ≤ l.length ∧ i = .int .i64 (k : Int) ∧ Below w.heap.size w wr ∧ listB (prevT l k) (l.drop k) = R) (fun i _ => l.length - (RowKit.intOf i).toNat)
  case atStart => exact ⟨0, Nat.zero_le _, rfl, Below.refl _ _, HRL.out⟩
  case round =>
    obtain ⟨k, hk, rfl, hb, hli⟩ := hrel
    have HB := Lib.hid hb
    have HLI := Lib.hid hli
    have hz := hb.size
    clear hb hli
    by_cases hlt : k < l.length
    · have g1 : decide ((k : Int) < (l.length : Int)) = true := by simp; omega
      have gn : decide (k < l.length) = true := by simp; omega
      have HRW := Lib.hid (HR.out.below (HB.out.mono hB))
      obtain ⟨b, off, rfl, hbl, c0, c1, c2, c3, c4⟩ := ev_at HRW.out hlt
      have hbW : b < wr.heap.size := by omega
      have HDR := Lib.hid (show l.drop k = l[k] :: l.drop (k + 1) from List.drop_eq_getElem_cons hlt)
      rw [HDR.out] at HLI
      have HPT := Lib.hid (show prevT l (k + 1) = l[k].t by unfold prevT; simp [hlt])
      generalize l[k] = y at *
      have HRT := Lib.hid (fun (u : Wd (Below wr.heap.size wr)) => (show Calls Tryd.prog 28 #[evV y] u.w fun e w' => e = .returned (.bool (right y)) ∧ ∃ u' : Wd (Below wr.heap.size wr), w' = u'.w from
        (rright_ok u.w y).mono fun e w' h => ⟨h.1, ⟨⟨w', below_next u.h h.2⟩, rfl⟩⟩))
      have hli := HLI.out
      simp only [listB] at hli
      have hr0 : right y = true → 0 ≤ y.t := fun h => (right_parts h).1
      generalize right y = rt at *
      obtain ⟨t, kk, d, x, z⟩ := y
      simp only [evV] at *
      have x0 : ∀ u : Wd (Below wr.heap.size wr), u.w.cell? ⟨b, off + k * 5, none⟩ = some (.int .i64 t) := fun u => (u.h.cell (p := ⟨b, off + k * 5, none⟩) hbW).trans c0
      have x1 : ∀ u : Wd (Below wr.heap.size wr), u.w.cell? ⟨b, off + k * 5 + 1, none⟩ = some (.int .i64 kk) := fun u => (u.h.cell (p := ⟨b, off + k * 5 + 1, none⟩) hbW).trans c1
      have x2 : ∀ u : Wd (Below wr.heap.size wr), u.w.cell? ⟨b, off + k * 5 + 2, none⟩ = some (.string d) := fun u => (u.h.cell (p := ⟨b, off + k * 5 + 2, none⟩) hbW).trans c2
      have x3 : ∀ u : Wd (Below wr.heap.size wr), u.w.cell? ⟨b, off + k * 5 + 3, none⟩ = some (.int .i64 x) := fun u => (u.h.cell (p := ⟨b, off + k * 5 + 3, none⟩) hbW).trans c3
      have x4 : ∀ u : Wd (Below wr.heap.size wr), u.w.cell? ⟨b, off + k * 5 + 4, none⟩ = some (.int .i64 z) := fun u => (u.h.cell (p := ⟨b, off + k * 5 + 4, none⟩) hbW).trans c4
      have HLJ := Lib.hid hli
      have HR0 := Lib.hid hr0
      haveI : Nonempty (Wd (Below wr.heap.size wr)) := ⟨⟨wr, Below.refl _ _⟩⟩
      clear hli HLI HDR c0 c1 c2 c3 c4 hr0
      cases rt with
      | false =>
        have hR : R = false := by have := HLJ.out; simpa using this.symm
        subst hR
        go_upto_region 4 with fail
        refine region_in (Below wr.heap.size wr) (by kernel_rfl) (by kernel_rfl) (Below.refl _ _).drew ?_
        repeat (go_big_quiet_step (exact HRT.out _))
        refine wpQuiet_nil ?_
        rintro _ ⟨u, rfl⟩
        have HBu := Lib.hid (below_next HB.out u.h)
        clear x0 x1 x2 x3 x4
        go_wp2_with fail
        go_ret
        exact ⟨rfl, HBu.out⟩
      | true =>
        by_cases hk0 : k = 0
        · have g3 : decide ((0 : Int) < (k : Int)) = false := by simp; omega
          have g4 : decide (0 < k) = false := by simp; omega
          have HN := Lib.hid (show listB (prevT l (k + 1)) (l.drop (k + 1)) = R by
            have := HLJ.out
            have h0 := HR0.out rfl
            rw [hk0, show prevT l 0 = 0 from rfl, decide_eq_true (show (0 : Int) ≤ t by omega)] at this
            rw [HPT.out, hk0]; simpa using this)
          clear hk0 HLJ HR0
          go_upto_region 4 with fail
          refine region_in (Below wr.heap.size wr) (by kernel_rfl) (by kernel_rfl) (Below.refl _ _).drew ?_
          repeat (go_big_quiet_step (exact HRT.out _))
          refine wpQuiet_nil ?_
          rintro _ ⟨u, rfl⟩
          have HBu := Lib.hid (below_next HB.out u.h)
          clear x0 x1 x2 x3 x4
          go_wp2_with fail
          go_roundw
          case rel => exact ⟨k + 1, by omega, by simp, HBu.out, HN.out⟩
          case measure => simp [RowKit.intOf]; omega
        · have g3 : decide ((0 : Int) < (k : Int)) = true := by simp; omega
          have g4 : decide (0 < k) = true := by simp; omega
          obtain ⟨q, hq⟩ : ∃ q : Nat, q = k - 1 := ⟨_, rfl⟩
          have hqi : (k : Int) - 1 = (q : Int) := by omega
          have hql : q < l.length := by omega
          obtain ⟨b', off', hbe, -, p0, -⟩ := ev_at HRW.out hql
          obtain ⟨rfl, rfl⟩ : b = b' ∧ off = off' := by injection hbe with h; injection h with h1 h2; exact ⟨h1, h2⟩
          have HPK := Lib.hid (show prevT l k = l[q].t by unfold prevT; rw [if_neg hk0, ← hq]; simp [hql])
          generalize l[q].t = pt at *
          have z0 : ∀ u : Wd (Below wr.heap.size wr), u.w.cell? ⟨b, off + q * 5, none⟩ = some (.int .i64 pt) := fun u => (u.h.cell (p := ⟨b, off + q * 5, none⟩) hbW).trans p0
          clear hq p0 hbe hk0
          have hqlen : decide ((q : Int) < (l.length : Int)) = true := by simp; omega
          by_cases hf : t < pt
          · have g2 : decide (t < pt) = true := by simpa
            have hR : R = false := by have := HLJ.out; rw [HPK.out, decide_eq_false (show ¬ pt ≤ t by omega)] at this; simpa using this.symm
            subst hR
            go_upto_region 4 with fail
            refine region_in (Below wr.heap.size wr) (by kernel_rfl) (by kernel_rfl) (Below.refl _ _).drew ?_
            repeat (go_big_quiet_step (exact HRT.out _))
            refine wpQuiet_nil ?_
            rintro _ ⟨u, rfl⟩
            have HBu := Lib.hid (below_next HB.out u.h)
            clear x0 x1 x2 x3 x4 z0
            go_wp2_with fail
            go_ret
            exact ⟨rfl, HBu.out⟩
          · have g2 : decide (t < pt) = false := by simpa using hf
            have HN := Lib.hid (show listB (prevT l (k + 1)) (l.drop (k + 1)) = R by
              have := HLJ.out
              rw [HPK.out, decide_eq_true (show pt ≤ t by omega)] at this
              rw [HPT.out]; simpa using this)
            clear HLJ HR0
            go_upto_region 4 with fail
            refine region_in (Below wr.heap.size wr) (by kernel_rfl) (by kernel_rfl) (Below.refl _ _).drew ?_
            repeat (go_big_quiet_step (exact HRT.out _))
            refine wpQuiet_nil ?_
            rintro _ ⟨u, rfl⟩
            have HBu := Lib.hid (below_next HB.out u.h)
            clear x0 x1 x2 x3 x4 z0
            go_wp2_with fail
            go_roundw
            case rel => exact ⟨k + 1, by omega, by simp, HBu.out, HN.out⟩
            case measure => simp [RowKit.intOf]; omega
    · have g1 : decide ((k : Int) < (l.length : Int)) = false := by simp; omega
      have gn : decide (k < l.length) = false := by simp; omega
      have hR : R = true := by have := HLI.out; rw [List.drop_of_length_le (by omega)] at this; exact this.symm
      subst hR
      go_wp2_with fail
      go_ret
      exact ⟨rfl, HB.out⟩
end Go.Proofs.YtciogdhapogolaaDoor
