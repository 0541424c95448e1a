/-
  Layer 7 (glyph), for layer 8: the reference's Right and Wide.
-/
import Derived.Test.YtbpkklcegiiheaaDoorKBase
import Derived.Deep.CutRange
namespace Go.Proofs.YtbpkklcegiiheaaDoor
open Go.RowKit Go.Lib

theorem among_v (w : World) (r a b : Int) (v : Bool) (h : GM.amo r a b = v) : Calls Tryd.prog 59 #[.int .i32 r, .int .i32 a, .int .i32 b] w fun e w' => e = .returned (.bool v) ∧ w' = w := by
  rw [← h]; exact among_ok w r a b

set_option maxRecDepth 100000 in
set_option maxHeartbeats 400000 in
theorem rright_ok (w : World) (r : Int) : Calls Tryd.prog 53 #[.int .i32 r] w fun e w' => e = .returned (.bool (GM.right r)) ∧ w' = w := by
  rcases (by omega : (32 ≤ r ∧ r ≤ 126) ∨ (128 ≤ r ∧ r ≤ 55295) ∨ (57344 ≤ r ∧ r ≤ 1114111) ∨ ((r < 32 ∨ 126 < r) ∧ (r < 128 ∨ 55295 < r) ∧ (r < 57344 ∨ 1114111 < r))) with h | h | h | h
  · have F0 : Hid (GM.amo r 32 126 = true) := Lib.hid (by rw [GM.amo_iff]; omega)
    have hr : GM.right r = true := by rw [GM.right_iff]; omega
    rw [hr]
    clear hr h
    go_enter Tryd.func53, Tryd.ntmps53
    go_wp2_with (go_at_call 59; refine (among_v _ _ _ _ _ (by first | exact F0.out)).mono ?_; rintro e w1 ⟨rfl, rfl⟩)
    go_ret
    exact ⟨rfl, rfl⟩
  · have F0 : Hid (GM.amo r 32 126 = false) := Lib.hid (by rw [GM.amo_not]; omega)
    have F1 : Hid (GM.amo r 128 55295 = true) := Lib.hid (by rw [GM.amo_iff]; omega)
    have hr : GM.right r = true := by rw [GM.right_iff]; omega
    rw [hr]
    clear hr h
    go_enter Tryd.func53, Tryd.ntmps53
    go_wp2_with (go_at_call 59; refine (among_v _ _ _ _ _ (by first | exact F0.out | exact F1.out)).mono ?_; rintro e w1 ⟨rfl, rfl⟩)
    go_ret
    exact ⟨rfl, rfl⟩
  · have F0 : Hid (GM.amo r 32 126 = false) := Lib.hid (by rw [GM.amo_not]; omega)
    have F1 : Hid (GM.amo r 128 55295 = false) := Lib.hid (by rw [GM.amo_not]; omega)
    have F2 : Hid (GM.amo r 57344 1114111 = true) := Lib.hid (by rw [GM.amo_iff]; omega)
    have hr : GM.right r = true := by rw [GM.right_iff]; omega
    rw [hr]
    clear hr h
    go_enter Tryd.func53, Tryd.ntmps53
    go_wp2_with (go_at_call 59; refine (among_v _ _ _ _ _ (by first | exact F0.out | exact F1.out | exact F2.out)).mono ?_; rintro e w1 ⟨rfl, rfl⟩)
    go_ret
    exact ⟨rfl, rfl⟩
  · have F0 : Hid (GM.amo r 32 126 = false) := Lib.hid (by rw [GM.amo_not]; omega)
    have F1 : Hid (GM.amo r 128 55295 = false) := Lib.hid (by rw [GM.amo_not]; omega)
    have F2 : Hid (GM.amo r 57344 1114111 = false) := Lib.hid (by rw [GM.amo_not]; omega)
    have hr : GM.right r = false := by rw [← Bool.not_eq_true, GM.right_iff]; omega
    rw [hr]
    clear hr h
    go_enter Tryd.func53, Tryd.ntmps53
    go_wp2_with (go_at_call 59; refine (among_v _ _ _ _ _ (by first | exact F0.out | exact F1.out | exact F2.out)).mono ?_; rintro e w1 ⟨rfl, rfl⟩)
    go_ret
    exact ⟨rfl, rfl⟩

/-- Wide by the reference's three statements. -/
theorem wide_three (r : Int) : GM.wide r = ((GM.amo r 4352 4447 || GM.amo r 11904 12350 || GM.amo r 12352 42191 || GM.amo r 44032 55203) || (GM.amo r 63744 64255 || GM.amo r 65072 65135 || GM.amo r 65280 65376 || GM.amo r 65504 65510) || (GM.amo r 127744 128591 || GM.amo r 131072 262141)) := by
  rw [Bool.eq_iff_iff, GM.wide_iff]
  simp only [Bool.or_eq_true, GM.amo_iff]
  omega

set_option maxRecDepth 100000 in
set_option maxHeartbeats 2000000 in
theorem rwide_ok (w : World) (r : Int) : Calls Tryd.prog 32 #[.int .i32 r] w fun e w' => e = .returned (.bool (GM.wide r)) ∧ w' = w := by
  rw [wide_three]
  obtain ⟨b1, e1⟩ : ∃ b1 : Bool, b1 = (GM.amo r 4352 4447 || GM.amo r 11904 12350 || GM.amo r 12352 42191 || GM.amo r 44032 55203) := ⟨_, rfl⟩
  obtain ⟨b2, e2⟩ : ∃ b2 : Bool, b2 = (GM.amo r 63744 64255 || GM.amo r 65072 65135 || GM.amo r 65280 65376 || GM.amo r 65504 65510) := ⟨_, rfl⟩
  obtain ⟨b3, e3⟩ : ∃ b3 : Bool, b3 = (GM.amo r 127744 128591 || GM.amo r 131072 262141) := ⟨_, rfl⟩
  rw [← e1, ← e2, ← e3]
  have E1 := Lib.hid e1
  have E2 := Lib.hid e2
  have E3 := Lib.hid e3
  clear e1 e2 e3
  go_enter Tryd.func32, Tryd.ntmps32
  go_upto_region 1 with fail
  go_cut [16] from 3 to 16 (fun o wc => o = .bool b1 ∧ wc = w)
  case first =>
    rcases f0 : GM.amo r 4352 4447 with _ | _
    · have F0 := Lib.hid f0
      clear f0
      rcases f1 : GM.amo r 11904 12350 with _ | _
      · have F1 := Lib.hid f1
        clear f1
        rcases f2 : GM.amo r 12352 42191 with _ | _
        · have F2 := Lib.hid f2
          clear f2
          rcases f3 : GM.amo r 44032 55203 with _ | _
          · have F3 := Lib.hid f3
            clear f3
            go_wp2_with (go_at_call 59; refine (among_v _ _ _ _ _ (by first | exact F0.out | exact F1.out | exact F2.out | exact F3.out)).mono ?_; rintro e w1 ⟨rfl, rfl⟩)
            go_meet
            case rel => exact ⟨by rw [E1.out, F0.out, F1.out, F2.out, F3.out]; rfl, rfl⟩
          · have F3 := Lib.hid f3
            clear f3
            go_wp2_with (go_at_call 59; refine (among_v _ _ _ _ _ (by first | exact F0.out | exact F1.out | exact F2.out | exact F3.out)).mono ?_; rintro e w1 ⟨rfl, rfl⟩)
            go_meet
            case rel => exact ⟨by rw [E1.out, F0.out, F1.out, F2.out, F3.out]; rfl, rfl⟩
        · have F2 := Lib.hid f2
          clear f2
          go_wp2_with (go_at_call 59; refine (among_v _ _ _ _ _ (by first | exact F0.out | exact F1.out | exact F2.out)).mono ?_; rintro e w1 ⟨rfl, rfl⟩)
          go_meet
          case rel => exact ⟨by rw [E1.out, F0.out, F1.out, F2.out]; rfl, rfl⟩
      · have F1 := Lib.hid f1
        clear f1
        go_wp2_with (go_at_call 59; refine (among_v _ _ _ _ _ (by first | exact F0.out | exact F1.out)).mono ?_; rintro e w1 ⟨rfl, rfl⟩)
        go_meet
        case rel => exact ⟨by rw [E1.out, F0.out, F1.out]; rfl, rfl⟩
    · have F0 := Lib.hid f0
      clear f0
      go_wp2_with (go_at_call 59; refine (among_v _ _ _ _ _ (by first | exact F0.out)).mono ?_; rintro e w1 ⟨rfl, rfl⟩)
      go_meet
      case rel => exact ⟨by rw [E1.out, F0.out]; rfl, rfl⟩
  case rest =>
    obtain ⟨rfl, rfl⟩ := hcut
    rcases b1 with _ | _
    · go_upto_region 3 with fail
      go_cut [30] from 17 to 30 (fun o wd => o = .bool b2 ∧ wd = wc)
      case first =>
        rcases f0 : GM.amo r 63744 64255 with _ | _
        · have F0 := Lib.hid f0
          clear f0
          rcases f1 : GM.amo r 65072 65135 with _ | _
          · have F1 := Lib.hid f1
            clear f1
            rcases f2 : GM.amo r 65280 65376 with _ | _
            · have F2 := Lib.hid f2
              clear f2
              rcases f3 : GM.amo r 65504 65510 with _ | _
              · have F3 := Lib.hid f3
                clear f3
                go_wp2_with (go_at_call 59; refine (among_v _ _ _ _ _ (by first | exact F0.out | exact F1.out | exact F2.out | exact F3.out)).mono ?_; rintro e w1 ⟨rfl, rfl⟩)
                go_meet
                case rel => exact ⟨by rw [E2.out, F0.out, F1.out, F2.out, F3.out]; rfl, rfl⟩
              · have F3 := Lib.hid f3
                clear f3
                go_wp2_with (go_at_call 59; refine (among_v _ _ _ _ _ (by first | exact F0.out | exact F1.out | exact F2.out | exact F3.out)).mono ?_; rintro e w1 ⟨rfl, rfl⟩)
                go_meet
                case rel => exact ⟨by rw [E2.out, F0.out, F1.out, F2.out, F3.out]; rfl, rfl⟩
            · have F2 := Lib.hid f2
              clear f2
              go_wp2_with (go_at_call 59; refine (among_v _ _ _ _ _ (by first | exact F0.out | exact F1.out | exact F2.out)).mono ?_; rintro e w1 ⟨rfl, rfl⟩)
              go_meet
              case rel => exact ⟨by rw [E2.out, F0.out, F1.out, F2.out]; rfl, rfl⟩
          · have F1 := Lib.hid f1
            clear f1
            go_wp2_with (go_at_call 59; refine (among_v _ _ _ _ _ (by first | exact F0.out | exact F1.out)).mono ?_; rintro e w1 ⟨rfl, rfl⟩)
            go_meet
            case rel => exact ⟨by rw [E2.out, F0.out, F1.out]; rfl, rfl⟩
        · have F0 := Lib.hid f0
          clear f0
          go_wp2_with (go_at_call 59; refine (among_v _ _ _ _ _ (by first | exact F0.out)).mono ?_; rintro e w1 ⟨rfl, rfl⟩)
          go_meet
          case rel => exact ⟨by rw [E2.out, F0.out]; rfl, rfl⟩
      case rest =>
        obtain ⟨rfl, hw⟩ := hcut
        rw [hw]
        clear hw
        rcases b2 with _ | _
        · clear E1 E2
          rcases f0 : GM.amo r 127744 128591 with _ | _
          · have F0 := Lib.hid f0
            clear f0
            rcases f1 : GM.amo r 131072 262141 with _ | _
            · have F1 := Lib.hid f1
              clear f1
              go_wp2_with (go_at_call 59; refine (among_v _ _ _ _ _ (by first | exact F0.out | exact F1.out)).mono ?_; rintro e w1 ⟨rfl, rfl⟩)
              go_ret
              exact ⟨by rw [E3.out, F0.out, F1.out]; rfl, rfl⟩
            · have F1 := Lib.hid f1
              clear f1
              go_wp2_with (go_at_call 59; refine (among_v _ _ _ _ _ (by first | exact F0.out | exact F1.out)).mono ?_; rintro e w1 ⟨rfl, rfl⟩)
              go_ret
              exact ⟨by rw [E3.out, F0.out, F1.out]; rfl, rfl⟩
          · have F0 := Lib.hid f0
            clear f0
            go_wp2_with (go_at_call 59; refine (among_v _ _ _ _ _ (by first | exact F0.out)).mono ?_; rintro e w1 ⟨rfl, rfl⟩)
            go_ret
            exact ⟨by rw [E3.out, F0.out]; rfl, rfl⟩
        · go_wp2
          go_ret
          exact ⟨rfl, rfl⟩
    · go_wp2
      go_ret
      exact ⟨rfl, rfl⟩
end Go.Proofs.YtbpkklcegiiheaaDoor
