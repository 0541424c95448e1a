/-
  Layer 15 (play): what a player tells of itself, Pause, the small ones.
-/
import Derived.Test.YtdbnpdbnjipjiaaYMem
namespace Go.Proofs.Ytdbnpdbnjipjiaa
open Go.RowKit Go.Lib EM PM
set_option maxRecDepth 100000

/-- Only the player, and new blocks, changed: the player is P now. -/
def PlPost (w : World) (g : Nat) (A : Option Addr) (c : Nat) (P : Pl) (w' : World) : Prop := PlAt w' g A c P ∧ Fr (· = g) w w'
/-- .. and a row of the call's own reads so. -/
def TellPost (w : World) (g : Nat) (A : Option Addr) (c : Nat) (L : List Ev) (P : Pl) (e : Ending) (w' : World) : Prop :=
  ∃ v, e = .returned v ∧ evE.Own w' w.heap.size v L ∧ PlPost w g A c P w'

theorem left_ok (w : World) (g c : Nat) (A : Option Addr) (P : Pl) (h : PlAt w g A c P) (hl : P.l.length ≤ 1000) (ht : P.told ≤ P.l.length) :
    Calls Try.prog 23 #[.pointer (some ⟨g, 0, none⟩)] w fun e w' => e = .returned (.int .i64 ((P.l.length : Int) - (P.told : Int))) ∧ ∃ n, w' = w.drewN n := by
  have hb := h.1
  clear h
  generalize P.l.length = n at *
  generalize P.told = told at *
  obtain ⟨e0, e1, -⟩ := hb.cells
  clear hb
  go_enter Try.func23, Try.ntmps23
  go_wp2_with fail
  go_quiet (fail)
  go_wp2_with fail
  go_ret
  exact ⟨rfl, _, rfl⟩

theorem paused_ok (w : World) (g c : Nat) (A : Option Addr) (P : Pl) (h : PlAt w g A c P) :
    Calls Try.prog 24 #[.pointer (some ⟨g, 0, none⟩)] w fun e w' => e = .returned (.bool P.paused) ∧ w' = w := by
  obtain ⟨-, -, -, -, -, -, e6⟩ := h.1.cells
  clear h
  generalize P.paused = b at *
  go_enter Try.func24, Try.ntmps24
  go_wp2_with fail
  go_ret
  exact ⟨rfl, rfl⟩

theorem pause_ok (w : World) (g c : Nat) (A : Option Addr) (P : Pl) (h : PlAt w g A c P) (on : Bool) :
    Calls Try.prog 17 #[.pointer (some ⟨g, 0, none⟩), .bool on] w fun e w' => e = .returned (.tuple #[]) ∧ PlPost w g A c (P.pause on) w' := by
  obtain ⟨-, -, -, -, -, -, e6⟩ := h.1.cells
  have f6 := h.1.thaw 6
  have H := Lib.hid h
  clear h
  generalize P.paused = b at *
  go_enter Try.func17, Try.ntmps17
  go_wp2_with fail
  go_end0
  have hf : Fr (· = g) w (w.setCell ⟨g, 6, none⟩ (.bool on)) := Fr.setCell (a := ⟨g, 6, none⟩) _ rfl
  exact ⟨rfl, ⟨H.out.1.set6 on, H.out.2.1.below (hf.below (Nat.le_of_lt H.out.lt) (fun k hk => by omega)), H.out.2.2⟩, hf⟩

theorem anew_ok (w : World) (g c : Nat) (A : Option Addr) (P : Pl) (h : PlAt w g A c P) (t : Int) :
    Calls Try.prog 32 #[.pointer (some ⟨g, 0, none⟩), .int .i64 t] w fun e w' => e = .returned (.tuple #[]) ∧ PlPost w g A c (P.anew t) w' := by
  obtain ⟨-, -, e2, e3, -, -, -⟩ := h.1.cells
  have f2 := h.1.thaw 2
  have f3 := h.1.thaw 3
  have H := Lib.hid h
  have h1 := h.1.set2 t
  have k3 := h1.cells.2.2.2.1
  have t3 := h1.thaw 3
  have hf : Fr (· = g) w ((w.setCell ⟨g, 2, none⟩ (.int .i64 t)).setCell ⟨g, 3, none⟩ (.int .i64 0)) := (Fr.setCell (S := (· = g)) (a := ⟨g, 2, none⟩) _ rfl).trans' (Fr.setCell (a := ⟨g, 3, none⟩) _ rfl)
  have HF := Lib.hid hf
  have H1 := Lib.hid (h1.set3 0)
  clear h h1 hf
  go_enter Try.func32, Try.ntmps32
  go_wp2_with fail
  go_end0
  exact ⟨rfl, ⟨H1.out, H.out.2.1.below (HF.out.below (Nat.le_of_lt H.out.lt) (fun k hk => by omega)), H.out.2.2⟩, HF.out⟩

theorem speedS_ok (w : World) (a b : Int) : Calls Try.prog 27 #[.int .i64 a, .int .i64 b] w fun e w' => e = .returned (.bool (rightS a b)) ∧ w' = w := by
  unfold rightS
  rcases h1 : decide (1 ≤ a) with _ | _
  · go_enter Try.func27, Try.ntmps27
    go_wp2
    go_ret
    exact ⟨rfl, rfl⟩
  rcases h2 : decide (a ≤ 1000) with _ | _
  · go_enter Try.func27, Try.ntmps27
    go_wp2
    go_ret
    exact ⟨rfl, rfl⟩
  rcases h3 : decide (1 ≤ b) with _ | _
  · go_enter Try.func27, Try.ntmps27
    go_wp2
    go_ret
    exact ⟨rfl, rfl⟩
  rcases h4 : decide (b ≤ 1000) with _ | _
  · go_enter Try.func27, Try.ntmps27
    go_wp2
    go_ret
    exact ⟨rfl, rfl⟩
  go_enter Try.func27, Try.ntmps27
  go_wp2
  go_ret
  exact ⟨rfl, rfl⟩

theorem rrightS_ok (w : World) (a b : Int) : Calls Try.prog 11 #[.int .i64 a, .int .i64 b] w fun e w' => e = .returned (.bool (rightS a b)) ∧ w' = w := by
  unfold rightS
  rw [show decide (1 ≤ a) = decide (0 < a) by simp only [decide_eq_decide]; omega, show decide (a ≤ 1000) = decide (a < 1001) by simp only [decide_eq_decide]; omega,
    show decide (1 ≤ b) = decide (0 < b) by simp only [decide_eq_decide]; omega, show decide (b ≤ 1000) = decide (b < 1001) by simp only [decide_eq_decide]; omega]
  rcases h1 : decide (0 < a) with _ | _
  · go_enter Try.func11, Try.ntmps11
    go_wp2
    go_ret
    exact ⟨rfl, rfl⟩
  rcases h2 : decide (a < 1001) with _ | _
  · go_enter Try.func11, Try.ntmps11
    go_wp2
    go_ret
    exact ⟨rfl, rfl⟩
  rcases h3 : decide (0 < b) with _ | _
  · go_enter Try.func11, Try.ntmps11
    go_wp2
    go_ret
    exact ⟨rfl, rfl⟩
  rcases h4 : decide (b < 1001) with _ | _
  · go_enter Try.func11, Try.ntmps11
    go_wp2
    go_ret
    exact ⟨rfl, rfl⟩
  go_enter Try.func11, Try.ntmps11
  go_wp2
  go_ret
  exact ⟨rfl, rfl⟩
end Go.Proofs.Ytdbnpdbnjipjiaa
