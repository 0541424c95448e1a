/-
  Layer 15 (play): a player behind a pointer.
-/
import Derived.Test.YtdbnpdbnjipjiaaYFr
import Derived.Test.YtdbnpdbnjipjiaaYMath
import Derived.Test.YtdbnpdbnjipjiaaYDivT
import Derived.BigQuiet
namespace Go.Proofs.Ytdbnpdbnjipjiaa
open Go.RowKit Go.Lib EM PM
set_option maxRecDepth 100000

/-- A block that holds a player's fields. -/
def PlB (w : World) (g : Nat) (A : Option Addr) (n c told : Nat) (s wl p q : Int) (b : Bool) : Prop :=
  w.heap[g]? = some (.cells #[.slice A n c, .int .i64 (told : Int), .int .i64 s, .int .i64 wl, .int .i64 p, .int .i64 q, .bool b] 57 (0, 0))
section
variable {w w' : World} {g B n c told : Nat} {A : Option Addr} {s wl p q : Int} {b : Bool}
theorem PlB.cells (h : PlB w g A n c told s wl p q b) : w.cell? ⟨g, 0, none⟩ = some (.slice A n c) ∧ w.cell? ⟨g, 1, none⟩ = some (.int .i64 (told : Int)) ∧ w.cell? ⟨g, 2, none⟩ = some (.int .i64 s) ∧ w.cell? ⟨g, 3, none⟩ = some (.int .i64 wl) ∧
    w.cell? ⟨g, 4, none⟩ = some (.int .i64 p) ∧ w.cell? ⟨g, 5, none⟩ = some (.int .i64 q) ∧ w.cell? ⟨g, 6, none⟩ = some (.bool b) := by
  unfold PlB at h
  simp [World.cell?, h]
theorem PlB.lt (h : PlB w g A n c told s wl p q b) : g < w.heap.size := (Array.getElem?_eq_some_iff.1 h).1
theorem PlB.thaw (h : PlB w g A n c told s wl p q b) (j : Nat) : w.frozen? ⟨g, j, none⟩ = false := by
  unfold PlB at h
  simp [World.frozen?, h]
theorem PlB.below (h : PlB w g A n c told s wl p q b) (hb : Below B w w') (hg : g < B) : PlB w' g A n c told s wl p q b := (hb.block g hg).trans h
theorem PlB.next (h : PlB w g A n c told s wl p q b) (hb : Below w.heap.size w w') : PlB w' g A n c told s wl p q b := h.below hb h.lt
theorem PlB.set1 (h : PlB w g A n c told s wl p q b) (v : Nat) : PlB (w.setCell ⟨g, 1, none⟩ (.int .i64 (v : Int))) g A n c v s wl p q b := by
  unfold PlB at h ⊢
  simp [World.setCell, Array.getElem?_modify, h]
theorem PlB.set2 (h : PlB w g A n c told s wl p q b) (v : Int) : PlB (w.setCell ⟨g, 2, none⟩ (.int .i64 v)) g A n c told v wl p q b := by
  unfold PlB at h ⊢
  simp [World.setCell, Array.getElem?_modify, h]
theorem PlB.set3 (h : PlB w g A n c told s wl p q b) (v : Int) : PlB (w.setCell ⟨g, 3, none⟩ (.int .i64 v)) g A n c told s v p q b := by
  unfold PlB at h ⊢
  simp [World.setCell, Array.getElem?_modify, h]
theorem PlB.set4 (h : PlB w g A n c told s wl p q b) (v : Int) : PlB (w.setCell ⟨g, 4, none⟩ (.int .i64 v)) g A n c told s wl v q b := by
  unfold PlB at h ⊢
  simp [World.setCell, Array.getElem?_modify, h]
theorem PlB.set5 (h : PlB w g A n c told s wl p q b) (v : Int) : PlB (w.setCell ⟨g, 5, none⟩ (.int .i64 v)) g A n c told s wl p v b := by
  unfold PlB at h ⊢
  simp [World.setCell, Array.getElem?_modify, h]
theorem PlB.set6 (h : PlB w g A n c told s wl p q b) (v : Bool) : PlB (w.setCell ⟨g, 6, none⟩ (.bool v)) g A n c told s wl p q v := by
  unfold PlB at h ⊢
  simp [World.setCell, Array.getElem?_modify, h]
end

/-- A player behind a pointer to block g, its list where A says (below the block). -/
def PlAt (w : World) (g : Nat) (A : Option Addr) (c : Nat) (P : Pl) : Prop :=
  PlB w g A P.l.length c P.told P.start P.wall P.p P.q P.paused ∧ evE.Row w g A P.l ∧ (A = none → c = 0) ∧ P.l.length ≤ c
section
variable {w w' : World} {g c : Nat} {A : Option Addr} {P : Pl}
theorem PlAt.lt (h : PlAt w g A c P) : g < w.heap.size := h.1.lt
theorem PlAt.row (h : PlAt w g A c P) : evE.Row w g A P.l := h.2.1
theorem PlAt.next (h : PlAt w g A c P) (hb : Below w.heap.size w w') : PlAt w' g A c P := ⟨h.1.next hb, h.2.1.below (hb.mono (Nat.le_of_lt h.lt)), h.2.2⟩
theorem PlAt.below (h : PlAt w g A c P) (hb : Below (g + 1) w w') : PlAt w' g A c P := ⟨h.1.below hb (by omega), h.2.1.below (hb.mono (by omega)), h.2.2⟩
/-- What changes neither the player nor its list. -/
theorem PlAt.keep {S : Nat → Prop} (h : PlAt w g A c P) (hf : Fr S w w') (hS : ¬ S g) (hA : ∀ a, A = some a → ¬ S a.block) : PlAt w' g A c P := by
  have hg := h.lt
  refine ⟨(hf.block g hg hS).trans h.1, fun hp => ?_, h.2.2⟩
  obtain ⟨b, off, e, hb, hc⟩ := h.2.1 hp
  refine ⟨b, off, e, hb, fun j hj => ?_⟩
  rw [← hc j hj]
  have := hf.block b (by omega) (hA _ e)
  unfold World.cell?
  rw [this]
/-- What changes younger blocks alone. -/
theorem PlAt.fr {S : Nat → Prop} (h : PlAt w g A c P) (hf : Fr S w w') (hS : ∀ k, S k → g < k) : PlAt w' g A c P :=
  h.below (hf.below (B := g + 1) h.lt hS)
end

/-! ### what it tells of itself -/
set_option maxHeartbeats 1000000 in
theorem now_ok (w : World) (g c : Nat) (A : Option Addr) (P : Pl) (h : PlAt w g A c P) (ok : P.Ok) :
    Calls Try.prog 21 #[.pointer (some ⟨g, 0, none⟩)] w fun e w' => e = .returned (.int .i64 P.now) ∧ ∃ n, w' = w.drewN n := by
  have hb := h.1
  have hg0 := ok.gone
  obtain ⟨s0, s1, w0, w1, p0, p1, q0, q1, -, -, -⟩ := ok
  have hnow : P.now = min (P.start + P.wall * P.p / P.q) 4611686018427387904 := rfl
  generalize P.now = N at *
  clear h
  obtain ⟨l, told, s, wl, p, q, b⟩ := P
  simp only at hb hg0 s0 s1 w0 w1 p0 p1 q0 q1 hnow
  have HM := Lib.hid (fun w => mul64_ok w wl p w0 w1 (by omega) p1)
  have hx0 : 0 ≤ wl * p := Int.mul_nonneg w0 (by omega)
  generalize wl * p = x at *
  obtain ⟨HI, hHI⟩ : ∃ HI, HI = x / 18446744073709551616 := ⟨_, rfl⟩
  obtain ⟨LO, hLO⟩ : ∃ LO, LO = x % 18446744073709551616 := ⟨_, rfl⟩
  rw [← hHI, ← hLO] at HM
  have hx : 18446744073709551616 * HI + LO = x := by omega
  have bHI : 0 ≤ HI := by omega
  have bLO : 0 ≤ LO ∧ LO < 18446744073709551616 := by omega
  have HB := Lib.hid hb
  by_cases hq : q ≤ HI
  · have g1 : decide (q ≤ HI) = true := decide_eq_true hq
    have hN : N = 4611686018427387904 := by
      have : 18446744073709551616 ≤ x / q := by
        refine Int.le_ediv_of_mul_le (by omega) ?_
        omega
      omega
    rw [hN]
    clear hnow hHI hLO hN hx
    obtain ⟨e0, e1, e2, e3, e4, e5, e6⟩ := hb.cells
    clear hb
    go_enter Try.func21, Try.ntmps21
    go_wp2_with fail
    go_quiet (first | (go_at_call 33; exact Calls.quiet_of_same (HM.out _)))
    go_wp2_with fail
    go_ret
    exact ⟨rfl, _, rfl⟩
  · have g1 : decide (q ≤ HI) = false := decide_eq_false hq
    have HD := Lib.hid (fun w => div64_ok w HI LO q bHI (by omega) bLO.1 bLO.2 q1)
    rw [hx] at HD
    have hG : x / q ≤ 18446744073709551615 := by
      have : x / q < 18446744073709551616 := Int.ediv_lt_of_lt_mul (by omega) (by omega)
      omega
    generalize x / q = G at *
    obtain ⟨m, hm⟩ : ∃ m, min G (4611686018427387904 - s) = m := ⟨_, rfl⟩
    have bm : 0 ≤ m ∧ m ≤ 4611686018427387904 - s := by omega
    have hN : N = s + m := by omega
    rw [hN]
    clear hnow hHI hLO hN hx hx0
    obtain ⟨e0, e1, e2, e3, e4, e5, e6⟩ := hb.cells
    clear hb
    go_enter Try.func21, Try.ntmps21
    go_wp2_with fail
    go_quiet (first | (go_at_call 33; exact Calls.quiet_of_same (HM.out _)))
    go_wp2_with (refine (HD.out _).mono ?_; rintro e w1 ⟨⟨r, rfl⟩, n, hw⟩; rw [hw]; clear hw w1)
    go_region
    go_wp2_with fail
    go_ret
    exact ⟨rfl, _, rfl⟩
end Go.Proofs.Ytdbnpdbnjipjiaa
