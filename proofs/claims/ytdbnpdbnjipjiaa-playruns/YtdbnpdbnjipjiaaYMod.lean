/-
  Layer 15's laws: the reference's player.
-/
import Derived.Test.YtdbnpdbnjipjiaaYDo
import Derived.Test.YtdbnpdbnjipjiaaYScale
import Derived.StillTailTactics
namespace Go.Proofs.Ytdbnpdbnjipjiaa
open Go.RowKit Go.Lib EM PM
set_option maxRecDepth 100000

/-- A block that holds the reference's player's fields. -/
def MoB (w : World) (g : Nat) (A : Option Addr) (n c told : Nat) (s wl p q : Int) (b : Bool) : Prop :=
  w.heap[g]? = some (.cells #[.slice A n c, .int .i64 s, .int .i64 p, .int .i64 q, .int .i64 wl, .int .i64 (told : Int), .bool b] 34 (0, 0))
section
variable {w w' : World} {g B n c told : Nat} {A : Option Addr} {s wl p q : Int} {b : Bool}
theorem MoB.cells (h : MoB w g A n c told s wl p q b) : w.cell? ⟨g, 0, none⟩ = some (.slice A n c) ∧ w.cell? ⟨g, 1, none⟩ = some (.int .i64 s) ∧ w.cell? ⟨g, 2, none⟩ = some (.int .i64 p) ∧ w.cell? ⟨g, 3, none⟩ = some (.int .i64 q) ∧
    w.cell? ⟨g, 4, none⟩ = some (.int .i64 wl) ∧ w.cell? ⟨g, 5, none⟩ = some (.int .i64 (told : Int)) ∧ w.cell? ⟨g, 6, none⟩ = some (.bool b) := by
  unfold MoB at h
  simp [World.cell?, h]
theorem MoB.lt (h : MoB w g A n c told s wl p q b) : g < w.heap.size := (Array.getElem?_eq_some_iff.1 h).1
theorem MoB.thaw (h : MoB w g A n c told s wl p q b) (j : Nat) : w.frozen? ⟨g, j, none⟩ = false := by
  unfold MoB at h
  simp [World.frozen?, h]
theorem MoB.below (h : MoB w g A n c told s wl p q b) (hb : Below B w w') (hg : g < B) : MoB w' g A n c told s wl p q b := (hb.block g hg).trans h
theorem MoB.next (h : MoB w g A n c told s wl p q b) (hb : Below w.heap.size w w') : MoB w' g A n c told s wl p q b := h.below hb h.lt
theorem MoB.set1 (h : MoB w g A n c told s wl p q b) (v : Int) : MoB (w.setCell ⟨g, 1, none⟩ (.int .i64 v)) g A n c told v wl p q b := by
  unfold MoB at h ⊢
  simp [World.setCell, Array.getElem?_modify, h]
theorem MoB.set2 (h : MoB w g A n c told s wl p q b) (v : Int) : MoB (w.setCell ⟨g, 2, none⟩ (.int .i64 v)) g A n c told s wl v q b := by
  unfold MoB at h ⊢
  simp [World.setCell, Array.getElem?_modify, h]
theorem MoB.set3 (h : MoB w g A n c told s wl p q b) (v : Int) : MoB (w.setCell ⟨g, 3, none⟩ (.int .i64 v)) g A n c told s wl p v b := by
  unfold MoB at h ⊢
  simp [World.setCell, Array.getElem?_modify, h]
theorem MoB.set4 (h : MoB w g A n c told s wl p q b) (v : Int) : MoB (w.setCell ⟨g, 4, none⟩ (.int .i64 v)) g A n c told s v p q b := by
  unfold MoB at h ⊢
  simp [World.setCell, Array.getElem?_modify, h]
theorem MoB.set5 (h : MoB w g A n c told s wl p q b) (v : Int) (k : Nat) (hk : v = (k : Int)) : MoB (w.setCell ⟨g, 5, none⟩ (.int .i64 v)) g A n c k s wl p q b := by
  subst hk
  unfold MoB at h ⊢
  simp [World.setCell, Array.getElem?_modify, h]
theorem MoB.set6 (h : MoB w g A n c told s wl p q b) (v : Bool) : MoB (w.setCell ⟨g, 6, none⟩ (.bool v)) g A n c told s wl p q v := by
  unfold MoB at h ⊢
  simp [World.setCell, Array.getElem?_modify, h]
end

/-- The reference's player behind a pointer to block g, its list where A says (below the block). -/
def MoAt (w : World) (g : Nat) (A : Option Addr) (c : Nat) (P : Pl) : Prop :=
  MoB w g A P.l.length c P.told P.start P.wall P.p P.q P.paused ∧ evE.Row w g A P.l
section
variable {w w' : World} {g c : Nat} {A : Option Addr} {P : Pl}
theorem MoAt.lt (h : MoAt w g A c P) : g < w.heap.size := h.1.lt
theorem MoAt.next (h : MoAt w g A c P) (hb : Below w.heap.size w w') : MoAt w' g A c P := ⟨h.1.next hb, h.2.below (hb.mono (Nat.le_of_lt h.lt))⟩
theorem MoAt.sized (h : MoAt w g A c P) (hf : Fr (· = g) w w') : evE.Row w' g A P.l := h.2.below (hf.below (Nat.le_of_lt h.lt) (fun k hk => by omega))
/-- What changes neither the player nor its list. -/
theorem MoAt.keep {S : Nat → Prop} (h : MoAt w g A c P) (hf : Fr S w w') (hS : ¬ S g) (hA : ∀ a, A = some a → ¬ S a.block) : MoAt w' g A c P := by
  have hg := h.lt
  refine ⟨(hf.block g hg hS).trans h.1, fun hp => ?_⟩
  obtain ⟨b, off, e, hb, hc⟩ := h.2 hp
  refine ⟨b, off, e, hb, fun j hj => ?_⟩
  rw [← hc j hj]
  have := hf.block b (by omega) (hA _ e)
  unfold World.cell?
  rw [this]
end
/-- Only the reference's player, and new blocks, changed. -/
def MPost (w : World) (g : Nat) (A : Option Addr) (c : Nat) (P : Pl) (w' : World) : Prop := MoAt w' g A c P ∧ Fr (· = g) w w'
def MTell (w : World) (g : Nat) (A : Option Addr) (c : Nat) (L : List Ev) (P : Pl) (e : Ending) (w' : World) : Prop :=
  ∃ v, e = .returned v ∧ evE.Own w' w.heap.size v L ∧ MPost w g A c P w'
theorem MTell.from {w w1 : World} {g c : Nat} {A : Option Addr} {L : List Ev} {P : Pl} {e : Ending} {w' : World} (h : MTell w1 g A c L P e w') (hf : Fr (· = g) w w1) : MTell w g A c L P e w' := by
  obtain ⟨v, he, ho, hp, hf'⟩ := h
  exact ⟨v, he, ho.mono hf.size, hp, hf.trans' hf'⟩

set_option maxHeartbeats 1000000 in
theorem mnow_ok (w : World) (g n c told : Nat) (A : Option Addr) (s wl p q : Int) (b : Bool) (h : MoB w g A n c told s wl p q b) (s0 : 0 ≤ s) (s1 : s < 4611686018427387904) (w0 : 0 ≤ wl) (w1 : wl ≤ 4611686018427387904) (p0 : 1 ≤ p) (p1 : p ≤ 1000) (q0 : 1 ≤ q) (q1 : q ≤ 1000) :
    Calls Try.prog 22 #[.pointer (some ⟨g, 0, none⟩)] w fun e w' => e = .returned (.int .i64 (min (s + wl * p / q) 4611686018427387904)) ∧ ∃ n, w' = w.drewN n := by
  have HS := Lib.hid (fun w => scale_ok w wl p q w0 w1 p0 p1 q0 q1)
  have hx0 : 0 ≤ wl * p / q := Int.ediv_nonneg (Int.mul_nonneg w0 (by omega)) (by omega)
  generalize wl * p / q = x at *
  obtain ⟨t, ht⟩ : ∃ t, min x 4611686018427387904 = t := ⟨_, rfl⟩
  rw [ht] at HS
  obtain ⟨N, hN⟩ : ∃ N, min (s + x) 4611686018427387904 = N := ⟨_, rfl⟩
  rw [hN]
  have bt : 0 ≤ t ∧ t ≤ 4611686018427387904 := by omega
  obtain ⟨e0, e1, e2, e3, e4, e5, e6⟩ := h.cells
  clear h
  by_cases hc : 4611686018427387904 - s < t
  · have g1 : decide (4611686018427387904 - s < t) = true := decide_eq_true hc
    obtain rfl : N = 4611686018427387904 := by omega
    clear ht hN hx0
    go_enter Try.func22, Try.ntmps22
    go_wp2_with fail
    go_quiet (first | (go_at_call 35; exact Calls.quiet_of_same (HS.out _)))
    go_wp2_with fail
    go_ret
    exact ⟨rfl, _, rfl⟩
  · have g1 : decide (4611686018427387904 - s < t) = false := decide_eq_false hc
    obtain rfl : N = s + t := by omega
    clear ht hN hx0
    go_enter Try.func22, Try.ntmps22
    go_wp2_with fail
    go_quiet (first | (go_at_call 35; exact Calls.quiet_of_same (HS.out _)))
    go_wp2_with fail
    go_ret
    exact ⟨rfl, _, rfl⟩

/-- append(v, x...), one operation. -/
theorem El.oper_append {α : Type} (E : El α) {w : World} {o : Oper} {a : Act} {K : Act → World → Prop} {Q : Exit → Act → World → Prop} (s x : Operand)
    (ho : o.op = .call { callee := .builtin .append, args := #[s, x], argTypes := #[E.sl, E.sl] }) (base : Nat) (v : Value) (L : List α) (hs : a.eval s = v) (hown : E.Own w base v L)
    (A : Option Addr) (M : List α) (n c B : Nat) (hn : n = M.length) (hx : a.eval x = .slice A n c) (hr : E.Row w B A M) (hA : A = none → c = 0) (hlen : (L.length + M.length) * E.bytes ≤ 140737488355328) (hmax : L.length + M.length ≤ maxLen) (hbase : base ≤ w.heap.size)
    (h : ∀ v' w', E.Own w' base v' (L ++ M) → Grow w w' v v' → K (a.put o.dst v') w') : Oper.wp Try.prog o a w K Q := by
  subst hn
  obtain ⟨v', w', hrun, h2, h3⟩ := E.run_append w base o.type v L hown A M c B hr hA hlen hmax hbase
  unfold Oper.wp execOp
  simp only [ho, resolve, invoke, builtin, Sem.run_bind, Sem.run_pure, Result.andThen_ok, List.map_toArray, List.map_cons, List.map_nil, hs, hx, hrun]
  exact h v' w' h2 h3

/-- How long a slice value is. -/
def vlen : Value → Nat
  | .slice _ n _ => n
  | _ => 0

set_option maxHeartbeats 2000000 in
theorem mdue_ok (w : World) (g c : Nat) (A : Option Addr) (P : Pl) (h : MoAt w g A c P) (ok : P.Ok) (ht : P.told ≤ upTo P.l P.now) :
    Calls Try.prog 12 #[.pointer (some ⟨g, 0, none⟩)] w (MTell w g A c (seg P.l P.told P.due.told) P.due) := by
  have hle := upTo_le P.l P.now
  have hdue : P.due = { P with told := upTo P.l P.now } := rfl
  obtain ⟨hp1, hp2⟩ := upTo_parts P.l P.now ok.rise
  have hnow : P.now = min (P.start + P.wall * P.p / P.q) 4611686018427387904 := rfl
  have HN := Lib.hid (fun v n c t A b (hv : MoB v g A n c t P.start P.wall P.p P.q b) => mnow_ok v g n c t A P.start P.wall P.p P.q b hv ok.s0 ok.s1 ok.w0 ok.w1 ok.p0 ok.p1 ok.q0 ok.q1)
  rw [← hnow] at HN
  rw [show P.due.told = upTo P.l P.now from rfl, hdue]
  have hlen := ok.len
  clear hdue hnow ok
  generalize P.now = N at *
  generalize upTo P.l N = d at *
  have H1 := Lib.hid h.1
  have HRW := Lib.hid h.2
  clear h
  obtain ⟨l, told, s, wl, p, q, b⟩ := P
  simp only at H1 HRW hle hlen ht HN hp1 hp2
  have HP1 := Lib.hid hp1
  have HP2 := Lib.hid hp2
  have hgs := H1.out.lt
  clear hp1 hp2
  go_enter Try.func12, Try.ntmps12
  go_wp2_with fail
  go_loopw [3] (fun v wr => ∃ t : Nat, told ≤ t ∧ t ≤ d ∧ MoB wr g A l.length c t s wl p q b ∧ Fr (· = g) w wr ∧ evE.Own wr w.heap.size v (seg l told t)) (fun v _ => (d - told) - vlen v)
  case atStart => exact ⟨told, Nat.le_refl _, ht, H1.out, Fr.refl _ _, by rw [seg_self]; exact El.Own.nil _ _⟩
  case round =>
    obtain ⟨t, ht0, ht1, hb, hf, ho⟩ := hrel
    have HB := Lib.hid hb
    have HF := Lib.hid hf
    have hzr := hf.size
    have HRr := Lib.hid (HRW.out.below (hf.below (Nat.le_of_lt hgs) (fun k hk => by omega)))
    obtain ⟨e0, e1, e2, e3, e4, e5, e6⟩ := hb.cells
    obtain ⟨Ao, co, hvo, -, -, -, -⟩ := ho.row
    have HSL := Lib.hid (seg_len l told t ht0 (by omega))
    rw [HSL.out] at hvo
    subst hvo
    have HO := Lib.hid ho
    clear hb hf ho e1 e2 e3 e4 e6
    by_cases htd : t < d
    · have hi : t < l.length := by omega
      have hle1 := HP1.out t hi htd
      have HT1 := Lib.hid (seg_len l told (t + 1) (by omega) (by omega))
      have hsn : seg l told t ++ [l[t]] = seg l told (t + 1) := by
        rw [← seg_app l told t (t + 1) ht0 (by omega)]
        congr 1
        unfold seg
        rw [show t + 1 - t = 1 by omega, List.drop_eq_getElem_cons hi]
        rfl
      have HSN := Lib.hid hsn
      obtain ⟨b0, off, rfl, hbl, c0, c1, c2, c3, c4⟩ := ev_at HRr.out hi
      generalize l[t] = ev at *
      obtain ⟨et, ek, ed, ew, eh⟩ := ev
      simp only at c0 c1 c2 c3 c4 hle1
      have g1 : decide ((t : Int) < (l.length : Int)) = true := decide_eq_true (by omega)
      have g1' : decide (t < l.length) = true := decide_eq_true hi
      have g2 : decide (et ≤ N) = true := decide_eq_true hle1
      have g3 : (t : Int) < (l.length : Int) := by omega
      clear hsn hle1
      go_wp2_with fail
      go_quiet (first | (go_at_call 22; exact Calls.quiet_of (HN.out _ _ _ _ _ _ HB.out)))
      have HBq := Lib.hid (show MoB (wr.drewN nq) g (some ⟨b0, off, none⟩) l.length c t s wl p q b from HB.out)
      have HFq := Lib.hid (HF.out.trans' (Fr.drewN (· = g) wr nq))
      have HOq := Lib.hid (show evE.Own (wr.drewN nq) w.heap.size (.slice Ao (t - told) co) (seg l told t) from HO.out)
      have c0 : (wr.drewN nq).cell? ⟨b0, off + t * 5, none⟩ = some (.int .i64 et) := c0
      have c1 : (wr.drewN nq).cell? ⟨b0, off + t * 5 + 1, none⟩ = some (.int .i64 ek) := c1
      have c2 : (wr.drewN nq).cell? ⟨b0, off + t * 5 + 2, none⟩ = some (.string ed) := c2
      have c3 : (wr.drewN nq).cell? ⟨b0, off + t * 5 + 3, none⟩ = some (.int .i64 ew) := c3
      have c4 : (wr.drewN nq).cell? ⟨b0, off + t * 5 + 4, none⟩ = some (.int .i64 eh) := c4
      have e0 : (wr.drewN nq).cell? ⟨g, 0, none⟩ = some (.slice (some ⟨b0, off, none⟩) l.length c) := e0
      have e5 : (wr.drewN nq).cell? ⟨g, 5, none⟩ = some (.int .i64 (t : Int)) := e5
      have hzq : wr.heap.size ≤ (wr.drewN nq).heap.size := Nat.le_refl _
      have HCq := Lib.hid (fun (v : World) (hv : Below w.heap.size (wr.drewN nq) v) => And.intro ((hv.cell (p := ⟨b0, off + t * 5, none⟩) (by show b0 < w.heap.size; omega)).trans c0) (And.intro ((hv.cell (p := ⟨b0, off + t * 5 + 1, none⟩) (by show b0 < w.heap.size; omega)).trans c1)
        (And.intro ((hv.cell (p := ⟨b0, off + t * 5 + 2, none⟩) (by show b0 < w.heap.size; omega)).trans c2) (And.intro ((hv.cell (p := ⟨b0, off + t * 5 + 3, none⟩) (by show b0 < w.heap.size; omega)).trans c3) ((hv.cell (p := ⟨b0, off + t * 5 + 4, none⟩) (by show b0 < w.heap.size; omega)).trans c4)))))
      generalize wr.drewN nq = wq at *
      go_wp2_with fail
      clear e0 e5 c0 c1 c2 c3 c4
      refine wp_region_noPanic ?_
      refine wp_region_held_drew (S := fun v => Below w.heap.size wq v) (by kernel_rfl) (Below.refl _ _).drew (fun hHeld => ?_)
      have HSd := Lib.hid hHeld
      refine wpAnyH_take (i := 0) (v := ?va0) rfl (by kernel_rfl) (by kernel_rfl) (by kernel_rfl) (fun _ _ _ h => h) (Or.inl ⟨by rfl, ?ha0⟩) (by assumption) ?_
      case ha0 => intro w hSw; (try dsimp only at hSw); obtain ⟨e0, e1, e2, e3, e4, e5, e6⟩ := (HBq.out.below hSw hgs).cells; obtain ⟨c0, c1, c2, c3, c4⟩ := HCq.out _ hSw; go_simp; try with_reducible rfl
      simp only [List.getElem_toArray, List.getElem_cons_zero, Act.put, List.setIfInBounds_toArray, List.set_cons_zero, List.set_cons_succ]
      refine wpAnyH_take (i := 1) (v := ?va1) rfl (by kernel_rfl) (by kernel_rfl) (by kernel_rfl) (fun _ _ _ h => h) (Or.inl ⟨by rfl, ?ha1⟩) (by assumption) ?_
      case ha1 => intro w hSw; (try dsimp only at hSw); obtain ⟨e0, e1, e2, e3, e4, e5, e6⟩ := (HBq.out.below hSw hgs).cells; obtain ⟨c0, c1, c2, c3, c4⟩ := HCq.out _ hSw; go_simp; try with_reducible rfl
      simp only [List.getElem_toArray, List.getElem_cons_succ, List.getElem_cons_zero, Act.put, List.setIfInBounds_toArray, List.set_cons_zero, List.set_cons_succ]
      refine wpAnyH_take (i := 2) (v := ?va2) rfl (by kernel_rfl) (by kernel_rfl) (by kernel_rfl) (fun _ _ _ h => h) (Or.inl ⟨by rfl, ?ha2⟩) (by assumption) ?_
      case ha2 => intro w hSw; (try dsimp only at hSw); obtain ⟨e0, e1, e2, e3, e4, e5, e6⟩ := (HBq.out.below hSw hgs).cells; obtain ⟨c0, c1, c2, c3, c4⟩ := HCq.out _ hSw; go_simp; try with_reducible rfl
      simp only [List.getElem_toArray, List.getElem_cons_succ, List.getElem_cons_zero, Act.put, List.setIfInBounds_toArray, List.set_cons_zero, List.set_cons_succ]
      refine wpAnyH_take (i := 3) (v := ?va3) rfl (by kernel_rfl) (by kernel_rfl) (by kernel_rfl) (fun _ _ _ h => h) (Or.inl ⟨by rfl, ?ha3⟩) (by assumption) ?_
      case ha3 => intro w hSw; (try dsimp only at hSw); obtain ⟨e0, e1, e2, e3, e4, e5, e6⟩ := (HBq.out.below hSw hgs).cells; obtain ⟨c0, c1, c2, c3, c4⟩ := HCq.out _ hSw; go_simp; try with_reducible rfl
      simp only [List.getElem_toArray, List.getElem_cons_succ, List.getElem_cons_zero, Act.put, List.setIfInBounds_toArray, List.set_cons_zero, List.set_cons_succ]
      refine wpAnyH_take (i := 4) (v := ?va4) rfl (by kernel_rfl) (by kernel_rfl) (by kernel_rfl) (fun _ _ _ h => h) (Or.inl ⟨by rfl, ?ha4⟩) (by assumption) ?_
      case ha4 => intro w hSw; (try dsimp only at hSw); obtain ⟨e0, e1, e2, e3, e4, e5, e6⟩ := (HBq.out.below hSw hgs).cells; obtain ⟨c0, c1, c2, c3, c4⟩ := HCq.out _ hSw; go_simp; try with_reducible rfl
      simp only [List.getElem_toArray, List.getElem_cons_succ, List.getElem_cons_zero, Act.put, List.setIfInBounds_toArray, List.set_cons_zero, List.set_cons_succ]
      refine wpAnyH_take (i := 5) (v := ?va5) rfl (by kernel_rfl) (by kernel_rfl) (by kernel_rfl) (fun _ _ _ h => h) (Or.inl ⟨by rfl, ?ha5⟩) (by assumption) ?_
      case ha5 => intro w hSw; (try dsimp only at hSw); obtain ⟨e0, e1, e2, e3, e4, e5, e6⟩ := (HBq.out.below hSw hgs).cells; obtain ⟨c0, c1, c2, c3, c4⟩ := HCq.out _ hSw; go_simp; try with_reducible rfl
      simp only [List.getElem_toArray, List.getElem_cons_succ, List.getElem_cons_zero, Act.put, List.setIfInBounds_toArray, List.set_cons_zero, List.set_cons_succ]
      refine wpAnyH_take (i := 6) (v := ?va6) rfl (by kernel_rfl) (by kernel_rfl) (by kernel_rfl) (fun _ _ _ h => h) (Or.inl ⟨by rfl, ?ha6⟩) (by assumption) ?_
      case ha6 => intro w hSw; (try dsimp only at hSw); obtain ⟨e0, e1, e2, e3, e4, e5, e6⟩ := (HBq.out.below hSw hgs).cells; obtain ⟨c0, c1, c2, c3, c4⟩ := HCq.out _ hSw; go_simp; try with_reducible rfl
      simp only [List.getElem_toArray, List.getElem_cons_succ, List.getElem_cons_zero, Act.put, List.setIfInBounds_toArray, List.set_cons_zero, List.set_cons_succ]
      refine wpAnyH_take (i := 7) (v := ?va7) rfl (by kernel_rfl) (by kernel_rfl) (by kernel_rfl) (fun _ _ _ h => h) (Or.inl ⟨by rfl, ?ha7⟩) (by assumption) ?_
      case ha7 => intro w hSw; (try dsimp only at hSw); obtain ⟨e0, e1, e2, e3, e4, e5, e6⟩ := (HBq.out.below hSw hgs).cells; obtain ⟨c0, c1, c2, c3, c4⟩ := HCq.out _ hSw; go_simp; try with_reducible rfl
      simp only [List.getElem_toArray, List.getElem_cons_succ, List.getElem_cons_zero, Act.put, List.setIfInBounds_toArray, List.set_cons_zero, List.set_cons_succ]
      refine wpAnyH_take (i := 8) (v := ?va8) rfl (by kernel_rfl) (by kernel_rfl) (by kernel_rfl) (fun _ _ _ h => h) (Or.inl ⟨by rfl, ?ha8⟩) (by assumption) ?_
      case ha8 => intro w hSw; (try dsimp only at hSw); obtain ⟨e0, e1, e2, e3, e4, e5, e6⟩ := (HBq.out.below hSw hgs).cells; obtain ⟨c0, c1, c2, c3, c4⟩ := HCq.out _ hSw; go_simp; try with_reducible rfl
      simp only [List.getElem_toArray, List.getElem_cons_succ, List.getElem_cons_zero, Act.put, List.setIfInBounds_toArray, List.set_cons_zero, List.set_cons_succ]
      refine wpAnyH_take (i := 9) (v := ?va9) rfl (by kernel_rfl) (by kernel_rfl) (by kernel_rfl) (fun _ _ _ h => h) (Or.inl ⟨by rfl, ?ha9⟩) (by assumption) ?_
      case ha9 => intro w hSw; (try dsimp only at hSw); obtain ⟨e0, e1, e2, e3, e4, e5, e6⟩ := (HBq.out.below hSw hgs).cells; obtain ⟨c0, c1, c2, c3, c4⟩ := HCq.out _ hSw; go_simp; try with_reducible rfl
      simp only [List.getElem_toArray, List.getElem_cons_succ, List.getElem_cons_zero, Act.put, List.setIfInBounds_toArray, List.set_cons_zero, List.set_cons_succ]
      refine wpAnyH_take (i := 10) (v := ?va10) rfl (by kernel_rfl) (by kernel_rfl) (by kernel_rfl) (fun _ _ _ h => h) (Or.inl ⟨by rfl, ?ha10⟩) (by assumption) ?_
      case ha10 => intro w hSw; (try dsimp only at hSw); obtain ⟨e0, e1, e2, e3, e4, e5, e6⟩ := (HBq.out.below hSw hgs).cells; obtain ⟨c0, c1, c2, c3, c4⟩ := HCq.out _ hSw; go_simp; try with_reducible rfl
      simp only [List.getElem_toArray, List.getElem_cons_succ, List.getElem_cons_zero, Act.put, List.setIfInBounds_toArray, List.set_cons_zero, List.set_cons_succ]
      refine wpAnyH_ready (rs := [11]) (by kernel_rfl) (by simp) ?_
      refine AllReadyH.cons rfl (fun K hK => ?_) AllReadyH.nil
      rw [if_pos (by kernel_rfl)]
      go_simp
      obtain ⟨y7, hy7⟩ : ∃ y7, y7 = (wq.alloc (.cells #[.int .i64 et, .int .i64 ek, .string ed, .int .i64 ew, .int .i64 eh] 54)).drew := ⟨_, rfl⟩
      rw [← hy7]
      have hq : evE.Row y7 (wq.heap.size + 1) (some ⟨wq.heap.size, 0, none⟩) [⟨et, ek, ed, ew, eh⟩] := by rw [hy7]; exact evE.row_new wq ⟨et, ek, ed, ew, eh⟩ _ _ rfl
      have hqs : wq.heap.size + 1 ≤ y7.heap.size := by rw [hy7]; show _ ≤ (wq.alloc _).heap.size; simp
      have hb : Below wq.heap.size wq y7 := by rw [hy7]; exact ((Below.refl _ _).alloc (Nat.le_refl _) _).drew
      have HQ := Lib.hid hq
      have HS7 := Lib.hid hb
      clear hq hb hy7
      try dsimp only
      refine hK.out _ _ ?_ (fun hHeld => ?_)
      · exact HS7.out.mono (by omega)
      clear hK K
      refine wpAnyH_ready (rs := [12]) (by kernel_rfl) (by simp) ?_
      refine AllReadyH.cons rfl (fun K hK => ?_) AllReadyH.nil
      rw [if_pos (by kernel_rfl)]
      refine evE.oper_append (.tmp 30) (.tmp 41) rfl w.heap.size (.slice Ao (t - told) co) (seg l told t) rfl (HOq.out.below HS7.out) (some ⟨wq.heap.size, 0, none⟩) [⟨et, ek, ed, ew, eh⟩] 1 1 (wq.heap.size + 1) rfl rfl HQ.out (by simp) ?c1 ?c2 (by omega) ?_
      case c1 => have := HSL.out; simp only [evE, List.length_singleton]; omega
      case c2 => have := HSL.out; unfold maxLen; simp only [List.length_singleton]; omega
      intro v8 w8 ho8 hg8
      rw [HSN.out] at ho8
      have hgr : Fr (fun k => w.heap.size ≤ k) y7 w8 := Fr.grow hg8 (fun k hk => .inl (HOq.out.lt k hk).1)
      have HF8 := Lib.hid ((HFq.out.trans' (Fr.of_below HS7.out)).trans hgr (fun i hi => .inr hi))
      have hbw : Below w.heap.size wq w8 := (HS7.out.mono (by omega)).trans (hgr.below (by omega) (fun k hk => hk))
      have HB8 := Lib.hid (HBq.out.below hbw hgs)
      have HW8 := Lib.hid hbw
      have HO8 := Lib.hid ho8
      clear ho8 hg8 hgr hbw
      refine hK.out _ _ ?_ (fun hHeld => ?_)
      · exact HW8.out
      clear hK K
      refine wpAnyH_take (i := 13) (v := ?vd13) rfl (by kernel_rfl) (by kernel_rfl) (by kernel_rfl) (fun _ _ _ h => h) (Or.inl ⟨by rfl, ?hd13⟩) (by assumption) ?_
      case hd13 => intro w hSw; (try dsimp only at hSw); go_simp; try with_reducible rfl
      simp only [List.getElem_toArray, List.getElem_cons_succ, List.getElem_cons_zero, Act.put, List.setIfInBounds_toArray, List.set_cons_zero, List.set_cons_succ]
      refine wpAnyH_done (by kernel_rfl) ?_ _
      refine NoPanic.normal ?_
      obtain ⟨e0, e1, e2, e3, e4, e5, e6⟩ := HB8.out.cells
      have f5 := HB8.out.thaw 5
      have HB9 := Lib.hid (HB8.out.set5 ((t : Int) + 1) (t + 1) (by omega))
      have hF9 : Fr (· = g) w8 (w8.setCell ⟨g, 5, none⟩ (.int .i64 ((t : Int) + 1))) := Fr.setCell (a := ⟨g, 5, none⟩) _ rfl
      have HF9 := Lib.hid (HF8.out.trans' hF9)
      have HO9 := Lib.hid (HO8.out.fr hF9 (fun k hk e => by have := (HO8.out.lt k e).1; omega))
      obtain ⟨Ap, cp, hvp, -, -, -, -⟩ := HO8.out.row
      rw [HT1.out] at hvp
      subst hvp
      clear hF9 e0 e1 e2 e3 e4 e6
      go_wp2_with fail
      go_roundw
      case rel => exact ⟨t + 1, by omega, by omega, HB9.out, HF9.out, HO9.out⟩
      case measure => simp [vlen]; omega
    · obtain rfl : t = d := by omega
      by_cases hi : t < l.length
      · have hgt := HP2.out t hi (Nat.le_refl _)
        obtain ⟨b0, off, rfl, hbl, c0, c1, c2, c3, c4⟩ := ev_at HRr.out hi
        generalize l[t].t = et at *
        have g1 : decide ((t : Int) < (l.length : Int)) = true := decide_eq_true (by omega)
        have g1' : decide (t < l.length) = true := decide_eq_true hi
        have g2 : decide (et ≤ N) = false := decide_eq_false (by omega)
        have g3 : (t : Int) < (l.length : Int) := by omega
        clear hgt c1 c2 c3 c4
        go_wp2_with fail
        go_quiet (first | (go_at_call 22; exact Calls.quiet_of (HN.out _ _ _ _ _ _ HB.out)))
        go_wp2_with fail
        go_ret
        exact ⟨_, rfl, HO.out, ⟨HB.out, HRr.out⟩, HF.out.trans' (Fr.drewN _ _ _)⟩
      · have g1 : decide ((t : Int) < (l.length : Int)) = false := decide_eq_false (by omega)
        have g1' : decide (t < l.length) = false := decide_eq_false hi
        go_wp2_with fail
        go_quiet (fail)
        go_wp2_with fail
        go_ret
        exact ⟨_, rfl, HO.out, ⟨HB.out, HRr.out⟩, HF.out.trans' (Fr.drewN _ _ _)⟩
end Go.Proofs.Ytdbnpdbnjipjiaa
