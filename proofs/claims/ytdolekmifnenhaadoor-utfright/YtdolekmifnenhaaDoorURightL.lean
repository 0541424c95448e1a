/-
  UtfRight's walk: a Decoder is right just where its bytes begin a rune that isn't whole, or there are none.
-/
import Derived.Test.YtdolekmifnenhaaDoorUBegins
namespace Go.Proofs.YtdolekmifnenhaaDoor.utfRight
open Go.RowKit Go.Lib

/-- What the law wants behind i bytes. -/
def wantB (l : List UInt8) (n : Int) : Nat → Bool
  | 0 => decide (0 ≤ n) && decide (n ≤ 3)
  | i + 1 => wantB l n i && !(decide (n ≤ (i : Int)) && decide ((l.getD i 0).toNat ≠ 0))

theorem want_le (l : List UInt8) (n : Int) : ∀ i, wantB l n i = true → 0 ≤ n ∧ n ≤ 3
  | 0, h => by unfold wantB at h; simpa using h
  | i + 1, h => by unfold wantB at h; rw [Bool.and_eq_true] at h; exact want_le l n i h.1
theorem want_zero (l : List UInt8) (n : Int) : ∀ i : Nat, wantB l n i = true → ∀ j : Nat, j < i → n ≤ (j : Int) → (l.getD j 0).toNat = 0
  | i + 1, h, j, hj, hn => by
    unfold wantB at h
    rw [Bool.and_eq_true] at h
    rcases Nat.lt_or_ge j i with g | g
    · exact want_zero l n i h.1 j g hn
    · obtain rfl : j = i := by omega
      have h2 := h.2
      rw [Bool.not_eq_true', Bool.and_eq_false_iff] at h2
      rcases h2 with h2 | h2
      · rw [decide_eq_true hn] at h2; cases h2
      · simpa using of_decide_eq_false h2
theorem want_of (l : List UInt8) (n : Int) (h0 : 0 ≤ n) (h3 : n ≤ 3) : ∀ i : Nat, (∀ j : Nat, j < i → n ≤ (j : Int) → (l.getD j 0).toNat = 0) → wantB l n i = true
  | 0, _ => by unfold wantB; rw [decide_eq_true h0, decide_eq_true h3]; rfl
  | i + 1, h => by
    unfold wantB
    rw [want_of l n h0 h3 i fun j hj hn => h j (by omega) hn, Bool.true_and, Bool.not_eq_true', Bool.and_eq_false_iff]
    by_cases hn : n ≤ (i : Int)
    · right
      simpa using h i (by omega) hn
    · left
      exact decide_eq_false hn

theorem under_get (x y z : UInt8) (n : Int) (j : Nat) : (under x y z n).getD j 0 = if j < near n then [x, y, z].getD j 0 else 0 := by
  unfold under
  simp only [List.getD, List.getElem?_take]
  split <;> rfl
/-- The Decoder is the one that holds its first n bytes just where the law wants so. -/
theorem holds_want (x y z : UInt8) (n : Int) : holdsB x y z n = wantB [x, y, z] n 3 := by
  rw [Bool.eq_iff_iff]
  unfold holdsB
  rw [decide_eq_true_eq, nat8_get, nat8_get, nat8_get, under_get, under_get, under_get]
  constructor
  · rintro ⟨⟨e0, e1, e2⟩, e3⟩
    have hn0 : 0 ≤ n := by omega
    have hn3 : n ≤ 3 := by have := near_le n; omega
    refine want_of _ _ hn0 hn3 3 fun j hj hn => ?_
    have hne : ¬ j < near n := by omega
    rcases (by omega : j = 0 ∨ j = 1 ∨ j = 2) with rfl | rfl | rfl
    · rw [if_neg hne] at e0; simp at e0; show x.toNat = 0; omega
    · rw [if_neg hne] at e1; simp at e1; show y.toNat = 0; omega
    · rw [if_neg hne] at e2; simp at e2; show z.toNat = 0; omega
  · intro h
    obtain ⟨h0, h3⟩ := want_le _ _ 3 h
    have hz := want_zero _ _ 3 h
    have hnear : (near n : Int) = n := by unfold near; omega
    have key : ∀ j, j < 3 → (if j < near n then [x, y, z].getD j 0 else 0).toNat = ([x, y, z].getD j 0).toNat := fun j hj => by
      split
      · rfl
      · rw [hz j hj (by omega)]; rfl
    refine ⟨⟨?_, ?_, ?_⟩, hnear⟩
    · have := key 0 (by omega); simp only [List.getD_cons_zero] at this ⊢; rw [this]
    · have := key 1 (by omega); simp only [List.getD_cons_succ, List.getD_cons_zero] at this ⊢; rw [this]
    · have := key 2 (by omega); simp only [List.getD_cons_succ, List.getD_cons_zero] at this ⊢; rw [this]

theorem run_first (g : Nat) (n : Nat) (h : n ≤ 3) (w : World) : (Instr.sliceAt 27 (.pointer (some ⟨g, 0, none⟩)) none (some (.int .i64 (n : Int))) none).run Tryd.prog w = .ok (.slice (some ⟨g, 0, none⟩) n 3) w := by
  have ha : Tryd.prog.arrayLen 27 = 3 := by kernel_rfl
  have hs : (sizeOf (Tryd.prog.elem 27)).run Tryd.prog w = .ok 1 w := by kernel_rfl
  rw [run_sliceAt_array_h (P := Tryd.prog) w 27 ⟨g, 0, none⟩ (by kernel_rfl) .i64 (n : Int) (by omega) (by rw [ha]; omega), hs, ha]
  simp [Result.andThen, slicedAt, Addr.add]

set_option maxRecDepth 100000 in
set_option maxHeartbeats 1000000 in
theorem walk (a b c n : Int) (w : World) (wa : (Lit.int .u8 a).wf = true) (wb : (Lit.int .u8 b).wf = true) (wc : (Lit.int .u8 c).wf = true) (_wn : (Lit.int .i64 n).wf = true) (hT : Utf w) :
    Calls Tryd.prog 6 #[.agg #[.int .u8 a, .int .u8 b, .int .u8 c], .int .i64 n] w fun e w' => e = .returned (.bool true) ∧ Below w.heap.size w w' := by
  obtain ⟨x, rfl⟩ : ∃ x : UInt8, a = (x.toNat : Int) := ⟨UInt8.ofNat a.toNat, by have := bounds_u8 wa; simp; omega⟩
  obtain ⟨y, rfl⟩ : ∃ x : UInt8, b = (x.toNat : Int) := ⟨UInt8.ofNat b.toNat, by have := bounds_u8 wb; simp; omega⟩
  obtain ⟨z, rfl⟩ : ∃ x : UInt8, c = (x.toNat : Int) := ⟨UInt8.ofNat c.toNat, by have := bounds_u8 wc; simp; omega⟩
  have HT := Lib.hid hT
  clear hT wa wb wc
  obtain ⟨W, hW⟩ : ∃ W, W = w.alloc (.cells #[.int .u8 (x.toNat : Int), .int .u8 (y.toNat : Int), .int .u8 (z.toNat : Int)] 27) := ⟨_, rfl⟩
  have hbW : Below w.heap.size w W := by rw [hW]; exact (Below.refl _ _).alloc (Nat.le_refl _) _
  have hdW : W.heap[w.heap.size]? = some (.cells #[.int .u8 (x.toNat : Int), .int .u8 (y.toNat : Int), .int .u8 (z.toNat : Int)] 27) := by rw [hW]; exact (MapKept.heap_alloc w _).1
  have hsW : w.heap.size + 1 = W.heap.size := by rw [hW]; simp
  have HW := Lib.hid hW; have HS := Lib.hid hsW; have HB := Lib.hid hbW; have HD := Lib.hid hdW
  have HTW := Lib.hid (HT.out.on hbW HT.out.room)
  clear hW hbW hdW hsW
  go_enter Tryd.func6, Tryd.ntmps6
  go_wp2_with fail
  rw [← HW.out]
  refine (fit_ok W HTW.out).mono ?_
  rintro e w1 ⟨rfl, hb1⟩
  have hd1 := (hb1.block w.heap.size (by have := HS.out; omega)).trans HD.out
  have HD1 := Lib.hid hd1
  have HB1 := Lib.hid (HB.out.trans (hb1.mono (by have := HS.out; omega)))
  have HT1 := Lib.hid (HTW.out.on hb1 HTW.out.room)
  have hs1 : w.heap.size < w1.heap.size := by have := HS.out; have := hb1.size; omega
  clear hb1 hd1
  have hcell : ∀ k, k < 3 → w1.cell? ⟨w.heap.size, k, none⟩ = some (.int .u8 (([x, y, z].getD k 0).toNat : Int)) := fun k hk => by
    simp only [World.cell?, HD1.out]
    rcases (by omega : k = 0 ∨ k = 1 ∨ k = 2) with rfl | rfl | rfl <;> rfl
  have HC := Lib.hid hcell
  have hright := fun (W : World) (hU : Utf W) => right_ok W hU x y z n
  rw [holds_want] at hright
  unfold decV at hright
  have c0 := hcell 0 (by omega); have c1 := hcell 1 (by omega); have c2 := hcell 2 (by omega)
  simp only [List.getD_cons_zero, List.getD_cons_succ] at c0 c1 c2
  clear hcell
  have hb0 := fun (l : List UInt8) (h0 : 0 < l.length) (h3 : l.length ≤ 3) (hr : Row w1 (w.heap.size + 1) .u8 (some ⟨w.heap.size, 0, none⟩) (nat8 l)) => begins_ok w1 l h0 h3 (some ⟨w.heap.size, 0, none⟩) 3 _ hr
  have HBG := Lib.hid hb0
  have HRI := Lib.hid hright
  clear hb0 hright
  have hst : ∀ b : Bool, (decide (0 ≤ n) && decide (n ≤ 3)) = b → wantB [x, y, z] n 0 = b := fun b h => h
  have HST := Lib.hid hst
  clear hst
  have hsx : wantB [x, y, z] n 0 = (decide (0 ≤ n) && decide (n ≤ 3)) := rfl
  obtain ⟨W3, hW3⟩ : ∃ W3 : Nat → Bool, W3 = wantB [x, y, z] n := ⟨_, rfl⟩
  have hstep : ∀ k, W3 (k + 1) = (W3 k && !(decide (n ≤ (k : Int)) && decide (([x, y, z].getD k 0).toNat ≠ 0))) := fun k => by rw [hW3]; rfl
  have hle : ∀ i, W3 i = true → 0 ≤ n ∧ n ≤ 3 := by rw [hW3]; exact want_le _ _
  rw [← hW3] at hsx HST HRI
  have HSTEP := Lib.hid hstep; have HLE := Lib.hid hle; have HW3 := Lib.hid hW3; have HSX := Lib.hid hsx
  clear hstep hle hW3 hsx
  rcases (by omega : n < 0 ∨ (0 ≤ n ∧ n ≤ 3) ∨ 3 < n) with k0 | ⟨k0, k3⟩ | k3
  · have g0 : decide (0 ≤ n) = false := decide_eq_false (by omega)
    have hr := HRI.out w1 HT1.out
    rw [show W3 3 = false from by rcases h : W3 3 with _ | _; · rfl
                                  · have := HLE.out 3 h; omega, Bool.false_and] at hr
    have HR := Lib.hid hr
    clear hr
    go_wp2
    go_loop [5, 15] (fun u i => ∃ k : Nat, k ≤ 3 ∧ i = .int .i64 (k : Int) ∧ u = .bool false) (fun _ i => 3 - (RowKit.intOf i).toNat)
    case atStart => exact ⟨0, Nat.zero_le _, rfl, rfl⟩
    case round =>
      obtain ⟨k, hk, rfl, rfl⟩ := hrel
      by_cases hlt : k < 3
      · go_wp2
        go_round
        case rel => exact ⟨k + 1, by omega, by go_num, rfl⟩
        case measure => simp [RowKit.intOf]; omega
      · obtain rfl : k = 3 := by omega
        go_wp2_with fail
        refine HR.out.mono ?_
        rintro e w2 ⟨rfl, hb2⟩
        have HB2 := Lib.hid (HB1.out.trans (hb2.mono HB1.out.size))
        clear hb2
        go_wp2
        go_ret
        exact ⟨rfl, HB2.out⟩
  · have h0 : W3 0 = true := by rw [HSX.out, decide_eq_true k0, decide_eq_true k3]; rfl
    have H0 := Lib.hid h0
    clear h0
    go_wp2
    go_loop [5, 15] (fun u i => ∃ k : Nat, k ≤ 3 ∧ i = .int .i64 (k : Int) ∧ u = .bool (W3 k)) (fun _ i => 3 - (RowKit.intOf i).toNat)
    case atStart => exact ⟨0, Nat.zero_le _, rfl, by rw [H0.out]⟩
    case round =>
      obtain ⟨k, hk, rfl, rfl⟩ := hrel
      by_cases hlt : k < 3
      · have hc := HC.out k hlt
        have hse := HSTEP.out k
        generalize ([x, y, z].getD k 0).toNat = v at *
        have HSE := Lib.hid hse
        clear hse
        rcases hw : W3 k with _ | _
        · have hx : W3 (k + 1) = false := by rw [HSE.out, hw]; rfl
          have HX := Lib.hid hx
          clear hx
          go_wp2
          go_round
          case rel => exact ⟨k + 1, by omega, by go_num, by rw [HX.out]⟩
          case measure => simp [RowKit.intOf]; omega
        · by_cases hn : n ≤ (k : Int)
          · by_cases hv : v = 0
            · subst hv
              have hx : W3 (k + 1) = true := by rw [HSE.out, hw]; simp
              have HX := Lib.hid hx
              clear hx
              go_wp2
              go_round
              case rel => exact ⟨k + 1, by omega, by go_num, by rw [HX.out]⟩
              case measure => simp [RowKit.intOf]; omega
            · have hv' : ((v : Int) != 0) = true := by simp; exact hv
              have hx : W3 (k + 1) = false := by rw [HSE.out, hw, decide_eq_true hn, decide_eq_true hv]; rfl
              have HX := Lib.hid hx
              clear hx
              go_wp2
              go_round
              case rel => exact ⟨k + 1, by omega, by go_num, by rw [HX.out]⟩
              case measure => simp [RowKit.intOf]; omega
          · have hx : W3 (k + 1) = true := by rw [HSE.out, hw, decide_eq_false hn]; rfl
            have HX := Lib.hid hx
            clear hx
            go_wp2
            go_round
            case rel => exact ⟨k + 1, by omega, by go_num, by rw [HX.out]⟩
            case measure => simp [RowKit.intOf]; omega
      · obtain rfl : k = 3 := by omega
        rcases hw : W3 3 with _ | _
        · have hr := HRI.out w1 HT1.out
          rw [hw, Bool.false_and] at hr
          have HR := Lib.hid hr
          clear hr
          go_wp2_with fail
          refine HR.out.mono ?_
          rintro e w2 ⟨rfl, hb2⟩
          have HB2 := Lib.hid (HB1.out.trans (hb2.mono HB1.out.size))
          clear hb2
          go_wp2
          go_ret
          exact ⟨rfl, HB2.out⟩
        · obtain ⟨q0, q3⟩ := HLE.out 3 hw
          have hr := HRI.out w1 HT1.out
          rw [hw, Bool.true_and] at hr
          by_cases hn0 : n = 0
          · have hu : under x y z n = [] := by rw [hn0]; rfl
            rw [hu, UM.full_nil, Bool.not_false] at hr
            have HR := Lib.hid hr
            have hp : ¬ (0 : Int) < n := by omega
            clear hr hu hn0
            go_wp2_with fail
            refine HR.out.mono ?_
            rintro e w2 ⟨rfl, hb2⟩
            have HB2 := Lib.hid (HB1.out.trans (hb2.mono HB1.out.size))
            clear hb2
            go_wp2
            go_ret
            exact ⟨rfl, HB2.out⟩
          · have hul := under_len x y z n
            obtain ⟨m, rfl⟩ : ∃ m : Nat, n = (m : Int) := ⟨n.toNat, by omega⟩
            have hnm : near (m : Int) = m := near_of m (by omega)
            rw [hnm] at hul
            have hrow : Row w1 (w.heap.size + 1) .u8 (some ⟨w.heap.size, 0, none⟩) (nat8 (under x y z (m : Int))) := fun _ => by
              refine ⟨w.heap.size, 0, rfl, by omega, fun j hj => ?_⟩
              rw [nat8_len, hul] at hj
              rw [nat8_get, under_get, hnm, if_pos hj, Nat.zero_add]
              exact HC.out j (by omega)
            have hbg := HBG.out (under x y z (m : Int)) (by rw [hul]; omega) (by rw [hul]; omega) hrow
            rw [hul] at hbg
            have hsl := run_first w.heap.size m (by omega)
            have hp : (0 : Int) < (m : Int) := by omega
            have hr2 := HRI.out
            rw [hw] at hr2
            simp only [Bool.true_and] at hr2
            have HR := Lib.hid hr2; have HG := Lib.hid hbg
            generalize UM.full (under x y z (m : Int)) = f at *
            clear hr hr2 hbg hrow hul hnm
            go_wp2_with fail
            refine HG.out.mono ?_
            rintro e w2 ⟨rfl, hb2⟩
            have d0 := (hb2.cell (World.block_lt_of_cell? w1 _ c0)).trans c0
            have d1 := (hb2.cell (World.block_lt_of_cell? w1 _ c1)).trans c1
            have d2 := (hb2.cell (World.block_lt_of_cell? w1 _ c2)).trans c2
            have HT2 := Lib.hid (HT1.out.on hb2 HT1.out.room)
            have HB2 := Lib.hid (HB1.out.trans (hb2.mono HB1.out.size))
            clear hb2 c0 c1 c2
            go_wp2_with fail
            refine (HR.out w2 HT2.out).mono ?_
            rintro e w3 ⟨rfl, hb3⟩
            have HB3 := Lib.hid (HB2.out.trans (hb3.mono HB2.out.size))
            clear hb3
            rcases f with _ | _
            · go_wp2
              go_ret
              exact ⟨rfl, HB3.out⟩
            · go_wp2
              go_ret
              exact ⟨rfl, HB3.out⟩
  · have g0 : decide (0 ≤ n) = true := decide_eq_true (by omega)
    have g3 : decide (n ≤ 3) = false := decide_eq_false (by omega)
    have hr := HRI.out w1 HT1.out
    rw [show W3 3 = false from by rcases h : W3 3 with _ | _; · rfl
                                  · have := HLE.out 3 h; omega, Bool.false_and] at hr
    have HR := Lib.hid hr
    clear hr
    go_wp2
    go_loop [5, 15] (fun u i => ∃ k : Nat, k ≤ 3 ∧ i = .int .i64 (k : Int) ∧ u = .bool false) (fun _ i => 3 - (RowKit.intOf i).toNat)
    case atStart => exact ⟨0, Nat.zero_le _, rfl, rfl⟩
    case round =>
      obtain ⟨k, hk, rfl, rfl⟩ := hrel
      by_cases hlt : k < 3
      · go_wp2
        go_round
        case rel => exact ⟨k + 1, by omega, by go_num, rfl⟩
        case measure => simp [RowKit.intOf]; omega
      · obtain rfl : k = 3 := by omega
        go_wp2_with fail
        refine HR.out.mono ?_
        rintro e w2 ⟨rfl, hb2⟩
        have HB2 := Lib.hid (HB1.out.trans (hb2.mono HB1.out.size))
        clear hb2
        go_wp2
        go_ret
        exact ⟨rfl, HB2.out⟩
end Go.Proofs.YtdolekmifnenhaaDoor.utfRight
