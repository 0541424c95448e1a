/-
  Layer 8 (cell): Whole, slices.Clone, Mend; the reference's Mend.
-/
import Derived.Test.YtbpkklcegiiheaaDoorKAlone
namespace Go.Proofs.YtbpkklcegiiheaaDoor
open Go.RowKit Go.Lib KM

/-! ### by the neighbours, or by places -/
def prevI (l : List Cel) (i : Nat) : Option Cel := if i = 0 then none else l[i - 1]?
def okI (l : List Cel) (i : Nat) : Bool := okN (prevI l i) (l.getD i ⟨0, zero⟩) l[i + 1]?
def mendI (l : List Cel) (i : Nat) : Cel := if aloneI l i = true then KM.blank (l.getD i ⟨0, zero⟩) else l.getD i ⟨0, zero⟩
theorem upto_succ {P : Nat → Prop} {k : Nat} (h : ∀ j, j < k → P j) (hk : P k) : ∀ j, j < k + 1 → P j := fun j hj => by
  rcases Nat.lt_or_ge j k with h1 | h1
  · exact h j h1
  · obtain rfl : j = k := by omega
    exact hk
theorem okI_eq (l : List Cel) (i : Nat) : okI l i = (!aloneI l i && (decide ((l.getD i ⟨0, zero⟩).rune = 0) || cright (l.getD i ⟨0, zero⟩))) := rfl
theorem wholeP_all (pre r l : List Cel) (hl : l = pre ++ r) : wholeP (prevI l pre.length) r = true ↔ ∀ j, j < r.length → okI l (pre.length + j) = true := by
  induction r generalizing pre with
  | nil => simp [wholeP]
  | cons c r ih =>
    have h0 : l.getD pre.length ⟨0, zero⟩ = c := by rw [hl]; simp
    have h1 : l[pre.length + 1]? = r.head? := by rw [hl, List.getElem?_append_right (by omega)]; simp [List.head?_eq_getElem?]
    have h2 : prevI l (pre ++ [c]).length = some c := by
      unfold prevI
      rw [List.length_append, if_neg (by simp), hl]
      simp
    have e0 : okI l pre.length = okN (prevI l pre.length) c r.head? := by unfold okI; rw [h0, h1]
    have := ih (pre ++ [c]) (by rw [hl]; simp)
    rw [h2, List.length_append, List.length_singleton] at this
    rw [wholeP, Bool.and_eq_true, this, ← e0]
    constructor
    · rintro ⟨a, b⟩ j hj
      cases j with
      | zero => exact a
      | succ j =>
        have := b j (by simpa using hj)
        rw [show pre.length + 1 + j = pre.length + (j + 1) by omega] at this
        exact this
    · intro h
      refine ⟨h 0 (by simp), fun j hj => ?_⟩
      rw [show pre.length + 1 + j = pre.length + (j + 1) by omega]
      exact h (j + 1) (by simpa using hj)
theorem whole_all (l : List Cel) : whole l = true ↔ ∀ i, i < l.length → okI l i = true := by
  have := wholeP_all [] l l rfl
  simpa [whole, prevI] using this
theorem whole_not (l : List Cel) (i : Nat) (hi : i < l.length) (h : okI l i = false) : whole l = false := by
  rw [← Bool.not_eq_true, whole_all]
  intro a
  rw [a i hi] at h
  cases h
theorem mendP_at (pre r l : List Cel) (hl : l = pre ++ r) : ∀ j, j < r.length → (mendP (prevI l pre.length) r)[j]? = some (mendI l (pre.length + j)) := by
  induction r generalizing pre with
  | nil => simp
  | cons c r ih =>
    have h0 : l.getD pre.length ⟨0, zero⟩ = c := by rw [hl]; simp
    have h1 : l[pre.length + 1]? = r.head? := by rw [hl, List.getElem?_append_right (by omega)]; simp [List.head?_eq_getElem?]
    have h2 : prevI l (pre ++ [c]).length = some c := by
      unfold prevI
      rw [List.length_append, if_neg (by simp), hl]
      simp
    have e0 : mendI l pre.length = fixN (prevI l pre.length) c r.head? := by unfold mendI aloneI fixN; rw [h0, h1]; rfl
    have := ih (pre ++ [c]) (by rw [hl]; simp)
    rw [h2, List.length_append, List.length_singleton] at this
    intro j hj
    rw [mendP, ← e0]
    cases j with
    | zero => rfl
    | succ j =>
      rw [List.getElem?_cons_succ, this j (by simpa using hj), show pre.length + 1 + j = pre.length + (j + 1) by omega]
theorem mend_at (l : List Cel) (i : Nat) (hi : i < l.length) : (mend l)[i]? = some (mendI l i) := by
  have := mendP_at [] l l rfl i hi
  simpa [mend, prevI] using this
/-- The line as Mend has it behind k cells. -/
def mendK (l : List Cel) (k : Nat) : List Cel := (mend l).take k ++ l.drop k
theorem mendK_zero (l : List Cel) : mendK l 0 = l := rfl
theorem mendK_len (l : List Cel) (k : Nat) : (mendK l k).length = l.length := by
  unfold mendK
  rw [List.length_append, List.length_take, List.length_drop, mend_len]
  omega
theorem mendK_all (l : List Cel) : mendK l l.length = mend l := by
  unfold mendK
  rw [List.drop_length, List.append_nil]
  exact List.take_of_length_le (by rw [mend_len]; exact Nat.le_refl _)
theorem mendK_at (l : List Cel) (k : Nat) (hk : k < l.length) : (mendK l k)[k]'(by rw [mendK_len]; exact hk) = l[k] := by
  unfold mendK
  have hm := mend_len l
  rw [List.getElem_append_right (by rw [List.length_take]; omega)]
  simp only [List.length_take, List.getElem_drop]
  congr 1
  omega
theorem mendK_succ (l : List Cel) (k : Nat) (hk : k < l.length) : mendK l (k + 1) = (mendK l k).set k (mendI l k) := by
  have hm := mend_len l
  have h1 : (mend l)[k] = mendI l k := by
    have := mend_at l k hk
    rw [List.getElem?_eq_getElem (by omega)] at this
    exact Option.some.inj this
  unfold mendK
  rw [List.take_succ_eq_append_getElem (by omega), h1, List.append_assoc, List.drop_eq_getElem_cons hk, List.set_append_right _ _ (by rw [List.length_take]; omega)]
  simp only [List.length_take]
  rw [show k - min k (mend l).length = 0 by omega]
  rfl
theorem mendK_same (l : List Cel) (k : Nat) (hk : k < l.length) (h : aloneI l k = false) : mendK l (k + 1) = mendK l k := by
  rw [mendK_succ l k hk]
  have : mendI l k = l[k] := by unfold mendI; rw [h]; simp [hk]
  rw [this, ← mendK_at l k hk]
  exact List.set_getElem_self _

/-- A cell that lies in a block of its own. -/
def CelAt (w : World) (g : Nat) (c : Cel) : Prop := w.heap[g]? = some (.cells #[.int .i32 c.rune, .bool c.sty.bold, .bool c.sty.under, .bool c.sty.turned, .int .i64 c.sty.fore, .int .i64 c.sty.back] 37 (0, 0))
theorem CelAt.cells {w : World} {g : Nat} {c : Cel} (h : CelAt w g c) : w.cell? ⟨g, 0, none⟩ = some (.int .i32 c.rune) ∧ w.cell? ⟨g, 1, none⟩ = some (.bool c.sty.bold) ∧ w.cell? ⟨g, 2, none⟩ = some (.bool c.sty.under) ∧
    w.cell? ⟨g, 3, none⟩ = some (.bool c.sty.turned) ∧ w.cell? ⟨g, 4, none⟩ = some (.int .i64 c.sty.fore) ∧ w.cell? ⟨g, 5, none⟩ = some (.int .i64 c.sty.back) := by
  unfold CelAt at h
  refine ⟨?_, ?_, ?_, ?_, ?_, ?_⟩ <;> simp [World.cell?, h]
theorem CelAt.below {w w' : World} {g B : Nat} {c : Cel} (h : CelAt w g c) (hb : Below B w w') (hg : g < B) : CelAt w' g c := (hb.block g hg).trans h
theorem CelAt.lt {w : World} {g : Nat} {c : Cel} (h : CelAt w g c) : g < w.heap.size := (Array.getElem?_eq_some_iff.1 h).1

set_option maxRecDepth 100000 in
set_option maxHeartbeats 1000000 in
theorem whole_ok (w : World) (hT : Tabs w) (l : List Cel) (A : Option Addr) (c B : Nat) (hr : celE.Row w B A l) (hB : B ≤ w.heap.size) (hl : l.length ≤ 1000) :
    Calls Tryd.prog 17 #[.slice A l.length c] w fun e w' => e = .returned (.bool (whole l)) ∧ Below w.heap.size w w' := by
  have HT := Lib.hid hT
  have HR := Lib.hid hr
  clear hT hr
  generalize hq : whole l = q
  have HQ := Lib.hid hq
  clear hq
  go_enter Tryd.func17, Tryd.ntmps17
  go_wp2
  go_loopw [7] (fun i wr => ∃ k : Nat, k ≤ l.length ∧ i = .int .i64 (k : Int) ∧ Below w.heap.size w wr ∧ ∀ j, j < k → okI l j = true) (fun i _ => l.length - (RowKit.intOf i).toNat)
  case atStart => exact ⟨0, Nat.zero_le _, rfl, Below.refl _ _, fun j hj => absurd hj (by omega)⟩
  case round =>
    obtain ⟨k, hk, rfl, hb, hall⟩ := hrel
    have HB := Lib.hid hb
    have HALL := Lib.hid hall
    clear hb hall
    by_cases hlt : k < l.length
    · have g1 : decide ((k : Int) < (l.length : Int)) = true := by simp; omega
      have gn : decide (k < l.length) = true := by simp; omega
      have hz := HB.out.size
      have hrr := HR.out.below (HB.out.mono hB)
      have HRR := Lib.hid hrr
      obtain ⟨b, off, rfl, hbl, c0, c1, c2, c3, c4, c5⟩ := cel_at hrr hlt
      have hgd : l.getD k ⟨0, zero⟩ = l[k] := by simp [hlt]
      have hok := okI_eq l k
      rw [hgd] at hok
      have HOK := Lib.hid hok
      have HNO := Lib.hid (fun h => HQ.out.symm.trans (whole_not l k hlt h))
      have HAL := Lib.hid (fun (v : World) (hv : Tabs v) (hrv : celE.Row v B (some ⟨b, off, none⟩) l) (hBv : B ≤ v.heap.size) => alone_ok v hv l (some ⟨b, off, none⟩) c B k hrv hBv hl hlt)
      have HCR := Lib.hid (fun v => cright_ok v l[k])
      clear hok hrr hgd
      generalize l[k] = y at *
      obtain ⟨r, ⟨bo, u, t, f, ba⟩⟩ := y
      simp only [celV] at *
      obtain ⟨w1, hw1⟩ : ∃ w1, w1 = wr.alloc (.cells #[.int .i32 r, .bool bo, .bool u, .bool t, .int .i64 f, .int .i64 ba] 37) := ⟨_, rfl⟩
      have hb1 : Below w.heap.size w w1 := by rw [hw1]; exact HB.out.alloc hz _
      have hc1 : CelAt w1 wr.heap.size ⟨r, ⟨bo, u, t, f, ba⟩⟩ := by rw [hw1]; exact heap_alloc_new wr _
      have W1 := Lib.hid hw1
      have HB1 := Lib.hid hb1
      have HC1 := Lib.hid hc1
      have HR1 := Lib.hid (HR.out.below (hb1.mono hB))
      have HT1 := Lib.hid (HT.out.on hb1 HT.out.room)
      have hz1 := hb1.size
      clear hw1 hb1 hc1
      rcases ha : aloneI l k with _ | _
      · have HA := Lib.hid ha
        clear ha
        go_wp2_with fail
        rw [← W1.out]
        refine (HAL.out w1 HT1.out HR1.out (by omega)).mono ?_
        rw [HA.out]
        rintro e w2 ⟨rfl, hb2⟩
        have HB2 := Lib.hid (below_next HB1.out hb2)
        obtain ⟨d0, d1, d2, d3, d4, d5⟩ := (HC1.out.below hb2 HC1.out.lt).cells
        simp only at d0 d1 d2 d3 d4 d5
        clear hb2
        by_cases h0 : r = 0
        · have g0 : (r != 0) = false := by simp [h0]
          have HK : Hid (okI l k = true) := Lib.hid (by rw [HOK.out, HA.out]; simp [h0])
          clear h0
          go_wp2_with fail
          go_roundw
          case rel => exact ⟨k + 1, by omega, by simp, HB2.out, upto_succ HALL.out HK.out⟩
          case measure => simp [RowKit.intOf]; omega
        · have g0 : (r != 0) = true := by simp [h0]
          rcases hcr : cright ⟨r, ⟨bo, u, t, f, ba⟩⟩ with _ | _
          · have HCC := Lib.hid hcr
            obtain rfl : q = false := HNO.out (by rw [HOK.out, hcr]; simp [h0])
            clear hcr h0
            go_wp2_with fail
            refine (HCR.out w2).mono ?_
            rw [HCC.out]
            rintro e w3 ⟨rfl, hb3⟩
            have HB3 := Lib.hid (below_next HB2.out hb3)
            clear hb3
            go_wp2_with fail
            go_ret
            exact ⟨rfl, HB3.out⟩
          · have HCC := Lib.hid hcr
            have HK : Hid (okI l k = true) := Lib.hid (by rw [HOK.out, HA.out, hcr]; simp)
            clear hcr h0
            go_wp2_with fail
            refine (HCR.out w2).mono ?_
            rw [HCC.out]
            rintro e w3 ⟨rfl, hb3⟩
            have HB3 := Lib.hid (below_next HB2.out hb3)
            clear hb3
            go_wp2_with fail
            go_roundw
            case rel => exact ⟨k + 1, by omega, by simp, HB3.out, upto_succ HALL.out HK.out⟩
            case measure => simp [RowKit.intOf]; omega
      · have HA := Lib.hid ha
        obtain rfl : q = false := HNO.out (by rw [HOK.out, ha]; rfl)
        clear ha
        go_wp2_with fail
        rw [← W1.out]
        refine (HAL.out w1 HT1.out HR1.out (by omega)).mono ?_
        rw [HA.out]
        rintro e w2 ⟨rfl, hb2⟩
        have HB2 := Lib.hid (below_next HB1.out hb2)
        clear hb2
        go_wp2_with fail
        go_ret
        exact ⟨rfl, HB2.out⟩
    · have g1 : decide ((k : Int) < (l.length : Int)) = false := by simp; omega
      have gn : decide (k < l.length) = false := by simp; omega
      obtain rfl : k = l.length := by omega
      obtain rfl : q = true := HQ.out.symm.trans ((whole_all l).2 HALL.out)
      go_wp2_with fail
      go_ret
      exact ⟨rfl, HB.out⟩
end Go.Proofs.YtbpkklcegiiheaaDoor
