/-
  slices.Grow of nil and slices.Concat: of lines of cells, and of slices of lines.
-/
import Derived.Test.YtbpkklcegiiheaaDoorDRep
namespace Go.Proofs.YtbpkklcegiiheaaDoor
open Go.RowKit Go.Lib KM

/-- A slice value at A of as many slices as LL has reads as LL, and all of it lies below block B. -/
def El.Rows {α : Type} (E : El α) (w : World) (B : Nat) (A : Option Addr) (LL : List (List α)) : Prop :=
  0 < LL.length → ∃ b off, A = some ⟨b, off, none⟩ ∧ b < B ∧ ∀ j (hj : j < LL.length), ∃ A' c', w.cell? ⟨b, off + j, none⟩ = some (.slice A' LL[j].length c') ∧ E.Row w B A' LL[j] ∧ (A' = none → c' = 0)
section
variable {α : Type} {E : El α} {w w' : World} {B : Nat} {A : Option Addr} {LL : List (List α)}
theorem El.Rows.below (h : E.Rows w B A LL) (hb : Below B w w') : E.Rows w' B A LL := fun hp => by
  obtain ⟨b, off, e, hlt, hc⟩ := h hp
  refine ⟨b, off, e, hlt, fun j hj => ?_⟩
  obtain ⟨A', c', h1, h2, h3⟩ := hc j hj
  exact ⟨A', c', (hb.cell (p := ⟨b, off + j, none⟩) hlt).trans h1, h2.below hb, h3⟩
theorem El.Rows.mono {B' : Nat} (h : E.Rows w B A LL) (hB : B ≤ B') : E.Rows w B' A LL := fun hp => by
  obtain ⟨b, off, e, hlt, hc⟩ := h hp
  refine ⟨b, off, e, by omega, fun j hj => ?_⟩
  obtain ⟨A', c', h1, h2, h3⟩ := hc j hj
  exact ⟨A', c', h1, h2.mono hB, h3⟩
/-- How many elements they have together. -/
def sizes (LL : List (List α)) : Nat := (LL.map List.length).sum
theorem sizes_take (LL : List (List α)) (k : Nat) (hk : k < LL.length) : sizes (LL.take (k + 1)) = sizes (LL.take k) + LL[k].length := by
  unfold sizes
  rw [List.take_succ_eq_append_getElem hk, List.map_append, List.sum_append]
  simp
theorem sizes_le (LL : List (List α)) (k : Nat) : sizes (LL.take k) ≤ sizes LL := by
  conv => rhs; rw [← List.take_append_drop k LL]
  unfold sizes
  rw [List.map_append, List.sum_append]
  omega
theorem flatten_len (LL : List (List α)) : LL.flatten.length = sizes LL := by unfold sizes; rw [List.length_flatten]
theorem flatten_take (LL : List (List α)) (k : Nat) (hk : k < LL.length) : (LL.take (k + 1)).flatten = (LL.take k).flatten ++ LL[k] := by
  rw [List.take_succ_eq_append_getElem hk, List.flatten_append]
  simp
/-- A row made by append of zeros onto nil, cut to none of them. -/
theorem El.own_zeros (E : El α) (w : World) (base n : Nat) (hn : n ≤ 100000) (hbase : base ≤ w.heap.size) :
    E.Own (w.drew.alloc (.cells (Builtin.zeroCells E.z.cells n ++ Builtin.zeroCells E.z.cells (grownCap w n 0 E.ty - n)) E.ty)) base (.slice (some ⟨w.heap.size, 0, none⟩) 0 (grownCap w n 0 E.ty)) [] := by
  have h1 := grownCap_ge w n 0 E.ty
  have h2 := grownCap_le_maxLen w n 0 E.ty (by unfold maxLen; omega)
  refine ⟨by rw [E.cells_len], .inr ⟨w.heap.size, _, _, rfl, hbase, heap_alloc_new w.drew _, Nat.zero_le _, h2, ?_, by simp [El.cells]⟩⟩
  simp only [Array.size_append, size_zeroCells, E.zs]
  rw [← Nat.add_mul]
  congr 1; omega
theorem El.run_zeros (E : El α) (w : World) (ty : TypeId) (n : Nat) (h0 : 0 < n) (hn : n ≤ 100000) (hb : E.bytes ≤ 1000) :
    (Builtin.append_ #[E.sl, 3] ty #[.slice none 0 0, .int .i64 (n : Int)]).run Tryd.prog w = .ok (.slice (some ⟨w.heap.size, 0, none⟩) n (grownCap w n 0 E.ty)) (w.drew.alloc (.cells (Builtin.zeroCells E.z.cells n ++ Builtin.zeroCells E.z.cells (grownCap w n 0 E.ty - n)) E.ty)) := by
  obtain ⟨i, hi, hs, hz, hby⟩ := E.size_of
  have h1 : n * i.bytes ≤ 100000 * 1000 := by rw [hby]; exact Nat.mul_le_mul hn hb
  exact run_append_nil_zeros w E.sl 3 ty E.ty i E.z .i64 .i64 E.und Tryd.underlying3 hi hz n h0 (by rw [hs]; exact E.pos) (by omega) (by omega)
end

/-! ### of cells -/
set_option maxRecDepth 100000 in
set_option maxHeartbeats 1000000 in
theorem growC (w : World) (n : Nat) (hn : n ≤ 100000) : Calls Tryd.prog 73 #[.slice none 0 0, .int .i64 (n : Int)] w fun e w' => ∃ v, e = .returned v ∧ celE.Own w' w.heap.size v [] ∧ Below w.heap.size w w' := by
  rcases Nat.eq_zero_or_pos n with h0 | h0
  · subst h0
    go_enter Tryd.func73, Tryd.ntmps73
    go_wp2
    go_ret
    exact ⟨_, rfl, El.Own.nil _ _, Below.refl _ _⟩
  · have hrun : (Builtin.append_ #[23, 3] 23 #[.slice none 0 0, .int .i64 (n : Int)]).run Tryd.prog w = _ := celE.run_zeros w 23 n h0 hn (by decide)
    have hown := celE.own_zeros w w.heap.size n hn (Nat.le_refl _)
    have hbl : Below w.heap.size w (w.drew.alloc (.cells (Builtin.zeroCells celE.z.cells n ++ Builtin.zeroCells celE.z.cells (grownCap w n 0 celE.ty - n)) celE.ty)) := (Below.refl w.heap.size w).drew.alloc (Nat.le_refl _) _
    generalize w.drew.alloc (.cells (Builtin.zeroCells celE.z.cells n ++ Builtin.zeroCells celE.z.cells (grownCap w n 0 celE.ty - n)) celE.ty) = w1 at *
    generalize grownCap w n 0 celE.ty = c at *
    have HO := Lib.hid hown
    have HB := Lib.hid hbl
    have hd0 : decide ((n : Int) < 0) = false := decide_eq_false (by omega)
    have hd1 : decide (0 < (n : Int)) = true := decide_eq_true (by omega)
    have hd2 : decide (0 < n) = true := decide_eq_true (by omega)
    have hhd := fun V => headC none 0 0 0 V (Nat.le_refl _)
    have hhd2 := fun V => headC (some ⟨w.heap.size, 0, none⟩) n c 0 V (Nat.zero_le _)
    clear hown hbl
    go_enter Tryd.func73, Tryd.ntmps73
    go_wp2_with (at_builtin; refine Lib.wpList_append_run _ rfl (.tmp 20) (.tmp 21) _ _ rfl _ _ rfl rfl _ _ hrun ?_)
    go_ret
    exact ⟨_, rfl, HO.out, HB.out⟩

set_option maxRecDepth 100000 in
set_option maxHeartbeats 1000000 in
theorem concatC (w : World) (A : Option Addr) (c B : Nat) (LL : List (List Cel)) (hr : celE.Rows w B A LL) (hB : B ≤ w.heap.size) (hl : LL.length ≤ 10) (hs : sizes LL ≤ 10000) :
    Calls Tryd.prog 60 #[.slice A LL.length c] w fun e w' => ∃ v, e = .returned v ∧ celE.Own w' w.heap.size v LL.flatten ∧ Below w.heap.size w w' := by
  have HR := Lib.hid hr
  clear hr
  go_enter Tryd.func60, Tryd.ntmps60
  go_wp2_with fail
  go_loopw [3, 11] (fun z i wr => ∃ k : Nat, k ≤ LL.length ∧ i = .int .i64 (k : Int) ∧ z = .int .i64 (sizes (LL.take k) : Int) ∧ Hid (wr = w)) (fun _ i _ => LL.length - (RowKit.intOf i).toNat)
  case atStart => exact ⟨0, Nat.zero_le _, rfl, rfl, by first | exact Lib.hid rfl | trivial⟩
  case round =>
    obtain ⟨k, hk, rfl, rfl, hw⟩ := hrel
    rw [hw.out]
    clear hw wr
    by_cases hlt : k < LL.length
    · have g1 : decide ((k : Int) < (LL.length : Int)) = true := by simp; omega
      have gn : decide (k < LL.length) = true := by simp; omega
      obtain ⟨b, off, rfl, hb, hc⟩ := HR.out (by omega)
      obtain ⟨A', c', h1, h2, h3⟩ := hc k hlt
      have hst := sizes_take LL k hlt
      have hsl := sizes_le LL (k + 1)
      have HT := Lib.hid hst
      have hwr : IntKind.i64.wrap ((sizes (LL.take k) : Int) + (LL[k].length : Int)) = (sizes (LL.take k) : Int) + (LL[k].length : Int) := by rw [IntKind.wrap_i64]; omega
      have hd0 : decide ((sizes (LL.take k) : Int) + (LL[k].length : Int) < 0) = false := decide_eq_false (by omega)
      clear hc hst hsl h2 h3
      generalize LL[k].length = q at *
      generalize sizes (LL.take k) = z at *
      go_wp2_with fail
      go_roundw
      case rel => exact ⟨k + 1, by omega, by simp, by rw [HT.out]; simp, by first | exact Lib.hid rfl | trivial⟩
      case measure => simp [RowKit.intOf]; omega
    · have g1 : decide ((k : Int) < (LL.length : Int)) = false := by simp; omega
      have gn : decide (k < LL.length) = false := by simp; omega
      obtain rfl : k = LL.length := by omega
      rw [List.take_length]
      have HG := Lib.hid (growC w (sizes LL) (by omega))
      obtain ⟨z, hz⟩ : ∃ z, z = sizes LL := ⟨_, rfl⟩
      rw [← hz] at HG ⊢
      have HZ := Lib.hid hz
      clear hz
      go_wp2_with fail
      refine HG.out.mono ?_
      rintro e w1 ⟨v, rfl, ho, hb1⟩
      have HO1 := Lib.hid ho
      have HB1 := Lib.hid hb1
      have hz1 := hb1.size
      have HRR := Lib.hid (HR.out.below (hb1.mono hB))
      clear ho hb1
      go_wp2_with fail
      go_loopw [6, 27] (fun u i wr => ∃ k : Nat, k ≤ LL.length ∧ i = .int .i64 (k : Int) ∧ Below w.heap.size w wr ∧ celE.Own wr w.heap.size u (LL.take k).flatten) (fun _ i _ => LL.length - (RowKit.intOf i).toNat)
      case atStart => exact ⟨0, Nat.zero_le _, rfl, HB1.out, HO1.out⟩
      case round =>
        obtain ⟨k, hk, rfl, hb, ho⟩ := hrel
        have HBK := Lib.hid hb
        have HOK := Lib.hid ho
        have hzk := hb.size
        have hrk := HR.out.below (hb.mono hB)
        clear hb ho
        by_cases hlt : k < LL.length
        · have g1 : decide ((k : Int) < (LL.length : Int)) = true := by simp; omega
          have gn : decide (k < LL.length) = true := by simp; omega
          obtain ⟨b, off, rfl, hb, hc⟩ := hrk (by omega)
          obtain ⟨A', c', h1, h2, h3⟩ := hc k hlt
          have HT := Lib.hid (flatten_take LL k hlt)
          have hst := sizes_take LL k hlt
          have hsl := sizes_le LL (k + 1)
          have hfl := flatten_len (LL.take k)
          have hbd : (LL.take k).flatten.length + LL[k].length ≤ 10000 := by have := HZ.out; omega
          have H2 := Lib.hid h2
          have H3 := Lib.hid h3
          clear hc h2 h3 hst hsl hfl
          generalize (LL.take k).flatten = F at *
          generalize LL[k] = M at *
          go_wp2_with (at_builtin; refine celE.wp_append rfl (.tmp 31) (.tmp 32) rfl w.heap.size _ F rfl HOK.out A' M M.length c' B rfl rfl H2.out H3.out ?c1 ?c2 hzk ?_)
          case c1 => simp only [celE]; omega
          case c2 => unfold maxLen; omega
          intro v2 w2 ho2 hg2
          have HO2 := Lib.hid ho2
          have HB2 := Lib.hid (HBK.out.trans (HOK.out.grow_below hg2 hzk))
          clear ho2 hg2
          go_wp2_with fail
          go_roundw
          case rel => exact ⟨k + 1, by omega, by simp, HB2.out, by rw [HT.out]; exact HO2.out⟩
          case measure => simp [RowKit.intOf]; omega
        · have g1 : decide ((k : Int) < (LL.length : Int)) = false := by simp; omega
          have gn : decide (k < LL.length) = false := by simp; omega
          obtain rfl : k = LL.length := by omega
          have ho := HOK.out
          rw [List.take_length] at ho
          have HO3 := Lib.hid ho
          clear ho hrk
          go_wp2_with fail
          go_ret
          exact ⟨_, rfl, HO3.out, HBK.out⟩

/-! ### of lines -/
set_option maxRecDepth 100000 in
set_option maxHeartbeats 1000000 in
theorem growL (w : World) (n : Nat) (hn : n ≤ 100000) : Calls Tryd.prog 62 #[.slice none 0 0, .int .i64 (n : Int)] w fun e w' => ∃ v, e = .returned v ∧ linE.Own w' w.heap.size v [] ∧ Below w.heap.size w w' := by
  rcases Nat.eq_zero_or_pos n with h0 | h0
  · subst h0
    go_enter Tryd.func62, Tryd.ntmps62
    go_wp2
    go_ret
    exact ⟨_, rfl, El.Own.nil _ _, Below.refl _ _⟩
  · have hrun : (Builtin.append_ #[29, 3] 29 #[.slice none 0 0, .int .i64 (n : Int)]).run Tryd.prog w = _ := linE.run_zeros w 29 n h0 hn (by decide)
    have hown := linE.own_zeros w w.heap.size n hn (Nat.le_refl _)
    have hbl : Below w.heap.size w (w.drew.alloc (.cells (Builtin.zeroCells linE.z.cells n ++ Builtin.zeroCells linE.z.cells (grownCap w n 0 linE.ty - n)) linE.ty)) := (Below.refl w.heap.size w).drew.alloc (Nat.le_refl _) _
    generalize w.drew.alloc (.cells (Builtin.zeroCells linE.z.cells n ++ Builtin.zeroCells linE.z.cells (grownCap w n 0 linE.ty - n)) linE.ty) = w1 at *
    generalize grownCap w n 0 linE.ty = c at *
    have HO := Lib.hid hown
    have HB := Lib.hid hbl
    have hd0 : decide ((n : Int) < 0) = false := decide_eq_false (by omega)
    have hd1 : decide (0 < (n : Int)) = true := decide_eq_true (by omega)
    have hd2 : decide (0 < n) = true := decide_eq_true (by omega)
    have hhd := fun V => headL none 0 0 0 V (Nat.le_refl _)
    have hhd2 := fun V => headL (some ⟨w.heap.size, 0, none⟩) n c 0 V (Nat.zero_le _)
    clear hown hbl
    go_enter Tryd.func62, Tryd.ntmps62
    go_wp2_with (at_builtin; refine Lib.wpList_append_run _ rfl (.tmp 20) (.tmp 21) _ _ rfl _ _ rfl rfl _ _ hrun ?_)
    go_ret
    exact ⟨_, rfl, HO.out, HB.out⟩

set_option maxRecDepth 100000 in
set_option maxHeartbeats 1000000 in
theorem concatL (w : World) (A : Option Addr) (c B : Nat) (LL : List (List Sl)) (hr : linE.Rows w B A LL) (hB : B ≤ w.heap.size) (hl : LL.length ≤ 10) (hs : sizes LL ≤ 10000) :
    Calls Tryd.prog 43 #[.slice A LL.length c] w fun e w' => ∃ v, e = .returned v ∧ linE.Own w' w.heap.size v LL.flatten ∧ Below w.heap.size w w' := by
  have HR := Lib.hid hr
  clear hr
  go_enter Tryd.func43, Tryd.ntmps43
  go_wp2_with fail
  go_loopw [3, 11] (fun z i wr => ∃ k : Nat, k ≤ LL.length ∧ i = .int .i64 (k : Int) ∧ z = .int .i64 (sizes (LL.take k) : Int) ∧ Hid (wr = w)) (fun _ i _ => LL.length - (RowKit.intOf i).toNat)
  case atStart => exact ⟨0, Nat.zero_le _, rfl, rfl, by first | exact Lib.hid rfl | trivial⟩
  case round =>
    obtain ⟨k, hk, rfl, rfl, hw⟩ := hrel
    rw [hw.out]
    clear hw wr
    by_cases hlt : k < LL.length
    · have g1 : decide ((k : Int) < (LL.length : Int)) = true := by simp; omega
      have gn : decide (k < LL.length) = true := by simp; omega
      obtain ⟨b, off, rfl, hb, hc⟩ := HR.out (by omega)
      obtain ⟨A', c', h1, h2, h3⟩ := hc k hlt
      have hst := sizes_take LL k hlt
      have hsl := sizes_le LL (k + 1)
      have HT := Lib.hid hst
      have hwr : IntKind.i64.wrap ((sizes (LL.take k) : Int) + (LL[k].length : Int)) = (sizes (LL.take k) : Int) + (LL[k].length : Int) := by rw [IntKind.wrap_i64]; omega
      have hd0 : decide ((sizes (LL.take k) : Int) + (LL[k].length : Int) < 0) = false := decide_eq_false (by omega)
      clear hc hst hsl h2 h3
      generalize LL[k].length = q at *
      generalize sizes (LL.take k) = z at *
      go_wp2_with fail
      go_roundw
      case rel => exact ⟨k + 1, by omega, by simp, by rw [HT.out]; simp, by first | exact Lib.hid rfl | trivial⟩
      case measure => simp [RowKit.intOf]; omega
    · have g1 : decide ((k : Int) < (LL.length : Int)) = false := by simp; omega
      have gn : decide (k < LL.length) = false := by simp; omega
      obtain rfl : k = LL.length := by omega
      rw [List.take_length]
      have HG := Lib.hid (growL w (sizes LL) (by omega))
      obtain ⟨z, hz⟩ : ∃ z, z = sizes LL := ⟨_, rfl⟩
      rw [← hz] at HG ⊢
      have HZ := Lib.hid hz
      clear hz
      go_wp2_with fail
      refine HG.out.mono ?_
      rintro e w1 ⟨v, rfl, ho, hb1⟩
      have HO1 := Lib.hid ho
      have HB1 := Lib.hid hb1
      have hz1 := hb1.size
      have HRR := Lib.hid (HR.out.below (hb1.mono hB))
      clear ho hb1
      go_wp2_with fail
      go_loopw [6, 27] (fun u i wr => ∃ k : Nat, k ≤ LL.length ∧ i = .int .i64 (k : Int) ∧ Below w.heap.size w wr ∧ linE.Own wr w.heap.size u (LL.take k).flatten) (fun _ i _ => LL.length - (RowKit.intOf i).toNat)
      case atStart => exact ⟨0, Nat.zero_le _, rfl, HB1.out, HO1.out⟩
      case round =>
        obtain ⟨k, hk, rfl, hb, ho⟩ := hrel
        have HBK := Lib.hid hb
        have HOK := Lib.hid ho
        have hzk := hb.size
        have hrk := HR.out.below (hb.mono hB)
        clear hb ho
        by_cases hlt : k < LL.length
        · have g1 : decide ((k : Int) < (LL.length : Int)) = true := by simp; omega
          have gn : decide (k < LL.length) = true := by simp; omega
          obtain ⟨b, off, rfl, hb, hc⟩ := hrk (by omega)
          obtain ⟨A', c', h1, h2, h3⟩ := hc k hlt
          have HT := Lib.hid (flatten_take LL k hlt)
          have hst := sizes_take LL k hlt
          have hsl := sizes_le LL (k + 1)
          have hfl := flatten_len (LL.take k)
          have hbd : (LL.take k).flatten.length + LL[k].length ≤ 10000 := by have := HZ.out; omega
          have H2 := Lib.hid h2
          have H3 := Lib.hid h3
          clear hc h2 h3 hst hsl hfl
          generalize (LL.take k).flatten = F at *
          generalize LL[k] = M at *
          go_wp2_with (at_builtin; refine linE.wp_append rfl (.tmp 31) (.tmp 32) rfl w.heap.size _ F rfl HOK.out A' M M.length c' B rfl rfl H2.out H3.out ?c1 ?c2 hzk ?_)
          case c1 => simp only [linE]; omega
          case c2 => unfold maxLen; omega
          intro v2 w2 ho2 hg2
          have HO2 := Lib.hid ho2
          have HB2 := Lib.hid (HBK.out.trans (HOK.out.grow_below hg2 hzk))
          clear ho2 hg2
          go_wp2_with fail
          go_roundw
          case rel => exact ⟨k + 1, by omega, by simp, HB2.out, by rw [HT.out]; exact HO2.out⟩
          case measure => simp [RowKit.intOf]; omega
        · have g1 : decide ((k : Int) < (LL.length : Int)) = false := by simp; omega
          have gn : decide (k < LL.length) = false := by simp; omega
          obtain rfl : k = LL.length := by omega
          have ho := HOK.out
          rw [List.take_length] at ho
          have HO3 := Lib.hid ho
          clear ho hrk
          go_wp2_with fail
          go_ret
          exact ⟨_, rfl, HO3.out, HBK.out⟩
end Go.Proofs.YtbpkklcegiiheaaDoor
