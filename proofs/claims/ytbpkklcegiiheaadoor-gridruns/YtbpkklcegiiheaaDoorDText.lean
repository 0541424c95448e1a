/-
  Layer 9 (grid): Text.
-/
import Derived.Test.YtbpkklcegiiheaaDoorDBuild
import Derived.Test.YtbpkklcegiiheaaDoorDStep
import Derived.Lib.TrimByte
namespace Go.Proofs.YtbpkklcegiiheaaDoor
open Go.RowKit Go.Lib KM

/-- A line's runes; their bytes; its text. -/
def runesOf (l : List Cel) : List Int := (l.filter fun c => c.rune != 0).map Cel.rune
def bytesOfL (l : List Cel) : List UInt8 := (runesOf l).flatMap Lib.encodeRune
def textB (l : List Cel) : List UInt8 := Lib.trimRightB (bytesOfL l) 32
def gtext (g : Gr) (y : Int) : List UInt8 := if g.there 0 y = true then textB (g.line y.toNat) else []
theorem bytes_snoc0 (l : List Cel) (c : Cel) (h : c.rune = 0) : bytesOfL (l ++ [c]) = bytesOfL l := by simp [bytesOfL, runesOf, h]
theorem bytes_snoc (l : List Cel) (c : Cel) (h : c.rune ≠ 0) : bytesOfL (l ++ [c]) = bytesOfL l ++ Lib.encodeRune c.rune := by simp [bytesOfL, runesOf, h]
theorem enc_le (r : Int) : (Lib.encodeRune r).length ≤ 4 := by
  have h := Lib.byteCells_encodeRune r
  have h2 := congrArg List.length h
  rw [Lib.byteCells_length] at h2
  have := Lib.runeCells_le r
  omega
theorem bytes_cons (l : List Cel) (c : Cel) : bytesOfL (c :: l) = (if c.rune = 0 then [] else Lib.encodeRune c.rune) ++ bytesOfL l := by
  by_cases h : c.rune = 0 <;> simp [bytesOfL, runesOf, h]
theorem bytes_le (l : List Cel) : (bytesOfL l).length ≤ 4 * l.length := by
  induction l with
  | nil => simp [bytesOfL, runesOf]
  | cons c l ih =>
    rw [bytes_cons]
    have := enc_le c.rune
    split
    · simp; omega
    · simp; omega
theorem tame_rune {c : Cel} (h : tame c) : 0 ≤ c.rune ∧ c.rune ≤ 1114111 := by
  rcases h.2 with h | h
  · omega
  · rw [GM.right_iff] at h; omega

set_option maxRecDepth 100000 in
set_option maxHeartbeats 2000000 in
theorem text_ok (w : World) {p hb hc : Nat} {L : List Ln} {g : Gr} (h : GridB w p hb hc L g) (hok : g.Ok) (y : Int) :
    Calls Tryd.prog 21 #[.pointer (some ⟨p, 0, none⟩), .int .i64 y] w fun e w' => e = .returned (.string ⟨(gtext g y).toArray⟩) ∧ Below w.heap.size w w' := by
  have HTHE := Lib.hid (there_ok w h 0 y)
  unfold gtext
  rcases hth : g.there 0 y with _ | _
  · rw [hth] at HTHE
    clear hth h
    rw [if_neg (by simp)]
    go_enter Tryd.func21, Tryd.ntmps21
    go_wp2_with fail
    refine HTHE.out.mono ?_
    rintro e w3 ⟨rfl, hw3⟩
    rw [hw3]
    clear hw3 w3
    go_wp2_with fail
    go_ret
    exact ⟨rfl, Below.refl _ _⟩
  · rw [hth] at HTHE
    rw [if_pos rfl]
    have hxy := (g.there_iff 0 y).1 hth
    obtain ⟨Y, rfl⟩ := Int.eq_ofNat_of_zero_le hxy.2.1
    simp only [Int.toNat_natCast]
    have hYL : Y < L.length := by have := h.len.trans hok.len; omega
    have hlo := hok.line (y := Y) (by omega)
    obtain ⟨w1, hw1⟩ : ∃ w1, w1 = w.alloc (.cells #[.pointer none, .slice none 0 0] 79) := ⟨_, rfl⟩
    have hb1 : Below w.heap.size w w1 := by rw [hw1]; exact (Below.refl _ _).alloc (Nat.le_refl _) _
    have hG1 := h.below hb1
    have d2 := hG1.cell2
    have dh := hG1.hcell' hYL
    have hbk : w1.heap[w.heap.size]? = some (.cells #[.pointer none, .slice none 0 0] 79 (0, 0)) := by rw [hw1]; exact heap_alloc_new w _
    have hbld : Bld w.heap.size w.heap.size [] w1 := .inl ⟨Nat.le_refl _, .slice none 0 0, hbk, ⟨rfl, .inl ⟨rfl, rfl⟩⟩, by simp [Value.ownBlock]⟩
    have HR := Lib.hid (h.rowR hYL)
    have HL := Lib.hid hlo
    have W1 := Lib.hid hw1
    have HB1 := Lib.hid hb1
    have HBLD := Lib.hid hbld
    have hz1 := hb1.size
    have hl60 : (g.line Y).length ≤ 60 := by rw [hlo.len]; exact hok.w2
    clear hth hxy hG1 h hlo hw1 hb1 hbk hbld
    generalize L[Y].b = b0 at *
    generalize L[Y].c = cc at *
    generalize g.line Y = l at *
    go_enter Tryd.func21, Tryd.ntmps21
    go_wp2_with fail
    refine HTHE.out.mono ?_
    rintro e w3 ⟨rfl, hw3⟩
    rw [hw3]
    clear hw3 w3
    go_upto_region 4 with fail
    rw [← W1.out]
    go_wp2_with fail
    go_loopw [20] (fun i wr => ∃ k : Nat, k ≤ l.length ∧ i = .int .i64 (k : Int) ∧ Below w.heap.size w wr ∧ Bld w.heap.size w.heap.size (bytesOfL (l.take k)) wr) (fun i _ => l.length - (RowKit.intOf i).toNat)
    case atStart => exact ⟨0, Nat.zero_le _, rfl, HB1.out, HBLD.out⟩
    case round =>
      obtain ⟨k, hk, rfl, hbr, hbl⟩ := hrel
      have hrow := HR.out.below hbr
      have HBR := Lib.hid hbr
      have HBK := Lib.hid hbl
      have hzr := hbr.size
      have hble := bytes_le (l.take k)
      rw [List.length_take] at hble
      by_cases hlt : k < l.length
      · have g1 : decide ((k : Int) < (l.length : Int)) = true := by simp; omega
        have gn : decide (k < l.length) = true := by simp; omega
        obtain ⟨b', off', e', _, q0, q1, q2, q3, q4, q5⟩ := cel_at hrow hlt
        simp only [Option.some.injEq, Addr.mk.injEq, and_true] at e'
        obtain ⟨rfl, rfl⟩ := e'
        simp only [Nat.zero_add] at q0 q1 q2 q3 q4 q5
        have htm := tame_rune (HL.out.tame _ (List.getElem_mem hlt))
        have h0 := bytes_snoc0 (l.take k) l[k]
        have h1 := bytes_snoc (l.take k) l[k]
        rw [← List.take_succ_eq_append_getElem hlt] at h0 h1
        clear hbr hbl hrow
        generalize l[k] = c at *
        obtain ⟨r, ⟨bo, u, t, f, ba⟩⟩ := c
        simp only at q0 q1 q2 q3 q4 q5 htm h0 h1
        obtain ⟨w2, hw2⟩ : ∃ w2, w2 = wr.alloc (.cells #[.int .i32 r, .bool bo, .bool u, .bool t, .int .i64 f, .int .i64 ba] 37) := ⟨_, rfl⟩
        have hb2 : Below wr.heap.size wr w2 := by rw [hw2]; exact (Below.refl _ _).alloc (Nat.le_refl _) _
        have hz2 : w2.heap.size = wr.heap.size + 1 := by rw [hw2]; simp
        have hc2 : CelAt w2 wr.heap.size ⟨r, ⟨bo, u, t, f, ba⟩⟩ := by rw [hw2]; exact CelAt.fresh wr ⟨r, ⟨bo, u, t, f, ba⟩⟩
        have m0 := hc2.cells.1
        simp only at m0
        have HBK2 := Lib.hid (bld_on HBK.out hb2)
        have HB2 := Lib.hid (HBR.out.trans (hb2.mono hzr))
        have W2 := Lib.hid hw2
        by_cases hr0 : r = 0
        · have HE := Lib.hid (h0 hr0)
          have gr : (r != 0) = false := by simp [hr0]
          clear hr0 h0 h1 hw2 hb2 hc2
          go_upto_region 7 with fail
          rw [← W2.out]
          go_wp2_with fail
          go_roundw
          case rel => exact ⟨k + 1, by omega, by simp, HB2.out, by rw [HE.out]; exact HBK2.out⟩
          case measure => simp [RowKit.intOf]; omega
        · have HE := Lib.hid (h1 hr0)
          have gr : (r != 0) = true := by simp [hr0]
          have HWR := Lib.hid (writeRune w.heap.size w.heap.size _ r (by omega) (by omega) w2 HBK2.out (by omega) (by omega))
          clear hr0 h0 h1 hw2 hb2 hc2
          go_upto_region 7 with fail
          rw [← W2.out]
          go_wp2_with fail
          refine HWR.out.mono ?_
          rintro e w3 ⟨⟨n, rfl⟩, hbl3, hb3, hk3⟩
          have HBL3 := Lib.hid hbl3
          have HB3 := Lib.hid (HB2.out.trans hb3)
          clear hbl3 hb3 hk3
          go_wp2_with fail
          go_roundw
          case rel => exact ⟨k + 1, by omega, by simp, HB3.out, by rw [HE.out]; exact HBL3.out⟩
          case measure => simp [RowKit.intOf]; omega
      · have g1 : decide ((k : Int) < (l.length : Int)) = false := by simp; omega
        have gn : decide (k < l.length) = false := by simp; omega
        obtain rfl : k = l.length := by omega
        rw [List.take_length] at HBK hble
        clear hbr hbl hrow
        have HST := Lib.hid (Tryd.Builder_String_any_k w.heap.size w.heap.size (bytesOfL l) wr HBK.out (by omega))
        have HTR := Lib.hid (fun v => Tryd.strings_TrimRight_one ⟨(bytesOfL l).toArray⟩ 32 (by decide) v (by show (bytesOfL l).toArray.size ≤ _; simp; omega))
        go_wp2_with fail
        refine HST.out.mono ?_
        rintro e w3 ⟨rfl, _, hb3, _⟩
        have HB3 := Lib.hid (HBR.out.trans hb3)
        clear hb3
        go_wp2_with fail
        refine (HTR.out w3).mono ?_
        rintro e w4 ⟨rfl, hw4⟩
        rw [hw4]
        clear hw4 w4
        go_wp2_with fail
        go_ret
        exact ⟨rfl, HB3.out⟩
end Go.Proofs.YtbpkklcegiiheaaDoor
