/-
  Layer 9's laws: the anchor 'fit' answers true.
-/
import Derived.Test.YtbpkklcegiiheaaDoorDPut
import Derived.Test.YtbpkklcegiiheaaDoorDUp
import Derived.Test.YtbpkklcegiiheaaDoorDFit
import Derived.Test.YtbpkklcegiiheaaDoorDText
import Derived.Test.YtbpkklcegiiheaaDoorDSame
namespace Go.Proofs.YtbpkklcegiiheaaDoor
open Go.RowKit Go.Lib KM

def fitG1 : Gr := gput (gnew 2 2) 0 0 ⟨120, KM.zero⟩
theorem fit_a : (gup fitG1 0 2 1 KM.zero).2 = [[⟨120, KM.zero⟩, ⟨32, KM.zero⟩]] := by decide
theorem fit_b : gtext (gup fitG1 0 2 1 KM.zero).1 0 = [] := by decide +kernel
theorem fit_c : cright (gat (gup fitG1 0 2 1 KM.zero).1 1 1) = true := by decide
theorem fit_d : (gup fitG1 0 2 1 KM.zero).1.w = 2 ∧ (gup fitG1 0 2 1 KM.zero).1.ls.length = 2 := by decide
theorem build_runeX (w : World) : (Instr.build 37 #[(0, .int .i32 120)]).run Tryd.prog w = .ok (.agg #[.int .i32 120, .bool false, .bool false, .bool false, .int .i64 0, .int .i64 0]) w := by kernel_rfl

set_option maxRecDepth 100000 in
set_option maxHeartbeats 4000000 in
theorem fit_ok (w : World) (hT : Tabs w) : Calls Tryd.prog 10 #[] w fun e w' => e = .returned (.bool true) ∧ Below w.heap.size w w' := by
  have HT := Lib.hid hT
  have hok0 := gnew_ok 2 2
  have hok1 : fitG1.Ok := gput_ok hok0 0 0 ⟨120, KM.zero⟩
  have hok2 := (gup_ok hok1 0 2 1 (s := KM.zero) rfl).1
  have HOK0 := Lib.hid hok0
  have HOK1 := Lib.hid hok1
  have HOK2 := Lib.hid hok2
  have hbs := fun w => build_zstyle w
  have hbr := fun w => build_runeX w
  have HNW := Lib.hid (new_ok w 2 2)
  clear hT hok0 hok1 hok2
  go_enter Tryd.func10, Tryd.ntmps10
  go_wp2_with fail
  refine HNW.out.mono ?_
  rintro e w1 ⟨p, rfl, ⟨⟨F1, hat1, hF1⟩, hb1⟩⟩
  have HPUT : Hid (Calls Tryd.prog 30 #[.pointer (some ⟨p, 0, none⟩), .int .i64 0, .int .i64 0, .agg #[.int .i32 120, .bool false, .bool false, .bool false, .int .i64 0, .int .i64 0]] w1 fun e w' => e = .returned (.tuple #[]) ∧ GPost w1 F1 p fitG1 w') := put_ok w1 (HT.out.on hb1 HT.out.room) hat1 HOK0.out 0 0 ⟨120, KM.zero⟩
  have HB1 := Lib.hid hb1
  have HF1 := Lib.hid hF1
  have HAT1 := Lib.hid hat1
  clear hat1 hb1 hF1
  go_wp2_with fail
  refine HPUT.out.mono ?_
  rintro e w2 ⟨rfl, ⟨⟨F2, hat2, hF2⟩, hfr2⟩⟩
  have hb2 : Below w.heap.size w w2 := HB1.out.trans (hfr2.below HB1.out.size HF1.out)
  have hF2w : ∀ k ∈ F2, w.heap.size ≤ k := fun k hk => by
    rcases hF2 k hk with h | h
    · exact HF1.out k h
    · have := HB1.out.size; omega
  have HUP : Hid (Calls Tryd.prog 19 #[.pointer (some ⟨p, 0, none⟩), .int .i64 0, .int .i64 2, .int .i64 1, .agg #[.bool false, .bool false, .bool false, .int .i64 0, .int .i64 0]] w2 (UpPost w2 F2 p (gup fitG1 0 2 1 KM.zero))) := up_ok w2 hat2 HOK1.out 0 2 1 KM.zero
  have HB2 := Lib.hid hb2
  have HF2 := Lib.hid hF2w
  clear hat2 hF2 hfr2 hb2 hF2w
  go_wp2_with fail
  refine HUP.out.mono ?_
  rintro e w3 ⟨A, c, F3, he, hat3, hF3, hfr3, hout, hAn⟩
  have ha := fit_a
  have hb := fit_b
  have hcr := fit_c
  have hd := fit_d
  have hok2 := HOK2.out
  rw [ha] at he hout
  have hb3 : Below w.heap.size w w3 := HB2.out.trans (hfr3.below HB2.out.size HF2.out)
  generalize (gup fitG1 0 2 1 KM.zero).1 = g at *
  obtain ⟨bo, oo, Ao, co, rfl, _, d0, r0, _⟩ := hout.at_ (j := 0) (by simp)
  obtain ⟨br, or, rfl, _, q0, _⟩ := cel_at r0 (i := 0) (by simp)
  simp only [List.getElem_cons_zero, List.length_cons, List.length_nil, Nat.add_zero, Nat.zero_mul, Nat.reduceAdd] at d0 q0 he
  rw [he]
  have HB3 := Lib.hid hb3
  obtain ⟨hh, hc, L, hG, hF⟩ := hat3
  have hrw : 0 < g.h := hok2.h1
  have HG := Lib.hid hG
  have HOKG := Lib.hid hok2
  have HAT := Lib.hid (fun (v : World) (hv : Below w3.heap.size w3 v) => at_ok v (hG.below hv) hok2 1 1)
  have HTX := Lib.hid (text_ok w3 hG hok2 0)
  rw [hb] at HTX
  generalize gat g 1 1 = cc at *
  obtain ⟨r, ⟨b1, b2, b3, i1, i2⟩⟩ := cc
  have HCR := Lib.hid (fun v => cright_ok v ⟨r, ⟨b1, b2, b3, i1, i2⟩⟩)
  rw [hcr] at HCR
  simp only [celV] at HAT HCR
  have hLl : L.length = 2 := hG.len.trans hd.2
  have HLL := Lib.hid hLl
  have hgw : g.w = 2 := hd.1
  have HGW := Lib.hid hgw
  clear ha hb hcr hd hok2 he hout r0 hb3 hG hF3 hfr3 hAn hLl hgw
  go_wp2_with fail
  refine HTX.out.mono ?_
  rintro e w4 ⟨rfl, hb4⟩
  have HB4 := Lib.hid hb4
  clear hb4
  go_wp2_with fail
  refine (HAT.out w4 HB4.out).mono ?_
  rintro e w5 ⟨rfl, hb5⟩
  have HB5 := Lib.hid (below_next HB4.out hb5)
  clear hb5
  go_wp2_with fail
  refine (HCR.out w5).mono ?_
  rintro e w6 ⟨rfl, hb6⟩
  have hb36 := below_next HB5.out hb6
  have c0 := (HG.out.below hb36).cell0
  have c2 := (HG.out.below hb36).cell2
  rw [HGW.out] at c0
  rw [HLL.out] at c2
  have HB6 := Lib.hid (HB3.out.trans (hb36.mono HB3.out.size))
  clear hb6 hb36
  go_wp2_with fail
  go_ret
  exact ⟨rfl, HB6.out⟩
end Go.Proofs.YtbpkklcegiiheaaDoor
