/-
  GridTexts: a line's text is its runes, without rests, and without the blanks at its end. For every size, line and number; the package's and the library's tables as the program's text lays them.
-/
import Derived.Test.YtbpkklcegiiheaaDoorDTextM
import Derived.Test.YtbpkklcegiiheaaDoorDRep
import Derived.Test.YtbpkklcegiiheaaDoorDCond
import Derived.Test.YtbpkklcegiiheaaDoorCards
import Derived.Test.YtbpkklcegiiheaaDoorTie
import Derived.OpenShut
import Derived.HandedFrom
import Derived.ChangeSame
import Derived.ChangeVars
import Derived.JoinedOf
import Derived.JoinedAt
namespace Go.Proofs.YtbpkklcegiiheaaDoor.gridTexts
open Go.ChangeShapes Go.WideShapes Go.ChangeAt Go.RowKit KM

theorem conv_any (w : World) {B : Nat} {A : Option Addr} (cap : Nat) (zs : List Int) (k : Nat) (hk : k ≤ zs.length) (h : runeE.Row w B A zs) :
    (convert 59 9 (.slice A k cap)).run Tryd.prog w = .ok (.string ⟨((zs.take k).flatMap Lib.encodeRune).toArray⟩) w := by
  match zs, h, hk with
  | [], _, hk =>
    obtain rfl : k = 0 := by simpa using hk
    cases A with
    | none => exact run_convert_runes_nil w _ _ _ _ _ Tryd.underlying59 Tryd.underlying21 Tryd.underlying9
    | some a => exact run_convert_runes (P := Tryd.prog) w 59 9 21 a 0 cap [] (Nat.le_refl _) Tryd.underlying59 Tryd.underlying21 Tryd.underlying9 (fun j hj => by simp at hj)
  | z :: zs, h, hk =>
    obtain ⟨b, off, rfl, _, _⟩ := h.at_ (i := 0) (by simp)
    have key := run_convert_runes (P := Tryd.prog) w 59 9 21 ⟨b, off, none⟩ k cap (z :: zs) hk Tryd.underlying59 Tryd.underlying21 Tryd.underlying9 (fun j hj => by
      have e : (z :: zs).getD j 0 = (z :: zs)[j] := by rw [List.getD_eq_getElem?_getD, List.getElem?_eq_getElem hj]; rfl
      obtain ⟨b', off', e', _, q⟩ := h.at_ (i := j) hj
      simp only [Option.some.injEq, Addr.mk.injEq, and_true] at e'
      obtain ⟨rfl, rfl⟩ := e'
      have := q 0 (by decide)
      rw [show (⟨b, off, none⟩ : Addr).add j = ⟨b, off + j, none⟩ by unfold Addr.add; split <;> simp_all, e]
      simpa [runeE] using this)
    rw [key, runesBytes_eqI]
theorem runes_snoc (l : List Cel) (c : Cel) : runesOf (l ++ [c]) = if c.rune = 0 then runesOf l else runesOf l ++ [c.rune] := by
  unfold runesOf
  by_cases h : c.rune = 0 <;> simp [h]
theorem runes_le (l : List Cel) : (runesOf l).length ≤ l.length := by
  unfold runesOf
  rw [List.length_map]
  exact List.length_filter_le _ _
theorem headR (A : Option Addr) (n c k : Nat) (w : World) (h : k ≤ c) : (Instr.slice 59 (.slice A n c) none (some (.int .i64 (k : Int))) none).run Tryd.prog w = .ok (.slice A k c) w := runeE.run_head A n c k w h

set_option maxRecDepth 100000 in
set_option maxHeartbeats 4000000 in
theorem core (x y : Int) (A : Option Addr) (c : Nat) (l : List Cel) (n : Int) (w : World) (hr : celE.Row w w.heap.size A l) (hT : Tabs w) :
    Calls Tryd.prog 8 #[.agg #[.int .i64 x, .int .i64 y], .slice A l.length c, .int .i64 n] w fun e w' => e = .returned (.bool true) ∧ Below w.heap.size w w' := by
  obtain ⟨w1, hw1⟩ : ∃ w1, w1 = w.alloc (.cells #[.int .i64 x, .int .i64 y] 22) := ⟨_, rfl⟩
  have hb1 : Below w.heap.size w w1 := by rw [hw1]; exact (Below.refl _ _).alloc (Nat.le_refl _) _
  have HC1 := Lib.hid (show TwoIn w1 w.heap.size x y by rw [hw1]; exact TwoIn.fresh w x y)
  have HB1 := Lib.hid hb1
  have W1 := Lib.hid hw1
  have HR := Lib.hid hr
  have HT := Lib.hid hT
  have HFIT := Lib.hid (fit_ok w1 (hT.on hb1 hT.room))
  clear hw1 hb1 hr hT
  by_cases h1 : 2000 < l.length
  · have g : decide ((2000 : Int) < (l.length : Int)) = true := by simp; omega
    go_enter Tryd.func8, Tryd.ntmps8
    go_wp2_with fail
    rw [← W1.out]
    refine HFIT.out.mono ?_
    rintro e w2 ⟨rfl, b2⟩
    have HB2 := Lib.hid (below_next HB1.out b2)
    clear b2
    go_wp2_with fail
    go_ret
    exact ⟨rfl, HB2.out⟩
  have g : decide ((2000 : Int) < (l.length : Int)) = false := by simp; omega
  have h31 := and31 x
  have h31' := and31 y
  obtain ⟨X, hX⟩ : ∃ X, X = x % 32 := ⟨_, rfl⟩
  obtain ⟨Y, hY⟩ : ∃ Y, Y = y % 32 := ⟨_, rfl⟩
  rw [← hX] at h31
  rw [← hY] at h31'
  have hX0 : 0 ≤ X ∧ X < 32 := by omega
  have hY0 : 0 ≤ Y ∧ Y < 32 := by omega
  have hwX : IntKind.i64.wrap (X + 1) = X + 1 := by rw [IntKind.wrap_i64]; omega
  have hwY : IntKind.i64.wrap (Y + 1) = Y + 1 := by rw [IntKind.wrap_i64]; omega
  clear hX hY
  go_enter Tryd.func8, Tryd.ntmps8
  go_wp2_with fail
  rw [← W1.out]
  refine HFIT.out.mono ?_
  rintro e w2 ⟨rfl, b2⟩
  obtain ⟨q0, q1⟩ := (HC1.out.below b2).cells
  have HB2 := Lib.hid (below_next HB1.out b2)
  have z2 := HB2.out.size
  clear b2
  go_wp2_with fail
  have hl2 : l.length ≤ 2000 := by omega
  refine (fill_ok w2 (HT.out.on HB2.out HT.out.room) (X + 1) (Y + 1) A c l ((HR.out.below HB2.out).mono z2) hl2).mono ?_
  rintro e w3 ⟨p, g0, rfl, ⟨⟨F0, hat0, hF0⟩, hb3⟩, hok0, -, -⟩
  have HOK0 := Lib.hid hok0
  have HB3 := Lib.hid (below_next HB2.out hb3)
  obtain ⟨hb, hc, L, hG, _⟩ := hat0
  have HG := Lib.hid hG
  have HTX := Lib.hid (fun (v : World) (hv : Below w3.heap.size w3 v) => text_ok v (hG.below hv) hok0 n)
  have hH60 := hok0.h2
  have hW60 := hok0.w2
  have p1 := hG.cell1
  have p2 := hG.cell2
  have hlL : L.length = g0.h := hG.len.trans hok0.len
  have HLL := Lib.hid hlL
  rw [hlL] at p2
  clear hok0 hb3 hF0 q0 q1 hlL hG
  by_cases hn0 : n < 0
  · have gn : decide (n < 0) = true := by simp; omega
    have htx : gtext g0 n = [] := by
      unfold gtext
      rw [if_neg (fun h => by have := (Gr.there_iff g0 0 n).1 h; omega)]
    rw [htx] at HTX
    clear htx
    go_wp2_with fail
    refine (HTX.out w3 (Below.refl _ _)).mono ?_
    rintro e w4 ⟨rfl, hb4⟩
    have HB4 := Lib.hid (below_next HB3.out hb4)
    clear hb4
    go_wp2_with fail
    go_ret
    exact ⟨rfl, HB4.out⟩
  have gn : decide (n < 0) = false := by simp; omega
  by_cases hnH : (g0.h : Int) ≤ n
  · have gn' : decide ((g0.h : Int) ≤ n) = true := by simp; omega
    have htx : gtext g0 n = [] := by
      unfold gtext
      rw [if_neg (fun h => by have := (Gr.there_iff g0 0 n).1 h; omega)]
    rw [htx] at HTX
    clear htx
    go_wp2_with fail
    refine (HTX.out w3 (Below.refl _ _)).mono ?_
    rintro e w4 ⟨rfl, hb4⟩
    have HB4 := Lib.hid (below_next HB3.out hb4)
    clear hb4
    go_wp2_with fail
    go_ret
    exact ⟨rfl, HB4.out⟩
  obtain ⟨N, rfl⟩ := Int.eq_ofNat_of_zero_le (show 0 ≤ n by omega)
  have gn' : decide ((g0.h : Int) ≤ (N : Int)) = false := by simp; omega
  have gn2 : decide (g0.h ≤ N) = false := by simp; omega
  have hNH : (N : Int) < (g0.h : Int) := by omega
  have hNL : N < L.length := by rw [HLL.out]; omega
  have htx : gtext g0 N = (trimI (runesOf (g0.line N))).flatMap Lib.encodeRune := by
    unfold gtext
    rw [if_pos ((Gr.there_iff g0 0 N).2 ⟨⟨by omega, by have := HOK0.out.w1; omega⟩, by omega, hNH⟩), Int.toNat_natCast]
    unfold textB bytesOfL
    exact trim_bytes _
  rw [htx] at HTX
  have hlo := (HOK0.out.line (y := N) (by omega)).len
  obtain ⟨w4, hw4⟩ : ∃ w4, w4 = w3.alloc (.cells #[] 21) := ⟨_, rfl⟩
  have hb4 : Below w3.heap.size w3 w4 := by rw [hw4]; exact (Below.refl _ _).alloc (Nat.le_refl _) _
  have eh := (HG.out.below hb4).hcell' hNL
  have k2 := (HG.out.below hb4).cell2
  rw [HLL.out] at k2
  have er := HG.out.rowR hNL
  have HER := Lib.hid er
  clear htx er
  generalize hln : g0.line N = ln at *
  have hll : ln.length ≤ 60 := by omega
  clear hln hlo
  generalize L[N].b = lb at *
  generalize L[N].c = lc at *
  have ho4 : runeE.Own w4 w3.heap.size (.slice (some ⟨w3.heap.size, 0, none⟩) 0 0) [] := by
    rw [hw4]
    exact ⟨rfl, .inr ⟨w3.heap.size, 0, #[], rfl, Nat.le_refl _, heap_alloc_new w3 _, Nat.le_refl _, by unfold maxLen; omega, rfl, rfl⟩⟩
  have W4 := Lib.hid hw4
  have HB4 := Lib.hid hb4
  have HO4 := Lib.hid ho4
  clear hw4 ho4
  go_upto_region 8 with fail
  go_upto_region 9 with fail
  rw [← W4.out]
  clear p1 p2
  go_upto_region 10 with fail
  clear eh k2
  go_loopw [8, 49] (fun v j wr => ∃ k : Nat, k ≤ ln.length ∧ j = .int .i64 (k : Int) ∧ Below w3.heap.size w3 wr ∧ runeE.Own wr w3.heap.size v (runesOf (ln.take k))) (fun _ j _ => ln.length - (RowKit.intOf j).toNat)
  case atStart => exact ⟨0, Nat.zero_le _, rfl, HB4.out, HO4.out⟩
  case round =>
    obtain ⟨k, hk, rfl, hbr, ho⟩ := hrel
    have HBR := Lib.hid hbr
    have HO := Lib.hid ho
    have zr := hbr.size
    clear hbr ho
    by_cases hlt : k < ln.length
    · have g1 : decide ((k : Int) < (ln.length : Int)) = true := by simp; omega
      have gm : decide (k < ln.length) = true := by simp; omega
      obtain ⟨b, off, hA, _, q0, q1, q2, q3, q4, q5⟩ := cel_at (HER.out.below HBR.out) hlt
      simp only [Option.some.injEq, Addr.mk.injEq, and_true] at hA
      obtain ⟨rfl, rfl⟩ := hA
      have hsn : runesOf (ln.take (k + 1)) = if ln[k].rune = 0 then runesOf (ln.take k) else runesOf (ln.take k) ++ [ln[k].rune] := by
        rw [List.take_succ_eq_append_getElem hlt, runes_snoc]
      have hrl : (runesOf (ln.take k)).length ≤ 60 := Nat.le_trans (runes_le _) (by rw [List.length_take]; omega)
      have HSN := Lib.hid hsn
      clear hsn
      generalize runesOf (ln.take k) = rk at *
      generalize ln[k] = cd at *
      obtain ⟨w5, hw5⟩ : ∃ w5, w5 = wr.alloc (.cells #[.int .i32 cd.rune, .bool cd.sty.bold, .bool cd.sty.under, .bool cd.sty.turned, .int .i64 cd.sty.fore, .int .i64 cd.sty.back] 37) := ⟨_, rfl⟩
      have hb5 : Below wr.heap.size wr w5 := by rw [hw5]; exact (Below.refl _ _).alloc (Nat.le_refl _) _
      have hc5 : CelAt w5 wr.heap.size cd := by rw [hw5]; exact CelAt.fresh wr cd
      have z5 := hb5.size
      have HO5 := Lib.hid (HO.out.below hb5)
      have HB5 := Lib.hid (HBR.out.trans (hb5.mono zr))
      have HC5 := Lib.hid hc5
      have W5 := Lib.hid hw5
      clear hw5 hb5 hc5
      obtain ⟨r, ⟨bo, u, t', f, ba⟩⟩ := cd
      simp only [Nat.zero_add] at q0 q1 q2 q3 q4 q5
      go_upto_region 12 with fail
      rw [← W5.out]
      clear q0 q1 q2 q3 q4 q5
      obtain ⟨e0, -, -, -, -, -⟩ := HC5.out.cells
      simp only at e0
      by_cases hr0 : r = 0
      · subst hr0
        go_wp2_with fail
        go_roundw
        case rel => exact ⟨k + 1, by omega, by simp, HB5.out, by rw [HSN.out, if_pos rfl]; exact HO5.out⟩
        case measure => simp [RowKit.intOf]; omega
      · have hr1 : (r == 0) = false := by simp [hr0]
        have hr2 : (r != 0) = true := by simp [hr0]
        have hr3 : decide (r = 0) = false := by simp [hr0]
        have HR0 := Lib.hid hr0
        clear hr0
        go_wp2_with (at_builtin; refine runeE.wp_append1 rfl (.tmp 56) (.tmp 59) rfl w3.heap.size _ rk rfl HO5.out r #[.int .i32 r] 21 rfl rfl ?c1 ?c2 (by omega) ?_)
        case c1 => simp only [runeE]; omega
        case c2 => unfold maxLen; omega
        intro v1 y1 ho1 hg1
        have HO1 := Lib.hid ho1
        have HB1' := Lib.hid (HB5.out.trans (HO5.out.grow_below hg1 (by omega)))
        clear ho1 hg1
        go_wp2_with fail
        go_roundw
        case rel => exact ⟨k + 1, by omega, by simp, HB1'.out, by rw [HSN.out, if_neg HR0.out]; exact HO1.out⟩
        case measure => simp [RowKit.intOf]; omega
    · have g1 : decide ((k : Int) < (ln.length : Int)) = false := by simp; omega
      have gm : decide (k < ln.length) = false := by simp; omega
      obtain rfl : k = ln.length := by omega
      obtain ⟨Ar, cr, hv, hlc, _, _, rr⟩ := HO.out.row
      rw [List.take_length] at hv hlc rr
      have HRR := Lib.hid rr
      have hrl : (runesOf ln).length ≤ 60 := Nat.le_trans (runes_le _) hll
      rw [hv]
      clear hv rr
      generalize runesOf ln = rs at *
      generalize wr = w6 at *
      go_wp2_with fail
      go_loopw [8] (fun v wq => ∃ k : Nat, k ≤ rs.length ∧ v = .slice Ar k cr ∧ wq = w6 ∧ trimI (rs.take k) = trimI rs) (fun v _ => match v with | .slice _ n _ => n | _ => 0)
      case atStart => exact ⟨rs.length, Nat.le_refl _, rfl, rfl, by rw [List.take_length]⟩
      case round =>
        obtain ⟨k, hk, rfl, hw, ht⟩ := hrel
        rw [hw]
        clear hw
        by_cases hk0 : k = 0
        · have hfin : rs.take k = trimI rs := by rw [← ht, hk0]; rfl
          have gk : decide ((0 : Int) < (k : Int)) = false := by simp; omega
          have gk2 : decide (0 < k) = false := by simp; omega
          have HK0 := Lib.hid hk0
          clear ht hk0
          have hconv : Hid (∀ v, runeE.Row v v.heap.size Ar rs → (convert 59 9 (.slice Ar k cr)).run Tryd.prog v = .ok (.string ⟨((trimI rs).flatMap Lib.encodeRune).toArray⟩) v) := Lib.hid (fun v hv => by
            have := conv_any v cr rs k hk hv
            rwa [hfin] at this)
          clear hfin
          generalize (trimI rs).flatMap Lib.encodeRune = bs at *
          obtain ⟨wd, hwd⟩ : ∃ wd, wd = w6.drew := ⟨_, rfl⟩
          have hbd : Below w6.heap.size w6 wd := by rw [hwd]; exact (Below.refl _ _).drew
          have WD := Lib.hid hwd
          have HBD := Lib.hid (HBR.out.trans (hbd.mono HBR.out.size))
          have hSd : runeE.Row wd wd.heap.size Ar rs := (HRR.out.below hbd).mono hbd.size
          clear hwd hbd
          go_upto_region 17 with fail
          refine wp_region_noPanic ?_
          refine wp_region_held_drew (S := fun v => runeE.Row v v.heap.size Ar rs) (by kernel_rfl) (by rw [← WD.out]; exact hSd) (fun hHeld => ?_)
          rw [← WD.out]
          refine wpAnyH_take (i := 0) (v := ?vma0) rfl (by kernel_rfl) (by kernel_rfl) (by kernel_rfl) (fun _ _ _ h => h) (Or.inl ⟨by rfl, ?hma0⟩) (by assumption) ?_
          case hma0 => intro w hSw; (try dsimp only at hSw); go_simp; try with_reducible rfl
          simp only [List.getElem_toArray, List.getElem_cons_zero, Act.put, List.setIfInBounds_toArray, List.set_cons_zero, List.set_cons_succ]
          refine wpAnyH_take (i := 1) (v := ?vma1) rfl (by kernel_rfl) (by kernel_rfl) (by kernel_rfl) (fun _ _ _ h => h) (Or.inl ⟨by rfl, ?hma1⟩) (by assumption) ?_
          case hma1 => intro w hSw; (try dsimp only at hSw); go_simp; try with_reducible rfl
          simp only [List.getElem_toArray, List.getElem_cons_succ, List.getElem_cons_zero, Act.put, List.setIfInBounds_toArray, List.set_cons_zero, List.set_cons_succ]
          refine wpAnyH_take (i := 3) (v := ?vma3) rfl (by kernel_rfl) (by kernel_rfl) (by kernel_rfl) (fun _ _ _ h => h) (Or.inl ⟨by rfl, ?hma3⟩) (by assumption) ?_
          case hma3 => intro w hSw; (try dsimp only at hSw); go_simp; try with_reducible rfl
          simp only [List.getElem_toArray, List.getElem_cons_succ, List.getElem_cons_zero, Act.put, List.setIfInBounds_toArray, List.set_cons_zero, List.set_cons_succ]
          refine wpAnyH_take (i := 4) (v := ?vmb4) rfl (by kernel_rfl) (by kernel_rfl) (by kernel_rfl) (fun _ _ _ h => h) (Or.inl ⟨by rfl, ?hmb4⟩) (by assumption) ?_
          case hmb4 => intro w hSw; (try dsimp only at hSw); have hcv := hconv.out _ hSw; go_simp; try with_reducible rfl
          simp only [List.getElem_toArray, List.getElem_cons_succ, List.getElem_cons_zero, Act.put, List.setIfInBounds_toArray, List.set_cons_zero, List.set_cons_succ]
          refine wpAnyH_ready (rs := [2]) (by kernel_rfl) (by simp) ?_
          refine AllReadyH.cons rfl (fun K hK => ?_) AllReadyH.nil
          go_simp
          refine (HTX.out wd HBD.out).mono ?_
          rintro e v1 ⟨rfl, k1⟩
          have K1 := Lib.hid (HBD.out.trans (k1.mono HBD.out.size))
          have hS1 : runeE.Row v1 v1.heap.size Ar rs := (hSd.below k1).mono k1.size
          clear k1
          dsimp only
          refine hK.out _ _ ?_ (fun hHeld => ?_)
          · exact hS1
          clear hK K
          refine wpAnyH_take (i := 5) (v := ?vmc5) rfl (by kernel_rfl) (by kernel_rfl) (by kernel_rfl) (fun _ _ _ h => h) (Or.inl ⟨by rfl, ?hmc5⟩) (by assumption) ?_
          case hmc5 => intro w hSw; (try dsimp only at hSw); go_simp; try with_reducible rfl
          simp only [List.getElem_toArray, List.getElem_cons_succ, List.getElem_cons_zero, Act.put, List.setIfInBounds_toArray, List.set_cons_zero, List.set_cons_succ]
          refine wpAnyH_take (i := 6) (v := ?vmc6) rfl (by kernel_rfl) (by kernel_rfl) (by kernel_rfl) (fun _ _ _ h => h) (Or.inl ⟨by rfl, ?hmc6⟩) (by assumption) ?_
          case hmc6 => intro w hSw; (try dsimp only at hSw); go_simp; try with_reducible rfl
          simp only [List.getElem_toArray, List.getElem_cons_succ, List.getElem_cons_zero, Act.put, List.setIfInBounds_toArray, List.set_cons_zero, List.set_cons_succ]
          refine wpAnyH_done (by kernel_rfl) ?_ _
          refine NoPanic.normal ?_
          clear hHeld hSd hS1
          go_wp2_with fail
          go_ret
          exact ⟨rfl, HB3.out.trans (K1.out.mono HB3.out.size)⟩
        · obtain ⟨m, hm⟩ : ∃ m, m = k - 1 := ⟨_, rfl⟩
          have gk : decide ((0 : Int) < (k : Int)) = true := by simp; omega
          have gk2 : decide (0 < k) = true := by simp; omega
          have hmr : m < rs.length := by omega
          have hkm : k = m + 1 := by omega
          obtain ⟨b, off, hA, _, q⟩ := HRR.out.at_ (i := m) hmr
          have e0 : w6.cell? ⟨b, off + m, none⟩ = some (.int .i32 rs[m]) := by
            have := q 0 (by decide)
            simpa [runeE] using this
          have hs1 : (k : Int) - 1 = (m : Int) := by omega
          have hwm : IntKind.i64.wrap (m : Int) = (m : Int) := by rw [IntKind.wrap_i64]; omega
          have hmk : (m : Int) < (k : Int) := by omega
          have HKM := Lib.hid hkm
          have HCUT := Lib.hid (fun h : rs[m] = 32 => show trimI (rs.take m) = trimI rs by rw [← ht, hkm, trimI_cut rs m hmr h])
          have HSTOP := Lib.hid (fun h : rs[m] ≠ 32 => show rs.take k = trimI rs by rw [← ht, hkm, trimI_stop rs m hmr h])
          have hcut : ∀ V, (Instr.slice 59 (.slice Ar k cr) none (some (.int .i64 (m : Int))) none).run Tryd.prog V = .ok (.slice Ar m cr) V := fun V => headR Ar k cr m V (by omega)
          clear q ht hm hkm
          generalize hrm : rs[m] = rm at *
          subst hA
          by_cases h32 : rm = 32
          · have HC := Lib.hid (HCUT.out h32)
            subst h32
            clear hrm
            go_wp2_with fail
            go_roundw
            case rel => exact ⟨m, by omega, (by first | rfl | trivial), (by first | rfl | trivial), HC.out⟩
            case measure => have := HKM.out; simp; omega
          · have hfin := HSTOP.out h32
            have r1 : (rm == 32) = false := by simp [h32]
            have r2 : decide (rm = 32) = false := by simp [h32]
            clear hrm
            have hconv : Hid (∀ v, runeE.Row v v.heap.size (some ⟨b, off, none⟩) rs → (convert 59 9 (.slice (some ⟨b, off, none⟩) k cr)).run Tryd.prog v = .ok (.string ⟨((trimI rs).flatMap Lib.encodeRune).toArray⟩) v) := Lib.hid (fun v hv => by
              have := conv_any v cr rs k hk hv
              rwa [hfin] at this)
            clear hfin
            generalize (trimI rs).flatMap Lib.encodeRune = bs at *
            obtain ⟨wd, hwd⟩ : ∃ wd, wd = w6.drew := ⟨_, rfl⟩
            have hbd : Below w6.heap.size w6 wd := by rw [hwd]; exact (Below.refl _ _).drew
            have WD := Lib.hid hwd
            have HBD := Lib.hid (HBR.out.trans (hbd.mono HBR.out.size))
            have hSd : runeE.Row wd wd.heap.size (some ⟨b, off, none⟩) rs := (HRR.out.below hbd).mono hbd.size
            clear hwd hbd
            go_upto_region 17 with fail
            refine wp_region_noPanic ?_
            refine wp_region_held_drew (S := fun v => runeE.Row v v.heap.size (some ⟨b, off, none⟩) rs) (by kernel_rfl) (by rw [← WD.out]; exact hSd) (fun hHeld => ?_)
            rw [← WD.out]
            refine wpAnyH_take (i := 0) (v := ?vna0) rfl (by kernel_rfl) (by kernel_rfl) (by kernel_rfl) (fun _ _ _ h => h) (Or.inl ⟨by rfl, ?hna0⟩) (by assumption) ?_
            case hna0 => intro w hSw; (try dsimp only at hSw); go_simp; try with_reducible rfl
            simp only [List.getElem_toArray, List.getElem_cons_zero, Act.put, List.setIfInBounds_toArray, List.set_cons_zero, List.set_cons_succ]
            refine wpAnyH_take (i := 1) (v := ?vna1) rfl (by kernel_rfl) (by kernel_rfl) (by kernel_rfl) (fun _ _ _ h => h) (Or.inl ⟨by rfl, ?hna1⟩) (by assumption) ?_
            case hna1 => intro w hSw; (try dsimp only at hSw); go_simp; try with_reducible rfl
            simp only [List.getElem_toArray, List.getElem_cons_succ, List.getElem_cons_zero, Act.put, List.setIfInBounds_toArray, List.set_cons_zero, List.set_cons_succ]
            refine wpAnyH_take (i := 3) (v := ?vna3) rfl (by kernel_rfl) (by kernel_rfl) (by kernel_rfl) (fun _ _ _ h => h) (Or.inl ⟨by rfl, ?hna3⟩) (by assumption) ?_
            case hna3 => intro w hSw; (try dsimp only at hSw); go_simp; try with_reducible rfl
            simp only [List.getElem_toArray, List.getElem_cons_succ, List.getElem_cons_zero, Act.put, List.setIfInBounds_toArray, List.set_cons_zero, List.set_cons_succ]
            refine wpAnyH_take (i := 4) (v := ?vnb4) rfl (by kernel_rfl) (by kernel_rfl) (by kernel_rfl) (fun _ _ _ h => h) (Or.inl ⟨by rfl, ?hnb4⟩) (by assumption) ?_
            case hnb4 => intro w hSw; (try dsimp only at hSw); have hcv := hconv.out _ hSw; go_simp; try with_reducible rfl
            simp only [List.getElem_toArray, List.getElem_cons_succ, List.getElem_cons_zero, Act.put, List.setIfInBounds_toArray, List.set_cons_zero, List.set_cons_succ]
            refine wpAnyH_ready (rs := [2]) (by kernel_rfl) (by simp) ?_
            refine AllReadyH.cons rfl (fun K hK => ?_) AllReadyH.nil
            go_simp
            refine (HTX.out wd HBD.out).mono ?_
            rintro e v1 ⟨rfl, k1⟩
            have K1 := Lib.hid (HBD.out.trans (k1.mono HBD.out.size))
            have hS1 : runeE.Row v1 v1.heap.size (some ⟨b, off, none⟩) rs := (hSd.below k1).mono k1.size
            clear k1
            dsimp only
            refine hK.out _ _ ?_ (fun hHeld => ?_)
            · exact hS1
            clear hK K
            refine wpAnyH_take (i := 5) (v := ?vnc5) rfl (by kernel_rfl) (by kernel_rfl) (by kernel_rfl) (fun _ _ _ h => h) (Or.inl ⟨by rfl, ?hnc5⟩) (by assumption) ?_
            case hnc5 => intro w hSw; (try dsimp only at hSw); go_simp; try with_reducible rfl
            simp only [List.getElem_toArray, List.getElem_cons_succ, List.getElem_cons_zero, Act.put, List.setIfInBounds_toArray, List.set_cons_zero, List.set_cons_succ]
            refine wpAnyH_take (i := 6) (v := ?vnc6) rfl (by kernel_rfl) (by kernel_rfl) (by kernel_rfl) (fun _ _ _ h => h) (Or.inl ⟨by rfl, ?hnc6⟩) (by assumption) ?_
            case hnc6 => intro w hSw; (try dsimp only at hSw); go_simp; try with_reducible rfl
            simp only [List.getElem_toArray, List.getElem_cons_succ, List.getElem_cons_zero, Act.put, List.setIfInBounds_toArray, List.set_cons_zero, List.set_cons_succ]
            refine wpAnyH_done (by kernel_rfl) ?_ _
            refine NoPanic.normal ?_
            clear hHeld hSd hS1
            go_wp2_with fail
            go_ret
            exact ⟨rfl, HB3.out.trans (K1.out.mono HB3.out.size)⟩
theorem walk (x y : Int) (A : Option Addr) (len cap : Nat) (n : Int) (w : World) (h1 : IsCels w A len cap) (_hn : (Lit.int .i64 n).wf = true) (hT : Tabs w) :
    Calls Tryd.prog 8 #[.agg #[.int .i64 x, .int .i64 y], .slice A len cap, .int .i64 n] w fun e w' => e = .returned (.bool true) ∧ Below w.heap.size w w' := by
  obtain ⟨l, rfl, _, hr⟩ := h1
  exact core x y A cap l n w hr hT

theorem own : ownKnob Tryd.prog.godebug = none := by kernel_rfl
theorem laidOut : laidOutB Tryd.prog = true := by kernel_rfl

set_option maxRecDepth 100000 in
theorem lifted (os : Os) (started : os.Started) (H : Type) (enc : TypeId × Value → H) :
    ReturnsInHanded {} Tryd.checked os 8 .any (fun w args => (Rows.gridTextsSpec.pre enc Tryd.prog Tryd.f8 Rows.gridTextsRow.domain false w args ∧ laidMetH Tryd.prog Rows.gridTextsRow.laid w) ∧ sizedMet enc Tryd.prog Tryd.f8 (OpenSpec.ofChange Rows.gridTextsSpec) false w args)
      (Rows.gridTextsSpec.post enc Tryd.prog Tryd.f8 false true false false) := by
  refine returnsInHanded_of_change_and (C := Tryd.checked) (X := fun w _ => laidMetH Tryd.prog Rows.gridTextsRow.laid w) (fun _ _ _ hh h => h.of_heap hh) own started (by kernel_rfl) Tryd.func8
    (ChangeSpec.witness_shaped (enc := enc) (C := Tryd.checked) (os := os) (X := fun w _ => laidMetH Tryd.prog Rows.gridTextsRow.laid w) false (start9 os) #[.agg #[.int .i64 0, .int .i64 0], .slice none 0 0, .int .i64 0] 8 rfl (World.shaped_of_RefB (by kernel_rfl) (by kernel_rfl)) (by kernel_rfl) (by kernel_rfl) (by kernel_rfl) (met_gridTexts os _)) ?_
  intro W base args ds gs before hval0 hW _ _ hL _
  have hval : ∀ (j : Nat) t v, Tryd.f8.params[j]? = some t → args[j]? = some v → Value.okWide Tryd.prog W .any base t v := hval0
  have hW' := hW
  obtain ⟨p, q, hA0, hV, rfl, hfz, hnd⟩ := hW
  have hA : DataW.TrodAll enc Tryd.prog W 0 (fun _ => true) true Tryd.f8.params.toList args.toList ds p := hA0
  rw [Tryd.params8] at hA hval
  obtain ⟨v0, vs0, d0, ds0, p0, q0, hargs, rfl, rfl, h0, r0⟩ := trodAll_cons hA
  obtain ⟨v1, vs1, d1, ds1, p1, q1, rfl, rfl, rfl, h1, r1⟩ := trodAll_cons r0
  obtain ⟨v2, vs2, d2, ds2, p2, q2, rfl, rfl, rfl, h2, r2⟩ := trodAll_cons r1
  obtain ⟨rfl, rfl, rfl⟩ := trodAll_nil r2
  obtain rfl : args = #[v0, v1, v2] := by cases args; simp_all
  obtain ⟨rfl, rfl⟩ := trodVars_none hV
  have k0 := h0
  have lt0 : ∀ x ∈ p0, x.block < W.heap.size := by obtain ⟨m, hm⟩ := k0; exact DataW.trod_lt m _ _ _ hm
  obtain ⟨a0, b0, rfl⟩ := open_two (hval 0 22 v0 rfl rfl) h0
  obtain ⟨a1, len1, cap1, rfl⟩ := okWide_slice Tryd.underlying23 (hval 1 23 v1 rfl rfl)
  have k1 := h1
  have lt1 : ∀ x ∈ p1, x.block < W.heap.size := by obtain ⟨m, hm⟩ := k1; exact DataW.trod_lt m _ _ _ hm
  have w1 : IsCels W a1 len1 cap1 := by
    obtain ⟨fuel, hf⟩ := h1
    exact cels_in hf
  obtain ⟨a2, rfl, rfl, rfl, w2⟩ := open_int Tryd.underlying3 (hval 2 3 v2 rfl rfl) h2
  clear hA0 hval0
  refine (walk a0 b0 a1 len1 cap1 a2 W w1 w2 (tabs_gridTexts hL)).mono fun e W' ⟨he, bel⟩ => ?_
  subst he
  exact ⟨_, rfl, _, _, _, [], _, [], hW', trodAll_mk1 (shut_bool Tryd.underlying4 _), (trodAll_cons_mk (Below.trod laidOut (by kernel_rfl) (of_decide_eq_true (by kernel_rfl)) k0 bel lt0) (trodAll_cons_mk (Below.trod laidOut (by kernel_rfl) (of_decide_eq_true (by kernel_rfl)) k1 bel lt1) (trodAll_cons_mk (shut_int Tryd.underlying3 w2) trodAll_mk0))), rfl, bel.frame _, fun h => by cases h⟩

theorem over : Rows.gridTextsRow.holds Tryd.pinned (OpenSpec.ofChange Rows.gridTextsSpec) :=
  OpenClaim.holds_of_wide 8 Tryd.f8 rfl rfl rfl rfl rfl rfl rfl ⟨rfl, rfl, rfl, rfl, rfl⟩ rfl rfl rfl rfl rfl (by kernel_rfl) Tryd.func8 (by kernel_rfl)
    (of_decide_eq_true (by kernel_rfl)) (by unfold Func.isWrapper; first | (rw [if_pos (by decide +kernel)]; kernel_rfl) | (rw [if_neg (by decide +kernel)]; exact ⟨rfl, rfl⟩))
    (fun os started H enc _ => lifted os started H enc)

theorem cardOver : Rows.GridTextsCardSaid :=
  Claim7.holds_tied_plain_at .later [] [.data, .data, .pinned] true (true, "f146deda77bc3999c62c82da70115e9c71b62d2033ceffcf0b29ca91f6fa214a") false
    over (fun _ h => by cases h) (by kernel_rfl) (fun _ h => by cases h) gridTexts_row_tie rfl ⟨rfl, rfl⟩ (by kernel_rfl) rfl
    (fun f fn hf hfn => by
      obtain rfl : f = 8 := Option.some.inj ((show Tryd.prog.funcNamed Rows.gridTextsRow.func = some 8 by kernel_rfl).symm.trans hf) |>.symm
      obtain rfl : fn = Tryd.f8 := (Option.some.inj (Tryd.func8.symm.trans hfn)).symm
      exact ⟨by kernel_rfl, fun j t ht => by
        rw [Tryd.params8] at ht
        have hm : t ∈ [22, 23, 3] := by simpa using Array.mem_of_getElem? ht
        have hall : ([22, 23, 3].all fun u => !Tryd.prog.wantsStandIn u) = true := by kernel_rfl
        exact (show Tryd.prog.wantsStandIn t = false by simpa using List.all_eq_true.1 hall t hm)⟩)
    (by kernel_rfl)

end Go.Proofs.YtbpkklcegiiheaaDoor.gridTexts
namespace Go.Proofs.YtbpkklcegiiheaaDoor
theorem gridTexts_holds : Rows.GridTextsCardSaid := gridTexts.cardOver
end Go.Proofs.YtbpkklcegiiheaaDoor
