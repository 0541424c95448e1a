/-
  EventLists: the events of a list come back from their bytes, each behind the time of that ahead. For every slice of events and all bytes behind. No condition.
-/
import Derived.Test.YtfbfelfioikieaaELast
import Derived.Test.YtfbfelfioikieaaETame
import Derived.Test.YtfbfelfioikieaaEPut
import Derived.Test.YtfbfelfioikieaaETake
import Derived.Test.YtfbfelfioikieaaEFit
import Derived.Test.YtfbfelfioikieaaEOpen
import Derived.ProofKit
import Derived.OpenShut
namespace Go.Proofs.Ytfbfelfioikieaa.eventLists
open Go.ChangeShapes Go.WideShapes Go.ChangeAt Go.RowKit Go.Lib EM
set_option maxRecDepth 100000

theorem big (A A2 : Option Addr) (n c n2 c2 : Nat) (w : World) (h : 60 < n ∨ 100 < n2) :
    Calls Try.prog 4 #[.slice A n c, .slice A2 n2 c2] w fun e w' => e = .returned (.bool true) ∧ Below w.heap.size w w' := by
  have HF := Lib.hid (efit_ok w)
  by_cases h1 : 60 < n
  · have g : decide ((60 : Int) < (n : Int)) = true := by simp; omega
    clear h
    go_enter Try.func4, Try.ntmps4
    go_wp2_with fail
    refine HF.out.mono ?_
    rintro e w1 ⟨rfl, b1⟩
    have HB1 := Lib.hid b1
    clear b1
    go_wp2_with fail
    go_ret
    exact ⟨rfl, HB1.out⟩
  · have g : decide ((60 : Int) < (n : Int)) = false := by simp; omega
    have g2 : decide ((100 : Int) < (n2 : Int)) = true := by simp; omega
    clear h
    go_enter Try.func4, Try.ntmps4
    go_wp2_with fail
    refine HF.out.mono ?_
    rintro e w1 ⟨rfl, b1⟩
    have HB1 := Lib.hid b1
    clear b1
    go_wp2_with fail
    go_ret
    exact ⟨rfl, HB1.out⟩

set_option maxHeartbeats 4000000 in
theorem core (A A2 : Option Addr) (c c2 : Nat) (l : List Ev) (m : List Nat) (w : World) (hl : l.length ≤ 60) (hm : m.length ≤ 100) (hr : evE.Row w w.heap.size A l) (hr2 : Row w w.heap.size .u8 A2 m) (hA2 : A2 = none → c2 = 0) (hby : ∀ x ∈ m, x < 256) :
    Calls Try.prog 4 #[.slice A l.length c, .slice A2 m.length c2] w fun e w' => e = .returned (.bool true) ∧ Below w.heap.size w w' := by
  have g : decide ((60 : Int) < (l.length : Int)) = false := by simp; omega
  have g2 : decide ((100 : Int) < (m.length : Int)) = false := by simp; omega
  have HF := Lib.hid (efit_ok w)
  have HR := Lib.hid hr
  have HR2 := Lib.hid hr2
  have HA2 := Lib.hid hA2
  have HBY := Lib.hid hby
  clear hr hr2 hA2 hby
  have HLB := Lib.hid (tameL_list l 0 (Int.le_refl _) (by omega))
  have hlen := tameL_len 0 l
  go_enter Try.func4, Try.ntmps4
  go_wp2_with fail
  refine HF.out.mono ?_
  rintro e wf ⟨rfl, b1⟩
  have HBF := Lib.hid b1
  have hzf := b1.size
  clear b1 HF
  have HTA := Lib.hid (tame_ok wf l A c w.heap.size (HR.out.below HBF.out) hzf (by omega))
  go_wp2_with fail
  refine HTA.out.mono ?_
  rintro e wt ⟨v, rfl, ho, hbt⟩
  obtain ⟨AL, cL, hv, -, -, -, hrL⟩ := ho.row
  subst hv
  have hbt' := below_next HBF.out hbt
  have HBT := Lib.hid hbt'
  have hzt := hbt'.size
  generalize tameL 0 l = L at *
  have hL : L.length ≤ 60 := by omega
  have HRL := Lib.hid hrL
  clear ho hbt hbt' hrL HTA hlen g
  go_wp2_with fail
  go_loopw [5, 6, 28] (fun b f i wr => ∃ (k : Nat) (F : Int), k ≤ L.length ∧ i = .int .i64 (k : Int) ∧ f = .int .i64 F ∧ F = lastT 0 (L.take k) ∧ Below wt.heap.size wt wr ∧ Own wr wt.heap.size b (encL 0 (L.take k))) (fun _ _ i _ => L.length - (RowKit.intOf i).toNat)
  case atStart => exact ⟨0, 0, Nat.zero_le _, rfl, rfl, rfl, Below.refl _ _, Own.nil _ _⟩
  case round =>
    obtain ⟨k, F, hk, rfl, rfl, hF, hb, ho⟩ := hrel
    have HB := Lib.hid hb
    have HO := Lib.hid ho
    have hz := hb.size
    have HFE := Lib.hid hF
    clear hb ho hF
    by_cases hlt : k < L.length
    · have g1 : decide ((k : Int) < (L.length : Int)) = true := by simp; omega
      have gn : decide (k < L.length) = true := by simp; omega
      obtain ⟨b, off, hAL, hbl, c0, c1, c2', c3, c4⟩ := ev_at (HRL.out.below HB.out) hlt
      subst hAL
      have hle := lastT_le L 0 HLB.out k hlt
      rw [← HFE.out] at hle
      have hri := listB_right HLB.out L[k] (List.getElem_mem hlt)
      have HEN := Lib.hid (encL_take L 0 k hlt)
      have HLN := Lib.hid (lastT_take L 0 k hlt)
      have hxl := encL_len (L.take k) 0 (Int.le_refl _) (listB_take L 0 k HLB.out)
      rw [List.length_take] at hxl
      have hxl' : (encL 0 (L.take k)).length ≤ 100000 := by omega
      rw [← HFE.out] at HEN
      generalize L[k] = y at *
      generalize encL 0 (L.take k) = xs at *
      have HP := Lib.hid (fun (v : World) (u : Value) (ho : Own v wt.heap.size u xs) (hz : wt.heap.size ≤ v.heap.size) => eput_ok u xs F y v wt.heap.size hri hle.1 hle.2 (by omega) ho hz)
      obtain ⟨t, kk, d, x, z⟩ := y
      simp only [evV] at *
      obtain ⟨w1, hw1⟩ : ∃ w1, w1 = wr.alloc (.cells #[.int .i64 t, .int .i64 kk, .string d, .int .i64 x, .int .i64 z] 25) := ⟨_, rfl⟩
      have hb1 : Below wr.heap.size wr w1 := by rw [hw1]; exact (Below.refl _ _).alloc (Nat.le_refl _) _
      have hc1 : EvAt w1 wr.heap.size ⟨t, kk, d, x, z⟩ := by rw [hw1]; exact EvAt.new wr ⟨t, kk, d, x, z⟩
      have W1 := Lib.hid hw1
      have HB1 := Lib.hid hb1
      have HC1 := Lib.hid hc1
      have hz1 := hb1.size
      have HP1 := Lib.hid (HP.out w1 _ (HO.out.below hb1) (by omega))
      have HNE := Lib.hid (fun e => Nat.lt_irrefl _ (World.ownsRow.lt HO.out wr.heap.size e).2)
      clear hw1 hb1 hc1 hle hri hxl hxl' HP
      go_upto_region 11 with fail
      rw [← W1.out]
      obtain ⟨e0, e1, e2, e3, e4⟩ := HC1.out.cells
      simp only at e0 e1 e2 e3 e4
      clear c0 c1 c2' c3 c4
      go_wp2_with fail
      refine HP1.out.mono ?_
      rintro e w2 ⟨v2, rfl, ho2, hg2⟩
      obtain ⟨d0, d1, d2, d3, d4⟩ := (HC1.out.grown hg2 HNE.out).cells
      simp only at d0 d1 d2 d3 d4
      have HO2 := Lib.hid ho2
      have HB2 := Lib.hid (HB.out.trans ((HB1.out.mono hz).trans (show Below wt.heap.size w1 w2 from (Below.refl _ _).grown hg2 (by omega) (HO.out.below HB1.out).lt)))
      clear ho2 hg2 e0 e1 e2 e3 e4 HP1
      go_wp2_with fail
      go_roundw
      case rel => exact ⟨k + 1, t, by omega, by simp, rfl, HLN.out.symm, HB2.out, by rw [HEN.out]; exact HO2.out⟩
      case measure => simp [RowKit.intOf]; omega
    · have g1 : decide ((k : Int) < (L.length : Int)) = false := by simp; omega
      have gn : decide (k < L.length) = false := by simp; omega
      obtain rfl : k = L.length := by omega
      rw [List.take_length] at HO HFE
      clear HFE
      have hel := encL_len L 0 (Int.le_refl _) HLB.out
      have hbw : Below w.heap.size w wr := HBT.out.trans (HB.out.mono hzt)
      have HBW := Lib.hid hbw
      clear hbw
      go_wp2_with (at_builtin; refine wpList_append_g rfl (.tmp 39) (.tmp 40) rfl wt.heap.size _ (encL 0 L) rfl HO.out A2 m m.length c2 w.heap.size rfl rfl (HR2.out.below HBW.out) HA2.out (by omega) hz ?_; intro v1 w1 ho1 hg1; have HO1 := Lib.hid ho1; have HB1 := Lib.hid (HB.out.trans (hg1.below HO.out hz)); clear ho1 hg1)
      obtain ⟨A4, c4, hv4, hl4, hc4, hA4, hr4⟩ := HO1.out.form
      have hz1 := HB1.out.size
      have HRD := Lib.hid (of_any w1 A4 (encL 0 L ++ m) c4 w1.heap.size hr4 hA4 (by rw [List.length_append]; omega) (fun x hx => (List.mem_append.1 hx).elim (encL_byte L 0 x) (HBY.out x)))
      rw [hv4]
      clear hv4 hl4 hc4 hA4 hr4 hel
      refine HRD.out.mono ?_
      rintro e w2 ⟨gr, rfl, hgr, hrd, hb2⟩
      have HR0 := Lib.hid hrd
      have HB2 := Lib.hid (HB1.out.trans (hb2.mono hz1))
      have hgr' : wt.heap.size ≤ gr := by omega
      clear hrd hb2 HRD
      go_wp2_with fail
      go_loopw [6, 45] (fun f i ws => ∃ (k : Nat) (F : Int), k ≤ L.length ∧ i = .int .i64 (k : Int) ∧ f = .int .i64 F ∧ F = lastT 0 (L.take k) ∧ Below wt.heap.size wt ws ∧ Rd ws gr (encL F (L.drop k) ++ m) false) (fun _ i _ => L.length - (RowKit.intOf i).toNat)
      case atStart => exact ⟨0, 0, Nat.zero_le _, rfl, rfl, rfl, HB2.out, HR0.out⟩
      case round =>
        rename World => ws
        obtain ⟨k, F, hk, rfl, rfl, hF, hb, hrd⟩ := hrel
        have HBs := Lib.hid hb
        have HRs := Lib.hid hrd
        have hzs := hb.size
        have HFE := Lib.hid hF
        clear hb hrd hF
        by_cases hlt : k < L.length
        · have g1 : decide ((k : Int) < (L.length : Int)) = true := by simp; omega
          have gn : decide (k < L.length) = true := by simp; omega
          obtain ⟨b, off, hAL, hbl, c0, c1, c2', c3, c4⟩ := ev_at (HRL.out.below HBs.out) hlt
          subst hAL
          have hle := lastT_le L 0 HLB.out k hlt
          rw [← HFE.out] at hle
          have hri := listB_right HLB.out L[k] (List.getElem_mem hlt)
          have HLN := Lib.hid (lastT_take L 0 k hlt)
          have hdr := encL_drop L 0 k hlt
          rw [← HFE.out, HLN.out] at hdr
          have HRs2 := HRs.out
          rw [hdr, List.append_assoc] at HRs2
          have HRs3 := Lib.hid HRs2
          obtain ⟨f, rfl⟩ := Int.eq_ofNat_of_zero_le hle.1
          have hft : f < 4611686018427387904 := by have := (right_parts hri).2.1; omega
          generalize L[k] = y at *
          have hre := readE_enc f y (encL y.t (L.drop (k + 1)) ++ m) hri hle.2
          have HTK := Lib.hid (fun (v : World) (hv : Rd v gr (evB (f : Int) y ++ (encL y.t (L.drop (k + 1)) ++ m)) false) => (show Calls Try.prog 16 #[.pointer (some ⟨gr, 0, none⟩), .int .i64 (f : Int)] v fun x w' => x = .returned (.tuple #[evV y, .bool true]) ∧ Rd w' gr (encL y.t (L.drop (k + 1)) ++ m) false ∧ v.grownBy w' (some gr) from by
            have h := take_ok v gr _ f hft hv
            rw [hre] at h
            refine h.mono fun x w' hp => ?_
            unfold TakePost at hp
            rw [if_pos ⟨rfl, hri⟩] at hp
            exact hp))
          have heq := fun w => run_eqE w y y
          rw [show decide (y = y) = true from decide_eq_true rfl] at heq
          obtain ⟨t, kk, d, x, z⟩ := y
          simp only [evV] at *
          obtain ⟨w4, hw4⟩ : ∃ w4, w4 = ws.alloc (.cells #[.int .i64 t, .int .i64 kk, .string d, .int .i64 x, .int .i64 z] 25) := ⟨_, rfl⟩
          have hb4 : Below ws.heap.size ws w4 := by rw [hw4]; exact (Below.refl _ _).alloc (Nat.le_refl _) _
          have hc4 : EvAt w4 ws.heap.size ⟨t, kk, d, x, z⟩ := by rw [hw4]; exact EvAt.new ws ⟨t, kk, d, x, z⟩
          have hgs := HRs3.out.lt
          have W4 := Lib.hid hw4
          have HB4 := Lib.hid hb4
          have HC4 := Lib.hid hc4
          have hz4 := hb4.size
          have HTK1 := Lib.hid (HTK.out w4 (HRs3.out.grown hb4))
          clear hw4 hb4 hc4 hle hri hdr HRs2 hre HTK
          go_upto_region 19 with fail
          rw [← W4.out]
          clear c0 c1 c2' c3 c4
          go_wp2_with fail
          refine HTK1.out.mono ?_
          rintro e w5 ⟨rfl, hrd5, hg5⟩
          have hc5 := HC4.out.only hg5 (by omega)
          have HRd5 := Lib.hid hrd5
          have HC5 := Lib.hid hc5
          have HB5 := Lib.hid (HBs.out.trans ((HB4.out.mono hzs).trans (show Below wt.heap.size w4 w5 from (Below.refl _ _).grown hg5 (by omega) (fun k hk => by injection hk with hk; omega))))
          have hz5 := hg5.size
          clear hrd5 hg5 hc5 HTK1
          go_upto_region 20 with fail
          obtain ⟨w6, hw6⟩ : ∃ w6, w6 = w5.alloc (.cells #[.int .i64 t, .int .i64 kk, .string d, .int .i64 x, .int .i64 z] 25) := ⟨_, rfl⟩
          have hb6 : Below w5.heap.size w5 w6 := by rw [hw6]; exact (Below.refl _ _).alloc (Nat.le_refl _) _
          have hc6 : EvAt w6 w5.heap.size ⟨t, kk, d, x, z⟩ := by rw [hw6]; exact EvAt.new w5 ⟨t, kk, d, x, z⟩
          rw [← hw6]
          obtain ⟨d0, d1, d2, d3, d4⟩ := hc6.cells
          obtain ⟨e0, e1, e2, e3, e4⟩ := (HC5.out.dead hb6).cells
          simp only at d0 d1 d2 d3 d4 e0 e1 e2 e3 e4
          have HR6 := Lib.hid (HRd5.out.grown hb6)
          have HB6 := Lib.hid (below_next HB5.out hb6)
          clear hb6 hc6 hw6
          go_wp2_with fail
          go_roundw
          case rel => exact ⟨k + 1, t, by omega, by simp, rfl, HLN.out.symm, HB6.out, HR6.out⟩
          case measure => simp [RowKit.intOf]; omega
        · have g1 : decide ((k : Int) < (L.length : Int)) = false := by simp; omega
          have gn : decide (k < L.length) = false := by simp; omega
          have HRz := HRs.out
          rw [List.drop_of_length_le (by omega)] at HRz
          simp only [encL, List.nil_append] at HRz
          have HGD := Lib.hid (good_any ws gr m false HRz)
          have HDN := Lib.hid (done_any ws gr m false HRz)
          have hme : ((m.length : Int) == 0) = m.isEmpty := by cases m <;> simp; omega
          have hmn : (m.length == 0) = m.isEmpty := by cases m <;> simp
          have HWS := Lib.hid (show Below w.heap.size w ws from HBT.out.trans (HBs.out.mono hzt))
          generalize m.isEmpty = me at *
          clear HRz
          go_wp2_with fail
          refine HGD.out.mono ?_
          rintro e w6 ⟨rfl, hw6⟩
          rw [← hw6]
          clear hw6 w6
          go_wp2_with fail
          refine HDN.out.mono ?_
          rintro e w6 ⟨rfl, hw6⟩
          rw [← hw6]
          clear hw6 w6
          cases me <;>
          · go_wp2_with fail
            go_ret
            exact ⟨rfl, HWS.out⟩

theorem walk (A : Option Addr) (len cap : Nat) (A2 : Option Addr) (len2 cap2 : Nat) (zs : List Int) (w : World) (hw : IsEvs w A len cap) (hw2 : IsRow .u8 w A2 len2 cap2 zs) :
    Calls Try.prog 4 #[.slice A len cap, .slice A2 len2 cap2] w fun e w' => e = .returned (.bool true) ∧ Below w.heap.size w w' := by
  obtain ⟨l, rfl, h2, h3⟩ := hw
  obtain ⟨m, rfl, _, k2, k3, k4, k5⟩ := came hw2 top_u8
  by_cases h : 60 < l.length ∨ 100 < m.length
  · exact big A A2 l.length cap m.length cap2 w h
  · exact core A A2 cap cap2 l m w (by omega) (by omega) h3 k4 k3 k5

theorem own : ownKnob Try.prog.godebug = none := by kernel_rfl
theorem laidOut : laidOutB Try.prog = true := by kernel_rfl

set_option maxRecDepth 100000 in
theorem lifted (os : Os) (started : os.Started) (H : Type) (enc : TypeId × Value → H) :
    ReturnsInHanded {} Try.checked os 4 .any (Rows.eventListsSpec.pre6 enc Try.prog Try.f4 Rows.eventListsRow.domain false) (Rows.eventListsSpec.post enc Try.prog Try.f4 false true false false) := by
  refine returnsInHanded_of_change (C := Try.checked) own started (by kernel_rfl) Try.func4
    (ChangeSpec.witness6 (enc := enc) (C := Try.checked) false ⟨#[], #[.slice none 0 0, .slice none 0 0], []⟩ 8 (by kernel_rfl) (by kernel_rfl) (by kernel_rfl) (by kernel_rfl)) ?_
  intro W base args ds gs before hval0 hW hcnd _
  have hval : ∀ (j : Nat) t v, Try.f4.params[j]? = some t → args[j]? = some v → Value.okWide Try.prog W .any base t v := hval0
  have hW' := hW
  obtain ⟨p, q, hA0, hV, rfl, hfz, hnd⟩ := hW
  have hA : DataW.TrodAll enc Try.prog W 0 (fun _ => true) true Try.f4.params.toList args.toList ds p := hA0
  rw [Try.params4] at hA hval
  obtain ⟨v0, vs0, d0, ds0, p0, q0, hargs, rfl, rfl, h0, r0⟩ := trodAll_cons hA
  obtain ⟨v1, vs1, d1, ds1, p1, q1, rfl, rfl, rfl, h1, r1⟩ := trodAll_cons r0
  obtain ⟨rfl, rfl, rfl⟩ := trodAll_nil r1
  obtain rfl : args = #[v0, v1] := by cases args; simp_all
  obtain ⟨rfl, rfl⟩ := trodVars_none hV
  obtain ⟨a0, len0, cap0, rfl⟩ := okWide_slice Try.underlying22 (hval 0 22 v0 rfl rfl)
  have k0 := h0
  have lt0 : ∀ x ∈ p0, x.block < W.heap.size := by obtain ⟨m, hm⟩ := k0; exact DataW.trod_lt m _ _ _ hm
  have w0 : IsEvs W a0 len0 cap0 := by
    obtain ⟨fuel, hf⟩ := h0
    exact evs_in hf
  obtain ⟨a1, len1, cap1, rfl⟩ := okWide_slice Try.underlying30 (hval 1 30 v1 rfl rfl)
  have k1 := h1
  have lt1 : ∀ x ∈ p1, x.block < W.heap.size := by obtain ⟨m, hm⟩ := k1; exact DataW.trod_lt m _ _ _ hm
  obtain ⟨z1, w1⟩ : ∃ zs, IsRow .u8 W a1 len1 cap1 zs := by
    obtain ⟨fuel, hf⟩ := h1
    rcases open_ints Try.underlying30 Try.underlying5 (by kernel_rfl) hf with ⟨hcs, _⟩ | ⟨x, l, c, zs, hcs, _, hl, hm, hz, _, hcell, hwz⟩
    · simp [Value.cells] at hcs
      obtain ⟨rfl, rfl, rfl⟩ := hcs
      exact ⟨[], .inl ⟨rfl, rfl, rfl, rfl⟩⟩
    · simp [Value.cells] at hcs
      obtain ⟨rfl, rfl, rfl⟩ := hcs
      exact ⟨zs, .inr ⟨_, rfl, hl, hm, by simpa using hz, hcell, hwz⟩⟩
  clear hA0 hval0
  refine (walk a0 len0 cap0 a1 len1 cap1 z1 W w0 w1).mono fun e W' ⟨he, bel⟩ => ?_
  subst he
  exact ⟨_, rfl, _, _, _, [], _, [], hW', trodAll_mk1 (shut_bool Try.underlying4 _), (trodAll_cons_mk (Below.trod laidOut (by kernel_rfl) (of_decide_eq_true (by kernel_rfl)) k0 bel lt0) (trodAll_cons_mk (Below.trod laidOut (by kernel_rfl) (of_decide_eq_true (by kernel_rfl)) k1 bel lt1) trodAll_mk0)), rfl, bel.frame _, fun h => by cases h⟩

theorem over : Rows.eventListsRow.holds Try.pinned (OpenSpec.ofChange Rows.eventListsSpec) :=
  OpenClaim.holds_of_wide 4 Try.f4 rfl rfl rfl rfl rfl rfl rfl ⟨rfl, rfl, rfl, rfl, rfl⟩ rfl rfl rfl rfl rfl (by kernel_rfl) Try.func4 (by kernel_rfl)
    (of_decide_eq_true (by kernel_rfl)) (by unfold Func.isWrapper; first | (rw [if_pos (by decide +kernel)]; kernel_rfl) | (rw [if_neg (by decide +kernel)]; exact ⟨rfl, rfl⟩))
    (fun os started H enc _ => lifted os started H enc)

end Go.Proofs.Ytfbfelfioikieaa.eventLists
namespace Go.Proofs.Ytfbfelfioikieaa
theorem eventLists_holds : Rows.EventListsSaid := eventLists.over
end Go.Proofs.Ytfbfelfioikieaa
