/-
  CastLines: there is one line for each event, and one ahead of them. For every slice of events; the library's listed variables as the program's text lays them.
-/
import Derived.Test.YtciogdhapogolaaDoorAFit
import Derived.Test.YtciogdhapogolaaDoorJNum
import Derived.Test.YtciogdhapogolaaDoorETame
import Derived.Test.YtciogdhapogolaaDoorEOpen
import Derived.Test.YtciogdhapogolaaDoorACond
import Derived.Test.YtciogdhapogolaaDoorCards
import Derived.Test.YtciogdhapogolaaDoorTie
import Derived.OpenShut
import Derived.HandedFrom
import Derived.ChangeSame
import Derived.ChangeVars
import Derived.JoinedOf
import Derived.JoinedAt
namespace Go.Proofs.YtciogdhapogolaaDoor.castLines
open Go.ChangeShapes Go.WideShapes Go.ChangeAt Go.RowKit Go.Lib EM
set_option maxRecDepth 100000

theorem lf_succ (S : List UInt8) (k : Nat) (hk : k < S.length) : AM.lf (S.take (k + 1)) = AM.lf (S.take k) + if S.getD k 0 = 10 then 1 else 0 := by
  rw [List.take_succ_eq_append_getElem hk, AM.lf_append, List.getD_eq_getElem?_getD, List.getElem?_eq_getElem hk, Option.getD_some]
  congr 1
  unfold AM.lf
  by_cases h : S[k] = 10 <;> simp [h]
theorem lf_le (S : List UInt8) : AM.lf S ≤ S.length := List.length_filter_le _ _

theorem big (A : Option Addr) (n c : Nat) (w : World) (h : 60 < n) (hF : Fms w) :
    Calls Tryd.prog 7 #[.slice A n c] w fun e w' => e = .returned (.bool true) ∧ Below w.heap.size w w' := by
  have g : decide ((60 : Int) < (n : Int)) = true := by simp; omega
  have HF := Lib.hid (afit_ok w hF)
  clear h hF
  go_enter Tryd.func7, Tryd.ntmps7
  go_wp2_with fail
  refine HF.out.mono ?_
  rintro e w1 ⟨rfl, b1⟩
  have HB1 := Lib.hid b1
  clear b1
  go_wp2_with fail
  go_ret
  exact ⟨rfl, HB1.out⟩

set_option maxHeartbeats 4000000 in
theorem core (A : Option Addr) (c : Nat) (l : List Ev) (w : World) (hl : l.length ≤ 60) (hr : evE.Row w w.heap.size A l) (hF : Fms w) :
    Calls Tryd.prog 7 #[.slice A l.length c] w fun e w' => e = .returned (.bool true) ∧ Below w.heap.size w w' := by
  have g : decide ((60 : Int) < (l.length : Int)) = false := by simp; omega
  have HFit := Lib.hid (afit_ok w hF)
  have HF := Lib.hid hF
  have HR := Lib.hid hr
  have HLB := Lib.hid (tameL_list l 0 (Int.le_refl _) (by omega))
  have hlen : (tameL 0 l).length ≤ 60 := by rw [tameL_len]; exact hl
  clear hr hF
  go_enter Tryd.func7, Tryd.ntmps7
  go_wp2_with fail
  refine HFit.out.mono ?_
  rintro e wf ⟨rfl, b1⟩
  have HBF := Lib.hid b1
  have hzf := b1.size
  clear b1 HFit
  have HTA := Lib.hid (tame_ok wf l A c w.heap.size (HR.out.below HBF.out) hzf (by omega))
  go_wp2_with fail
  refine HTA.out.mono ?_
  rintro e wt ⟨v, rfl, ho, hbt⟩
  obtain ⟨AL, cL, hv, -, -, -, hrL⟩ := ho.row
  subst hv
  have HBT := Lib.hid (below_next HBF.out hbt)
  have HFT := Lib.hid (HF.out.on HBT.out)
  clear ho hbt HTA
  generalize tameL 0 l = L at *
  have HE := Lib.hid (export_ok wt 0 0 (Int.le_refl _) (by omega) (Int.le_refl _) (by omega) HFT.out L AL cL wt.heap.size hrL (Nat.le_refl _) (by omega) (AM.listB_right HLB.out))
  clear hrL
  have hSl := cast_len 0 0 (by omega) (by omega) (fits_list HLB.out)
  have HLF := Lib.hid (AM.lf_cast (0 : Int).toNat (0 : Int).toNat L)
  obtain ⟨r, hr⟩ := AM.last_cast (0 : Int).toNat (0 : Int).toNat L
  have hSp : 0 < (AM.castB (0 : Int).toNat (0 : Int).toNat L).length := by rw [hr, List.length_append, List.length_singleton]; omega
  have hlast : (AM.castB (0 : Int).toNat (0 : Int).toNat L).getD ((AM.castB (0 : Int).toNat (0 : Int).toNat L).length - 1) 0 = 10 := by
    rw [hr, List.length_append, List.length_singleton, Nat.add_sub_cancel, List.getD_eq_getElem?_getD, List.getElem?_append_right (Nat.le_refl _)]
    simp
  clear hr
  generalize AM.castB (0 : Int).toNat (0 : Int).toNat L = S at *
  have HLAST := Lib.hid hlast
  clear hlast
  go_wp2_with fail
  refine HE.out.mono ?_
  rintro e we ⟨rfl, bE⟩
  have HBE := Lib.hid (below_next HBT.out bE)
  clear bE HE
  go_wp2_with fail
  go_loop [4, 17] (fun n i => ∃ k : Nat, k ≤ S.length ∧ i = .int .i64 k ∧ n = .int .i64 (AM.lf (S.take k) : Nat)) (fun _ i => S.length - (RowKit.intOf i).toNat)
  case atStart => exact ⟨0, Nat.zero_le _, rfl, rfl⟩
  case round =>
    obtain ⟨k, hk, rfl, rfl⟩ := hrel
    by_cases hlt : k < S.length
    · have gk : decide ((k : Int) < (S.length : Int)) = true := by simp; omega
      have gn : decide (k < S.length) = true := by simp; omega
      have hix : ∀ w, (Instr.index 9 (.string (tx S)) (.int .i64 k)).run Tryd.prog w = .ok (.int .u8 ((S.getD k 0).toNat : Nat)) w := fun w => by
        have := index_at (tx S) .i64 k k rfl (by rw [tx_size]; exact hlt) w
        rw [tx_list] at this
        exact this
      have HSU := Lib.hid (lf_succ S k hlt)
      have hle := lf_le (S.take k)
      rw [List.length_take] at hle
      obtain ⟨c, hc⟩ : ∃ c : Int, c = (S.getD k 0).toNat := ⟨_, rfl⟩
      rw [← hc] at hix
      obtain ⟨m, hm⟩ : ∃ m, m = AM.lf (S.take k) := ⟨_, rfl⟩
      rw [← hm] at hle ⊢
      rw [← hm] at HSU
      clear hm
      by_cases h10 : S.getD k 0 = 10
      · have g4 : (c == 10) = true := by rw [hc, h10]; rfl
        have HN := Lib.hid (show AM.lf (S.take (k + 1)) = m + 1 by rw [HSU.out, if_pos h10])
        clear hc h10 HSU
        go_wp2_with fail
        go_round
        case rel => exact ⟨k + 1, hlt, by go_num, by rw [HN.out]; go_num⟩
        case measure => simp [RowKit.intOf]; omega
      · have g4 : (c == 10) = false := by
          rw [beq_eq_false_iff_ne]
          intro e
          exact h10 (by apply UInt8.toNat_inj.1; show _ = 10; omega)
        have HN := Lib.hid (show AM.lf (S.take (k + 1)) = m by rw [HSU.out, if_neg h10]; rfl)
        clear hc h10 HSU
        go_wp2_with fail
        go_round
        case rel => exact ⟨k + 1, hlt, by go_num, by rw [HN.out]⟩
        case measure => simp [RowKit.intOf]; omega
    · have gk : decide ((k : Int) < (S.length : Int)) = false := by simp; omega
      have gn : decide (k < S.length) = false := by simp; omega
      have hix : ∀ w, (Instr.index 9 (.string (tx S)) (.int .i64 ((S.length : Int) - 1))).run Tryd.prog w = .ok (.int .u8 10) w := fun w => by
        have := index_at (tx S) .i64 ((S.length : Int) - 1) (S.length - 1) (by omega) (by rw [tx_size]; omega) w
        rw [tx_list, HLAST.out] at this
        exact this
      have e1 : AM.lf (S.take k) = L.length + 1 := by rw [List.take_of_length_le (by omega), HLF.out]
      rw [e1]
      have g5 : ((((L.length + 1 : Nat) : Int)) == (L.length : Int) + 1) = true := by simp
      clear e1
      go_wp2_with fail
      go_ret
      exact ⟨by simp, HBE.out⟩
theorem walk (A : Option Addr) (len cap : Nat) (w : World) (h1 : IsEvs w A len cap) (hF : Fms w) :
    Calls Tryd.prog 7 #[.slice A len cap] w fun e w' => e = .returned (.bool true) ∧ Below w.heap.size w w' := by
  obtain ⟨l, rfl, _, hr⟩ := h1
  by_cases h : 60 < l.length
  · exact big A l.length cap w h hF
  · exact core A cap l w (by omega) hr hF

theorem own : ownKnob Tryd.prog.godebug = none := by kernel_rfl
theorem laidOut : laidOutB Tryd.prog = true := by kernel_rfl

set_option maxRecDepth 100000 in
theorem lifted (os : Os) (started : os.Started) (H : Type) (enc : TypeId × Value → H) :
    ReturnsInHanded {} Tryd.checked os 7 .any (fun w args => (Rows.castLinesSpec.pre enc Tryd.prog Tryd.f7 Rows.castLinesRow.domain false w args ∧ laidMetH Tryd.prog Rows.castLinesRow.laid w) ∧ sizedMet enc Tryd.prog Tryd.f7 (OpenSpec.ofChange Rows.castLinesSpec) false w args)
      (Rows.castLinesSpec.post enc Tryd.prog Tryd.f7 false true false false) := by
  refine returnsInHanded_of_change_and (C := Tryd.checked) (X := fun w _ => laidMetH Tryd.prog Rows.castLinesRow.laid w) (fun _ _ _ hh h => h.of_heap hh) own started (by kernel_rfl) Tryd.func7
    (ChangeSpec.witness_shaped (enc := enc) (C := Tryd.checked) (os := os) (X := fun w _ => laidMetH Tryd.prog Rows.castLinesRow.laid w) false (start3 os) #[.slice none 0 0] 8 rfl (World.shaped_of_RefB (by kernel_rfl) (by kernel_rfl)) (by kernel_rfl) (by kernel_rfl) (by kernel_rfl) (met_castLines os _)) ?_
  intro W base args ds gs before hval0 hW _ _ hL _
  have hval : ∀ (j : Nat) t v, Tryd.f7.params[j]? = some t → args[j]? = some v → Value.okWide Tryd.prog W .any base t v := hval0
  have hW' := hW
  obtain ⟨p, q, hA0, hV, rfl, hfz, hnd⟩ := hW
  have hA : DataW.TrodAll enc Tryd.prog W 0 (fun _ => true) true Tryd.f7.params.toList args.toList ds p := hA0
  rw [Tryd.params7] at hA hval
  obtain ⟨v0, vs0, d0, ds0, p0, q0, hargs, rfl, rfl, h0, r0⟩ := trodAll_cons hA
  obtain ⟨rfl, rfl, rfl⟩ := trodAll_nil r0
  obtain rfl : args = #[v0] := by cases args; simp_all
  obtain ⟨rfl, rfl⟩ := trodVars_none hV
  obtain ⟨a0, len0, cap0, rfl⟩ := okWide_slice Tryd.underlying22 (hval 0 22 v0 rfl rfl)
  have k0 := h0
  have lt0 : ∀ x ∈ p0, x.block < W.heap.size := by obtain ⟨m, hm⟩ := k0; exact DataW.trod_lt m _ _ _ hm
  have w0 : IsEvs W a0 len0 cap0 := by
    obtain ⟨fuel, hf⟩ := h0
    exact evs_in hf
  clear hA0 hval0
  refine (walk a0 len0 cap0 W w0 (fmt_castLines hL)).mono fun e W' ⟨he, bel⟩ => ?_
  subst he
  exact ⟨_, rfl, _, _, _, [], _, [], hW', trodAll_mk1 (shut_bool Tryd.underlying4 _), (trodAll_cons_mk (Below.trod laidOut (by kernel_rfl) (of_decide_eq_true (by kernel_rfl)) k0 bel lt0) trodAll_mk0), rfl, bel.frame _, fun h => by cases h⟩

theorem over : Rows.castLinesRow.holds Tryd.pinned (OpenSpec.ofChange Rows.castLinesSpec) :=
  OpenClaim.holds_of_wide 7 Tryd.f7 rfl rfl rfl rfl rfl rfl rfl ⟨rfl, rfl, rfl, rfl, rfl⟩ rfl rfl rfl rfl rfl (by kernel_rfl) Tryd.func7 (by kernel_rfl)
    (of_decide_eq_true (by kernel_rfl)) (by unfold Func.isWrapper; first | (rw [if_pos (by decide +kernel)]; kernel_rfl) | (rw [if_neg (by decide +kernel)]; exact ⟨rfl, rfl⟩))
    (fun os started H enc _ => lifted os started H enc)

theorem cardOver : Rows.CastLinesCardSaid :=
  Claim7.holds_tied_plain_at .later [] [.data, .data, .data, .data] true (true, "c6e7e47a1f1e57c57a0815cad320a6b635bbc7f44d9a19289eecbaf634c8865e") true
    over (fun _ h => by cases h) (by kernel_rfl) (fun _ h => by cases h) castLines_row_tie rfl ⟨rfl, rfl⟩ (by kernel_rfl) rfl
    (fun f fn hf hfn => by
      obtain rfl : f = 7 := Option.some.inj ((show Tryd.prog.funcNamed Rows.castLinesRow.func = some 7 by kernel_rfl).symm.trans hf) |>.symm
      obtain rfl : fn = Tryd.f7 := (Option.some.inj (Tryd.func7.symm.trans hfn)).symm
      exact ⟨by kernel_rfl, fun j t ht => by
        rw [Tryd.params7] at ht
        have hm : t ∈ [22] := by simpa using Array.mem_of_getElem? ht
        have hall : ([22].all fun u => !Tryd.prog.wantsStandIn u) = true := by kernel_rfl
        exact (show Tryd.prog.wantsStandIn t = false by simpa using List.all_eq_true.1 hall t hm)⟩)
    (by kernel_rfl)

end Go.Proofs.YtciogdhapogolaaDoor.castLines
namespace Go.Proofs.YtciogdhapogolaaDoor
theorem castLines_holds : Rows.CastLinesCardSaid := castLines.cardOver
end Go.Proofs.YtciogdhapogolaaDoor
