/-
  VaryNums: for every list of uint64 the law answers true: numbers come back from their bytes, one behind the other, and have as few bytes as they need. No condition.
-/
import Derived.Test.YtapabeahgciikaaVFit
import Derived.ProofKit
import Derived.OpenShut
namespace Go.Proofs.Ytapabeahgciikaa.varyNums
open Go.ChangeShapes Go.WideShapes Go.ChangeAt Go.RowKit

theorem own_new (w : World) (x : Nat) (base : Nat) (h : base ≤ w.heap.size) : Own (w.alloc (.cells #[.int .u8 (x : Int)] 5)) base (.slice (some ⟨w.heap.size, 0, none⟩) 1 1) [x] :=
  ⟨rfl, .inr ⟨w.heap.size, 1, _, rfl, h, heap_alloc_new w _, Nat.le_refl _, by unfold maxLen; omega, rfl, rfl⟩⟩

set_option maxRecDepth 100000 in
set_option maxHeartbeats 1000000 in
theorem small (A : Option Addr) (c : Nat) (l : List Nat) (w : World) (hl : ∀ n ∈ l, n < 18446744073709551616) (hm : l.length ≤ 60) (hr : Row w w.heap.size .u64 A l) :
    Calls Try.prog 3 #[.slice A l.length c] w fun e w' => e = .returned (.bool true) ∧ Below w.heap.size w w' := by
  have hd : decide ((60 : Int) < (l.length : Int)) = false := by simp; omega
  go_enter Try.func3, Try.ntmps3
  go_wp2_with fail
  refine (fit_any _).mono ?_
  rintro e w1 ⟨rfl, hb⟩
  have hz1 := hb.size
  have HB := Lib.hid hb; clear hb
  go_wp2_with fail
  refine (put_any _ [9] A c l _ w1.heap.size hl (by omega) (by simp) (((hr.below HB.out).mono hz1).below ((Below.refl _ _).alloc (Nat.le_refl _) _)) (own_new w1 9 _ (Nat.le_refl _)) (by simp)).mono ?_
  rintro e w2 ⟨v, rfl, ho, hb2⟩
  obtain ⟨A2, c2, hv, hlc, hcm, _, hr2⟩ := ho.form
  obtain ⟨b, off, rfl, hbz, hcell⟩ := hr2.at_ (j := 0) (by simp)
  have hr3 := hr2.cut (j := 1) (by simp) hlc
  have hlen : ([9] ++ VM.encs l).length = (VM.encs l).length + 1 := by simp
  rw [hlen] at hv hlc
  simp only [List.cons_append, List.nil_append, List.drop_succ_cons, List.drop_zero, List.getD_cons_zero, Nat.add_zero] at hr3 hcell
  have hcut : ∀ W, (Instr.slice 24 (.slice (some ⟨b, off, none⟩) ((VM.encs l).length + 1) c2) (some (.int .i64 1)) none none).run Try.prog W = .ok (.slice (cutA (some ⟨b, off, none⟩) c2 1) (VM.encs l).length (c2 - 1)) W :=
    fun W => run_cut _ _ _ 1 W (by omega)
  rw [hv]
  unfold maxLen at hcm
  have hbel : Below w.heap.size w w2 := HB.out.trans ((((Below.refl _ _).alloc (Nat.le_refl _) _).trans hb2).mono hz1)
  have HBE := Lib.hid hbel
  have HR3 := Lib.hid hr3
  clear ho hr2 hb2 hbel hr3 hv hlen
  have hb0 : (((VM.encs l).length : Int) + 1 == 0) = false := by simp; omega
  go_wp2
  clear hcut hb0
  go_loop [3, 33] (fun v i => ∃ (k : Nat) (A3 : Option Addr) (c3 : Nat), k ≤ l.length ∧ i = .int .i64 k ∧ v = .slice A3 (VM.encs (l.drop k)).length c3 ∧ (VM.encs (l.drop k)).length ≤ c3 ∧ c3 ≤ 9223372036854775807 ∧ Row w2 w2.heap.size .u8 A3 (VM.encs (l.drop k)))
    (fun _ i => l.length - (intOf i).toNat)
  case atStart => exact ⟨0, _, _, Nat.zero_le _, rfl, rfl, by rw [List.drop_zero]; omega, by omega, HR3.out⟩
  case round =>
    obtain ⟨k, A3, c3, hk, rfl, rfl, hl3, hc3, hrr⟩ := hrel
    have HRR := Lib.hid hrr; clear hrr
    by_cases hlt : k < l.length
    · obtain ⟨b1, off1, rfl, _, hcl⟩ := ((hr.below HBE.out)).at_ hlt
      have hgk : l.getD k 0 = l[k] := by simp [hlt]
      have hn : l.getD k 0 < 18446744073709551616 := by rw [hgk]; exact hl _ (List.getElem_mem _)
      have hdr : VM.encs (l.drop k) = VM.enc (l.getD k 0) ++ VM.encs (l.drop (k + 1)) := by rw [List.drop_eq_getElem_cons hlt, hgk, VM.encs_cons]
      have hby := VM.encs_byte (l.drop k)
      have HDR := Lib.hid hdr; have HBY := Lib.hid hby; clear hdr hgk hby hl hr hcell
      generalize l.getD k 0 = x at *
      have HN := Lib.hid hn; clear hn
      have HX10 := VM.enc_len64 HN.out
      have HX1 := VM.enc_pos x
      have hln := congrArg List.length HDR.out
      rw [List.length_append] at hln
      have HLN := Lib.hid hln; clear hln
      go_wp2
      go_loop [6, 7] (fun s m => ∃ (j t : Nat), s = .int .i64 t ∧ m = .int .u64 j ∧ j < 18446744073709551616 ∧ t + (VM.enc j).length = 1 + (VM.enc x).length) (fun _ m => (intOf m).toNat)
      case atStart => exact ⟨x, 1, rfl, rfl, HN.out, rfl⟩
      case round =>
        obtain ⟨j, t, rfl, rfl, hj, ht⟩ := hrel
        have HT := Lib.hid ht; clear ht
        have hj1 := VM.enc_pos j
        by_cases h128 : 128 ≤ j
        · have ht10 : t ≤ 10 := by have := HT.out; omega
          have he := VM.enc_ge h128
          have HE := Lib.hid he; clear he
          go_wp2
          go_round
          case rel => exact ⟨j / 128, t + 1, by go_num, by go_num, by omega, by have := HT.out; rw [HE.out, List.length_cons] at this; omega⟩
          case measure => simp [intOf]; omega
        · have ht10 : t = (VM.enc x).length := by have := HT.out; rw [VM.enc_lt (by omega)] at this; simp at this; omega
          subst ht10
          have hle : (VM.enc x).length ≤ (VM.encs (l.drop k)).length := by have := HLN.out; omega
          have hdrop : (VM.encs (l.drop k)).drop (VM.enc x).length = VM.encs (l.drop (k + 1)) := by rw [HDR.out, List.drop_left]
          have hrc := HRR.out.cut (j := (VM.enc x).length) hle hl3
          rw [hdrop] at hrc
          have HRC := Lib.hid hrc; clear hrc hdrop
          have htk : VM.take (VM.encs (l.drop k)) = (x, (VM.enc x).length) := by rw [HDR.out]; exact VM.take_enc _ _ HN.out
          have HTK := Lib.hid htk; clear htk
          go_wp2_with fail
          refine (take_any A3 c3 (VM.encs (l.drop k)) _ w2.heap.size (by unfold maxLen; omega) HRR.out HBY.out).mono ?_
          rintro e w3 ⟨rfl, rfl⟩
          rw [HTK.out]
          have hcut : ∀ W, (Instr.slice 24 (.slice A3 (VM.encs (l.drop k)).length c3) (some (.int .i64 ((VM.enc x).length : Int))) none none).run Try.prog W = .ok (.slice (cutA A3 c3 (VM.enc x).length) (VM.encs (l.drop (k + 1))).length (c3 - (VM.enc x).length)) W := fun W => by
            rw [run_cut _ _ _ _ W hle]
            have : (VM.encs (l.drop k)).length - (VM.enc x).length = (VM.encs (l.drop (k + 1))).length := by have := HLN.out; omega
            rw [this]
          go_wp2
          go_round
          case rel => exact ⟨k + 1, _, _, by omega, by go_num, rfl, by have := HLN.out; omega, by omega, HRC.out⟩
          case measure => simp [intOf]; omega
    · have hd0 : l.drop k = [] := List.drop_eq_nil_of_le (by omega)
      have he0 : VM.encs (l.drop k) = [] := by rw [hd0]; rfl
      have HRR' := HRR.out
      rw [he0] at HRR' ⊢
      have HRR2 := Lib.hid HRR'
      clear HRR' HRR hd0 hl3 he0
      go_wp2_with fail
      refine (take_any A3 c3 [] _ w2.heap.size (by unfold maxLen; simp) HRR2.out (by simp)).mono ?_
      rintro e w3 ⟨rfl, rfl⟩
      rw [VM.take_nil]
      go_wp2
      go_ret
      exact ⟨rfl, HBE.out⟩

theorem walk (a0 : Option Addr) (len0 cap0 : Nat) (z0 : List Int) (w : World) (w0 : IsRow .u64 w a0 len0 cap0 z0) :
    Calls Try.prog 3 #[.slice a0 len0 cap0] w fun e w' => e = .returned (.bool true) ∧ Below w.heap.size w w' := by
  obtain ⟨l, rfl, hm, hc, _, hr, hl⟩ := came w0 top_u64
  by_cases h : l.length ≤ 60
  · exact small a0 cap0 l w hl h hr
  · unfold maxLen at hm
    clear w0 hr
    have hd : decide ((60 : Int) < (l.length : Int)) = true := by simp; omega
    go_enter Try.func3, Try.ntmps3
    go_wp2_with fail
    refine (fit_any _).mono ?_
    rintro e w1 ⟨rfl, hb⟩
    have HB := Lib.hid hb; clear hb
    go_wp2
    go_ret
    exact ⟨rfl, HB.out⟩

theorem own : ownKnob Try.prog.godebug = none := by kernel_rfl
theorem laidOut : laidOutB Try.prog = true := by kernel_rfl

set_option maxRecDepth 100000 in
theorem lifted (os : Os) (started : os.Started) (H : Type) (enc : TypeId × Value → H) :
    ReturnsInHanded {} Try.checked os 3 .any (Rows.varyNumsSpec.pre6 enc Try.prog Try.f3 Rows.varyNumsRow.domain false) (Rows.varyNumsSpec.post enc Try.prog Try.f3 false true false false) := by
  refine returnsInHanded_of_change (C := Try.checked) own started (by kernel_rfl) Try.func3
    (ChangeSpec.witness6 (enc := enc) (C := Try.checked) false ⟨#[], #[.slice none 0 0], []⟩ 8 (by kernel_rfl) (by kernel_rfl) (by kernel_rfl) (by kernel_rfl)) ?_
  intro W base args ds gs before hval0 hW hcnd _
  have hval : ∀ (j : Nat) t v, Try.f3.params[j]? = some t → args[j]? = some v → Value.okWide Try.prog W .any base t v := hval0
  have hW' := hW
  obtain ⟨p, q, hA0, hV, rfl, hfz, hnd⟩ := hW
  have hA : DataW.TrodAll enc Try.prog W 0 (fun _ => true) true Try.f3.params.toList args.toList ds p := hA0
  rw [Try.params3] at hA hval
  obtain ⟨v0, vs0, d0, ds0, p0, q0, hargs, rfl, rfl, h0, r0⟩ := trodAll_cons hA
  obtain ⟨rfl, rfl, rfl⟩ := trodAll_nil r0
  obtain rfl : args = #[v0] := by cases args; simp_all
  obtain ⟨rfl, rfl⟩ := trodVars_none hV
  obtain ⟨a0, len0, cap0, rfl⟩ := okWide_slice Try.underlying22 (hval 0 22 v0 rfl rfl)
  have k0 := h0
  have lt0 : ∀ x ∈ p0, x.block < W.heap.size := by obtain ⟨m, hm⟩ := k0; exact DataW.trod_lt m _ _ _ hm
  obtain ⟨z0, w0⟩ : ∃ zs, IsRow .u64 W a0 len0 cap0 zs := by
    obtain ⟨fuel, hf⟩ := h0
    rcases open_ints Try.underlying22 Try.underlying26 (by kernel_rfl) hf with ⟨hcs, _⟩ | ⟨x, l, c, zs, hcs, _, hl, hm, hz, _, hcell, hwz⟩
    · simp [Value.cells] at hcs
      obtain ⟨rfl, rfl, rfl⟩ := hcs
      exact ⟨[], .inl ⟨rfl, rfl, rfl, rfl⟩⟩
    · simp [Value.cells] at hcs
      obtain ⟨rfl, rfl, rfl⟩ := hcs
      exact ⟨zs, .inr ⟨_, rfl, hl, hm, by simpa using hz, hcell, hwz⟩⟩
  clear hA0 hval0
  refine (walk a0 len0 cap0 z0 W w0).mono fun e W' ⟨he, bel⟩ => ?_
  subst he
  exact ⟨_, rfl, _, _, _, [], _, [], hW', trodAll_mk1 (shut_bool Try.underlying4 _), (trodAll_cons_mk (Below.trod laidOut (by kernel_rfl) (of_decide_eq_true (by kernel_rfl)) k0 bel lt0) trodAll_mk0), rfl, bel.frame _, fun h => by cases h⟩

theorem over : Rows.varyNumsRow.holds Try.pinned (OpenSpec.ofChange Rows.varyNumsSpec) :=
  OpenClaim.holds_of_wide 3 Try.f3 rfl rfl rfl rfl rfl rfl rfl ⟨rfl, rfl, rfl, rfl, rfl⟩ rfl rfl rfl rfl rfl (by kernel_rfl) Try.func3 (by kernel_rfl)
    (of_decide_eq_true (by kernel_rfl)) (by unfold Func.isWrapper; first | (rw [if_pos (by decide +kernel)]; kernel_rfl) | (rw [if_neg (by decide +kernel)]; exact ⟨rfl, rfl⟩))
    (fun os started H enc _ => lifted os started H enc)

end Go.Proofs.Ytapabeahgciikaa.varyNums
namespace Go.Proofs.Ytapabeahgciikaa
theorem varyNums_holds : Rows.VaryNumsSaid := varyNums.over
end Go.Proofs.Ytapabeahgciikaa
