/-
  CrcCuts: for every list of bytes' lists and every place the law answers true: frames that are cut off anywhere are those that are whole, and no more. No condition.
-/
import Derived.Test.YtfndbgdamplelaaCShort
import Derived.Test.YtfndbgdamplelaaCSplit
import Derived.ProofKit
import Derived.OpenShut
import Derived.Deep.Matrix
import Derived.Deep.QuietTactic
import Derived.BigQuiet
namespace Go.Proofs.Ytfndbgdamplelaa.crcCuts
open Go.ChangeShapes Go.WideShapes Go.ChangeAt Go.RowKit

theorem Try.info3 : (Try.prog.info? 3).map (fun i => (i.zero, i.size, i.bytes)) = some (some (.int .i64 0), 1, 8) := by kernel_rfl

theorem frames_small (ls : List (List Nat)) (h1 : ls.length ≤ 20) (h2 : ∀ x ∈ ls, x.length ≤ 300) : (CM.frames ls).length ≤ 6280 := by
  have : (CM.frames ls).length ≤ ls.length * 314 := by
    clear h1
    induction ls with
    | nil => simp [CM.frames]
    | cons x l ih =>
      rw [CM.frames_cons, List.length_append, List.length_cons, CM.frame_len]
      have := ih fun y hy => h2 y (by simp [hy])
      have := h2 x (by simp)
      have := VM.enc_len64 (n := x.length) (by omega)
      omega
  omega

/-- Where the frames end. -/
def ends (ls : List (List Nat)) (k : Nat) : List Nat := (List.range k).map fun j => (CM.frames (ls.take (j + 1))).length
theorem ends_len (ls : List (List Nat)) (k : Nat) : (ends ls k).length = k := by simp [ends]
theorem ends_succ (ls : List (List Nat)) (k : Nat) : ends ls (k + 1) = ends ls k ++ [(CM.frames (ls.take (k + 1))).length] := by simp [ends, List.range_succ]
theorem ends_get (ls : List (List Nat)) (k j : Nat) (h : j < k) : (ends ls k).getD j 0 = (CM.frames (ls.take (j + 1))).length := by simp [ends, h]

def OwnI (w : World) (base : Nat) (v : Value) (l : List Nat) : Prop := w.ownsRow base 3 1 v l.length (nums .i64 l)
theorem OwnI.form {w : World} {base : Nat} {v : Value} {l : List Nat} (h : OwnI w base v l) : ∃ A c, v = .slice A l.length c ∧ Row w w.heap.size .i64 A l := by
  rcases h.2 with ⟨rfl, h0⟩ | ⟨g, cap, cur, rfl, _, hh, h1, h2, _⟩
  · refine ⟨none, 0, by rw [h0], ?_⟩
    have : l = [] := List.eq_nil_of_length_eq_zero h0
    subst this
    exact Row.nil
  · exact ⟨_, _, rfl, Row.of_own h⟩

/-- What the first loop knows. -/
structure Inv (w : World) (ls : List (List Nat)) (k : Nat) (u v : Value) (wr : World) : Prop where
  own : Own wr w.heap.size u (CM.frames (ls.take k))
  owni : OwnI wr w.heap.size v (ends ls k)
  apart : ∀ b, u.ownBlock = some b → v.ownBlock ≠ some b
  below : Below w.heap.size w wr

set_option maxRecDepth 100000 in
set_option maxHeartbeats 4000000 in
theorem small (A : Option Addr) (c : Nat) (ls : List (List Nat)) (z : Int) (w : World) (hl : ∀ x ∈ ls, ∀ n ∈ x, n < 256) (hs : shortB ls = true)
    (hr : Row2 w w.heap.size A ls) :
    Calls Try.prog 6 #[.slice A ls.length c, .int .i64 z] w fun e w' => e = .returned (.bool true) ∧ Below w.heap.size w w' := by
  obtain ⟨i0, hi, hz0, hzz1, hz2⟩ := info_parts Try.info3
  obtain ⟨h20, h300⟩ := of_decide_eq_true hs
  obtain ⟨q, hq, hqe⟩ := low16 z
  have HS := Lib.hid hs; have HR := Lib.hid hr; have HL := Lib.hid hl; have H3 := Lib.hid h300
  clear hs hr hl h300
  go_enter Try.func6, Try.ntmps6
  go_wp2_with fail
  refine (fit_any _).mono ?_
  rintro e w1 ⟨rfl, hb⟩
  have hz1 := hb.size
  have HB := Lib.hid hb; clear hb
  go_wp2_with fail
  refine (short_any A c ls _ w.heap.size (by unfold maxLen; omega) (HR.out.below HB.out)).mono ?_
  rintro e w2 ⟨rfl, rfl⟩
  rw [HS.out]
  go_wp2
  go_loopw [5, 6, 21] (fun u v i wr => ∃ k : Nat, k ≤ ls.length ∧ i = .int .i64 k ∧ Inv w ls k u v wr)
    (fun _ _ i _ => ls.length - (intOf i).toNat)
  case atStart => exact ⟨0, Nat.zero_le _, rfl, Own.nil _ _, World.ownsRow_nil _ _ _ _, (fun b hb => by cases hb), HB.out⟩
  case round =>
    obtain ⟨k, hk, rfl, hinv⟩ := hrel
    have hzr := hinv.below.size
    have HI := Lib.hid hinv; clear hinv
    by_cases hlt : k < ls.length
    · obtain ⟨b, off, A', c', rfl, hbb, hcell, hrow, hA', hc1, hc2⟩ := (HR.out.below HI.out.below).at_ hlt
      have hgk : ls.getD k [] = ls[k] := by simp [hlt]
      have hmem : ls.getD k [] ∈ ls := by rw [hgk]; exact List.getElem_mem _
      have htk : CM.frames (ls.take (k + 1)) = CM.frames (ls.take k) ++ CM.frame (ls.getD k []) := by rw [List.take_succ_eq_append_getElem hlt, hgk, CM.frames_snoc]
      have hfl := frames_small (ls.take k) (by rw [List.length_take]; omega) (fun x hx => H3.out x (List.mem_of_mem_take hx))
      have hfl2 := frames_small (ls.take (k + 1)) (by rw [List.length_take]; omega) (fun x hx => H3.out x (List.mem_of_mem_take hx))
      have hx3 := H3.out _ hmem
      have hxb := HL.out _ hmem
      have HT := Lib.hid htk; have HROW := Lib.hid hrow; have HA' := Lib.hid hA'; have HXB := Lib.hid hxb
      clear htk hmem hgk hrow hA' hxb
      generalize ls.getD k [] = x at *
      go_wp2_with fail
      refine (frame_grow _ (CM.frames (ls.take k)) A' c' x _ w.heap.size HXB.out (by omega) (by omega) (HROW.out.mono hzr) HA'.out HI.out.own (by omega)).mono ?_
      rintro e w3 ⟨v', rfl, ho1, hg1⟩
      rw [← HT.out] at ho1
      obtain ⟨Ab, cb, hvb, _, _, _, _⟩ := ho1.form
      have hb3 := HI.out.below.trans (hg1.below HI.out.own hzr)
      have hz3 := hg1.grown.size
      have hi3 : OwnI w3 w.heap.size u6 (ends ls k) := ownsRow_grown HI.out.owni hg1.grown (fun b hb he => HI.out.apart b he hb)
      have hap : ∀ b, v'.ownBlock = some b → u6.ownBlock ≠ some b := fun b hb he => by
        rcases hg1.place with hp | hp
        · rw [hp] at hb; exact HI.out.apart b hb he
        · have := hp b hb
          have := (World.ownsRow.lt HI.out.owni b he).2
          omega
      rw [hvb] at ho1 hap
      rw [hvb]
      clear hvb hg1
      have HO := Lib.hid ho1; have HI3 := Lib.hid hi3; have HAP := Lib.hid hap; have HB3 := Lib.hid hb3
      clear ho1 hi3 hap hb3
      generalize hF : (CM.frames (ls.take (k + 1))).length = F at *
      have HF := Lib.hid hF; clear hF
      have hel := ends_len ls k
      have HEL := Lib.hid hel; clear hel
      go_wp2_with (at_builtin; refine wpList_append_own_at _ rfl _ _ 38 rfl w.heap.size 3 i0 (.int .i64 0) 1 8 Try.underlying38 hi hz0 hzz1 hz2 rfl (by decide) _ _ _ rfl (HI3.out.alloc _) ⟨w3.heap.size, 0, none⟩ 1 1 [.int .i64 (F : Int)] rfl rfl ?c1 ?c2 ?c3 ?c4 ?c5 ?_)
      case c1 => exact cell_one_new _ _ _
      case c2 => intro u hu; simp at hu; subst hu; rfl
      case c3 => unfold maxLen; have := HEL.out; omega
      case c4 => have := HEL.out; omega
      case c5 => simp; omega
      intro v2 w4 ho4 hg4 _ hp4
      have hinv : Inv w ls (k + 1) (.slice Ab F cb) v2 w4 := by
        refine ⟨?_, ?_, ?_, ?_⟩
        · refine ownsRow_grown (HO.out.alloc _) hg4 (fun b hb he => HAP.out b hb he)
        · unfold OwnI
          rw [ends_succ, nums_append, List.length_append, HF.out]
          exact ho4
        · intro b hb he
          have h1 := (World.ownsRow.lt HO.out b hb).2
          rcases hp4 with hp | hp
          · rw [hp] at he; exact HAP.out b hb he
          · rw [hp] at he; injection he with he; omega
        · exact (HB3.out.alloc (by omega) _).grown hg4 (by simp; omega) (fun b hb => (World.ownsRow.lt HI3.out b hb).1)
      have HINV := Lib.hid hinv
      clear hinv ho4 hg4 hp4
      go_wp2
      go_roundw
      case rel => exact ⟨k + 1, by omega, by go_num, HINV.out⟩
      case measure => simp [intOf]; omega
    · obtain rfl : k = ls.length := by omega
      have ho1 := HI.out.own
      rw [List.take_length] at ho1
      obtain ⟨Ab, cb, hvb, hlb, hcb, hAb, hrb⟩ := ho1.form
      obtain ⟨Ae, ce, hve, hre⟩ := HI.out.owni.form
      rw [ends_len] at hve
      have hbw := HI.out.below
      have hfl := frames_small ls h20 H3.out
      subst hvb hve
      have HRB := Lib.hid hrb; have HRE := Lib.hid hre; have HBW := Lib.hid hbw
      clear ho1 hrb hre hbw HI hAb
      generalize hF : (CM.frames ls).length = F at *
      have HF := Lib.hid hF; clear hF
      obtain ⟨t, ht, hte⟩ : ∃ t : Nat, t ≤ F ∧ (q : Int) % ((F : Int) + 1) = (t : Int) := ⟨q % (F + 1), by have := Nat.mod_lt q (show 0 < F + 1 by omega); omega, by push_cast; rfl⟩
      unfold maxLen at hcb
      go_wp2
      rw [hte]
      clear hte hqe
      go_loop [9, 10] (fun i j => ∃ k : Nat, k ≤ ls.length ∧ i = .int .i64 k ∧ j = .int .i64 ((CM.frames (ls.take k)).length : Nat) ∧ (CM.frames (ls.take k)).length ≤ t) (fun i _ => ls.length - (intOf i).toNat)
      case atStart => exact ⟨0, Nat.zero_le _, rfl, rfl, by simp [CM.frames]⟩
      case round =>
        obtain ⟨k, hk, rfl, rfl, hkt⟩ := hrel
        -- the way on behind the loop is one, whatever ended it
        by_cases hgo : k < ls.length ∧ (CM.frames (ls.take (k + 1))).length ≤ t
        · obtain ⟨hlt2, hle⟩ := hgo
          obtain ⟨be, oe, rfl, _, hce⟩ := HRE.out.at_ (j := k) (by rw [ends_len]; exact hlt2)
          rw [ends_get ls _ k hlt2] at hce
          have HLE := Lib.hid hle; clear hle
          generalize hG : (CM.frames (ls.take (k + 1))).length = G at *
          have HG := Lib.hid hG; clear hG
          have hgt : G ≤ t := HLE.out
          go_wp2
          go_round
          case rel => exact ⟨k + 1, by omega, by go_num, by rw [HG.out], by rw [HG.out]; exact hgt⟩
          case measure => simp [intOf]; omega
        · have hend : k < ls.length → t < (CM.frames (ls.take (k + 1))).length := fun h => Nat.lt_of_not_le fun h' => hgo ⟨h, h'⟩
          obtain ⟨rest, hrest, hnext⟩ := CM.frames_cut_at ls k t (fun x hx => ⟨by have := H3.out x hx; omega, HL.out x hx⟩) hk hkt hend
          have HREST := Lib.hid hrest; have HNEXT := Lib.hid hnext
          have hhead : ∀ W, (Instr.slice 23 (.slice Ab F cb) none (some (.int .i64 (t : Int))) none).run Try.prog W = .ok (.slice Ab t cb) W := fun W => run_head Ab F cb t W (by omega)
          have hby : ∀ x ∈ (CM.frames ls).take t, x < 256 := fun x hx => CM.frames_byte HL.out x (List.mem_of_mem_take hx)
          have htl : ((CM.frames ls).take t).length = t := by rw [List.length_take, HF.out]; omega
          have hsp := split_row Ab cb ((CM.frames ls).take t) wr (by omega) (by omega) (by unfold maxLen; omega) (HRB.out.take t) hby
          rw [htl] at hsp
          have HSP := Lib.hid hsp
          clear hrest hnext hby hsp htl hgo
          have hlk : (ls.take k).length = k := by rw [List.length_take]; omega
          have HLK := Lib.hid hlk; clear hlk
          have HKT : Hid ((CM.frames (ls.take k)).length ≤ t) := hkt
          generalize hG : (CM.frames (ls.take k)).length = G at *
          have HG := Lib.hid hG; clear hG
          by_cases hlt2 : k < ls.length
          all_goals
            first
              | (have hlt3 := hend hlt2
                 obtain ⟨be, oe, rfl, _, hce⟩ := HRE.out.at_ (j := k) (by rw [ends_len]; exact hlt2)
                 rw [ends_get ls _ k hlt2] at hce
                 generalize (CM.frames (ls.take (k + 1))).length = G2 at *)
              | (have hlt3 : ¬ k < ls.length := hlt2)
            clear hend
            go_wp2_with fail
            refine HSP.out.mono ?_
            rintro e w5 ⟨v5, ls5, rest5, rfl, he5, hn5, hls5, ho5, hb5⟩
            rw [HREST.out] at he5
            obtain ⟨hls, _⟩ := CM.frames_unique (ls.take k) ls5 rest rest5 (fun x hx => ⟨by have := H3.out x (List.mem_of_mem_take hx); omega, HL.out x (List.mem_of_mem_take hx)⟩) hls5 HNEXT.out hn5 he5
            subst hls
            obtain ⟨A5, c5, hv5, hcl5, hcm5, hA5, hr5⟩ := ho5.form
            rw [HLK.out] at hv5
            rw [hv5, HG.out]
            have HB5 := Lib.hid (HBW.out.trans (hb5.mono hzr)); have HR5 := Lib.hid hr5
            clear he5 hn5 hls5 ho5 hb5 hv5 hr5 hA5 hhead HSP HREST
            go_wp2
            go_loopw [76] (fun i wq => ∃ j n : Nat, j ≤ k ∧ i = .int .i64 j ∧ wq = w5.drewN n) (fun i _ => k - (intOf i).toNat)
            case atStart => exact ⟨0, 0, Nat.zero_le _, rfl, rfl⟩
            case round =>
              obtain ⟨k5, n5, hk5, rfl, rfl⟩ := hrel
              by_cases hlt5 : k5 < k
              · obtain ⟨b6, off6, A6, c6, rfl, _, hcell6, hrow6, hA6, hc61, hc62⟩ := (HR.out.below HB5.out).at_ (j := k5) (by omega)
                obtain ⟨b7, off7, A7, c7, rfl, _, hcell7, hrow7, hA7, hc71, hc72⟩ := HR5.out.at_ (j := k5) (by rw [HLK.out]; exact hlt5)
                have hget : (ls.take k).getD k5 [] = ls.getD k5 [] := by simp [hlt5]
                rw [hget] at hcell7 hrow7 hc71
                generalize ls.getD k5 [] = x at *
                have hs6 : ∀ n, (convert 23 9 (.slice A6 x.length c6)).run Try.prog (w5.drewN n) = .ok (.string (str x)) (w5.drewN n) := fun n => run_string A6 x c6 _ _ (hrow6.drewN n)
                have hs7 : ∀ n, (convert 23 9 (.slice A7 x.length c7)).run Try.prog (w5.drewN n) = .ok (.string (str x)) (w5.drewN n) := fun n => run_string A7 x c7 _ _ (hrow7.drewN n)
                clear hrow6 hrow7 hA6 hA7 hget
                have hlt6 : k5 < ls.length := by omega
                go_wp2
                go_quiet (fail)
                go_wp2
                go_roundw
                case rel => exact ⟨k5 + 1, _, by omega, by go_num, rfl⟩
                case measure => simp [intOf]; omega
              · go_wp2
                go_ret
                exact ⟨rfl, below_drewN HB5.out _⟩

theorem walk (a0 : Option Addr) (len0 cap0 : Nat) (a1 : Int) (w : World) (w0 : IsRow2 .u8 w a0 len0 cap0) (_w1 : (Lit.int .i64 a1).wf = true) :
    Calls Try.prog 6 #[.slice a0 len0 cap0, .int .i64 a1] w fun e w' => e = .returned (.bool true) ∧ Below w.heap.size w w' := by
  obtain ⟨ls, rfl, hcm, hlc, hA, hr, hl⟩ := came2 w0
  by_cases hs : shortB ls = true
  · exact small a0 cap0 ls a1 w hl hs hr
  · have HS := Lib.hid (Bool.eq_false_iff.2 hs)
    have HR := Lib.hid hr
    clear hs w0 hr hl hA
    go_enter Try.func6, Try.ntmps6
    go_wp2_with fail
    refine (fit_any _).mono ?_
    rintro e w1 ⟨rfl, hb⟩
    have HB := Lib.hid hb; clear hb
    go_wp2_with fail
    refine (short_any a0 cap0 ls _ w.heap.size (by omega) (HR.out.below HB.out)).mono ?_
    rintro e w2 ⟨rfl, rfl⟩
    rw [HS.out]
    go_wp2
    go_ret
    exact ⟨rfl, HB.out⟩

theorem own : ownKnob Try.prog.godebug = none := by kernel_rfl
theorem laidOut : laidOutB Try.prog = true := by kernel_rfl

set_option maxRecDepth 100000 in
theorem lifted (os : Os) (started : os.Started) (H : Type) (enc : TypeId × Value → H) :
    ReturnsInHanded {} Try.checked os 6 .any (Rows.crcCutsSpec.pre6 enc Try.prog Try.f6 Rows.crcCutsRow.domain false) (Rows.crcCutsSpec.post enc Try.prog Try.f6 false true false false) := by
  refine returnsInHanded_of_change (C := Try.checked) own started (by kernel_rfl) Try.func6
    (ChangeSpec.witness6 (enc := enc) (C := Try.checked) false ⟨#[], #[.slice none 0 0, .int .i64 0], []⟩ 8 (by kernel_rfl) (by kernel_rfl) (by kernel_rfl) (by kernel_rfl)) ?_
  intro W base args ds gs before hval0 hW hcnd _
  have hval : ∀ (j : Nat) t v, Try.f6.params[j]? = some t → args[j]? = some v → Value.okWide Try.prog W .any base t v := hval0
  have hW' := hW
  obtain ⟨p, q, hA0, hV, rfl, hfz, hnd⟩ := hW
  have hA : DataW.TrodAll enc Try.prog W 0 (fun _ => true) true Try.f6.params.toList args.toList ds p := hA0
  rw [Try.params6] at hA hval
  obtain ⟨v0, vs0, d0, ds0, p0, q0, hargs, rfl, rfl, h0, r0⟩ := trodAll_cons hA
  obtain ⟨v1, vs1, d1, ds1, p1, q1, rfl, rfl, rfl, h1, r1⟩ := trodAll_cons r0
  obtain ⟨rfl, rfl, rfl⟩ := trodAll_nil r1
  obtain rfl : args = #[v0, v1] := by cases args; simp_all
  obtain ⟨rfl, rfl⟩ := trodVars_none hV
  obtain ⟨a0, len0, cap0, rfl⟩ := okWide_slice Try.underlying22 (hval 0 22 v0 rfl rfl)
  have k0 := h0
  have lt0 : ∀ x ∈ p0, x.block < W.heap.size := by obtain ⟨m, hm⟩ := k0; exact DataW.trod_lt m _ _ _ hm
  have w0 : IsRow2 .u8 W a0 len0 cap0 := by
    obtain ⟨fuel, hf⟩ := h0
    rcases Go.Deep.open_int_rows Try.underlying22 Try.underlying23 Try.underlying5 (by kernel_rfl) (by kernel_rfl) hf with ⟨hcs, _⟩ | ⟨x, l, c, A, L, C, Z, hcs, _, hl, hm, _, hx⟩
    · simp [Value.cells] at hcs
      obtain ⟨rfl, rfl, rfl⟩ := hcs
      exact .inl ⟨rfl, rfl, rfl⟩
    · simp [Value.cells] at hcs
      obtain ⟨rfl, rfl, rfl⟩ := hcs
      exact .inr ⟨_, A, L, C, Z, rfl, hl, hm, fun r hr => by obtain ⟨g1, g2, g3, g4, g5, g6, g7⟩ := hx r hr; exact ⟨g1, g2, g3, g4, g5, g6, fun a' ha' => (g7 a' ha').2⟩⟩
  obtain ⟨a1, rfl, rfl, rfl, w1⟩ := open_int Try.underlying3 (hval 1 3 v1 rfl rfl) h1
  clear hA0 hval0
  refine (walk a0 len0 cap0 a1 W w0 w1).mono fun e W' ⟨he, bel⟩ => ?_
  subst he
  exact ⟨_, rfl, _, _, _, [], _, [], hW', trodAll_mk1 (shut_bool Try.underlying4 _), (trodAll_cons_mk (Below.trod laidOut (by kernel_rfl) (of_decide_eq_true (by kernel_rfl)) k0 bel lt0) (trodAll_cons_mk (shut_int Try.underlying3 w1) trodAll_mk0)), rfl, bel.frame _, fun h => by cases h⟩

theorem over : Rows.crcCutsRow.holds Try.pinned (OpenSpec.ofChange Rows.crcCutsSpec) :=
  OpenClaim.holds_of_wide 6 Try.f6 rfl rfl rfl rfl rfl rfl rfl ⟨rfl, rfl, rfl, rfl, rfl⟩ rfl rfl rfl rfl rfl (by kernel_rfl) Try.func6 (by kernel_rfl)
    (of_decide_eq_true (by kernel_rfl)) (by unfold Func.isWrapper; first | (rw [if_pos (by decide +kernel)]; kernel_rfl) | (rw [if_neg (by decide +kernel)]; exact ⟨rfl, rfl⟩))
    (fun os started H enc _ => lifted os started H enc)

end Go.Proofs.Ytfndbgdamplelaa.crcCuts
namespace Go.Proofs.Ytfndbgdamplelaa
theorem crcCuts_holds : Rows.CrcCutsSaid := crcCuts.over
end Go.Proofs.Ytfndbgdamplelaa
