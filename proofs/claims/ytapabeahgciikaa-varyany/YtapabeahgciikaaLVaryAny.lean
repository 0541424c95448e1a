/-
  VaryAny: for all bytes b and more the law answers true: b begins with the bytes of the number that Take tells, or with no number's; what is behind them plays no part. No condition.
-/
import Derived.Test.YtapabeahgciikaaVFit
import Derived.Test.YtapabeahgciikaaVStr
import Derived.ProofKit
import Derived.OpenShut
import Derived.Deep.RegionHeld3
namespace Go.Proofs.Ytapabeahgciikaa.varyAny
open Go.ChangeShapes Go.WideShapes Go.ChangeAt Go.RowKit

set_option maxRecDepth 100000 in
set_option maxHeartbeats 1000000 in
theorem none_ (A A2 : Option Addr) (c c2 : Nat) (l m : List Nat) (w : World) (hl : ∀ n ∈ l, n < 256) (hl1 : l.length ≤ 100) (hm1 : m.length ≤ 100) (hr : Row w w.heap.size .u8 A l) (hk : (VM.take l).2 = 0) :
    Calls Try.prog 4 #[.slice A l.length c, .slice A2 m.length c2] w fun e w' => e = .returned (.bool true) ∧ Below w.heap.size w w' := by
  have hd1 : decide ((100 : Int) < (l.length : Int)) = false := by simp; omega
  have hd2 : decide ((100 : Int) < (m.length : Int)) = false := by simp; omega
  have hk1 := VM.take_zero l hk
  have HK := Lib.hid hk; have HK1 := Lib.hid hk1; clear hk hk1
  go_enter Try.func4, Try.ntmps4
  go_wp2_with fail
  refine (fit_any _).mono ?_
  rintro e w1 ⟨rfl, hb⟩
  have HB := Lib.hid hb; clear hb
  go_wp2_with fail
  refine (take_any A c l _ w.heap.size (by unfold maxLen; omega) (hr.below HB.out) hl).mono ?_
  rintro e w2 ⟨rfl, rfl⟩
  rw [HK.out, HK1.out]
  go_wp2
  go_ret
  exact ⟨rfl, HB.out⟩

set_option maxRecDepth 100000 in
set_option maxHeartbeats 1000000 in
theorem some_ (A A2 : Option Addr) (c c2 : Nat) (l m : List Nat) (w : World) (hl : ∀ n ∈ l, n < 256) (hm : ∀ n ∈ m, n < 256) (hl1 : l.length ≤ 100) (hm1 : m.length ≤ 100) (hlc : l.length ≤ c)
    (hr : Row w w.heap.size .u8 A l) (hr2 : Row w w.heap.size .u8 A2 m) (hA : A = none → c = 0) (hA2 : A2 = none → c2 = 0) (hk : (VM.take l).2 ≠ 0) :
    Calls Try.prog 4 #[.slice A l.length c, .slice A2 m.length c2] w fun e w' => e = .returned (.bool true) ∧ Below w.heap.size w w' := by
  have hd1 : decide ((100 : Int) < (l.length : Int)) = false := by simp; omega
  have hd2 : decide ((100 : Int) < (m.length : Int)) = false := by simp; omega
  obtain ⟨rest, he, hn, hkl⟩ := VM.take_any l hl hk
  generalize hn0 : (VM.take l).1 = n at *
  have htk : VM.take l = (n, (VM.enc n).length) := by rw [← hkl, ← hn0]
  have htl : l.take (VM.enc n).length = VM.enc n := by rw [he, List.take_left]
  have hle : (VM.enc n).length ≤ l.length := by have := congrArg List.length he; rw [List.length_append] at this; omega
  have hpos := VM.enc_pos n
  have hrk := hr.take (VM.enc n).length
  rw [htl] at hrk
  have htm : VM.take (l ++ m) = (n, (VM.enc n).length) := by
    have e : l ++ m = VM.enc n ++ (rest ++ m) := by rw [← List.append_assoc, ← he]
    rw [e]; exact VM.take_enc n _ hn
  have HTK := Lib.hid htk; have HTM := Lib.hid htm; have HRK := Lib.hid hrk; have HN := Lib.hid hn
  clear htk htm hrk htl he hkl hk hn0 hn
  have hk0 : (((VM.enc n).length : Int) == 0) = false := beq_eq_false_iff_ne.2 (by omega)
  have hk1 : decide (((VM.enc n).length : Int) < 0) = false := by simp
  have hk2 : decide (l.length < (VM.enc n).length) = false := by simp; omega
  have HR := Lib.hid hr; have HR2 := Lib.hid hr2; have HL := Lib.hid hl; have HM := Lib.hid hm; have HA := Lib.hid hA; have HA2 := Lib.hid hA2
  clear hr hr2 hl hm hA hA2
  go_enter Try.func4, Try.ntmps4
  go_wp2_with fail
  refine (fit_any _).mono ?_
  rintro e w1 ⟨rfl, hb⟩
  have hz1 := hb.size
  have HB := Lib.hid hb; clear hb
  go_wp2_with fail
  refine (take_any A c l _ w.heap.size (by unfold maxLen; omega) (HR.out.below HB.out) HL.out).mono ?_
  rintro e w2 ⟨rfl, rfl⟩
  rw [HTK.out]
  have hhead : ∀ W, (Instr.slice 24 (.slice A l.length c) none (some (.int .i64 ((VM.enc n).length : Int))) none).run Try.prog W = .ok (.slice A (VM.enc n).length c) W := fun W => run_head A l.length c _ W (by omega)
  have hrk1 := HRK.out.below HB.out
  have hs1 : (convert 24 9 (.slice A (VM.enc n).length c)).run Try.prog w1 = .ok (.string (str (VM.enc n))) w1 := run_string A (VM.enc n) c _ w1 hrk1
  have hs2 : (convert 24 9 (.slice A (VM.enc n).length c)).run Try.prog w1.drew = .ok (.string (str (VM.enc n))) w1.drew := run_string A (VM.enc n) c _ w1.drew hrk1.drew
  have hs3 : ∀ o, (convert 24 9 (.slice A (VM.enc n).length c)).run Try.prog (w1.alloc o) = .ok (.string (str (VM.enc n))) (w1.alloc o) := fun o => run_string A (VM.enc n) c _ _ (hrk1.below ((Below.refl _ _).alloc hz1 o))
  have hs4 : ∀ o, (convert 24 9 (.slice A (VM.enc n).length c)).run Try.prog (w1.alloc o).drew = .ok (.string (str (VM.enc n))) (w1.alloc o).drew := fun o => run_string A (VM.enc n) c _ _ (hrk1.below ((Below.refl _ _).alloc hz1 o)).drew
  have hC : ∀ W, Below w1.heap.size w1 W → (convert 24 9 (.slice A (VM.enc n).length c)).run Try.prog W = .ok (.string (str (VM.enc n))) W := fun W h => run_string A (VM.enc n) c _ W (hrk1.below (h.mono hz1))
  have HC := Lib.hid hC; have HRK1 := Lib.hid hrk1; clear hrk1 hC
  have HP := Lib.hid (put_one_drew w1 n HN.out)
  go_wp2
  refine wp_region_noPanic ?_
  refine wp_region_held_drew (S := fun w' => (convert 24 9 (.slice A (VM.enc n).length c)).run Try.prog w' = .ok (.string (str (VM.enc n))) w') (by kernel_rfl) hs2 (fun hHeld => ?_)
  refine wpAnyH_take (i := 0) (v := ?va0) rfl (by kernel_rfl) (by kernel_rfl) (by kernel_rfl) (fun _ _ _ h => h) (Or.inl ⟨by rfl, ?ha0⟩) (by assumption) ?_
  case ha0 => intro w hSw; (try dsimp only at hSw); go_simp; try with_reducible rfl
  simp only [List.getElem_toArray, List.getElem_cons_zero, Act.put, List.setIfInBounds_toArray, List.set_cons_zero, List.set_cons_succ]
  refine wpAnyH_take (i := 1) (v := ?va1) rfl (by kernel_rfl) (by kernel_rfl) (by kernel_rfl) (fun _ _ _ h => h) (Or.inl ⟨by rfl, ?ha1⟩) (by assumption) ?_
  case ha1 => intro w hSw; (try dsimp only at hSw); go_simp; try with_reducible rfl
  simp only [List.getElem_toArray, List.getElem_cons_succ, List.getElem_cons_zero, Act.put, List.setIfInBounds_toArray, List.set_cons_zero, List.set_cons_succ]
  refine wpAnyH_take (i := 2) (v := ?va2) rfl (by kernel_rfl) (by kernel_rfl) (by kernel_rfl) (fun _ _ _ h => h) (Or.inl ⟨by rfl, ?ha2⟩) (by assumption) ?_
  case ha2 => intro w hSw; (try dsimp only at hSw); go_simp; try with_reducible rfl
  simp only [List.getElem_toArray, List.getElem_cons_succ, List.getElem_cons_zero, Act.put, List.setIfInBounds_toArray, List.set_cons_zero, List.set_cons_succ]
  refine wpAnyH_take (i := 3) (v := ?va3) rfl (by kernel_rfl) (by kernel_rfl) (by kernel_rfl) (fun _ _ _ h => h) (Or.inl ⟨by rfl, ?ha3⟩) (by assumption) ?_
  case ha3 => intro w hSw; (try dsimp only at hSw); go_simp; try with_reducible rfl
  simp only [List.getElem_toArray, List.getElem_cons_succ, List.getElem_cons_zero, Act.put, List.setIfInBounds_toArray, List.set_cons_zero, List.set_cons_succ]
  refine wpAnyH_take (i := 4) (v := ?va4) rfl (by kernel_rfl) (by kernel_rfl) (by kernel_rfl) (fun _ _ _ h => h) (Or.inl ⟨by rfl, ?ha4⟩) (by assumption) ?_
  case ha4 => intro w hSw; (try dsimp only at hSw); go_simp; try with_reducible rfl
  simp only [List.getElem_toArray, List.getElem_cons_succ, List.getElem_cons_zero, Act.put, List.setIfInBounds_toArray, List.set_cons_zero, List.set_cons_succ]
  refine wpAnyH_take (i := 5) (v := ?va5) rfl (by kernel_rfl) (by kernel_rfl) (by kernel_rfl) (fun _ _ _ h => h) (Or.inl ⟨by rfl, ?ha5⟩) (by assumption) ?_
  case ha5 => intro w hSw; (try dsimp only at hSw); go_simp; try with_reducible rfl
  simp only [List.getElem_toArray, List.getElem_cons_succ, List.getElem_cons_zero, Act.put, List.setIfInBounds_toArray, List.set_cons_zero, List.set_cons_succ]
  refine wpAnyH_take (i := 6) (v := ?va6) rfl (by kernel_rfl) (by kernel_rfl) (by kernel_rfl) (fun _ _ _ h => h) (Or.inl ⟨by rfl, ?ha6⟩) (by assumption) ?_
  case ha6 => intro w hSw; (try dsimp only at hSw); go_simp; try with_reducible rfl
  simp only [List.getElem_toArray, List.getElem_cons_succ, List.getElem_cons_zero, Act.put, List.setIfInBounds_toArray, List.set_cons_zero, List.set_cons_succ]
  refine wpAnyH_take (i := 7) (v := ?va7) rfl (by kernel_rfl) (by kernel_rfl) (by kernel_rfl) (fun _ _ _ h => h) (Or.inl ⟨by rfl, ?ha7⟩) (by assumption) ?_
  case ha7 => intro w hSw; (try dsimp only at hSw); go_simp; try with_reducible rfl
  simp only [List.getElem_toArray, List.getElem_cons_succ, List.getElem_cons_zero, Act.put, List.setIfInBounds_toArray, List.set_cons_zero, List.set_cons_succ]
  refine wpAnyH_take (i := 8) (v := ?va8) rfl (by kernel_rfl) (by kernel_rfl) (by kernel_rfl) (fun _ _ _ h => h) (Or.inl ⟨by rfl, ?ha8⟩) (by assumption) ?_
  case ha8 => intro w hSw; (try dsimp only at hSw); go_simp; try with_reducible rfl
  simp only [List.getElem_toArray, List.getElem_cons_succ, List.getElem_cons_zero, Act.put, List.setIfInBounds_toArray, List.set_cons_zero, List.set_cons_succ]
  refine wpAnyH_take (i := 9) (v := ?va9) rfl (by kernel_rfl) (by kernel_rfl) (by kernel_rfl) (fun _ _ _ h => h) (Or.inl ⟨by rfl, ?ha9⟩) (by assumption) ?_
  case ha9 => intro w hSw; (try dsimp only at hSw); go_simp; try with_reducible rfl
  simp only [List.getElem_toArray, List.getElem_cons_succ, List.getElem_cons_zero, Act.put, List.setIfInBounds_toArray, List.set_cons_zero, List.set_cons_succ]
  refine wpAnyH_take (i := 13) (v := ?va13) rfl (by kernel_rfl) (by kernel_rfl) (by kernel_rfl) (fun _ _ _ h => h) (Or.inl ⟨by rfl, ?ha13⟩) (by assumption) ?_
  case ha13 => intro w hSw; (try dsimp only at hSw); go_simp; try with_reducible rfl
  simp only [List.getElem_toArray, List.getElem_cons_succ, List.getElem_cons_zero, Act.put, List.setIfInBounds_toArray, List.set_cons_zero, List.set_cons_succ]
  refine wpAnyH_take (i := 14) (v := ?va14) rfl (by kernel_rfl) (by kernel_rfl) (by kernel_rfl) (fun _ _ _ h => h) (Or.inl ⟨by rfl, ?ha14⟩) (by assumption) ?_
  case ha14 => intro w hSw; (try dsimp only at hSw); go_simp; try with_reducible rfl
  simp only [List.getElem_toArray, List.getElem_cons_succ, List.getElem_cons_zero, Act.put, List.setIfInBounds_toArray, List.set_cons_zero, List.set_cons_succ]
  refine wpAnyH_take (i := 15) (v := ?va15) rfl (by kernel_rfl) (by kernel_rfl) (by kernel_rfl) (fun _ _ _ h => h) (Or.inl ⟨by rfl, ?ha15⟩) (by assumption) ?_
  case ha15 => intro w hSw; (try dsimp only at hSw); go_simp; try with_reducible rfl
  simp only [List.getElem_toArray, List.getElem_cons_succ, List.getElem_cons_zero, Act.put, List.setIfInBounds_toArray, List.set_cons_zero, List.set_cons_succ]
  refine wpAnyH_take (i := 16) (v := ?va16) rfl (by kernel_rfl) (by kernel_rfl) (by kernel_rfl) (fun _ _ _ h => h) (Or.inl ⟨by rfl, ?ha16⟩) (by assumption) ?_
  case ha16 => intro w hSw; (try dsimp only at hSw); go_simp; try with_reducible rfl
  simp only [List.getElem_toArray, List.getElem_cons_succ, List.getElem_cons_zero, Act.put, List.setIfInBounds_toArray, List.set_cons_zero, List.set_cons_succ]
  refine wpAnyH_ready (rs := [10]) (by kernel_rfl) (by simp) ?_
  refine AllReadyH.cons rfl (fun K hK => ?_) AllReadyH.nil
  go_simp
  refine hK.out _ _ ?_ (fun hHeld => ?_)
  · exact hs4 _
  clear hK K
  refine wpAnyH_ready (rs := [11]) (by kernel_rfl) (by simp) ?_
  refine AllReadyH.cons rfl (fun K hK => ?_) AllReadyH.nil
  go_simp
  refine HP.out.mono ?_
  rintro e w2 ⟨A3, c3, rfl, hlc3, hcm3, hA3, hr3, hb2⟩
  have hs5 := run_string A3 _ c3 _ w2 hr3
  have hs6 := HC.out w2 hb2
  have HB2 := Lib.hid hb2
  clear hlc3 hcm3 hA3 hr3 hb2
  dsimp only
  refine hK.out _ _ ?_ (fun hHeld => ?_)
  · exact hs6
  clear hK K
  refine wpAnyH_ready (rs := [12]) (by kernel_rfl) (by simp) ?_
  refine AllReadyH.cons rfl (fun K hK => ?_) AllReadyH.nil
  go_simp
  refine hK.out _ _ ?_ (fun hHeld => ?_)
  · exact hs6
  clear hK K
  refine wpAnyH_take (i := 17) (v := ?vb17) rfl (by kernel_rfl) (by kernel_rfl) (by kernel_rfl) (fun _ _ _ h => h) (Or.inl ⟨by rfl, ?hb17⟩) (by assumption) ?_
  case hb17 => intro w hSw; (try dsimp only at hSw); go_simp; try with_reducible rfl
  simp only [List.getElem_toArray, List.getElem_cons_succ, List.getElem_cons_zero, Act.put, List.setIfInBounds_toArray, List.set_cons_zero, List.set_cons_succ]
  refine wpAnyH_take (i := 18) (v := ?vb18) rfl (by kernel_rfl) (by kernel_rfl) (by kernel_rfl) (fun _ _ _ h => h) (Or.inl ⟨by rfl, ?hb18⟩) (by assumption) ?_
  case hb18 => intro w hSw; (try dsimp only at hSw); go_simp; try with_reducible rfl
  simp only [List.getElem_toArray, List.getElem_cons_succ, List.getElem_cons_zero, Act.put, List.setIfInBounds_toArray, List.set_cons_zero, List.set_cons_succ]
  refine wpAnyH_done (by kernel_rfl) ?_ _
  refine NoPanic.normal ?_
  clear hs1 hs2 hs3 hs4 hs5 hs6 hHeld hhead
  have hbw : Below w.heap.size w w2 := HB.out.trans (HB2.out.mono hz1)
  have hz2 := HB2.out.size
  have HBW := Lib.hid hbw; clear hbw
  go_wp2_with (first | (at_builtin; refine wpList_append_row rfl (.const (.slice none 0 0)) (.tmp 48) rfl w2.heap.size _ [] rfl (Own.nil _ _) A l c w.heap.size rfl (HR.out.below HBW.out) HA.out (by simp; omega) (Nat.le_refl _) ?_; intro v1 w3 ho1 hg1; have HO1 := Lib.hid ho1; have HG1 := Lib.hid (((Below.refl w2.heap.size w2).grown hg1 (Nat.le_refl _) (Own.nil w2 _).lt)); clear ho1 hg1) | (at_builtin; refine wpList_append_row rfl (.tmp 49) (.tmp 50) rfl w2.heap.size _ ([] ++ l) rfl HO1.out A2 m c2 w.heap.size rfl (HR2.out.below (HBW.out.trans (HG1.out.mono (by omega)))) HA2.out (by simp; omega) HG1.out.size ?_; intro v2 w4 ho2 hg2; have HO2 := Lib.hid ho2; have HG2 := Lib.hid (HG1.out.grown hg2 HG1.out.size HO1.out.lt); clear ho2 hg2))
  have ho4 : Own w4 w2.heap.size v2 (l ++ m) := HO2.out
  obtain ⟨A4, c4, hv4, _, _, _, hr4⟩ := ho4.form
  have HR4 := Lib.hid hr4
  rw [hv4]
  clear hr4 hv4 ho4
  refine (take_any A4 c4 (l ++ m) _ _ (by unfold maxLen; rw [List.length_append]; omega) HR4.out (fun x hx => (List.mem_append.1 hx).elim (HL.out x) (HM.out x))).mono ?_
  rintro e w5 ⟨rfl, rfl⟩
  rw [HTM.out]
  go_wp2
  go_ret
  exact ⟨rfl, HBW.out.trans (HG2.out.mono (by omega))⟩

theorem big (a0 : Option Addr) (len0 cap0 : Nat) (a1 : Option Addr) (len1 cap1 : Nat) (w : World) (h0 : len0 ≤ 9223372036854775807) (h1 : len1 ≤ 9223372036854775807) (h : 100 < len0 ∨ 100 < len1) :
    Calls Try.prog 4 #[.slice a0 len0 cap0, .slice a1 len1 cap1] w fun e w' => e = .returned (.bool true) ∧ Below w.heap.size w w' := by
  by_cases h2 : 100 < len0
  · have hd : decide ((100 : Int) < (len0 : Int)) = true := by simp; omega
    clear h
    go_enter Try.func4, Try.ntmps4
    go_wp2_with fail
    refine (fit_any _).mono ?_
    rintro e w1 ⟨rfl, hb⟩
    have HB := Lib.hid hb; clear hb
    go_wp2
    go_ret
    exact ⟨rfl, HB.out⟩
  · have hd : decide ((100 : Int) < (len0 : Int)) = false := by simp; omega
    have h3 : 100 < len1 := by omega
    have hd2 : decide ((100 : Int) < (len1 : Int)) = true := by simp; omega
    clear h
    go_enter Try.func4, Try.ntmps4
    go_wp2_with fail
    refine (fit_any _).mono ?_
    rintro e w1 ⟨rfl, hb⟩
    have HB := Lib.hid hb; clear hb
    go_wp2
    go_ret
    exact ⟨rfl, HB.out⟩

theorem walk (a0 : Option Addr) (len0 cap0 : Nat) (z0 : List Int) (a1 : Option Addr) (len1 cap1 : Nat) (z1 : List Int) (w : World) (w0 : IsRow .u8 w a0 len0 cap0 z0) (w1 : IsRow .u8 w a1 len1 cap1 z1) :
    Calls Try.prog 4 #[.slice a0 len0 cap0, .slice a1 len1 cap1] w fun e w' => e = .returned (.bool true) ∧ Below w.heap.size w w' := by
  obtain ⟨l, rfl, hcm, hlc, hA, hr, hl⟩ := came w0 top_u8
  obtain ⟨m, rfl, hcm2, hlc2, hA2, hr2, hm⟩ := came w1 top_u8
  by_cases h : 100 < l.length ∨ 100 < m.length
  · exact big a0 _ cap0 a1 _ cap1 w (by unfold maxLen at hcm; omega) (by unfold maxLen at hcm2; omega) h
  · by_cases hk : (VM.take l).2 = 0
    · exact none_ a0 a1 cap0 cap1 l m w hl (by omega) (by omega) hr hk
    · exact some_ a0 a1 cap0 cap1 l m w hl hm (by omega) (by omega) hlc hr hr2 hA hA2 hk

theorem own : ownKnob Try.prog.godebug = none := by kernel_rfl
theorem laidOut : laidOutB Try.prog = true := by kernel_rfl

set_option maxRecDepth 100000 in
theorem lifted (os : Os) (started : os.Started) (H : Type) (enc : TypeId × Value → H) :
    ReturnsInHanded {} Try.checked os 4 .any (Rows.varyAnySpec.pre6 enc Try.prog Try.f4 Rows.varyAnyRow.domain false) (Rows.varyAnySpec.post enc Try.prog Try.f4 false true false false) := by
  refine returnsInHanded_of_change (C := Try.checked) own started (by kernel_rfl) Try.func4
    (ChangeSpec.witness6 (enc := enc) (C := Try.checked) false ⟨#[], #[.slice none 0 0, .slice none 0 0], []⟩ 8 (by kernel_rfl) (by kernel_rfl) (by kernel_rfl) (by kernel_rfl)) ?_
  intro W base args ds gs before hval0 hW hcnd _
  have hval : ∀ (j : Nat) t v, Try.f4.params[j]? = some t → args[j]? = some v → Value.okWide Try.prog W .any base t v := hval0
  have hW' := hW
  obtain ⟨p, q, hA0, hV, rfl, hfz, hnd⟩ := hW
  have hA : DataW.TrodAll enc Try.prog W 0 (fun _ => true) true Try.f4.params.toList args.toList ds p := hA0
  rw [Try.params4] at hA hval
  obtain ⟨v0, vs0, d0, ds0, p0, q0, hargs, rfl, rfl, h0, r0⟩ := trodAll_cons hA
  obtain ⟨v1, vs1, d1, ds1, p1, q1, rfl, rfl, rfl, h1, r1⟩ := trodAll_cons r0
  obtain ⟨rfl, rfl, rfl⟩ := trodAll_nil r1
  obtain rfl : args = #[v0, v1] := by cases args; simp_all
  obtain ⟨rfl, rfl⟩ := trodVars_none hV
  obtain ⟨a0, len0, cap0, rfl⟩ := okWide_slice Try.underlying24 (hval 0 24 v0 rfl rfl)
  have k0 := h0
  have lt0 : ∀ x ∈ p0, x.block < W.heap.size := by obtain ⟨m, hm⟩ := k0; exact DataW.trod_lt m _ _ _ hm
  obtain ⟨z0, w0⟩ : ∃ zs, IsRow .u8 W a0 len0 cap0 zs := by
    obtain ⟨fuel, hf⟩ := h0
    rcases open_ints Try.underlying24 Try.underlying5 (by kernel_rfl) hf with ⟨hcs, _⟩ | ⟨x, l, c, zs, hcs, _, hl, hm, hz, _, hcell, hwz⟩
    · simp [Value.cells] at hcs
      obtain ⟨rfl, rfl, rfl⟩ := hcs
      exact ⟨[], .inl ⟨rfl, rfl, rfl, rfl⟩⟩
    · simp [Value.cells] at hcs
      obtain ⟨rfl, rfl, rfl⟩ := hcs
      exact ⟨zs, .inr ⟨_, rfl, hl, hm, by simpa using hz, hcell, hwz⟩⟩
  obtain ⟨a1, len1, cap1, rfl⟩ := okWide_slice Try.underlying24 (hval 1 24 v1 rfl rfl)
  have k1 := h1
  have lt1 : ∀ x ∈ p1, x.block < W.heap.size := by obtain ⟨m, hm⟩ := k1; exact DataW.trod_lt m _ _ _ hm
  obtain ⟨z1, w1⟩ : ∃ zs, IsRow .u8 W a1 len1 cap1 zs := by
    obtain ⟨fuel, hf⟩ := h1
    rcases open_ints Try.underlying24 Try.underlying5 (by kernel_rfl) hf with ⟨hcs, _⟩ | ⟨x, l, c, zs, hcs, _, hl, hm, hz, _, hcell, hwz⟩
    · simp [Value.cells] at hcs
      obtain ⟨rfl, rfl, rfl⟩ := hcs
      exact ⟨[], .inl ⟨rfl, rfl, rfl, rfl⟩⟩
    · simp [Value.cells] at hcs
      obtain ⟨rfl, rfl, rfl⟩ := hcs
      exact ⟨zs, .inr ⟨_, rfl, hl, hm, by simpa using hz, hcell, hwz⟩⟩
  clear hA0 hval0
  refine (walk a0 len0 cap0 z0 a1 len1 cap1 z1 W w0 w1).mono fun e W' ⟨he, bel⟩ => ?_
  subst he
  exact ⟨_, rfl, _, _, _, [], _, [], hW', trodAll_mk1 (shut_bool Try.underlying4 _), (trodAll_cons_mk (Below.trod laidOut (by kernel_rfl) (of_decide_eq_true (by kernel_rfl)) k0 bel lt0) (trodAll_cons_mk (Below.trod laidOut (by kernel_rfl) (of_decide_eq_true (by kernel_rfl)) k1 bel lt1) trodAll_mk0)), rfl, bel.frame _, fun h => by cases h⟩

theorem over : Rows.varyAnyRow.holds Try.pinned (OpenSpec.ofChange Rows.varyAnySpec) :=
  OpenClaim.holds_of_wide 4 Try.f4 rfl rfl rfl rfl rfl rfl rfl ⟨rfl, rfl, rfl, rfl, rfl⟩ rfl rfl rfl rfl rfl (by kernel_rfl) Try.func4 (by kernel_rfl)
    (of_decide_eq_true (by kernel_rfl)) (by unfold Func.isWrapper; first | (rw [if_pos (by decide +kernel)]; kernel_rfl) | (rw [if_neg (by decide +kernel)]; exact ⟨rfl, rfl⟩))
    (fun os started H enc _ => lifted os started H enc)

end Go.Proofs.Ytapabeahgciikaa.varyAny
namespace Go.Proofs.Ytapabeahgciikaa
theorem varyAny_holds : Rows.VaryAnySaid := varyAny.over
end Go.Proofs.Ytapabeahgciikaa
