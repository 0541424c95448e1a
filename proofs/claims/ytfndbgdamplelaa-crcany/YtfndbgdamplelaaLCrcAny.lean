/-
  CrcAny: for all bytes b, x and more the law answers true: b begins with the frame of the bytes that Next tells, or with none; x's frame is told, whatever is behind it. No condition.
-/
import Derived.Test.YtfndbgdamplelaaCFit
import Derived.Test.YtfndbgdamplelaaCNext
import Derived.ProofKit
import Derived.OpenShut
import Derived.Deep.RegionHeld3
import Derived.Deep.QuietTactic
import Derived.BigQuiet
namespace Go.Proofs.Ytfndbgdamplelaa.crcAny
open Go.ChangeShapes Go.WideShapes Go.ChangeAt Go.RowKit

/-- What stands behind the first test. -/
structure Facts (A2 A3 : Option Addr) (c2 c3 : Nat) (x m : List Nat) (w : World) : Prop where
  hx : ∀ n ∈ x, n < 256
  hm : ∀ n ∈ m, n < 256
  hr2 : Row w w.heap.size .u8 A2 x
  hr3 : Row w w.heap.size .u8 A3 m
  hA2 : A2 = none → c2 = 0
  hA3 : A3 = none → c3 = 0

/-- Frame(nil, x) as a call that draws ahead of it. -/
theorem frame_nil (A : Option Addr) (c : Nat) (l : List Nat) (w : World) (hl : ∀ n ∈ l, n < 256) (hm : l.length ≤ 10000) (hr : Row w w.heap.size .u8 A l) (hA : A = none → c = 0) :
    Calls Try.prog 10 #[.slice none 0 0, .slice A l.length c] w (BytesPost w.heap.size w (CM.frame l)) := by
  refine (frame_grow (.slice none 0 0) [] A c l w w.heap.size hl (by omega) (by simp) hr hA (Own.nil _ _) (Nat.le_refl _)).mono ?_
  rintro e w1 ⟨v, rfl, ho, hg⟩
  have hb := hg.below (Own.nil w w.heap.size) (Nat.le_refl _)
  rw [List.nil_append] at ho
  obtain ⟨A1, c1, hv, h1, h2, h3, h4⟩ := ho.form
  exact ⟨A1, c1, by rw [hv], h1, h2, h3, h4, hb⟩

set_option maxRecDepth 100000 in
set_option maxHeartbeats 2000000 in
theorem none_ (A A2 A3 : Option Addr) (c c2 c3 : Nat) (l x m : List Nat) (w : World) (hl : ∀ n ∈ l, n < 256) (hl1 : l.length ≤ 500) (hx1 : x.length ≤ 200) (hm1 : m.length ≤ 50) (hlc : l.length ≤ c) (hcm : c ≤ maxLen)
    (hr : Row w w.heap.size .u8 A l) (hf : Facts A2 A3 c2 c3 x m w) (hk : (CM.next l).2 = 0) :
    Calls Try.prog 5 #[.slice A l.length c, .slice A2 x.length c2, .slice A3 m.length c3] w fun e w' => e = .returned (.bool true) ∧ Below w.heap.size w w' := by
  have hd1 : decide ((500 : Int) < (l.length : Int)) = false := by simp; omega
  have hd2 : decide ((200 : Int) < (x.length : Int)) = false := by simp; omega
  have hd3 : decide ((50 : Int) < (m.length : Int)) = false := by simp; omega
  have hk1 := CM.next_zero l hk
  have HK := Lib.hid hk; have HK1 := Lib.hid hk1; have HR := Lib.hid hr; have HF := Lib.hid hf; have HL := Lib.hid hl
  clear hk hk1 hr hf hl
  go_enter Try.func5, Try.ntmps5
  go_wp2_with fail
  refine (fit_any _).mono ?_
  rintro e w1 ⟨rfl, hb⟩
  have hz1 := hb.size
  have HB := Lib.hid hb; clear hb
  go_wp2_with fail
  refine (next_row A c l _ (by omega) hlc hcm ((HR.out.below HB.out).mono hz1) HL.out).mono ?_
  rintro e w2 ⟨v, rfl, ho, hb2⟩
  rw [HK1.out] at ho
  rw [HK.out]
  obtain ⟨Av, cv, hv, _⟩ := ho.form
  rw [hv]
  have hz2 := hb2.size
  have HB2 := Lib.hid (HB.out.trans (hb2.mono hz1)); clear hb2 ho hv
  go_wp2
  go_quiet (fail)
  go_wp2_with fail
  have hfw := (HF.out.hr2.below (below_drewN HB2.out nq)).mono (show w.heap.size ≤ (w2.drewN nq).heap.size by simp; omega)
  refine (frame_nil A2 c2 x _ HF.out.hx (by omega) hfw HF.out.hA2).mono ?_
  rintro e w3 ⟨A4, c4, rfl, hlc4, hcm4, hA4, hr4, hb4⟩
  have hbw3 := (below_drewN HB2.out nq).trans (hb4.mono (show w.heap.size ≤ (w2.drewN nq).heap.size by simp; omega))
  have hz3 := hbw3.size
  have hfl := CM.frame_len x
  have hen := VM.enc_len64 (n := x.length) (by omega)
  have HBW3 := Lib.hid hbw3; have HR4 := Lib.hid hr4; have HA4 := Lib.hid hA4; have HNF := Lib.hid (CM.next_frame x m (by omega) HF.out.hx)
  have hgl : (CM.frame x).length ≤ 300 := by omega
  have hby : ∀ c ∈ CM.frame x ++ m, c < 256 := fun c hc => (List.mem_append.1 hc).elim (CM.frame_byte HF.out.hx c) (HF.out.hm c)
  have HBY := Lib.hid hby
  clear hbw3 hr4 hA4 hb4 hby hfl hen hfw
  generalize CM.frame x = g at *
  go_wp2_with (first | (at_builtin; refine wpList_append_g rfl (.const (.slice none 0 0)) (.tmp 66) rfl w.heap.size _ [] rfl (Own.nil _ _) A4 g _ c4 w3.heap.size rfl rfl HR4.out HA4.out (by simp; omega) hz3 ?_; intro v5 w5 ho5 hg5; have HO5 := Lib.hid ho5; have HB5 := Lib.hid (HBW3.out.trans (hg5.below (Own.nil w3 w.heap.size) hz3)); clear ho5 hg5) | (at_builtin; refine wpList_append_g rfl (.tmp 67) (.tmp 68) rfl w.heap.size _ _ rfl HO5.out A3 m _ c3 w.heap.size rfl rfl (HF.out.hr3.below HB5.out) HF.out.hA3 (by simp; omega) HB5.out.size ?_; intro v6 w6 ho6 hg6; have HO6 := Lib.hid ho6; have HB6 := Lib.hid (HB5.out.trans (hg6.below HO5.out HB5.out.size)); clear ho6 hg6))
  have ho7 : Own w6 w.heap.size v6 (g ++ m) := HO6.out
  obtain ⟨A7, c7, hv7, hcl7, hcm7, hA7, hr7⟩ := ho7.form
  have hlen7 : (g ++ m).length ≤ 350 := by rw [List.length_append]; omega
  rw [hv7]
  generalize g ++ m = t at *
  have HR7 := Lib.hid hr7
  clear hr7 ho7 hv7 HO6 HO5 hA7
  refine (next_row A7 c7 t w6 (by omega) hcl7 hcm7 HR7.out HBY.out).mono ?_
  rintro e w8 ⟨v8, rfl, ho8, hb8⟩
  rw [HNF.out] at ho8 ⊢
  dsimp only at ho8 ⊢
  obtain ⟨A8, c8, hv8, _, _, _, hr8⟩ := ho8.form
  rw [hv8]
  have hb9 := HB6.out.trans (hb8.mono HB6.out.size)
  have HB9 := Lib.hid hb9
  have hs1 := run_string A8 x c8 _ w8 hr8
  have hs2 := run_string A2 x c2 _ w8 (HF.out.hr2.below hb9)
  clear hb8 hb9 ho8 hv8 hr8
  go_wp2
  go_ret
  exact ⟨rfl, HB9.out⟩

set_option maxRecDepth 100000 in
set_option maxHeartbeats 4000000 in
theorem some_ (A A2 A3 : Option Addr) (c c2 c3 : Nat) (l x m : List Nat) (w : World) (hl : ∀ n ∈ l, n < 256) (hl1 : l.length ≤ 500) (hx1 : x.length ≤ 200) (hm1 : m.length ≤ 50) (hlc : l.length ≤ c) (hcm : c ≤ maxLen)
    (hr : Row w w.heap.size .u8 A l) (hf : Facts A2 A3 c2 c3 x m w) (hk : (CM.next l).2 ≠ 0) :
    Calls Try.prog 5 #[.slice A l.length c, .slice A2 x.length c2, .slice A3 m.length c3] w fun e w' => e = .returned (.bool true) ∧ Below w.heap.size w w' := by
  have hd1 : decide ((500 : Int) < (l.length : Int)) = false := by simp; omega
  have hd2 : decide ((200 : Int) < (x.length : Int)) = false := by simp; omega
  have hd3 : decide ((50 : Int) < (m.length : Int)) = false := by simp; omega
  obtain ⟨rest, he, hn, hyl⟩ := CM.next_any l hl hk
  have h5 := CM.next_five l hl hk
  have hle := (CM.next_le l hl).1
  have htl : l.take (CM.next l).2 = CM.frame (CM.next l).1 := by
    have key : ∀ (a q r : List Nat), a = q ++ r → a.take q.length = q := by rintro _ q r rfl; simp
    rw [hn]; exact key _ _ _ he
  have hrk := hr.take (CM.next l).2
  rw [htl] at hrk
  have hyb : ∀ c ∈ (CM.next l).1, c < 256 := fun c hc => hl c (by
    rw [he]
    refine List.mem_append_left _ ?_
    unfold CM.frame
    simp only [List.mem_append]
    exact .inl (.inr hc))
  have hy5 : (CM.next l).1.length ≤ 500 := by
    have := CM.frame_len (CM.next l).1
    omega
  have HNP := Lib.hid (next_row A c l)
  unfold NextPost at HNP
  clear he htl hk
  generalize (CM.next l).2 = n at *
  generalize (CM.next l).1 = y at *
  have k0 : ((n : Int) == 0) = false := beq_eq_false_iff_ne.2 (by omega)
  have k1 : ((n : Int) != 0) = true := by simp; omega
  have k2 : decide ((n : Int) < 5) = false := by simp; omega
  have k3 : decide (l.length < n) = false := by simp; omega
  have HR := Lib.hid hr; have HF := Lib.hid hf; have HL := Lib.hid hl; have HRK := Lib.hid hrk; have HYB := Lib.hid hyb; have HN := Lib.hid hn
  clear hr hf hl hrk hyb hyl hn
  go_enter Try.func5, Try.ntmps5
  go_wp2_with fail
  refine (fit_any _).mono ?_
  rintro e w1 ⟨rfl, hb⟩
  have hz1 := hb.size
  have HB := Lib.hid hb; clear hb
  go_wp2_with fail
  refine (HNP.out _ (by omega) hlc hcm ((HR.out.below HB.out).mono hz1) HL.out).mono ?_
  rintro e w2 ⟨v, rfl, ho, hb2⟩
  obtain ⟨Av, cv, hv, hlcv, hcmv, hAv, hrv⟩ := ho.form
  rw [hv]
  have hz2 := hb2.size
  have HB2 := Lib.hid (HB.out.trans (hb2.mono hz1)); clear hb2 ho hv HNP
  unfold maxLen at hcm
  have hhead : ∀ W, (Instr.slice 23 (.slice A l.length c) none (some (.int .i64 (n : Int))) none).run Try.prog W = .ok (.slice A n c) W := fun W => run_head A l.length c n W (by omega)
  have hC : ∀ W, Below w2.heap.size w2 W → (convert 23 9 (.slice A n c)).run Try.prog W = .ok (.string (str (CM.frame y))) W := fun W h => by
    have := run_string A (CM.frame y) c _ W (HRK.out.below (HB2.out.trans (h.mono HB2.out.size)))
    rwa [← HN.out] at this
  have hs1 := hC w2.drew (Below.refl _ _).drew
  have HP := Lib.hid (frame_nil Av cv y w2.drew HYB.out (by omega) hrv hAv)
  have HC := Lib.hid hC
  clear hC hrv
  go_wp2
  refine wp_region_noPanic ?_
  refine wp_region_held_drew (S := fun w' => (convert 23 9 (.slice A n c)).run Try.prog w' = .ok (.string (str (CM.frame y))) w') (by kernel_rfl) hs1 (fun hHeld => ?_)
  refine wpAnyH_take (i := 0) (v := ?va0) rfl (by kernel_rfl) (by kernel_rfl) (by kernel_rfl) (fun _ _ _ h => h) (Or.inl ⟨by rfl, ?ha0⟩) (by assumption) ?_
  case ha0 => intro w hSw; (try dsimp only at hSw); go_simp; try with_reducible rfl
  simp only [List.getElem_toArray, List.getElem_cons_zero, Act.put, List.setIfInBounds_toArray, List.set_cons_zero, List.set_cons_succ]
  refine wpAnyH_take (i := 1) (v := ?va1) rfl (by kernel_rfl) (by kernel_rfl) (by kernel_rfl) (fun _ _ _ h => h) (Or.inl ⟨by rfl, ?ha1⟩) (by assumption) ?_
  case ha1 => intro w hSw; (try dsimp only at hSw); go_simp; try with_reducible rfl
  simp only [List.getElem_toArray, List.getElem_cons_succ, List.getElem_cons_zero, Act.put, List.setIfInBounds_toArray, List.set_cons_zero, List.set_cons_succ]
  refine wpAnyH_take (i := 2) (v := ?va2) rfl (by kernel_rfl) (by kernel_rfl) (by kernel_rfl) (fun _ _ _ h => h) (Or.inl ⟨by rfl, ?ha2⟩) (by assumption) ?_
  case ha2 => intro w hSw; (try dsimp only at hSw); go_simp; try with_reducible rfl
  simp only [List.getElem_toArray, List.getElem_cons_succ, List.getElem_cons_zero, Act.put, List.setIfInBounds_toArray, List.set_cons_zero, List.set_cons_succ]
  refine wpAnyH_take (i := 3) (v := undef) rfl (by kernel_rfl) (by kernel_rfl) (by kernel_rfl) (fun _ _ _ h => h) (Or.inr ⟨by rfl, rfl⟩) (by assumption) ?_
  simp only [List.getElem_toArray, List.getElem_cons_succ, List.getElem_cons_zero, Act.put, List.setIfInBounds_toArray, List.set_cons_zero, List.set_cons_succ]
  refine wpAnyH_take (i := 4) (v := undef) rfl (by kernel_rfl) (by kernel_rfl) (by kernel_rfl) (fun _ _ _ h => h) (Or.inr ⟨by rfl, rfl⟩) (by assumption) ?_
  simp only [List.getElem_toArray, List.getElem_cons_succ, List.getElem_cons_zero, Act.put, List.setIfInBounds_toArray, List.set_cons_zero, List.set_cons_succ]
  refine wpAnyH_take (i := 5) (v := undef) rfl (by kernel_rfl) (by kernel_rfl) (by kernel_rfl) (fun _ _ _ h => h) (Or.inr ⟨by rfl, rfl⟩) (by assumption) ?_
  simp only [List.getElem_toArray, List.getElem_cons_succ, List.getElem_cons_zero, Act.put, List.setIfInBounds_toArray, List.set_cons_zero, List.set_cons_succ]
  refine wpAnyH_take (i := 6) (v := ?vb6) rfl (by kernel_rfl) (by kernel_rfl) (by kernel_rfl) (fun _ _ _ h => h) (Or.inl ⟨by rfl, ?hb6⟩) (by assumption) ?_
  case hb6 => intro w hSw; (try dsimp only at hSw); go_simp; try with_reducible rfl
  simp only [List.getElem_toArray, List.getElem_cons_succ, List.getElem_cons_zero, Act.put, List.setIfInBounds_toArray, List.set_cons_zero, List.set_cons_succ]
  refine wpAnyH_take (i := 7) (v := ?vb7) rfl (by kernel_rfl) (by kernel_rfl) (by kernel_rfl) (fun _ _ _ h => h) (Or.inl ⟨by rfl, ?hb7⟩) (by assumption) ?_
  case hb7 => intro w hSw; (try dsimp only at hSw); go_simp; try with_reducible rfl
  simp only [List.getElem_toArray, List.getElem_cons_succ, List.getElem_cons_zero, Act.put, List.setIfInBounds_toArray, List.set_cons_zero, List.set_cons_succ]
  refine wpAnyH_take (i := 8) (v := ?vb8) rfl (by kernel_rfl) (by kernel_rfl) (by kernel_rfl) (fun _ _ _ h => h) (Or.inl ⟨by rfl, ?hb8⟩) (by assumption) ?_
  case hb8 => intro w hSw; (try dsimp only at hSw); go_simp; try with_reducible rfl
  simp only [List.getElem_toArray, List.getElem_cons_succ, List.getElem_cons_zero, Act.put, List.setIfInBounds_toArray, List.set_cons_zero, List.set_cons_succ]
  refine wpAnyH_take (i := 9) (v := ?vb9) rfl (by kernel_rfl) (by kernel_rfl) (by kernel_rfl) (fun _ _ _ h => h) (Or.inl ⟨by rfl, ?hb9⟩) (by assumption) ?_
  case hb9 => intro w hSw; (try dsimp only at hSw); go_simp; try with_reducible rfl
  simp only [List.getElem_toArray, List.getElem_cons_succ, List.getElem_cons_zero, Act.put, List.setIfInBounds_toArray, List.set_cons_zero, List.set_cons_succ]
  refine wpAnyH_take (i := 10) (v := ?vb10) rfl (by kernel_rfl) (by kernel_rfl) (by kernel_rfl) (fun _ _ _ h => h) (Or.inl ⟨by rfl, ?hb10⟩) (by assumption) ?_
  case hb10 => intro w hSw; (try dsimp only at hSw); go_simp; try with_reducible rfl
  simp only [List.getElem_toArray, List.getElem_cons_succ, List.getElem_cons_zero, Act.put, List.setIfInBounds_toArray, List.set_cons_zero, List.set_cons_succ]
  refine wpAnyH_take (i := 11) (v := ?vb11) rfl (by kernel_rfl) (by kernel_rfl) (by kernel_rfl) (fun _ _ _ h => h) (Or.inl ⟨by rfl, ?hb11⟩) (by assumption) ?_
  case hb11 => intro w hSw; (try dsimp only at hSw); go_simp; try with_reducible rfl
  simp only [List.getElem_toArray, List.getElem_cons_succ, List.getElem_cons_zero, Act.put, List.setIfInBounds_toArray, List.set_cons_zero, List.set_cons_succ]
  refine wpAnyH_take (i := 12) (v := ?vb12) rfl (by kernel_rfl) (by kernel_rfl) (by kernel_rfl) (fun _ _ _ h => h) (Or.inl ⟨by rfl, ?hb12⟩) (by assumption) ?_
  case hb12 => intro w hSw; (try dsimp only at hSw); go_simp; try with_reducible rfl
  simp only [List.getElem_toArray, List.getElem_cons_succ, List.getElem_cons_zero, Act.put, List.setIfInBounds_toArray, List.set_cons_zero, List.set_cons_succ]
  refine wpAnyH_take (i := 13) (v := ?vb13) rfl (by kernel_rfl) (by kernel_rfl) (by kernel_rfl) (fun _ _ _ h => h) (Or.inl ⟨by rfl, ?hb13⟩) (by assumption) ?_
  case hb13 => intro w hSw; (try dsimp only at hSw); go_simp; try with_reducible rfl
  simp only [List.getElem_toArray, List.getElem_cons_succ, List.getElem_cons_zero, Act.put, List.setIfInBounds_toArray, List.set_cons_zero, List.set_cons_succ]
  refine wpAnyH_take (i := 14) (v := ?vb14) rfl (by kernel_rfl) (by kernel_rfl) (by kernel_rfl) (fun _ _ _ h => h) (Or.inl ⟨by rfl, ?hb14⟩) (by assumption) ?_
  case hb14 => intro w hSw; (try dsimp only at hSw); go_simp; try with_reducible rfl
  simp only [List.getElem_toArray, List.getElem_cons_succ, List.getElem_cons_zero, Act.put, List.setIfInBounds_toArray, List.set_cons_zero, List.set_cons_succ]
  refine wpAnyH_take (i := 15) (v := ?vb15) rfl (by kernel_rfl) (by kernel_rfl) (by kernel_rfl) (fun _ _ _ h => h) (Or.inl ⟨by rfl, ?hb15⟩) (by assumption) ?_
  case hb15 => intro w hSw; (try dsimp only at hSw); go_simp; try with_reducible rfl
  simp only [List.getElem_toArray, List.getElem_cons_succ, List.getElem_cons_zero, Act.put, List.setIfInBounds_toArray, List.set_cons_zero, List.set_cons_succ]
  refine wpAnyH_take (i := 16) (v := ?vb16) rfl (by kernel_rfl) (by kernel_rfl) (by kernel_rfl) (fun _ _ _ h => h) (Or.inl ⟨by rfl, ?hb16⟩) (by assumption) ?_
  case hb16 => intro w hSw; (try dsimp only at hSw); go_simp; try with_reducible rfl
  simp only [List.getElem_toArray, List.getElem_cons_succ, List.getElem_cons_zero, Act.put, List.setIfInBounds_toArray, List.set_cons_zero, List.set_cons_succ]
  refine wpAnyH_take (i := 17) (v := ?vb17) rfl (by kernel_rfl) (by kernel_rfl) (by kernel_rfl) (fun _ _ _ h => h) (Or.inl ⟨by rfl, ?hb17⟩) (by assumption) ?_
  case hb17 => intro w hSw; (try dsimp only at hSw); go_simp; try with_reducible rfl
  simp only [List.getElem_toArray, List.getElem_cons_succ, List.getElem_cons_zero, Act.put, List.setIfInBounds_toArray, List.set_cons_zero, List.set_cons_succ]
  refine wpAnyH_take (i := 18) (v := ?vb18) rfl (by kernel_rfl) (by kernel_rfl) (by kernel_rfl) (fun _ _ _ h => h) (Or.inl ⟨by rfl, ?hb18⟩) (by assumption) ?_
  case hb18 => intro w hSw; (try dsimp only at hSw); go_simp; try with_reducible rfl
  simp only [List.getElem_toArray, List.getElem_cons_succ, List.getElem_cons_zero, Act.put, List.setIfInBounds_toArray, List.set_cons_zero, List.set_cons_succ]
  refine wpAnyH_take (i := 19) (v := ?vb19) rfl (by kernel_rfl) (by kernel_rfl) (by kernel_rfl) (fun _ _ _ h => h) (Or.inl ⟨by rfl, ?hb19⟩) (by assumption) ?_
  case hb19 => intro w hSw; (try dsimp only at hSw); go_simp; try with_reducible rfl
  simp only [List.getElem_toArray, List.getElem_cons_succ, List.getElem_cons_zero, Act.put, List.setIfInBounds_toArray, List.set_cons_zero, List.set_cons_succ]
  refine wpAnyH_take (i := 20) (v := ?vb20) rfl (by kernel_rfl) (by kernel_rfl) (by kernel_rfl) (fun _ _ _ h => h) (Or.inl ⟨by rfl, ?hb20⟩) (by assumption) ?_
  case hb20 => intro w hSw; (try dsimp only at hSw); go_simp; try with_reducible rfl
  simp only [List.getElem_toArray, List.getElem_cons_succ, List.getElem_cons_zero, Act.put, List.setIfInBounds_toArray, List.set_cons_zero, List.set_cons_succ]
  refine wpAnyH_take (i := 23) (v := ?vb23) rfl (by kernel_rfl) (by kernel_rfl) (by kernel_rfl) (fun _ _ _ h => h) (Or.inl ⟨by rfl, ?hb23⟩) (by assumption) ?_
  case hb23 => intro w hSw; (try dsimp only at hSw); go_simp; try with_reducible rfl
  simp only [List.getElem_toArray, List.getElem_cons_succ, List.getElem_cons_zero, Act.put, List.setIfInBounds_toArray, List.set_cons_zero, List.set_cons_succ]
  refine wpAnyH_take (i := 24) (v := ?vb24) rfl (by kernel_rfl) (by kernel_rfl) (by kernel_rfl) (fun _ _ _ h => h) (Or.inl ⟨by rfl, ?hb24⟩) (by assumption) ?_
  case hb24 => intro w hSw; (try dsimp only at hSw); go_simp; try with_reducible rfl
  simp only [List.getElem_toArray, List.getElem_cons_succ, List.getElem_cons_zero, Act.put, List.setIfInBounds_toArray, List.set_cons_zero, List.set_cons_succ]
  refine wpAnyH_take (i := 25) (v := ?vb25) rfl (by kernel_rfl) (by kernel_rfl) (by kernel_rfl) (fun _ _ _ h => h) (Or.inl ⟨by rfl, ?hb25⟩) (by assumption) ?_
  case hb25 => intro w hSw; (try dsimp only at hSw); go_simp; try with_reducible rfl
  simp only [List.getElem_toArray, List.getElem_cons_succ, List.getElem_cons_zero, Act.put, List.setIfInBounds_toArray, List.set_cons_zero, List.set_cons_succ]
  refine wpAnyH_take (i := 26) (v := ?vb26) rfl (by kernel_rfl) (by kernel_rfl) (by kernel_rfl) (fun _ _ _ h => h) (Or.inl ⟨by rfl, ?hb26⟩) (by assumption) ?_
  case hb26 => intro w hSw; (try dsimp only at hSw); go_simp; try with_reducible rfl
  simp only [List.getElem_toArray, List.getElem_cons_succ, List.getElem_cons_zero, Act.put, List.setIfInBounds_toArray, List.set_cons_zero, List.set_cons_succ]
  refine wpAnyH_ready (rs := [21]) (by kernel_rfl) (by simp) ?_
  refine AllReadyH.cons rfl (fun K hK => ?_) AllReadyH.nil
  go_simp
  refine HP.out.mono ?_
  rintro e w3 ⟨A4, c4, rfl, hlc4, hcm4, hA4, hr4, hb4⟩
  have hs5 := run_string A4 _ c4 _ w3 hr4
  have hs6 := HC.out w3 ((Below.refl _ _).drew.trans hb4)
  have HB4 := Lib.hid (HB2.out.trans (((Below.refl w2.heap.size w2).drew.trans hb4).mono HB2.out.size))
  clear hlc4 hcm4 hA4 hr4 hb4
  dsimp only
  refine hK.out _ _ ?_ (fun hHeld => ?_)
  · exact hs6
  clear hK K
  refine wpAnyH_ready (rs := [22]) (by kernel_rfl) (by simp) ?_
  refine AllReadyH.cons rfl (fun K hK => ?_) AllReadyH.nil
  go_simp
  refine hK.out _ _ ?_ (fun hHeld => ?_)
  · exact hs6
  clear hK K
  refine wpAnyH_take (i := 27) (v := ?vc27) rfl (by kernel_rfl) (by kernel_rfl) (by kernel_rfl) (fun _ _ _ h => h) (Or.inl ⟨by rfl, ?hc27⟩) (by assumption) ?_
  case hc27 => intro w hSw; (try dsimp only at hSw); go_simp; try with_reducible rfl
  simp only [List.getElem_toArray, List.getElem_cons_succ, List.getElem_cons_zero, Act.put, List.setIfInBounds_toArray, List.set_cons_zero, List.set_cons_succ]
  refine wpAnyH_take (i := 28) (v := ?vc28) rfl (by kernel_rfl) (by kernel_rfl) (by kernel_rfl) (fun _ _ _ h => h) (Or.inl ⟨by rfl, ?hc28⟩) (by assumption) ?_
  case hc28 => intro w hSw; (try dsimp only at hSw); go_simp; try with_reducible rfl
  simp only [List.getElem_toArray, List.getElem_cons_succ, List.getElem_cons_zero, Act.put, List.setIfInBounds_toArray, List.set_cons_zero, List.set_cons_succ]
  refine wpAnyH_take (i := 29) (v := ?vc29) rfl (by kernel_rfl) (by kernel_rfl) (by kernel_rfl) (fun _ _ _ h => h) (Or.inl ⟨by rfl, ?hc29⟩) (by assumption) ?_
  case hc29 => intro w hSw; (try dsimp only at hSw); go_simp; try with_reducible rfl
  simp only [List.getElem_toArray, List.getElem_cons_succ, List.getElem_cons_zero, Act.put, List.setIfInBounds_toArray, List.set_cons_zero, List.set_cons_succ]
  refine wpAnyH_take (i := 30) (v := ?vc30) rfl (by kernel_rfl) (by kernel_rfl) (by kernel_rfl) (fun _ _ _ h => h) (Or.inl ⟨by rfl, ?hc30⟩) (by assumption) ?_
  case hc30 => intro w hSw; (try dsimp only at hSw); go_simp; try with_reducible rfl
  simp only [List.getElem_toArray, List.getElem_cons_succ, List.getElem_cons_zero, Act.put, List.setIfInBounds_toArray, List.set_cons_zero, List.set_cons_succ]
  refine wpAnyH_done (by kernel_rfl) ?_ _
  refine NoPanic.normal ?_
  clear hs1 hs5 hs6 hHeld hhead
  have hz4 := HB4.out.size
  go_wp2_with fail
  have hfw := (HF.out.hr2.below HB4.out).mono hz4
  refine (frame_nil A2 c2 x _ HF.out.hx (by omega) hfw HF.out.hA2).mono ?_
  clear hfw
  generalize w3 = w4 at *
  rintro e w3 ⟨A4, c4, rfl, hlc4, hcm4, hA4, hr4, hb4⟩
  have hbw3 := (HB4.out).trans (hb4.mono (show w.heap.size ≤ w4.heap.size by omega))
  have hz3 := hbw3.size
  have hfl := CM.frame_len x
  have hen := VM.enc_len64 (n := x.length) (by omega)
  have HBW3 := Lib.hid hbw3; have HR4 := Lib.hid hr4; have HA4 := Lib.hid hA4; have HNF := Lib.hid (CM.next_frame x m (by omega) HF.out.hx)
  have hgl : (CM.frame x).length ≤ 300 := by omega
  have hby : ∀ c ∈ CM.frame x ++ m, c < 256 := fun c hc => (List.mem_append.1 hc).elim (CM.frame_byte HF.out.hx c) (HF.out.hm c)
  have HBY := Lib.hid hby
  clear hbw3 hr4 hA4 hb4 hby hfl hen 
  generalize CM.frame x = g at *
  go_wp2_with (first | (at_builtin; refine wpList_append_g rfl (.const (.slice none 0 0)) (.tmp 66) rfl w.heap.size _ [] rfl (Own.nil _ _) A4 g _ c4 w3.heap.size rfl rfl HR4.out HA4.out (by simp; omega) hz3 ?_; intro v5 w5 ho5 hg5; have HO5 := Lib.hid ho5; have HB5 := Lib.hid (HBW3.out.trans (hg5.below (Own.nil w3 w.heap.size) hz3)); clear ho5 hg5) | (at_builtin; refine wpList_append_g rfl (.tmp 67) (.tmp 68) rfl w.heap.size _ _ rfl HO5.out A3 m _ c3 w.heap.size rfl rfl (HF.out.hr3.below HB5.out) HF.out.hA3 (by simp; omega) HB5.out.size ?_; intro v6 w6 ho6 hg6; have HO6 := Lib.hid ho6; have HB6 := Lib.hid (HB5.out.trans (hg6.below HO5.out HB5.out.size)); clear ho6 hg6))
  have ho7 : Own w6 w.heap.size v6 (g ++ m) := HO6.out
  obtain ⟨A7, c7, hv7, hcl7, hcm7, hA7, hr7⟩ := ho7.form
  have hlen7 : (g ++ m).length ≤ 350 := by rw [List.length_append]; omega
  rw [hv7]
  generalize g ++ m = t at *
  have HR7 := Lib.hid hr7
  clear hr7 ho7 hv7 HO6 HO5 hA7
  refine (next_row A7 c7 t w6 (by omega) hcl7 hcm7 HR7.out HBY.out).mono ?_
  rintro e w8 ⟨v8, rfl, ho8, hb8⟩
  rw [HNF.out] at ho8 ⊢
  dsimp only at ho8 ⊢
  obtain ⟨A8, c8, hv8, _, _, _, hr8⟩ := ho8.form
  rw [hv8]
  have hb9 := HB6.out.trans (hb8.mono HB6.out.size)
  have HB9 := Lib.hid hb9
  have hs1 := run_string A8 x c8 _ w8 hr8
  have hs2 := run_string A2 x c2 _ w8 (HF.out.hr2.below hb9)
  clear hb8 hb9 ho8 hv8 hr8
  go_wp2
  go_ret
  exact ⟨rfl, HB9.out⟩

theorem big (a0 : Option Addr) (len0 cap0 : Nat) (a1 : Option Addr) (len1 cap1 : Nat) (a2 : Option Addr) (len2 cap2 : Nat) (w : World) (h0 : len0 ≤ 9223372036854775807) (h1 : len1 ≤ 9223372036854775807) (h2 : len2 ≤ 9223372036854775807) (h : 500 < len0 ∨ 200 < len1 ∨ 50 < len2) :
    Calls Try.prog 5 #[.slice a0 len0 cap0, .slice a1 len1 cap1, .slice a2 len2 cap2] w fun e w' => e = .returned (.bool true) ∧ Below w.heap.size w w' := by
  by_cases g0 : 500 < len0
  · have hd : decide ((500 : Int) < (len0 : Int)) = true := by simp; omega
    clear h
    go_enter Try.func5, Try.ntmps5
    go_wp2_with fail
    refine (fit_any _).mono ?_
    rintro e w1 ⟨rfl, hb⟩
    have HB := Lib.hid hb; clear hb
    go_wp2
    go_ret
    exact ⟨rfl, HB.out⟩
  · have hd : decide ((500 : Int) < (len0 : Int)) = false := by simp; omega
    by_cases g1 : 200 < len1
    · have hd1 : decide ((200 : Int) < (len1 : Int)) = true := by simp; omega
      clear h
      go_enter Try.func5, Try.ntmps5
      go_wp2_with fail
      refine (fit_any _).mono ?_
      rintro e w1 ⟨rfl, hb⟩
      have HB := Lib.hid hb; clear hb
      go_wp2
      go_ret
      exact ⟨rfl, HB.out⟩
    · have hd1 : decide ((200 : Int) < (len1 : Int)) = false := by simp; omega
      have hd2 : decide ((50 : Int) < (len2 : Int)) = true := by simp; omega
      clear h
      go_enter Try.func5, Try.ntmps5
      go_wp2_with fail
      refine (fit_any _).mono ?_
      rintro e w1 ⟨rfl, hb⟩
      have HB := Lib.hid hb; clear hb
      go_wp2
      go_ret
      exact ⟨rfl, HB.out⟩

theorem walk (a0 : Option Addr) (len0 cap0 : Nat) (z0 : List Int) (a1 : Option Addr) (len1 cap1 : Nat) (z1 : List Int) (a2 : Option Addr) (len2 cap2 : Nat) (z2 : List Int) (w : World) (w0 : IsRow .u8 w a0 len0 cap0 z0) (w1 : IsRow .u8 w a1 len1 cap1 z1) (w2 : IsRow .u8 w a2 len2 cap2 z2) :
    Calls Try.prog 5 #[.slice a0 len0 cap0, .slice a1 len1 cap1, .slice a2 len2 cap2] w fun e w' => e = .returned (.bool true) ∧ Below w.heap.size w w' := by
  obtain ⟨l, rfl, hcm, hlc, hA, hr, hl⟩ := came w0 top_u8
  obtain ⟨x, rfl, hcm2, hlc2, hA2, hr2, hx⟩ := came w1 top_u8
  obtain ⟨m, rfl, hcm3, hlc3, hA3, hr3, hm⟩ := came w2 top_u8
  by_cases h : 500 < l.length ∨ 200 < x.length ∨ 50 < m.length
  · unfold maxLen at hcm hcm2 hcm3
    exact big a0 _ cap0 a1 _ cap1 a2 _ cap2 w (by omega) (by omega) (by omega) h
  · by_cases hk : (CM.next l).2 = 0
    · exact none_ a0 a1 a2 cap0 cap1 cap2 l x m w hl (by omega) (by omega) (by omega) hlc hcm hr ⟨hx, hm, hr2, hr3, hA2, hA3⟩ hk
    · exact some_ a0 a1 a2 cap0 cap1 cap2 l x m w hl (by omega) (by omega) (by omega) hlc hcm hr ⟨hx, hm, hr2, hr3, hA2, hA3⟩ hk

theorem own : ownKnob Try.prog.godebug = none := by kernel_rfl
theorem laidOut : laidOutB Try.prog = true := by kernel_rfl

set_option maxRecDepth 100000 in
theorem lifted (os : Os) (started : os.Started) (H : Type) (enc : TypeId × Value → H) :
    ReturnsInHanded {} Try.checked os 5 .any (Rows.crcAnySpec.pre6 enc Try.prog Try.f5 Rows.crcAnyRow.domain false) (Rows.crcAnySpec.post enc Try.prog Try.f5 false true false false) := by
  refine returnsInHanded_of_change (C := Try.checked) own started (by kernel_rfl) Try.func5
    (ChangeSpec.witness6 (enc := enc) (C := Try.checked) false ⟨#[], #[.slice none 0 0, .slice none 0 0, .slice none 0 0], []⟩ 8 (by kernel_rfl) (by kernel_rfl) (by kernel_rfl) (by kernel_rfl)) ?_
  intro W base args ds gs before hval0 hW hcnd _
  have hval : ∀ (j : Nat) t v, Try.f5.params[j]? = some t → args[j]? = some v → Value.okWide Try.prog W .any base t v := hval0
  have hW' := hW
  obtain ⟨p, q, hA0, hV, rfl, hfz, hnd⟩ := hW
  have hA : DataW.TrodAll enc Try.prog W 0 (fun _ => true) true Try.f5.params.toList args.toList ds p := hA0
  rw [Try.params5] at hA hval
  obtain ⟨v0, vs0, d0, ds0, p0, q0, hargs, rfl, rfl, h0, r0⟩ := trodAll_cons hA
  obtain ⟨v1, vs1, d1, ds1, p1, q1, rfl, rfl, rfl, h1, r1⟩ := trodAll_cons r0
  obtain ⟨v2, vs2, d2, ds2, p2, q2, rfl, rfl, rfl, h2, r2⟩ := trodAll_cons r1
  obtain ⟨rfl, rfl, rfl⟩ := trodAll_nil r2
  obtain rfl : args = #[v0, v1, v2] := by cases args; simp_all
  obtain ⟨rfl, rfl⟩ := trodVars_none hV
  obtain ⟨a0, len0, cap0, rfl⟩ := okWide_slice Try.underlying23 (hval 0 23 v0 rfl rfl)
  have k0 := h0
  have lt0 : ∀ x ∈ p0, x.block < W.heap.size := by obtain ⟨m, hm⟩ := k0; exact DataW.trod_lt m _ _ _ hm
  obtain ⟨z0, w0⟩ : ∃ zs, IsRow .u8 W a0 len0 cap0 zs := by
    obtain ⟨fuel, hf⟩ := h0
    rcases open_ints Try.underlying23 Try.underlying5 (by kernel_rfl) hf with ⟨hcs, _⟩ | ⟨x, l, c, zs, hcs, _, hl, hm, hz, _, hcell, hwz⟩
    · simp [Value.cells] at hcs
      obtain ⟨rfl, rfl, rfl⟩ := hcs
      exact ⟨[], .inl ⟨rfl, rfl, rfl, rfl⟩⟩
    · simp [Value.cells] at hcs
      obtain ⟨rfl, rfl, rfl⟩ := hcs
      exact ⟨zs, .inr ⟨_, rfl, hl, hm, by simpa using hz, hcell, hwz⟩⟩
  obtain ⟨a1, len1, cap1, rfl⟩ := okWide_slice Try.underlying23 (hval 1 23 v1 rfl rfl)
  have k1 := h1
  have lt1 : ∀ x ∈ p1, x.block < W.heap.size := by obtain ⟨m, hm⟩ := k1; exact DataW.trod_lt m _ _ _ hm
  obtain ⟨z1, w1⟩ : ∃ zs, IsRow .u8 W a1 len1 cap1 zs := by
    obtain ⟨fuel, hf⟩ := h1
    rcases open_ints Try.underlying23 Try.underlying5 (by kernel_rfl) hf with ⟨hcs, _⟩ | ⟨x, l, c, zs, hcs, _, hl, hm, hz, _, hcell, hwz⟩
    · simp [Value.cells] at hcs
      obtain ⟨rfl, rfl, rfl⟩ := hcs
      exact ⟨[], .inl ⟨rfl, rfl, rfl, rfl⟩⟩
    · simp [Value.cells] at hcs
      obtain ⟨rfl, rfl, rfl⟩ := hcs
      exact ⟨zs, .inr ⟨_, rfl, hl, hm, by simpa using hz, hcell, hwz⟩⟩
  obtain ⟨a2, len2, cap2, rfl⟩ := okWide_slice Try.underlying23 (hval 2 23 v2 rfl rfl)
  have k2 := h2
  have lt2 : ∀ x ∈ p2, x.block < W.heap.size := by obtain ⟨m, hm⟩ := k2; exact DataW.trod_lt m _ _ _ hm
  obtain ⟨z2, w2⟩ : ∃ zs, IsRow .u8 W a2 len2 cap2 zs := by
    obtain ⟨fuel, hf⟩ := h2
    rcases open_ints Try.underlying23 Try.underlying5 (by kernel_rfl) hf with ⟨hcs, _⟩ | ⟨x, l, c, zs, hcs, _, hl, hm, hz, _, hcell, hwz⟩
    · simp [Value.cells] at hcs
      obtain ⟨rfl, rfl, rfl⟩ := hcs
      exact ⟨[], .inl ⟨rfl, rfl, rfl, rfl⟩⟩
    · simp [Value.cells] at hcs
      obtain ⟨rfl, rfl, rfl⟩ := hcs
      exact ⟨zs, .inr ⟨_, rfl, hl, hm, by simpa using hz, hcell, hwz⟩⟩
  clear hA0 hval0
  refine (walk a0 len0 cap0 z0 a1 len1 cap1 z1 a2 len2 cap2 z2 W w0 w1 w2).mono fun e W' ⟨he, bel⟩ => ?_
  subst he
  exact ⟨_, rfl, _, _, _, [], _, [], hW', trodAll_mk1 (shut_bool Try.underlying4 _), (trodAll_cons_mk (Below.trod laidOut (by kernel_rfl) (of_decide_eq_true (by kernel_rfl)) k0 bel lt0) (trodAll_cons_mk (Below.trod laidOut (by kernel_rfl) (of_decide_eq_true (by kernel_rfl)) k1 bel lt1) (trodAll_cons_mk (Below.trod laidOut (by kernel_rfl) (of_decide_eq_true (by kernel_rfl)) k2 bel lt2) trodAll_mk0))), rfl, bel.frame _, fun h => by cases h⟩

theorem over : Rows.crcAnyRow.holds Try.pinned (OpenSpec.ofChange Rows.crcAnySpec) :=
  OpenClaim.holds_of_wide 5 Try.f5 rfl rfl rfl rfl rfl rfl rfl ⟨rfl, rfl, rfl, rfl, rfl⟩ rfl rfl rfl rfl rfl (by kernel_rfl) Try.func5 (by kernel_rfl)
    (of_decide_eq_true (by kernel_rfl)) (by unfold Func.isWrapper; first | (rw [if_pos (by decide +kernel)]; kernel_rfl) | (rw [if_neg (by decide +kernel)]; exact ⟨rfl, rfl⟩))
    (fun os started H enc _ => lifted os started H enc)

end Go.Proofs.Ytfndbgdamplelaa.crcAny
namespace Go.Proofs.Ytfndbgdamplelaa
theorem crcAny_holds : Rows.CrcAnySaid := crcAny.over
end Go.Proofs.Ytfndbgdamplelaa
