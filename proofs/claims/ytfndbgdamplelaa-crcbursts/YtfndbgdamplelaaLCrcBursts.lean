/-
  CrcBursts: for all bytes, every place and every pattern the law answers true: a frame of whose bytes behind the length up to four, side by side, were turned is none. No condition.
-/
import Derived.Test.YtfndbgdamplelaaCFit
import Derived.Test.YtfndbgdamplelaaCNext
import Derived.ProofKit
import Derived.OpenShut
import Derived.RegionTactic
import Derived.ChangeAlike
namespace Go.Proofs.Ytfndbgdamplelaa.crcBursts
open Go.ChangeShapes Go.WideShapes Go.ChangeAt Go.RowKit

/-- The bytes behind the first k rounds. -/
def turned (l : List Nat) (fr t : Nat) : Nat → List Nat
  | 0 => l
  | k + 1 => (turned l fr t k).set (fr + k) ((turned l fr t k).getD (fr + k) 0 ^^^ (t / 256 ^ k % 256))
theorem turned_len (l : List Nat) (fr t k : Nat) : (turned l fr t k).length = l.length := by
  induction k with
  | zero => rfl
  | succ k ih => simp only [turned, List.length_set]; exact ih
theorem turned_behind (p r : List Nat) (t k : Nat) : turned (p ++ r) p.length t k = p ++ turned r 0 t k := by
  induction k with
  | zero => rfl
  | succ k ih =>
    simp only [turned]
    rw [ih, List.set_append_right _ _ (by omega)]
    have e : (p ++ turned r 0 t k).getD (p.length + k) 0 = (turned r 0 t k).getD (0 + k) 0 := by
      simp only [List.getD_eq_getElem?_getD, Nat.zero_add]
      rw [List.getElem?_append_right (by omega), Nat.add_sub_cancel_left]
    rw [e, Nat.add_sub_cancel_left, Nat.zero_add]
theorem turned_four (a b c d t : Nat) (q : List Nat) : turned (a :: b :: c :: d :: q) 0 t 4 = [a ^^^ t % 256, b ^^^ t / 256 % 256, c ^^^ t / 65536 % 256, d ^^^ t / 16777216 % 256] ++ q := by
  simp [turned]
theorem xors_zero (l : List Nat) : CM.xors l (List.replicate l.length 0) = l := by
  unfold CM.xors
  induction l with
  | nil => rfl
  | cons x l ih => simp [List.replicate_succ, ih]
theorem burst_four (p q : List Nat) (a b c d t : Nat) : CM.burst (p ++ (a :: b :: c :: d :: q)) p.length t = p ++ ([a ^^^ t % 256, b ^^^ t / 256 % 256, c ^^^ t / 65536 % 256, d ^^^ t / 16777216 % 256] ++ q) := by
  unfold CM.burst
  rw [List.append_assoc, CM.xors_append _ _ _ _ (by simp), xors_zero]
  congr 1
  have e : (p ++ a :: b :: c :: d :: q).length - p.length - 4 = q.length := by simp
  rw [e, show a :: b :: c :: d :: q = [a, b, c, d] ++ q from rfl, CM.xors_append _ _ _ _ (by simp [CM.le4]), xors_zero]
  rfl
theorem turned_frame (x : List Nat) (o t : Nat) (ho : o ≤ x.length) :
    turned (CM.frame x) ((VM.enc x.length).length + o) t 4 = VM.enc x.length ++ CM.burst (x ++ CM.le4 (CM.sum (VM.enc x.length ++ x))) o t := by
  have hf : CM.frame x = VM.enc x.length ++ (x ++ CM.le4 (CM.sum (VM.enc x.length ++ x))) := by unfold CM.frame; rw [List.append_assoc]
  rw [hf]
  generalize hy : x ++ CM.le4 (CM.sum (VM.enc x.length ++ x)) = y
  have hyl : y.length = x.length + 4 := by rw [← hy, List.length_append, CM.le4_len]
  obtain ⟨a, b, c, d, q, hq⟩ : ∃ a b c d q, y.drop o = a :: b :: c :: d :: q := by
    have h4 : 4 ≤ (y.drop o).length := by rw [List.length_drop]; omega
    generalize y.drop o = z at h4
    match z, h4 with
    | a :: b :: c :: d :: m, _ => exact ⟨a, b, c, d, m, rfl⟩
  have hy2 : y = y.take o ++ (a :: b :: c :: d :: q) := by rw [← hq, List.take_append_drop]
  have hpl : (y.take o).length = o := by rw [List.length_take]; omega
  generalize y.take o = p at *
  subst hpl
  rw [hy2, burst_four, ← List.append_assoc, ← List.length_append, turned_behind, turned_four, List.append_assoc]
theorem xor_byte (b t k : Nat) (hb : b < 256) : b ^^^ (t / 256 ^ k % 256) < 256 := Nat.xor_lt_two_pow (n := 8) hb (by show _ < 256; omega)
theorem turned_byte (l : List Nat) (fr t k : Nat) (hl : ∀ x ∈ l, x < 256) (hk : fr + k ≤ l.length) : ∀ x ∈ turned l fr t k, x < 256 := by
  induction k with
  | zero => exact hl
  | succ k ih =>
    intro x hx
    simp only [turned] at hx
    have ih := ih (by omega)
    rcases List.mem_or_eq_of_mem_set hx with h | h
    · exact ih x h
    · subst h
      refine xor_byte _ t k (ih _ ?_)
      have hlt : fr + k < (turned l fr t k).length := by rw [turned_len]; omega
      rw [show (turned l fr t k).getD (fr + k) 0 = (turned l fr t k)[fr + k] from by simp [hlt]]
      exact List.getElem_mem _

theorem pow_256 (k : Nat) : (2 : Int) ^ (8 * k) = ((256 ^ k : Nat) : Int) := by
  induction k with
  | zero => rfl
  | succ k ih => rw [Nat.mul_succ, Int.pow_add, ih, Nat.pow_succ, Int.natCast_mul]; rfl
theorem xor_spell (bv t k : Nat) (hb : bv < 256) : bits .xor .u8 (bv : Int) ((t : Int) / 2 ^ (8 * k) % 256) = ((bv ^^^ (t / 256 ^ k % 256) : Nat) : Int) := by
  have e : ((t : Int) / 2 ^ (8 * k) % 256) = ((t / 256 ^ k % 256 : Nat) : Int) := by
    rw [pow_256, ← Int.natCast_ediv]; rfl
  rw [e, u8_xor_nat _ _ hb (by omega)]
theorem stored {w w0 : World} {g cap n : Nat} {f : List Nat} {fr t k bv : Nat} {y : Int} (ho : Own w w0.heap.size (.slice (some ⟨g, 0, none⟩) n cap) (turned f fr t k)) (hn : (turned f fr t k).length = n) (hbv : (turned f fr t k).getD (fr + k) 0 = bv)
    (hy : y = ((bv ^^^ (t / 256 ^ k % 256) : Nat) : Int)) : Own (w.setCell ⟨g, fr + k, none⟩ (.int .u8 y)).drew w0.heap.size (.slice (some ⟨g, 0, none⟩) n cap) (turned f fr t (k + 1)) := by
  subst hn
  have h := (World.ownsRow.stored ho (fr + k) (.int .u8 y)).1
  unfold Own
  refine World.ownsRow.drew ?_
  have e : nums .u8 (turned f fr t (k + 1)) = (nums .u8 (turned f fr t k)).set (fr + k) (.int .u8 y) := by
    simp only [turned, nums, List.map_set, hbv, hy]
  rw [e, show (turned f fr t (k + 1)).length = (turned f fr t k).length from by rw [turned_len, turned_len]]
  exact h

set_option maxRecDepth 100000 in
set_option maxHeartbeats 4000000 in
theorem small (A : Option Addr) (c : Nat) (x : List Nat) (z : Int) (t : Nat) (w : World) (hx : ∀ n ∈ x, n < 256) (hx1 : x.length ≤ 300) (ht : t < 4294967296) (ht0 : t ≠ 0) (hr : Row w w.heap.size .u8 A x) (hA : A = none → c = 0) :
    Calls Try.prog 7 #[.slice A x.length c, .int .i64 z, .int .u32 t] w fun e w' => e = .returned (.bool true) ∧ Below w.heap.size w w' := by
  have hd1 : decide ((300 : Int) < (x.length : Int)) = false := by simp; omega
  have hd2 : ((t : Int) == 0) = false := by simp; omega
  obtain ⟨q, hq, hqe⟩ := low16 z
  have HR := Lib.hid hr; have HX := Lib.hid hx; have HA := Lib.hid hA
  clear hr hx hA
  have hfl := CM.frame_len x
  have he10 := VM.enc_len64 (n := x.length) (by omega)
  have he1 := VM.enc_pos x.length
  obtain ⟨o, hto, hte⟩ : ∃ o : Nat, o ≤ x.length ∧ (q : Int) % ((x.length : Int) + 1) = (o : Int) := ⟨q % (x.length + 1), by have := Nat.mod_lt q (show 0 < x.length + 1 by omega); omega, by push_cast; rfl⟩
  have hnb := CM.next_burst x o t (by omega) HX.out ht ht0 hto
  rw [← turned_frame x o t hto] at hnb
  have HNB := Lib.hid hnb
  have HBY := Lib.hid (fun k hk => turned_byte (CM.frame x) ((VM.enc x.length).length + o) t k (CM.frame_byte HX.out) hk)
  clear hnb
  generalize hE : (VM.enc x.length).length + o = fr at *
  go_enter Try.func7, Try.ntmps7
  go_wp2_with fail
  refine (fit_any _).mono ?_
  rintro e w1 ⟨rfl, hb⟩
  have hz1 := hb.size
  have HB := Lib.hid hb; clear hb
  have hfr : ((CM.frame x).length : Int) - (x.length : Int) - 4 + (q : Int) % ((x.length : Int) + 1) = (fr : Int) := by rw [hte]; omega
  have d1 : decide (((CM.frame x).length : Int) - (x.length : Int) - 4 + (q : Int) % ((x.length : Int) + 1) < 1) = false := by rw [hfr]; simp; omega
  have d2 : decide (((CM.frame x).length : Int) < ((CM.frame x).length : Int) - (x.length : Int) - 4 + (q : Int) % ((x.length : Int) + 1) + 4) = false := by rw [hfr]; simp; omega
  have HFR := Lib.hid hfr; have HFL := Lib.hid hfl
  have hF : (CM.frame x).length ≤ 314 := by omega
  have hF2 : fr + 4 ≤ (CM.frame x).length := by omega
  have hF3 : x.length + 4 ≤ (CM.frame x).length := by omega
  have hm0 : 0 ≤ (q : Int) % ((x.length : Int) + 1) := by omega
  have hm1 : (q : Int) % ((x.length : Int) + 1) ≤ 300 := by omega
  clear hfr hE hte hfl
  go_wp2_with fail
  refine (frame_grow (.slice none 0 0) [] A c x _ w.heap.size HX.out (by omega) (by simp) ((HR.out.below HB.out).mono hz1) HA.out (Own.nil _ _) hz1).mono ?_
  rintro e w2 ⟨v, rfl, ho, hg⟩
  have hb2 := HB.out.trans (hg.below (Own.nil w1 w.heap.size) hz1)
  rw [List.nil_append] at ho
  obtain ⟨g, cap, hv, hcap⟩ : ∃ g cap, v = .slice (some ⟨g, 0, none⟩) (CM.frame x).length cap ∧ (CM.frame x).length ≤ cap ∧ cap ≤ maxLen := by
    rcases ho.2 with ⟨_, h0⟩ | ⟨g, cap, cur, h, _, _, h3, h4, _⟩
    · omega
    · exact ⟨g, cap, h, h3, h4⟩
  rw [hv] at ho
  rw [hv]
  have HGB := Lib.hid (World.ownsRow.lt ho g rfl).1
  have HO := Lib.hid ho; have HB2 := Lib.hid hb2
  clear ho hg hb2 hv
  generalize CM.frame x = f at *
  unfold maxLen at hcap
  go_wp2
  rw [HFR.out]
  clear hm0 hm1 d1 d2
  go_loopw [45] (fun i wr => ∃ k : Nat, k ≤ 4 ∧ i = .int .i64 k ∧ Own wr w.heap.size (.slice (some ⟨g, 0, none⟩) f.length cap) (turned f fr t k) ∧ Below w.heap.size w wr) (fun i _ => 4 - (intOf i).toNat)
  case atStart => exact ⟨0, by omega, rfl, HO.out, HB2.out⟩
  case round =>
    obtain ⟨k, hk, rfl, ho, hbw⟩ := hrel
    have hzr := hbw.size
    have HO2 := Lib.hid ho; have HBW := Lib.hid hbw
    have hlk := turned_len f fr t k
    by_cases hlt : k < 4
    · have hcell : wr.cell? ⟨g, fr + k, none⟩ = some (.int .u8 ((turned f fr t k).getD (fr + k) 0 : Nat)) := by
        have h1 : fr + k < (turned f fr t k).length := by omega
        rw [hlk.symm] at ho
        rw [World.ownsRow.cellAt ho (fr + k) (by omega)]
        simp [nums, h1]
      have hfz : wr.frozen? ⟨g, fr + k, none⟩ = false := by
        rw [hlk.symm] at ho
        exact World.ownsRow.frozenAt ho (fr + k)
      have hbb : (turned f fr t k).getD (fr + k) 0 < 256 := by
        have h1 : fr + k < (turned f fr t k).length := by omega
        rw [show (turned f fr t k).getD (fr + k) 0 = (turned f fr t k)[fr + k] from by simp [h1]]
        exact HBY.out k (by omega) _ (List.getElem_mem _)
      clear ho hbw hlk
      generalize hbv : (turned f fr t k).getD (fr + k) 0 = bv at *
      have HBV := Lib.hid hbv; clear hbv
      go_wp2
      go_region
      all_goals go_wp2
      go_roundw
      case rel => exact ⟨k + 1, by omega, by go_num, stored HO2.out (turned_len f fr t k) HBV.out (xor_spell bv t k hbb), (HBW.out.setCell (p := ⟨g, fr + k, none⟩) HGB.out _).drew⟩
      case measure => simp [intOf]; omega
    · obtain rfl : k = 4 := by omega
      have hb4 := HBY.out 4 (by omega)
      rw [← hlk] at ho
      obtain ⟨A9, c9, hv9, _, hcm9, _, hr9⟩ := ho.form
      injection hv9 with hv9 _ hc9
      subst hv9 hc9
      have hnx := next_row _ cap (turned f fr t 4) wr (by omega) (by omega) hcm9 hr9 hb4
      rw [hlk] at hnx
      have HNX := Lib.hid hnx
      clear hnx ho hbw hr9 hb4 hlk
      go_wp2_with fail
      refine HNX.out.mono ?_
      rintro e w5 ⟨v5, rfl, ho5, hb5⟩
      rw [HNB.out] at ho5 ⊢
      dsimp only at ho5 ⊢
      obtain ⟨A5, c5, hv5, _⟩ := ho5.form
      rw [hv5]
      have HB5 := Lib.hid (HBW.out.trans (hb5.mono hzr))
      clear ho5 hb5 hv5
      go_wp2
      go_ret
      exact ⟨rfl, HB5.out⟩

theorem big (a0 : Option Addr) (len0 cap0 : Nat) (z t : Int) (w : World) (h0 : len0 ≤ 9223372036854775807) (h : 300 < len0 ∨ t = 0) :
    Calls Try.prog 7 #[.slice a0 len0 cap0, .int .i64 z, .int .u32 t] w fun e w' => e = .returned (.bool true) ∧ Below w.heap.size w w' := by
  by_cases g0 : 300 < len0
  · have hd : decide ((300 : Int) < (len0 : Int)) = true := by simp; omega
    clear h
    go_enter Try.func7, Try.ntmps7
    go_wp2_with fail
    refine (fit_any _).mono ?_
    rintro e w1 ⟨rfl, hb⟩
    have HB := Lib.hid hb; clear hb
    go_wp2
    go_ret
    exact ⟨rfl, HB.out⟩
  · have hd : decide ((300 : Int) < (len0 : Int)) = false := by simp; omega
    obtain rfl : t = 0 := by omega
    clear h
    go_enter Try.func7, Try.ntmps7
    go_wp2_with fail
    refine (fit_any _).mono ?_
    rintro e w1 ⟨rfl, hb⟩
    have HB := Lib.hid hb; clear hb
    go_wp2
    go_ret
    exact ⟨rfl, HB.out⟩

theorem walk (a0 : Option Addr) (len0 cap0 : Nat) (z0 : List Int) (a1 a2 : Int) (w : World) (w0 : IsRow .u8 w a0 len0 cap0 z0) (_w1 : (Lit.int .i64 a1).wf = true) (w2 : (Lit.int .u32 a2).wf = true) :
    Calls Try.prog 7 #[.slice a0 len0 cap0, .int .i64 a1, .int .u32 a2] w fun e w' => e = .returned (.bool true) ∧ Below w.heap.size w w' := by
  obtain ⟨x, rfl, hcm, hlc, hA, hr, hx⟩ := came w0 top_u8
  have hb := bounds_u32 w2
  by_cases h : 300 < x.length ∨ a2 = 0
  · unfold maxLen at hcm
    exact big a0 _ cap0 a1 a2 w (by omega) h
  · obtain ⟨t, rfl⟩ := Int.eq_ofNat_of_zero_le (show 0 ≤ a2 by omega)
    exact small a0 cap0 x a1 t w hx (by omega) (by omega) (by omega) hr hA

theorem own : ownKnob Try.prog.godebug = none := by kernel_rfl
theorem laidOut : laidOutB Try.prog = true := by kernel_rfl

set_option maxRecDepth 100000 in
theorem lifted (os : Os) (started : os.Started) (H : Type) (enc : TypeId × Value → H) :
    ReturnsInHanded {} Try.checked os 7 .any (Rows.crcBurstsSpec.pre6 enc Try.prog Try.f7 Rows.crcBurstsRow.domain false) (Rows.crcBurstsSpec.post enc Try.prog Try.f7 false true false false) := by
  refine returnsInHanded_of_change (C := Try.checked) own started (by kernel_rfl) Try.func7
    (ChangeSpec.witness6 (enc := enc) (C := Try.checked) false ⟨#[], #[.slice none 0 0, .int .i64 0, .int .u32 0], []⟩ 8 (by kernel_rfl) (by kernel_rfl) (by kernel_rfl) (by kernel_rfl)) ?_
  intro W base args ds gs before hval0 hW hcnd _
  have hval : ∀ (j : Nat) t v, Try.f7.params[j]? = some t → args[j]? = some v → Value.okWide Try.prog W .any base t v := hval0
  have hW' := hW
  obtain ⟨p, q, hA0, hV, rfl, hfz, hnd⟩ := hW
  have hA : DataW.TrodAll enc Try.prog W 0 (fun _ => true) true Try.f7.params.toList args.toList ds p := hA0
  rw [Try.params7] at hA hval
  obtain ⟨v0, vs0, d0, ds0, p0, q0, hargs, rfl, rfl, h0, r0⟩ := trodAll_cons hA
  obtain ⟨v1, vs1, d1, ds1, p1, q1, rfl, rfl, rfl, h1, r1⟩ := trodAll_cons r0
  obtain ⟨v2, vs2, d2, ds2, p2, q2, rfl, rfl, rfl, h2, r2⟩ := trodAll_cons r1
  obtain ⟨rfl, rfl, rfl⟩ := trodAll_nil r2
  obtain rfl : args = #[v0, v1, v2] := by cases args; simp_all
  obtain ⟨rfl, rfl⟩ := trodVars_none hV
  obtain ⟨a0, len0, cap0, rfl⟩ := okWide_slice Try.underlying23 (hval 0 23 v0 rfl rfl)
  have k0 := h0
  have lt0 : ∀ x ∈ p0, x.block < W.heap.size := by obtain ⟨m, hm⟩ := k0; exact DataW.trod_lt m _ _ _ hm
  obtain ⟨z0, w0⟩ : ∃ zs, IsRow .u8 W a0 len0 cap0 zs := by
    obtain ⟨fuel, hf⟩ := h0
    rcases open_ints Try.underlying23 Try.underlying5 (by kernel_rfl) hf with ⟨hcs, _⟩ | ⟨x, l, c, zs, hcs, _, hl, hm, hz, _, hcell, hwz⟩
    · simp [Value.cells] at hcs
      obtain ⟨rfl, rfl, rfl⟩ := hcs
      exact ⟨[], .inl ⟨rfl, rfl, rfl, rfl⟩⟩
    · simp [Value.cells] at hcs
      obtain ⟨rfl, rfl, rfl⟩ := hcs
      exact ⟨zs, .inr ⟨_, rfl, hl, hm, by simpa using hz, hcell, hwz⟩⟩
  obtain ⟨a1, rfl, rfl, rfl, w1⟩ := open_int Try.underlying3 (hval 1 3 v1 rfl rfl) h1
  obtain ⟨a2, rfl, rfl, rfl, w2⟩ := open_int Try.underlying32 (hval 2 32 v2 rfl rfl) h2
  clear hA0 hval0
  refine (walk a0 len0 cap0 z0 a1 a2 W w0 w1 w2).mono fun e W' ⟨he, bel⟩ => ?_
  subst he
  exact ⟨_, rfl, _, _, _, [], _, [], hW', trodAll_mk1 (shut_bool Try.underlying4 _), (trodAll_cons_mk (Below.trod laidOut (by kernel_rfl) (of_decide_eq_true (by kernel_rfl)) k0 bel lt0) (trodAll_cons_mk (shut_int Try.underlying3 w1) (trodAll_cons_mk (shut_int Try.underlying32 w2) trodAll_mk0))), rfl, bel.frame _, fun h => by cases h⟩

theorem over : Rows.crcBurstsRow.holds Try.pinned (OpenSpec.ofChange Rows.crcBurstsSpec) :=
  OpenClaim.holds_of_wide 7 Try.f7 rfl rfl rfl rfl rfl rfl rfl ⟨rfl, rfl, rfl, rfl, rfl⟩ rfl rfl rfl rfl rfl (by kernel_rfl) Try.func7 (by kernel_rfl)
    (of_decide_eq_true (by kernel_rfl)) (by unfold Func.isWrapper; first | (rw [if_pos (by decide +kernel)]; kernel_rfl) | (rw [if_neg (by decide +kernel)]; exact ⟨rfl, rfl⟩))
    (fun os started H enc _ => lifted os started H enc)

end Go.Proofs.Ytfndbgdamplelaa.crcBursts
namespace Go.Proofs.Ytfndbgdamplelaa
theorem crcBursts_holds : Rows.CrcBurstsSaid := crcBursts.over
end Go.Proofs.Ytfndbgdamplelaa
