/-
  VaryReads: for every list of ints, every text s and every int more the law answers true: a reader tells what was put, in its order; once something isn't there all is nothing. No condition.
-/
import Derived.Test.YtapabeahgciikaaVRead
import Derived.ProofKit
import Derived.OpenShut
import Derived.ShutString
namespace Go.Proofs.Ytapabeahgciikaa.varyReads
open Go.ChangeShapes Go.WideShapes Go.ChangeAt Go.RowKit
open Go.ChangeMaps (open_string shut_string)

/-- n & (1<<62 - 1), as the walk writes it. -/
def msk (z : Int) : Int := bits .and .i64 z 4611686018427387903
theorem msk_range (z : Int) : 0 ≤ bits .and .i64 z 4611686018427387903 ∧ bits .and .i64 z 4611686018427387903 ≤ 4611686018427387903 := by
  have hle : (BitVec.ofInt 64 z &&& BitVec.ofInt 64 4611686018427387903).toNat ≤ 4611686018427387903 := by
    rw [BitVec.toNat_and]
    exact Nat.le_trans Nat.and_le_right (by decide)
  have e : bits .and .i64 z 4611686018427387903 = ((BitVec.ofInt 64 z &&& BitVec.ofInt 64 4611686018427387903).toNat : Int) := by
    show IntKind.i64.wrap ((BitVec.ofInt 64 z &&& BitVec.ofInt 64 4611686018427387903).toNat : Int) = _
    exact IntWalk.i64_in _ ⟨by omega, by omega⟩
  rw [e]
  omega

/-- The numbers that are put. -/
def ys (zs : List Int) : List Nat := zs.map fun z => (msk z).toNat
theorem ys_lt (zs : List Int) : ∀ n ∈ ys zs, n < 18446744073709551616 := by
  intro n hn
  obtain ⟨z, _, rfl⟩ := List.mem_map.1 hn
  have := msk_range z
  unfold msk
  omega
theorem ys_take (zs : List Int) {k : Nat} (hk : k < zs.length) : ys (zs.take (k + 1)) = ys (zs.take k) ++ [(msk (zs.getD k 0)).toNat] := by
  rw [List.take_succ_eq_append_getElem hk]
  unfold ys
  rw [List.map_append, List.map_cons, List.map_nil, show zs.getD k 0 = zs[k] from by simp [hk]]
theorem ys_drop (zs : List Int) {k : Nat} (hk : k < zs.length) : ys (zs.drop k) = (msk (zs.getD k 0)).toNat :: ys (zs.drop (k + 1)) := by
  rw [List.drop_eq_getElem_cons hk]
  unfold ys
  rw [List.map_cons, show zs.getD k 0 = zs[k] from by simp [hk]]
theorem ys_len (zs : List Int) : (ys zs).length = zs.length := by simp [ys]
theorem encs_ys (zs : List Int) (h : zs.length ≤ 40) : (VM.encs (ys zs)).length ≤ 400 := by
  have := VM.encs_len (ys zs) (ys_lt zs)
  rw [ys_len] at this
  omega

/-- A slice of ints reads as zs and lies below block B. -/
def RowI (w : World) (B : Nat) (A : Option Addr) (zs : List Int) : Prop :=
  0 < zs.length → ∃ b off, A = some ⟨b, off, none⟩ ∧ b < B ∧ ∀ j, j < zs.length → w.cell? ⟨b, off + j, none⟩ = some (.int .i64 (zs.getD j 0))
theorem RowI.at_ {w : World} {B : Nat} {A : Option Addr} {zs : List Int} (h : RowI w B A zs) {j : Nat} (hj : j < zs.length) : ∃ b off, A = some ⟨b, off, none⟩ ∧ w.cell? ⟨b, off + j, none⟩ = some (.int .i64 (zs.getD j 0)) := by
  obtain ⟨b, off, e, _, hc⟩ := h (by omega)
  exact ⟨b, off, e, hc j hj⟩
theorem RowI.below {w w' : World} {B : Nat} {A : Option Addr} {zs : List Int} (h : RowI w B A zs) (hb : Below B w w') : RowI w' B A zs := fun hl => by
  obtain ⟨b, off, e, hlt, hc⟩ := h hl
  exact ⟨b, off, e, hlt, fun j hj => (hb.cell (p := ⟨b, off + j, none⟩) hlt).trans (hc j hj)⟩
theorem came_ints {w : World} {A : Option Addr} {len cap : Nat} {zs : List Int} (h : IsRow .i64 w A len cap zs) : ∃ l : List Int, len = l.length ∧ len ≤ maxLen ∧ RowI w w.heap.size A l := by
  rcases h with ⟨rfl, rfl, rfl, rfl⟩ | ⟨x, rfl, h1, h2, h3, h4, _⟩
  · exact ⟨[], rfl, Nat.zero_le _, fun h => absurd h (by simp)⟩
  · refine ⟨zs.take len, by simp; omega, by omega, fun hp => ?_⟩
    rw [List.length_take] at hp
    obtain ⟨b, off, rfl, hc⟩ := ints_at h4 (by omega)
    refine ⟨b, off, rfl, World.block_lt_of_cell? w ⟨b, off + 0, none⟩ (hc 0 (by omega)), fun j hj => ?_⟩
    rw [List.length_take] at hj
    rw [hc j (by omega)]
    simp [show j < len by omega]

set_option maxRecDepth 100000 in
set_option maxHeartbeats 2000000 in
theorem small (A : Option Addr) (c : Nat) (zs : List Int) (s : ByteArray) (more : Int) (w : World) (hz : zs.length ≤ 40) (hs : s.size ≤ 100) (hmore : more ≤ 9223372036854775807) (hr : RowI w w.heap.size A zs) :
    Calls Try.prog 6 #[.slice A zs.length c, .string s, .int .i64 more] w fun e w' => e = .returned (.bool true) ∧ Below w.heap.size w w' := by
  have hd1 : decide ((40 : Int) < (zs.length : Int)) = false := by simp; omega
  have hd2 : decide ((100 : Int) < (s.size : Int)) = false := by simp; omega
  have HR := Lib.hid hr; clear hr
  go_enter Try.func6, Try.ntmps6
  go_wp2_with fail
  refine (fit_any _).mono ?_
  rintro e w1 ⟨rfl, hb⟩
  have hz1 := hb.size
  have HB := Lib.hid hb; clear hb
  go_wp2
  go_loopw [7, 25] (fun v i wr => ∃ k : Nat, k ≤ zs.length ∧ i = .int .i64 k ∧ Own wr w1.heap.size v (VM.encs (ys (zs.take k))) ∧ Below w1.heap.size w1 wr)
    (fun _ i _ => zs.length - (intOf i).toNat)
  case atStart => exact ⟨0, Nat.zero_le _, rfl, by simpa [ys, VM.encs] using Own.nil _ _, Below.refl _ _⟩
  case round =>
    obtain ⟨k, hk, rfl, ho, hbr⟩ := hrel
    have HO := Lib.hid ho; have HBR := Lib.hid hbr
    have hzr := hbr.size
    clear ho hbr
    by_cases hlt : k < zs.length
    · obtain ⟨b, off, rfl, hcell⟩ := (HR.out.below (HB.out.trans (HBR.out.mono hz1))).at_ hlt
      have HT := Lib.hid (ys_take zs hlt)
      have HLE := Lib.hid (encs_ys (zs.take k) (by rw [List.length_take]; omega))
      have hmr := msk_range (zs.getD k 0)
      generalize zs.getD k 0 = z at *
      go_wp2_with fail
      refine (put_fresh _ _ _ wr w1.heap.size hmr.1 (by omega) (by have := HLE.out; omega) HO.out hzr).mono ?_
      rintro e w2 ⟨v', rfl, ho1, hb1⟩
      have HO1 := Lib.hid ho1; have HB1 := Lib.hid hb1
      clear ho1 hb1
      go_wp2
      go_roundw
      case rel => exact ⟨k + 1, by omega, by go_num, by rw [HT.out, VM.encs_append, VM.encs_one]; exact HO1.out, HBR.out.trans HB1.out⟩
      case measure => simp [intOf]; omega
    · obtain rfl : k = zs.length := by omega
      have ho2 := HO.out
      rw [List.take_length] at ho2
      have HO2 := Lib.hid ho2; clear ho2 HO
      have HLE := Lib.hid (encs_ys zs hz)
      go_wp2_with fail
      refine (putText_any _ _ s wr w1.heap.size (by omega) (by have := HLE.out; omega) HO2.out hzr).mono ?_
      rintro e w2 ⟨v2, rfl, ho3, hb3⟩
      obtain ⟨A3, c3, hv3, _, _, hA3, hr3⟩ := ho3.form
      rw [hv3]
      have HB3 := Lib.hid (HB.out.trans ((HBR.out.trans hb3).mono hz1))
      have hzz := HB3.out.size
      have hT : textOf (VM.enc s.size ++ sb s) false 100 = (sb s, [], false) := by
        have := textOf_enc (sb s) [] false 100 (by rw [sb_len]; omega)
        rw [sb_len, List.append_nil, if_neg (by omega)] at this
        exact this
      have htl : VM.enc s.size ++ sb s ≠ [] := by
        intro h
        have h := congrArg List.length h
        have := VM.enc_pos s.size
        rw [List.length_append, List.length_nil] at h
        omega
      have hlb : ∀ x ∈ VM.enc s.size ++ sb s, x < 256 := fun x hx => (List.mem_append.1 hx).elim (VM.enc_byte _ x) (sb_byte s x)
      have hll : (VM.enc s.size ++ sb s).length ≤ 200 := by
        have := VM.enc_len64 (n := s.size) (by omega)
        rw [List.length_append, sb_len]; omega
      rw [List.append_assoc] at hr3 ⊢
      generalize VM.enc s.size ++ sb s = T at *
      have hel : (VM.encs (ys zs) ++ T).length ≤ 1000 := by rw [List.length_append]; have := HLE.out; omega
      have heb : ∀ x ∈ VM.encs (ys zs) ++ T, x < 256 := fun x hx => (List.mem_append.1 hx).elim (VM.encs_byte _ x) (hlb x)
      have heq : VM.encs (ys (zs.drop 0)) ++ T = VM.encs (ys zs) ++ T := by rw [List.drop_zero]
      generalize VM.encs (ys zs) ++ T = L at *
      have HT := Lib.hid hT; have HTL := Lib.hid htl; have HEB := Lib.hid heb; have HEQ := Lib.hid heq; have HR3 := Lib.hid hr3; have HA3 := Lib.hid hA3
      clear hT htl hlb heb heq hr3 hA3 hv3 ho3 hb3 HO2 HLE
      go_wp2_with fail
      refine (of_any w2 A3 L c3 _ HR3.out HA3.out (by omega) HEB.out).mono ?_
      rintro e w3 ⟨g, rfl, hg, hrd, hb4⟩
      have hrd' : Rd w3 g (VM.encs (ys (zs.drop 0)) ++ T) false := by rw [HEQ.out]; exact hrd
      have HB4 := Lib.hid (HB3.out.trans (hb4.mono hzz)); have HRD := Lib.hid hrd'
      have hgw : w.heap.size ≤ g := by omega
      clear hrd hrd' hb4 hg
      go_wp2
      go_loopw [43] (fun i wr => ∃ k : Nat, k ≤ zs.length ∧ i = .int .i64 k ∧ Rd wr g (VM.encs (ys (zs.drop k)) ++ T) false ∧ Below w.heap.size w wr)
        (fun i _ => zs.length - (intOf i).toNat)
      case atStart => exact ⟨0, Nat.zero_le _, rfl, HRD.out, HB4.out⟩
      case round =>
        obtain ⟨k, hk, rfl, hrd, hbr⟩ := hrel
        have hzr2 := hbr.size
        have HRDk := Lib.hid hrd; have HBRk := Lib.hid hbr
        clear hrd hbr
        by_cases hlt : k < zs.length
        · obtain ⟨b, off, rfl, hcell⟩ := (HR.out.below HBRk.out).at_ hlt
          have hdr := ys_drop zs hlt
          have hmr := msk_range (zs.getD k 0)
          generalize zs.getD k 0 = z at *
          have hN : numOf (VM.encs (ys (zs.drop k)) ++ T) false (lim 0) = ((bits .and .i64 z 4611686018427387903).toNat, VM.encs (ys (zs.drop (k + 1))) ++ T, false) := by
            rw [hdr, VM.encs_cons, List.append_assoc, numOf_enc _ _ _ _ (by unfold msk; omega), if_neg (by unfold lim msk; rw [if_pos (by omega)]; omega)]
            rfl
          have HN := Lib.hid hN
          clear hN hdr
          go_wp2_with fail
          refine (num_any _ g _ false 0 (by omega) HRDk.out).mono ?_
          rintro e w5 ⟨rfl, hrd, hon⟩
          rw [HN.out] at hrd ⊢
          dsimp only at hrd ⊢
          rw [Int.toNat_of_nonneg hmr.1]
          have HRD5 := Lib.hid hrd
          have HB5 := Lib.hid (HBRk.out.trans (only_below hon hgw hzr2))
          clear hrd hon
          go_wp2
          go_roundw
          case rel => exact ⟨k + 1, by omega, by go_num, HRD5.out, HB5.out⟩
          case measure => simp [intOf]; omega
        · obtain rfl : k = zs.length := by omega
          have hrd := HRDk.out
          rw [List.drop_length] at hrd
          change Rd _ g T false at hrd
          have HRDT := Lib.hid hrd
          clear hrd HRDk
          have hte : T.isEmpty = false := by have := HTL.out; cases T <;> simp_all
          have HTE := Lib.hid hte; clear hte
          go_wp2_with fail
          refine (good_any _ g T false HRDT.out).mono ?_
          rintro e w5 ⟨rfl, rfl⟩
          go_wp2_with fail
          refine (done_any _ g T false HRDT.out).mono ?_
          rintro e w5 ⟨rfl, rfl⟩
          rw [HTE.out]
          go_wp2_with fail
          refine (text_any _ g T false 100 (by omega) HRDT.out).mono ?_
          rintro e w5 ⟨rfl, hrd, hon⟩
          rw [show (100 : Int).toNat = 100 from rfl, HT.out] at hrd ⊢
          dsimp only at hrd ⊢
          rw [str_sb]
          have HR5 := Lib.hid hrd; have HB5 := Lib.hid (HBRk.out.trans (only_below hon hgw hzr2))
          clear hrd hon
          go_wp2_with fail
          refine (done_any _ g [] false HR5.out).mono ?_
          rintro e w6 ⟨rfl, rfl⟩
          go_wp2_with fail
          refine (num_any _ g [] false 0 (by omega) HR5.out).mono ?_
          rintro e w6 ⟨rfl, hrd, hon⟩
          rw [numOf_nil] at hrd ⊢
          dsimp only at hrd ⊢
          have HR6 := Lib.hid hrd; have HB6 := Lib.hid (HB5.out.trans (only_below hon hgw HB5.out.size))
          clear hrd hon
          go_wp2_with fail
          refine (good_any _ g [] true HR6.out).mono ?_
          rintro e w7 ⟨rfl, rfl⟩
          go_wp2_with fail
          refine (done_any _ g [] true HR6.out).mono ?_
          rintro e w7 ⟨rfl, rfl⟩
          go_wp2_with fail
          refine (text_any _ g [] true 5 (by omega) HR6.out).mono ?_
          rintro e w7 ⟨rfl, hrd, hon⟩
          rw [textOf_nil] at hrd ⊢
          dsimp only at hrd ⊢
          rw [show str [] = ByteArray.empty from rfl]
          have HR7 := Lib.hid hrd; have HB7 := Lib.hid (HB6.out.trans (only_below hon hgw HB6.out.size))
          clear hrd hon
          go_wp2_with fail
          refine (num_any _ g [] true more hmore HR7.out).mono ?_
          rintro e w8 ⟨rfl, hrd, hon⟩
          rw [numOf_nil] at hrd ⊢
          dsimp only at hrd ⊢
          have HR8 := Lib.hid hrd; have HB8 := Lib.hid (HB7.out.trans (only_below hon hgw HB7.out.size))
          clear hrd hon
          go_wp2_with fail
          refine (text_any _ g [] true more hmore HR8.out).mono ?_
          rintro e w9 ⟨rfl, hrd, hon⟩
          rw [textOf_nil] at hrd ⊢
          dsimp only at hrd ⊢
          rw [show str [] = ByteArray.empty from rfl]
          have HB9 := Lib.hid (HB8.out.trans (only_below hon hgw HB8.out.size))
          clear hrd hon
          go_wp2
          go_ret
          exact ⟨rfl, HB9.out⟩

set_option maxRecDepth 100000 in
theorem long (A : Option Addr) (len c : Nat) (s : ByteArray) (more : Int) (w : World) (hz : len ≤ 9223372036854775807) (hs : s.size ≤ 9223372036854775807) (h : 40 < len ∨ 100 < s.size) :
    Calls Try.prog 6 #[.slice A len c, .string s, .int .i64 more] w fun e w' => e = .returned (.bool true) ∧ Below w.heap.size w w' := by
  by_cases h2 : 40 < len
  · have hd : decide ((40 : Int) < (len : Int)) = true := by simp; omega
    clear h
    go_enter Try.func6, Try.ntmps6
    go_wp2_with fail
    refine (fit_any _).mono ?_
    rintro e w1 ⟨rfl, hb⟩
    have HB := Lib.hid hb; clear hb
    go_wp2
    go_ret
    exact ⟨rfl, HB.out⟩
  · have hd : decide ((40 : Int) < (len : Int)) = false := by simp; omega
    have h3 : 100 < s.size := by omega
    have hd2 : decide ((100 : Int) < (s.size : Int)) = true := by simp; omega
    clear h
    go_enter Try.func6, Try.ntmps6
    go_wp2_with fail
    refine (fit_any _).mono ?_
    rintro e w1 ⟨rfl, hb⟩
    have HB := Lib.hid hb; clear hb
    go_wp2
    go_ret
    exact ⟨rfl, HB.out⟩

theorem walk (a0 : Option Addr) (len0 cap0 : Nat) (z0 : List Int) (a1 : ByteArray) (a2 : Int) (w : World) (w0 : IsRow .i64 w a0 len0 cap0 z0) (w1 : a1.size ≤ maxLen) (w2 : (Lit.int .i64 a2).wf = true) :
    Calls Try.prog 6 #[.slice a0 len0 cap0, .string a1, .int .i64 a2] w fun e w' => e = .returned (.bool true) ∧ Below w.heap.size w w' := by
  obtain ⟨zs, rfl, hm, hr⟩ := came_ints w0
  have hb := bounds_i64 w2
  by_cases h : 40 < zs.length ∨ 100 < a1.size
  · exact long a0 _ cap0 a1 a2 w (by unfold maxLen at hm; omega) (by unfold maxLen at w1; omega) h
  · exact small a0 cap0 zs a1 a2 w (by omega) (by omega) hb.2 hr

theorem own : ownKnob Try.prog.godebug = none := by kernel_rfl
theorem laidOut : laidOutB Try.prog = true := by kernel_rfl

set_option maxRecDepth 100000 in
theorem lifted (os : Os) (started : os.Started) (H : Type) (enc : TypeId × Value → H) :
    ReturnsInHanded {} Try.checked os 6 .any (Rows.varyReadsSpec.pre6 enc Try.prog Try.f6 Rows.varyReadsRow.domain false) (Rows.varyReadsSpec.post enc Try.prog Try.f6 false true false false) := by
  refine returnsInHanded_of_change (C := Try.checked) own started (by kernel_rfl) Try.func6
    (ChangeSpec.witness6 (enc := enc) (C := Try.checked) false ⟨#[], #[.slice none 0 0, .string ByteArray.empty, .int .i64 0], []⟩ 8 (by kernel_rfl) (by kernel_rfl) (by kernel_rfl) (by kernel_rfl)) ?_
  intro W base args ds gs before hval0 hW hcnd _
  have hval : ∀ (j : Nat) t v, Try.f6.params[j]? = some t → args[j]? = some v → Value.okWide Try.prog W .any base t v := hval0
  have hW' := hW
  obtain ⟨p, q, hA0, hV, rfl, hfz, hnd⟩ := hW
  have hA : DataW.TrodAll enc Try.prog W 0 (fun _ => true) true Try.f6.params.toList args.toList ds p := hA0
  rw [Try.params6] at hA hval
  obtain ⟨v0, vs0, d0, ds0, p0, q0, hargs, rfl, rfl, h0, r0⟩ := trodAll_cons hA
  obtain ⟨v1, vs1, d1, ds1, p1, q1, rfl, rfl, rfl, h1, r1⟩ := trodAll_cons r0
  obtain ⟨v2, vs2, d2, ds2, p2, q2, rfl, rfl, rfl, h2, r2⟩ := trodAll_cons r1
  obtain ⟨rfl, rfl, rfl⟩ := trodAll_nil r2
  obtain rfl : args = #[v0, v1, v2] := by cases args; simp_all
  obtain ⟨rfl, rfl⟩ := trodVars_none hV
  obtain ⟨a0, len0, cap0, rfl⟩ := okWide_slice Try.underlying34 (hval 0 34 v0 rfl rfl)
  have k0 := h0
  have lt0 : ∀ x ∈ p0, x.block < W.heap.size := by obtain ⟨m, hm⟩ := k0; exact DataW.trod_lt m _ _ _ hm
  obtain ⟨z0, w0⟩ : ∃ zs, IsRow .i64 W a0 len0 cap0 zs := by
    obtain ⟨fuel, hf⟩ := h0
    rcases open_ints Try.underlying34 Try.underlying3 (by kernel_rfl) hf with ⟨hcs, _⟩ | ⟨x, l, c, zs, hcs, _, hl, hm, hz, _, hcell, hwz⟩
    · simp [Value.cells] at hcs
      obtain ⟨rfl, rfl, rfl⟩ := hcs
      exact ⟨[], .inl ⟨rfl, rfl, rfl, rfl⟩⟩
    · simp [Value.cells] at hcs
      obtain ⟨rfl, rfl, rfl⟩ := hcs
      exact ⟨zs, .inr ⟨_, rfl, hl, hm, by simpa using hz, hcell, hwz⟩⟩
  obtain ⟨a1, rfl, rfl, rfl, w1⟩ := open_string Try.underlying9 (hval 1 9 v1 rfl rfl) h1
  obtain ⟨a2, rfl, rfl, rfl, w2⟩ := open_int Try.underlying3 (hval 2 3 v2 rfl rfl) h2
  clear hA0 hval0
  refine (walk a0 len0 cap0 z0 a1 a2 W w0 w1 w2).mono fun e W' ⟨he, bel⟩ => ?_
  subst he
  exact ⟨_, rfl, _, _, _, [], _, [], hW', trodAll_mk1 (shut_bool Try.underlying4 _), (trodAll_cons_mk (Below.trod laidOut (by kernel_rfl) (of_decide_eq_true (by kernel_rfl)) k0 bel lt0) (trodAll_cons_mk (shut_string Try.underlying9 w1) (trodAll_cons_mk (shut_int Try.underlying3 w2) trodAll_mk0))), rfl, bel.frame _, fun h => by cases h⟩

theorem over : Rows.varyReadsRow.holds Try.pinned (OpenSpec.ofChange Rows.varyReadsSpec) :=
  OpenClaim.holds_of_wide 6 Try.f6 rfl rfl rfl rfl rfl rfl rfl ⟨rfl, rfl, rfl, rfl, rfl⟩ rfl rfl rfl rfl rfl (by kernel_rfl) Try.func6 (by kernel_rfl)
    (of_decide_eq_true (by kernel_rfl)) (by unfold Func.isWrapper; first | (rw [if_pos (by decide +kernel)]; kernel_rfl) | (rw [if_neg (by decide +kernel)]; exact ⟨rfl, rfl⟩))
    (fun os started H enc _ => lifted os started H enc)

end Go.Proofs.Ytapabeahgciikaa.varyReads
namespace Go.Proofs.Ytapabeahgciikaa
theorem varyReads_holds : Rows.VaryReadsSaid := varyReads.over
end Go.Proofs.Ytapabeahgciikaa
