/-
  CastSpoils' walk: a text that was exported, and then spoilt in one place, is that of another list, or of none.
-/
import Derived.Test.YtciogdhapogolaaDoorAFit
import Derived.Test.YtciogdhapogolaaDoorAImp
import Derived.Test.YtciogdhapogolaaDoorAWrite
import Derived.Test.YtciogdhapogolaaDoorETame
import Derived.Test.YtciogdhapogolaaDoorERList
import Derived.Lib.ConvBytes
set_option linter.unusedVariables false
namespace Go.Proofs.YtciogdhapogolaaDoor.castSpoils
open Go.RowKit Go.Lib EM
set_option maxRecDepth 100000

/-- A block that reads as these bytes, and may be changed. -/
def Bytes (w : World) (g : Nat) (l : List UInt8) : Prop := ∀ j, j < l.length → w.cell? ⟨g, j, none⟩ = some (.int .u8 (l.getD j 0).toNat) ∧ w.frozen? ⟨g, j, none⟩ = false
theorem Bytes.below {w w' : World} {g : Nat} {l : List UInt8} (h : Bytes w g l) (hb : Below w.heap.size w w') (hg : g < w.heap.size) : Bytes w' g l := fun j hj => by
  obtain ⟨h1, h2⟩ := h j hj
  refine ⟨(hb.cell (p := ⟨g, j, none⟩) hg).trans h1, ?_⟩
  have e := hb.block g hg
  unfold World.frozen? at h2 ⊢
  rw [e]
  exact h2
theorem run_bytes (w : World) (l : List UInt8) : ∃ cap W, (convert 9 37 (.string (tx l))).run Tryd.prog w = .ok (.slice (some ⟨w.heap.size, 0, none⟩) l.length cap) W ∧ Below w.heap.size w W ∧ w.heap.size < W.heap.size ∧ Bytes W w.heap.size l := by
  have key := Go.Lib.run_convert_string_bytes (P := Tryd.prog) w 9 37 5 (tx l) Tryd.underlying9 Tryd.underlying37 Tryd.underlying5
  rw [tx_size] at key
  refine ⟨_, _, key, ⟨rfl, rfl, rfl, by rw [bytesWorld_size]; omega, fun j hj => bytesWorld_at_old w _ _ j hj⟩, by rw [bytesWorld_size]; omega, fun j hj => ?_⟩
  refine ⟨?_, ?_⟩
  · have := bytesWorld_cell w 5 (tx l) j (by rw [tx_size]; exact hj)
    rw [tx_list] at this
    exact this
  · have hsz : l.length ≤ (bytesCells w 5 (tx l)).size := by
      unfold bytesCells
      rw [Array.size_append, Array.size_map]
      have : (tx l).data.size = l.length := by simp
      omega
    simp [World.frozen?, bytesWorld_at_new]
    omega
theorem run_text (w : World) (g cap : Nat) (l : List UInt8) (h : Bytes w g l) : (convert 37 9 (.slice (some ⟨g, 0, none⟩) l.length cap)).run Tryd.prog w = .ok (.string (tx l)) w := by
  refine run_convert_bytes_back w 37 9 5 ⟨g, 0, none⟩ cap l Tryd.underlying37 Tryd.underlying5 Tryd.underlying9 (fun j hj => ?_)
  have e : (⟨g, 0, none⟩ : Addr).add j = ⟨g, j, none⟩ := by unfold Addr.add; split <;> simp_all
  rw [e, (h j hj).1, List.getD_eq_getElem?_getD, List.getElem?_eq_getElem hj]
  rfl
theorem Bytes.set {w : World} {g : Nat} {l : List UInt8} (h : Bytes w g l) {i : Nat} (hi : i < l.length) (b : UInt8) : Bytes (w.setCell ⟨g, i, none⟩ (.int .u8 b.toNat)) g (l.set i b) := fun j hj => by
  rw [List.length_set] at hj
  obtain ⟨h1, h2⟩ := h j hj
  have hc := (h i hi).1
  refine ⟨?_, ?_⟩
  · by_cases e : i = j
    · subst e
      have e2 : (l.set i b).getD i 0 = b := by rw [List.getD_eq_getElem?_getD, List.getElem?_set_self hi]; rfl
      rw [e2]
      exact World.cell?_setCell_same (h := hc) ..
    · have e2 : (l.set i b).getD j 0 = l.getD j 0 := by rw [List.getD_eq_getElem?_getD, List.getElem?_set_ne e, ← List.getD_eq_getElem?_getD]
      rw [e2, ← h1]
      exact World.cell?_setCell_other (h := by intro c; injection c with _ c _; exact e c) ..
  · rw [← h2]
    simp
theorem and24 (n : Int) : bits .and .i64 n 16777215 = n % 16777216 := by
  have h127 : (BitVec.ofInt 64 16777215).toNat = 2 ^ 24 - 1 := by decide
  have key : (BitVec.ofInt 64 n &&& BitVec.ofInt 64 16777215).toNat = (n % ((2 ^ 64 : Nat) : Int)).toNat % 2 ^ 24 := by
    rw [BitVec.toNat_and, BitVec.toNat_ofInt, h127, Nat.and_two_pow_sub_one_eq_mod]
  show IntKind.i64.wrap ((BitVec.ofInt 64 n &&& BitVec.ofInt 64 16777215).toNat : Nat) = n % 16777216
  rw [key, IntKind.wrap_i64]
  omega
theorem xor_byte (a : UInt8) (t : Int) (h0 : 0 ≤ t) (h1 : t < 256) : bits .xor .u8 (a.toNat : Int) t = ((UInt8.ofNat (a.toNat ^^^ t.toNat)).toNat : Nat) := by
  obtain ⟨n, rfl⟩ : ∃ n : Nat, t = n := ⟨t.toNat, by omega⟩
  have hn : n < 256 := by omega
  have ha := a.toNat_lt
  have hx : a.toNat ^^^ n < 256 := Nat.xor_lt_two_pow (n := 8) ha hn
  rw [u8_xor_nat _ _ ha hn, Int.toNat_natCast, JM.ofNat_toNat hx]

theorem big (A : Option Addr) (n c : Nat) (at_ t : Int) (w : World) (h : 30 < n) (hF : Fms w) :
    Calls Tryd.prog 6 #[.slice A n c, .int .i64 at_, .int .u8 t] w fun e w' => e = .returned (.bool true) ∧ Below w.heap.size w w' := by
  have g : decide ((30 : Int) < (n : Int)) = true := by simp; omega
  have HF := Lib.hid (afit_ok w hF)
  clear h hF
  go_enter Tryd.func6, Tryd.ntmps6
  go_wp2_with fail
  refine HF.out.mono ?_
  rintro e w1 ⟨rfl, b1⟩
  have HB1 := Lib.hid b1
  clear b1
  go_wp2_with fail
  go_ret
  exact ⟨rfl, HB1.out⟩

set_option maxHeartbeats 4000000 in
theorem core (HIMP : ImpSpec) (A : Option Addr) (c : Nat) (l : List Ev) (at_ t : Int) (w : World) (hl : l.length ≤ 30) (ht0 : 0 ≤ t) (ht1 : t < 256) (hr : evE.Row w w.heap.size A l) (hF : Fms w) (hN : Num w) (hU : Utf w) :
    Calls Tryd.prog 6 #[.slice A l.length c, .int .i64 at_, .int .u8 t] w fun e w' => e = .returned (.bool true) ∧ Below w.heap.size w w' := by
  have g : decide ((30 : Int) < (l.length : Int)) = false := by simp; omega
  have HFit := Lib.hid (afit_ok w hF)
  have HIS := Lib.hid HIMP
  have HF := Lib.hid hF
  have HN := Lib.hid hN
  have HU := Lib.hid hU
  have HR := Lib.hid hr
  have HLB := Lib.hid (tameL_list l 0 (Int.le_refl _) (by omega))
  have hlen : (tameL 0 l).length ≤ 30 := by rw [tameL_len]; exact hl
  clear hr hF hN hU HIMP
  go_enter Tryd.func6, Tryd.ntmps6
  go_wp2_with fail
  refine HFit.out.mono ?_
  rintro e wf ⟨rfl, b1⟩
  have HBF := Lib.hid b1
  have hzf := b1.size
  clear b1 HFit
  have HTA := Lib.hid (tame_ok wf l A c w.heap.size (HR.out.below HBF.out) hzf (by omega))
  go_wp2_with fail
  refine HTA.out.mono ?_
  rintro e wt ⟨v, rfl, ho, hbt⟩
  obtain ⟨AL, cL, hv, -, -, -, hrL⟩ := ho.row
  subst hv
  have HBT := Lib.hid (below_next HBF.out hbt)
  have HFT := Lib.hid (HF.out.on HBT.out)
  clear ho hbt HTA
  generalize tameL 0 l = L at *
  have HE := Lib.hid (export_ok wt 80 24 (by omega) (by omega) (by omega) (by omega) HFT.out L AL cL wt.heap.size hrL (Nat.le_refl _) (by omega) (AM.listB_right HLB.out))
  have hSl : (AM.castB (80 : Int).toNat (24 : Int).toNat L).length ≤ 200000 := by
    have h1 := AM.lines_len _ (AM.listB_right HLB.out)
    have h2 := AM.dec_len (80 : Int).toNat (by decide)
    have h3 := AM.dec_len (24 : Int).toNat (by decide)
    unfold AM.castB AM.headB AM.pA AM.pB
    simp only [List.length_append, List.length_cons, List.length_nil]
    omega
  have hSp : 0 < (AM.castB (80 : Int).toNat (24 : Int).toNat L).length := by
    obtain ⟨r, hr⟩ := AM.last_cast (80 : Int).toNat (24 : Int).toNat L
    rw [hr, List.length_append, List.length_singleton]; omega
  clear hrL
  generalize AM.castB (80 : Int).toNat (24 : Int).toNat L = S at *
  go_wp2_with fail
  refine HE.out.mono ?_
  rintro e we ⟨rfl, bE⟩
  have HBE := Lib.hid (below_next HBT.out bE)
  clear bE HE
  obtain ⟨cap, W, hconv, hbW, hltW, hBy⟩ := run_bytes we S
  have HBW := Lib.hid (HBE.out.trans (hbW.mono HBE.out.size))
  have hzE := HBE.out.size
  have HBY := Lib.hid hBy
  obtain ⟨q, hq⟩ : ∃ q : Nat, (q : Int) = at_ % 16777216 := ⟨(at_ % 16777216).toNat, by omega⟩
  have hx := and24 at_
  rw [← hq] at hx
  obtain ⟨i, hil, hi⟩ : ∃ i : Nat, i < S.length ∧ (q : Int) % (S.length : Int) = (i : Int) := ⟨q % S.length, Nat.mod_lt _ hSp, by push_cast; rfl⟩
  clear hq
  obtain ⟨hcell, hfz⟩ := hBy i hil
  have hxor := xor_byte (S.getD i 0) t ht0 ht1
  have HST := Lib.hid (HBY.out.set hil (UInt8.ofNat ((S.getD i 0).toNat ^^^ t.toNat)))
  obtain ⟨z, hz⟩ : ∃ z : Int, z = ((UInt8.ofNat ((S.getD i 0).toNat ^^^ t.toNat)).toNat : Nat) := ⟨_, rfl⟩
  rw [← hz] at hxor HST
  obtain ⟨y, hy⟩ : ∃ y : Int, y = ((S.getD i 0).toNat : Nat) := ⟨_, rfl⟩
  rw [← hy] at hxor hcell
  clear hz hy hBy
  generalize UInt8.ofNat ((S.getD i 0).toNat ^^^ t.toNat) = nb at *
  have gi : decide ((i : Int) < (S.length : Int)) = true := by simp; omega
  have gi2 : decide (i < S.length) = true := by simp; omega
  have gz : ((S.length : Int) == 0) = false := by rw [beq_eq_false_iff_ne]; omega
  have HML := Lib.hid (show (S.set i nb).length = S.length from List.length_set)
  have hMl2 : (S.set i nb).length ≤ 200000 := by rw [List.length_set]; exact hSl
  generalize S.set i nb = M at *
  have HWS := Lib.hid (HBW.out.setCell (p := ⟨we.heap.size, i, none⟩) hzE (.int .u8 z))
  go_upto_region 8 with fail
  obtain ⟨V, hV⟩ : ∃ V, V = W.setCell ⟨we.heap.size, i, none⟩ (.int .u8 z) := ⟨_, rfl⟩
  rw [← hV] at HST HWS
  have hltV : we.heap.size < V.heap.size := by rw [hV]; simpa [World.setCell] using hltW
  have HV := Lib.hid hV
  have htext : (convert 37 9 (.slice (some ⟨we.heap.size, 0, none⟩) S.length cap)).run Tryd.prog V = .ok (.string (tx M)) V := by
    have := run_text V we.heap.size cap M HST.out
    rw [HML.out] at this
    exact this
  rw [← hV]
  have HFV := Lib.hid (HF.out.on HWS.out)
  clear hV hcell hfz hxor gi gi2 gz hconv hbW HBY hi hx
  cases hI : AM.imp M with
  | none =>
    have HI := Lib.hid (HIS.out.none (w := V) (by omega) HFV.out (HN.out.on HWS.out) (HU.out.on HWS.out) hI)
    clear hI
    go_wp2_with fail
    refine HI.out.mono ?_
    rintro e wi ⟨A', c', rfl, bI⟩
    have HB := Lib.hid (below_next HWS.out bI)
    clear bI HI htext
    go_wp2_with fail
    go_ret
    exact ⟨by simp, HB.out⟩
  | some p =>
    obtain ⟨x, y, l'⟩ := p
    have HI := Lib.hid (HIS.out.some (w := V) (by omega) HFV.out (HN.out.on HWS.out) (HU.out.on HWS.out) hI)
    obtain ⟨hcast, hlist, hutf, hx, hy⟩ := AM.imp_back hI
    have hll : l'.length ≤ 200000 := by
      have := AM.cast_ge x y l'
      rw [hcast] at this
      omega
    have HC := Lib.hid hcast
    have HL := Lib.hid hlist
    clear hI hcast hlist hutf
    go_wp2_with fail
    refine HI.out.mono ?_
    rintro e wi ⟨A', c', rfl, -, hrI, bI⟩
    have HB := Lib.hid (below_next HWS.out bI)
    have HFI := HF.out.on HB.out
    have HBy := HST.out.below bI hltV
    have hlti : we.heap.size < wi.heap.size := Nat.lt_of_lt_of_le hltV bI.size
    clear bI HI htext
    have hcv : ∀ u : Wd (Below wi.heap.size wi), (convert 37 9 (.slice (some ⟨we.heap.size, 0, none⟩) S.length cap)).run Tryd.prog u.w = .ok (.string (tx M)) u.w := fun u => by
      have := run_text u.w we.heap.size cap M (HBy.below u.h hlti)
      rw [HML.out] at this
      exact this
    have HLI : ∀ u : Wd (Below wi.heap.size wi), Calls Tryd.prog 15 #[.slice A' l'.length c'] u.w fun e w' => e = .returned (.bool true) ∧ ∃ u' : Wd (Below wi.heap.size wi), w' = u'.w := fun u => by
      have := rlist_ok u.w l' A' c' wi.heap.size (hrI.below u.h) u.h.size (by omega)
      rw [HL.out] at this
      exact this.mono fun e w' h => ⟨h.1, ⟨⟨w', below_next u.h h.2⟩, rfl⟩⟩
    have HWR : ∀ u : Wd (Below wi.heap.size wi), Calls Tryd.prog 14 #[.int .i64 (x : Int), .int .i64 (y : Int), .slice A' l'.length c'] u.w fun e w' => e = .returned (.string (tx M)) ∧ ∃ u' : Wd (Below wi.heap.size wi), w' = u'.w := fun u => by
      have := write_ok u.w x y (by omega) (by omega) (by omega) (by omega) (HFI.on u.h) l' A' c' wi.heap.size (hrI.below u.h) u.h.size (by omega) (fits_list HL.out)
      rw [Int.toNat_natCast, Int.toNat_natCast, HC.out] at this
      exact this.mono fun e w' h => ⟨h.1, ⟨⟨w', below_next u.h h.2⟩, rfl⟩⟩
    have HLI := Lib.hid HLI
    have HWR := Lib.hid HWR
    haveI : Nonempty (Wd (Below wi.heap.size wi)) := ⟨⟨wi, Below.refl _ _⟩⟩
    clear hrI HFI HBy
    go_upto_region 11 with fail
    refine region_in (Below wi.heap.size wi) (by kernel_rfl) (by kernel_rfl) (Below.refl _ _).drew ?_
    repeat (go_big_quiet_step (first | exact HWR.out _ | exact HLI.out _))
    refine wpQuiet_nil ?_
    rintro _ ⟨u, rfl⟩
    have HBu := Lib.hid (below_next HB.out u.h)
    clear hcv HWR HLI
    go_wp2_with fail
    go_ret
    exact ⟨by simp, HBu.out⟩
end Go.Proofs.YtciogdhapogolaaDoor.castSpoils
