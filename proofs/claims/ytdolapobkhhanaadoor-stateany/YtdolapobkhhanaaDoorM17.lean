/-
  SPutL, SPut, SDec, SFit, in one text.
-/
import Derived.Test.YtdolapobkhhanaaDoorM11
import Derived.Test.YtdolapobkhhanaaDoorM04
import Derived.Test.YtdolapobkhhanaaDoorM16
import Derived.Deep.WholeRow
/-
  Layer 11 (state): lines are put.
-/
namespace Go.Proofs.YtdolapobkhhanaaDoor
open Go.RowKit Go.Lib KM
set_option maxRecDepth 100000

theorem encLs_take (LL : List (List Cel)) (k : Nat) (hk : k < LL.length) : encLs (LL.take (k + 1)) = encLs (LL.take k) ++ runsB (runs LL[k]) := by
  rw [List.take_succ_eq_append_getElem hk]
  simp only [encLs, List.flatMap_append, List.flatMap_cons, List.flatMap_nil, List.append_nil]
theorem encLs_take_len (LL : List (List Cel)) (k : Nat) : (encLs (LL.take k)).length ≤ (encLs LL).length := by
  have : encLs LL = encLs (LL.take k) ++ encLs (LL.drop k) := by
    unfold encLs
    rw [← List.flatMap_append, List.take_append_drop]
  rw [this, List.length_append]
  omega
theorem encBk_take (LL : List (List Cel)) (k : Nat) (hk : k < LL.length) : encBk (LL.take (k + 1)) = encBk (LL.take k) ++ (VM.enc LL[k].length ++ runsB (runs LL[k])) := by
  rw [List.take_succ_eq_append_getElem hk]
  simp only [encBk, List.flatMap_append, List.flatMap_cons, List.flatMap_nil, List.append_nil]
theorem encBk_take_len (LL : List (List Cel)) (k : Nat) : (encBk (LL.take k)).length ≤ (encBk LL).length := by
  have : encBk LL = encBk (LL.take k) ++ encBk (LL.drop k) := by
    unfold encBk
    rw [← List.flatMap_append, List.take_append_drop]
  rw [this, List.length_append]
  omega
theorem linesBase {w w' : World} {base : Nat} {A : Option Addr} {LL : List (List Cel)} (h : LinesAt w (· < base) A LL) (hb : Below base w w') : LinesAt w' (· < base) A LL := h.keep (fun k _ hk => hb.block k hk) hb.size

set_option maxHeartbeats 1000000 in
theorem putLines_ok (v : Value) (xs : List Nat) (w : World) (base : Nat) (hown : Own w base v xs) (hbase : base ≤ w.heap.size) (A : Option Addr) (LL : List (List Cel)) (c : Nat) (hL : LinesAt w (· < base) A LL)
    (hl : LL.length ≤ 1000) (hf : ∀ x ∈ LL, x.length ≤ 1000 ∧ ∀ r ∈ runs x, Fine r) (hx : xs.length + (encLs LL).length ≤ 40000000) :
    Calls Tryd.prog 46 #[v, .slice A LL.length c] w fun e w' => ∃ v', e = .returned v' ∧ Own w' base v' (xs ++ encLs LL) ∧ Below base w w' := by
  have HL := Lib.hid hL
  have HO := Lib.hid hown
  have HF := Lib.hid hf
  have HTK := Lib.hid (encLs_take_len LL)
  clear hL hown hf
  go_enter Tryd.func46, Tryd.ntmps46
  go_wp2
  go_loopw [0, 9] (fun x i wr => ∃ k : Nat, k ≤ LL.length ∧ i = .int .i64 (k : Int) ∧ Own wr base x (xs ++ encLs (LL.take k)) ∧ Below base w wr) (fun _ i _ => LL.length - (RowKit.intOf i).toNat)
  case atStart => exact ⟨0, Nat.zero_le _, rfl, by simpa [encLs] using HO.out, Below.refl _ _⟩
  case round =>
    obtain ⟨k, hk, rfl, ho, hb⟩ := hrel
    have H1 := Lib.hid ho
    have H2 := Lib.hid hb
    have hz := hb.size
    clear ho hb
    by_cases hlt : k < LL.length
    · obtain ⟨b, off, rfl, hbb, _, hcell⟩ := (linesBase HL.out H2.out) (by omega)
      obtain ⟨A', c', hc, hrow, _, _⟩ := hcell k hlt
      obtain ⟨hxl, hfr⟩ := HF.out LL[k] (List.getElem_mem hlt)
      have HE := Lib.hid (encLs_take LL k hlt)
      have hlen := HTK.out k
      have g1 : decide ((k : Int) < (LL.length : Int)) = true := by simp; omega
      have gn : decide (k < LL.length) = true := by simp; omega
      have HP := Lib.hid (putLine_ok wr u0 (xs ++ encLs (LL.take k)) base LL[k] A' c' wr.heap.size H1.out (by omega) (by rw [List.length_append]; omega) hrow (Nat.le_refl _) hxl hfr)
      rw [List.append_assoc, ← HE.out] at HP
      have HB2 := Lib.hid (fun (w' : World) (h : Below base wr w') => H2.out.trans h)
      clear hrow hfr HE
      generalize LL[k].length = m at *
      go_wp2_with fail
      refine HP.out.mono ?_
      rintro e w1 ⟨v', rfl, ho1, hb1⟩
      have H3 := Lib.hid ho1
      have H4 := Lib.hid (HB2.out _ hb1)
      clear ho1 hb1
      go_wp2
      go_roundw
      case rel => exact ⟨k + 1, by omega, by simp, H3.out, H4.out⟩
      case measure => simp [RowKit.intOf]; omega
    · have hkn : k = LL.length := by omega
      have H5 := Lib.hid (show Own wr base u0 (xs ++ encLs LL) by have := H1.out; rwa [hkn, List.take_of_length_le (Nat.le_refl _)] at this)
      have g1 : decide ((k : Int) < (LL.length : Int)) = false := by simp; omega
      have gn : decide (k < LL.length) = false := by simp; omega
      clear hkn
      go_wp2
      go_ret
      exact ⟨u0, rfl, H5.out, H2.out⟩

/-- One number is put behind a row of the call's own. -/
theorem putNum1 (v : Value) (xs : List Nat) (n : Nat) (w : World) (base : Nat) (hn : n < 1000) (hx : xs.length ≤ 50000000) (hown : Own w base v xs) (hbase : base ≤ w.heap.size) :
    Calls Tryd.prog 42 #[v, .slice (some ⟨w.heap.size, 0, none⟩) 1 1] (w.alloc (.cells #[.int .i64 (n : Int)] 3)) fun e w' => ∃ v', e = .returned v' ∧ Own w' base v' (xs ++ VM.enc n) ∧ Below base w w' := by
  have hb : Below base w (w.alloc (.cells #[.int .i64 (n : Int)] 3)) := (Below.refl _ _).alloc hbase _
  refine (putNumbers_ok v xs _ base hx (hown.alloc _) (by simp; omega) (some ⟨w.heap.size, 0, none⟩) [n] 1 (w.heap.size + 1) (row_new w .i64 n _) (by simp) (by simp) (by simp; omega) (fun _ ad ha e => ?_)).mono ?_
  · injection ha with ha
    subst ha
    exact Nat.lt_irrefl _ (World.ownsRow.lt hown _ e.symm).2
  · rintro e w1 ⟨v', rfl, ho, hg⟩
    rw [VM.encs_one] at ho
    exact ⟨v', rfl, ho, hb.trans (hg.below (hown.alloc _) (by simp; omega))⟩

set_option maxHeartbeats 2000000 in
theorem putBack_ok (v : Value) (xs : List Nat) (w : World) (base : Nat) (hown : Own w base v xs) (hbase : base ≤ w.heap.size) (A : Option Addr) (LL : List (List Cel)) (c : Nat) (hL : LinesAt w (· < base) A LL)
    (hl : LL.length ≤ 100) (hf : ∀ x ∈ LL, x.length ≤ 100 ∧ ∀ r ∈ runs x, Fine r) (hx : xs.length + (encBk LL).length ≤ 40000000) :
    Calls Tryd.prog 47 #[v, .slice A LL.length c] w fun e w' => ∃ v', e = .returned v' ∧ Own w' base v' (xs ++ (VM.enc LL.length ++ encBk LL)) ∧ Below base w w' := by
  have HL := Lib.hid hL
  have HF := Lib.hid hf
  have HTK := Lib.hid (encBk_take_len LL)
  have HN0 := Lib.hid (putNum1 v xs LL.length w base (by omega) (by omega) hown hbase)
  have hel := VM.enc_len64 (n := LL.length) (by omega)
  have hxl : (xs ++ VM.enc LL.length).length + (encBk LL).length ≤ 40000010 := by rw [List.length_append]; omega
  clear hL hown hf
  rw [← List.append_assoc]
  generalize xs ++ VM.enc LL.length = ys at *
  go_enter Tryd.func47, Tryd.ntmps47
  go_wp2_with fail
  refine HN0.out.mono ?_
  rintro e w0 ⟨v0, rfl, ho0, hb0⟩
  have HO := Lib.hid ho0
  have HB0 := Lib.hid hb0
  have hz0 := hb0.size
  clear ho0 hb0
  go_wp2
  go_loopw [0, 14] (fun x i wr => ∃ k : Nat, k ≤ LL.length ∧ i = .int .i64 (k : Int) ∧ Own wr base x (ys ++ encBk (LL.take k)) ∧ Below base w wr) (fun _ i _ => LL.length - (RowKit.intOf i).toNat)
  case atStart => exact ⟨0, Nat.zero_le _, rfl, by simpa [encBk] using HO.out, HB0.out⟩
  case round =>
    obtain ⟨k, hk, rfl, ho, hb⟩ := hrel
    have H1 := Lib.hid ho
    have H2 := Lib.hid hb
    have hz := hb.size
    clear ho hb
    by_cases hlt : k < LL.length
    · obtain ⟨b, off, rfl, hbb, _, hcell⟩ := (linesBase HL.out H2.out) (by omega)
      have hlb : LinesAt wr (· < base) (some ⟨b, off, none⟩) LL := linesBase HL.out H2.out
      obtain ⟨A', c', hc, hrow, hnb, _⟩ := hcell k hlt
      obtain ⟨hxl', hfr⟩ := HF.out LL[k] (List.getElem_mem hlt)
      have HE := Lib.hid (encBk_take LL k hlt)
      have hlen := HTK.out k
      have hlen2 := HTK.out (k + 1)
      rw [HE.out] at hlen2
      simp only [List.length_append] at hlen2
      have g1 : decide ((k : Int) < (LL.length : Int)) = true := by simp; omega
      have gn : decide (k < LL.length) = true := by simp; omega
      have HP0 := Lib.hid (putNum1 u0 (ys ++ encBk (LL.take k)) LL[k].length wr base (by omega) (by rw [List.length_append]; omega) H1.out (by omega))
      have HP := Lib.hid (fun (w' : World) (v' : Value) (ho : Own w' base v' (ys ++ encBk (LL.take k) ++ VM.enc LL[k].length)) (hb : Below base wr w') => putLine_ok w' v' (ys ++ encBk (LL.take k) ++ VM.enc LL[k].length) base LL[k] A' c' wr.heap.size ho (by have := hb.size; omega) (by simp only [List.length_append] at *; omega)
        (by
          intro hp
          obtain ⟨b', off', e', hb', hc'⟩ := hrow hp
          have hnn : b' < base := hnb hp _ e'
          exact ⟨b', off', e', hb', fun j hj => (hb.cell (p := ⟨b', off' + j, none⟩) hnn).trans (hc' j hj)⟩) hb.size (by omega) hfr)
      have HB2 := Lib.hid (fun (w' : World) (h : Below base wr w') => H2.out.trans h)
      have HEQ := Lib.hid (show ys ++ encBk (LL.take k) ++ VM.enc LL[k].length ++ runsB (runs LL[k]) = ys ++ encBk (LL.take (k + 1)) by rw [HE.out]; simp only [List.append_assoc])
      clear hrow hfr HE hnb hlen2 hlb
      generalize LL[k].length = m at *
      go_wp2_with fail
      refine HP0.out.mono ?_
      rintro e w1 ⟨v1, rfl, ho1, hb1⟩
      have HQ := Lib.hid (HP.out _ _ ho1 hb1)
      rw [HEQ.out] at HQ
      have HB3 := Lib.hid hb1
      clear ho1 hb1
      go_wp2_with fail
      refine HQ.out.mono ?_
      rintro e w2 ⟨v2, rfl, ho2, hb2⟩
      have H3 := Lib.hid ho2
      have H4 := Lib.hid (HB2.out _ (HB3.out.trans hb2))
      clear ho2 hb2
      go_wp2
      go_roundw
      case rel => exact ⟨k + 1, by omega, by simp, H3.out, H4.out⟩
      case measure => simp [RowKit.intOf]; omega
    · have hkn : k = LL.length := by omega
      have H5 := Lib.hid (show Own wr base u0 (ys ++ encBk LL) by have := H1.out; rwa [hkn, List.take_of_length_le (Nat.le_refl _)] at this)
      have g1 : decide ((k : Int) < (LL.length : Int)) = false := by simp; omega
      have gn : decide (k < LL.length) = false := by simp; omega
      clear hkn
      go_wp2
      go_ret
      exact ⟨u0, rfl, H5.out, H2.out⟩
end Go.Proofs.YtdolapobkhhanaaDoor
/-
  Layer 11 (state): a terminal is put.
-/
namespace Go.Proofs.YtdolapobkhhanaaDoor
open Go.RowKit Go.Lib KM
set_option maxRecDepth 100000

theorem size8 : (Tryd.prog.info? 72).map (·.size) = some 8 := by kernel_rfl

theorem wpList_p60 {ops : Array Oper} {rest : List Oper} {o : Oper} {a : Act} {w : World} {c P : Array Value} {Q : Exit → Act → World → Prop} (hPs : P.size = 60) (hone : P.all (·.oneCell') = true) (hg : o.guard = none) (x y : Operand) (ho : o.op = .store 74 x y)
    (g : Nat) (hgz : g = w.heap.size) (hx : a.eval x = .pointer (some ⟨g, 0, none⟩)) (hy : a.eval y = .agg P) (hc : c.size = 60)
    (h : wpList Tryd.prog ops Q rest (a.put o.dst undef) (w.alloc (.cells P 74))) : wpList Tryd.prog ops Q (o :: rest) a (w.alloc (.cells c 74)) := by
  subst hgz
  refine wpList_store_row hg _ x y ho w.heap.size P hx hy 74 c (heap_alloc_last w _) (by rw [size60, hPs]) (by rw [hc, hPs]) hone ?_
  rw [World.setRow_alloc_new]
  exact h
theorem ptr_one {P : Array Value} {f : Nat → Addr} (hs : P.size = 60) (h : ∀ j, j < 60 → P[j]? = some (.pointer (some (f j)))) : P.all (·.oneCell') = true := Array.all_eq_true.2 fun i hi => by
  have := h i (by omega)
  rw [Array.getElem?_eq_getElem hi, Option.some.injEq] at this
  rw [this]; rfl
/-- The eight flags' pointers. -/
def modeA (p : Nat) : Array Value := #[.pointer (some ⟨p, 88, none⟩), .pointer (some ⟨p, 89, none⟩), .pointer (some ⟨p, 90, none⟩), .pointer (some ⟨p, 91, none⟩), .pointer (some ⟨p, 95, none⟩), .pointer (some ⟨p, 92, none⟩), .pointer (some ⟨p, 93, none⟩), .pointer (some ⟨p, 94, none⟩)]
theorem modeA_at (p k : Nat) (hk : k < 8) : (modeA p)[k]? = some (.pointer (some ⟨p, modeP k, none⟩)) := by
  rcases (by omega : k = 0 ∨ k = 1 ∨ k = 2 ∨ k = 3 ∨ k = 4 ∨ k = 5 ∨ k = 6 ∨ k = 7) with rfl | rfl | rfl | rfl | rfl | rfl | rfl | rfl <;> rfl

theorem encCs_take (l : List Cur) (k : Nat) (hk : k < l.length) : encCs (l.take (k + 1)) = encCs (l.take k) ++ encC l[k] := by
  rw [List.take_succ_eq_append_getElem hk]
  simp only [encCs, List.flatMap_append, List.flatMap_cons, List.flatMap_nil, List.append_nil]
theorem encCs_take_len (l : List Cur) (k : Nat) : (encCs (l.take k)).length ≤ (encCs l).length := by
  have : encCs l = encCs (l.take k) ++ encCs (l.drop k) := by
    unfold encCs
    rw [← List.flatMap_append, List.take_append_drop]
  rw [this, List.length_append]
  omega
theorem size_alloc (w : World) (o : Obj) : (w.alloc o).heap.size = w.heap.size + 1 := by simp
theorem run_four (w : World) (a b c d : Int) : (Instr.buildSlice 39 4 #[(0, .int .i64 a), (1, .int .i64 b), (2, .int .i64 c), (3, .int .i64 d)]).run Tryd.prog w = .ok (.slice (some ⟨w.heap.size, 0, none⟩) 4 4) (w.alloc (.cells #[.int .i64 a, .int .i64 b, .int .i64 c, .int .i64 d] 3)) := by kernel_rfl
theorem wp_build4 {o : Oper} {a : Act} {w : World} {K : Act → World → Prop} {Q : Exit → Act → World → Prop} (i0 i1 i2 i3 : Nat) (ho : o.op = .buildSlice 39 4 #[(0, .tmp i0), (1, .tmp i1), (2, .tmp i2), (3, .tmp i3)])
    (x0 x1 x2 x3 : Int) (h0 : a.eval (.tmp i0) = .int .i64 x0) (h1 : a.eval (.tmp i1) = .int .i64 x1) (h2 : a.eval (.tmp i2) = .int .i64 x2) (h3 : a.eval (.tmp i3) = .int .i64 x3)
    (h : K (a.put o.dst (.slice (some ⟨w.heap.size, 0, none⟩) 4 4)) (w.alloc (.cells #[.int .i64 x0, .int .i64 x1, .int .i64 x2, .int .i64 x3] 3))) : o.wp Tryd.prog a w K Q := by
  unfold Oper.wp execOp
  simp only [ho, Sem.run_bind, List.map_toArray, List.map_cons, List.map_nil, h0, h1, h2, h3, run_four w x0 x1 x2 x3, Result.andThen_ok]
  exact h
theorem row_four (w : World) (k : IntKind) (a b c d : Nat) (t : TypeId) : Row (w.alloc (.cells #[.int k (a : Int), .int k (b : Int), .int k (c : Int), .int k (d : Int)] t)) (w.heap.size + 1) k (some ⟨w.heap.size, 0, none⟩) [a, b, c, d] := fun _ => by
  refine ⟨w.heap.size, 0, rfl, by omega, fun j hj => ?_⟩
  rcases (by simp at hj; omega : j = 0 ∨ j = 1 ∨ j = 2 ∨ j = 3) with rfl | rfl | rfl | rfl <;> simp

set_option maxHeartbeats 4000000 in
theorem put_ok (w : World) (p gp op : Nat) (F O : List Nat) (BA : Option Addr) (bc : Nat) (PA : Option Addr) (pc : Nat) (t : Tm) (hB : TmB w p gp op F O (.slice BA t.bk.length bc) PA pc t) (hok : TmOk t)
    (hbk : LinesAt w (fun _ => True) BA t.bk) (hpr : Row w w.heap.size .i64 PA t.p.params) (hlen : (encT t).length ≤ 100000) :
    Calls Tryd.prog 24 #[.slice none 0 0, .pointer (some ⟨p, 0, none⟩)] w fun e w' => ∃ v', e = .returned v' ∧ Own w' w.heap.size v' (encT t) ∧ Below w.heap.size w w' := by
  have hz := zero60
  obtain ⟨Z, hZ⟩ : ∃ Z, Z = Array.replicate 60 (Value.pointer none) := ⟨_, rfl⟩
  have hZs : Z.size = 60 := by rw [hZ]; simp
  rw [← hZ] at hz
  clear hZ
  go_enter Tryd.func24, Tryd.ntmps24
  go_wp2_with fail
  refine (modes_ok w p).mono ?_
  rintro e w1 ⟨rfl, hb1⟩
  have HB1 := Lib.hid hb1
  clear hb1
  go_wp2_with fail
  refine (stops_ok w1 p).mono ?_
  rintro e w2 ⟨P, rfl, hPs, hPc, hb2⟩
  have HB2 := Lib.hid (HB1.out.trans (hb2.mono HB1.out.size))
  have HONE := Lib.hid (ptr_one hPs hPc)
  have HPC := Lib.hid hPc
  obtain ⟨w3, hw3⟩ : ∃ w3, w3 = (w2.alloc (.cells (modeA p) 72)).alloc (.cells P 74) := ⟨_, rfl⟩
  have W3 := Lib.hid hw3
  have hb3 : Below w2.heap.size w2 w3 := by rw [hw3]; exact ((Below.refl _ _).alloc (Nat.le_refl _) _).alloc (by simp) _
  obtain ⟨mb, hmb⟩ : ∃ mb, mb = w2.heap.size := ⟨_, rfl⟩
  have hz3 : w3.heap.size = mb + 2 := by rw [hw3, hmb]; simp
  have hm3 : w3.heap[mb]? = some (.cells (modeA p) 72 (0, 0)) := by rw [hw3, hmb, heap_alloc_old _ _ (by simp)]; exact heap_alloc_new w2 _
  have hs3 : w3.heap[mb + 1]? = some (.cells P 74 (0, 0)) := by rw [hw3, hmb]; have := heap_alloc_new (w2.alloc (.cells (modeA p) 72)) (.cells P 74); simpa using this
  have HB3 := Lib.hid (HB2.out.trans (hb3.mono HB2.out.size))
  have HM3 := Lib.hid hm3
  have HS3 := Lib.hid hs3
  have HWZ : w.heap.size ≤ mb := by rw [hmb]; exact HB2.out.size
  unfold modeA at W3
  clear hPc hb2 hw3 hb3 hm3 hs3
  go_upto_region 2 with (refine wpList_p60 hPs HONE.out rfl _ _ rfl _ (by simp) rfl rfl hZs ?_)
  rw [← W3.out, ← hmb]
  clear hmb hPs hZs hz W3 HB1 HB2 HONE
  -- from here on: base is the heap's size
  obtain ⟨base, hbs⟩ : ∃ b, b = w3.heap.size := ⟨_, rfl⟩
  have hmbB : mb + 2 = base := by rw [hbs, hz3]
  have hwB : w.heap.size < base := by omega
  obtain ⟨hcl, hsh, hoth, -⟩ := hB
  have hpB : p < base := by have := hcl.lt; omega
  obtain ⟨hb0, hc0, L0, hG0, hF0⟩ := hsh
  obtain ⟨hb1, hc1, L1, hG1, hF1⟩ := hoth
  have hgpB : gp < base := by have := hG0.lt gp (by simp [foot]); omega
  have hopB : op < base := by have := hG1.lt op (by simp [foot]); omega
  have hL0 : LinesAt w3 (· < base) (some ⟨hb0, 0, none⟩) t.ls := ((hG0.linesAt).below HB3.out).mono (fun k hk _ => by rw [hbs]; exact hk)
  have hL1 : LinesAt w3 (· < base) (some ⟨hb1, 0, none⟩) t.os := ((hG1.linesAt).below HB3.out).mono (fun k hk _ => by rw [hbs]; exact hk)
  have hLB : LinesAt w3 (· < base) BA t.bk := (hbk.below HB3.out).mono (fun k hk _ => by rw [hbs]; exact hk)
  have hn0 : L0.length = t.ls.length := hG0.len
  have hn1 : L1.length = t.os.length := hG1.len
  have hT3 : CellsF w3 p 43 108 (tmAt t gp op (.slice BA t.bk.length bc) PA pc) := hcl.below HB3.out hcl.lt
  have g00 : w3.cell? ⟨gp, 0, none⟩ = some (.int .i64 (t.w : Int)) := (HB3.out.cell (p := ⟨gp, 0, none⟩) (hG0.lt gp (by simp [foot]))).trans hG0.cell0
  have g01 : w3.cell? ⟨gp, 1, none⟩ = some (.int .i64 (t.h : Int)) := (HB3.out.cell (p := ⟨gp, 1, none⟩) (hG0.lt gp (by simp [foot]))).trans hG0.cell1
  have g02 : w3.cell? ⟨gp, 2, none⟩ = some (.slice (some ⟨hb0, 0, none⟩) t.ls.length hc0) := (HB3.out.cell (p := ⟨gp, 2, none⟩) (hG0.lt gp (by simp [foot]))).trans (by rw [← hn0]; exact hG0.cell2)
  have g12 : w3.cell? ⟨op, 2, none⟩ = some (.slice (some ⟨hb1, 0, none⟩) t.os.length hc1) := (HB3.out.cell (p := ⟨op, 2, none⟩) (hG1.lt op (by simp [foot]))).trans (by rw [← hn1]; exact hG1.cell2)
  have hPR : Row w3 base .i64 PA t.p.params := (hpr.below HB3.out).mono (by omega)
  have HC := Lib.hid (fun (wr : World) (hb : Below base w3 wr) (i : Nat) (hi : i < 108) => (hb.cell (p := ⟨p, i, none⟩) hpB).trans (hT3.cell hi))
  have HG := Lib.hid (fun (wr : World) (hb : Below base w3 wr) => (show wr.cell? ⟨gp, 0, none⟩ = some (.int .i64 (t.w : Int)) ∧ wr.cell? ⟨gp, 1, none⟩ = some (.int .i64 (t.h : Int)) ∧ wr.cell? ⟨gp, 2, none⟩ = some (.slice (some ⟨hb0, 0, none⟩) t.ls.length hc0) ∧ wr.cell? ⟨op, 2, none⟩ = some (.slice (some ⟨hb1, 0, none⟩) t.os.length hc1) from
    ⟨(hb.cell (p := ⟨gp, 0, none⟩) hgpB).trans g00, (hb.cell (p := ⟨gp, 1, none⟩) hgpB).trans g01, (hb.cell (p := ⟨gp, 2, none⟩) hgpB).trans g02, (hb.cell (p := ⟨op, 2, none⟩) hopB).trans g12⟩))
  have HLS := Lib.hid hL0
  have HLO := Lib.hid hL1
  have HLB := Lib.hid hLB
  have HPR := Lib.hid hPR
  have HOK := Lib.hid hok
  have HSUM := Lib.hid hlen
  clear hG0 hG1 hF0 hF1 hL0 hL1 hLB hT3 g00 g01 g02 g12 hPR hcl hpr hbk hok hlen hn0 hn1
  have c0 : w3.cell? ⟨p, 0, none⟩ = some (.pointer (some ⟨gp, 0, none⟩)) := HC.out w3 (Below.refl _ _) 0 (by omega)
  have c26 : w3.cell? ⟨p, 26, none⟩ = some (.int .i64 (t.top : Int)) := HC.out w3 (Below.refl _ _) 26 (by omega)
  have c27 : w3.cell? ⟨p, 27, none⟩ = some (.int .i64 (t.en : Int)) := HC.out w3 (Below.refl _ _) 27 (by omega)
  obtain ⟨g0, g1, -, -⟩ := HG.out w3 (Below.refl _ _)
  -- region 2
  obtain ⟨w4, hw4⟩ : ∃ w4, w4 = w3.drew.alloc (.cells #[.int .i64 (t.w : Int), .int .i64 (t.h : Int), .int .i64 (t.top : Int), .int .i64 (t.en : Int)] 3) := ⟨_, rfl⟩
  have hr4 : Row w4 (base + 1) .i64 (some ⟨base, 0, none⟩) [t.w, t.h, t.top, t.en] := by
    rw [hw4, hbs]
    exact row_four w3.drew .i64 _ _ _ _ _
  have hb4 : Below base w3 w4 := by rw [hw4, hbs]; exact (Below.refl _ _).drew.alloc (Nat.le_refl _) _
  have hz4 : w4.heap.size = base + 1 := by rw [hw4, hbs, size_alloc]; rfl
  have HN4 := Lib.hid (fun (wd : World) (hd : Below w4.heap.size w4 wd) => putNumbers_ok (.slice none 0 0) [] wd base (by simp) (Own.nil _ _) (by have := hd.size; omega) (some ⟨base, 0, none⟩) [t.w, t.h, t.top, t.en] 4 (base + 1) (hr4.below (hd.mono (by omega))) (by have := hd.size; omega) (by simp) (by
    have h1 := HOK.out.w; have h2 := HOK.out.h; have h3 := HOK.out.te
    simp; omega) (fun _ ad ha e => by injection ha with ha; subst ha; cases e))
  have W4 := Lib.hid hw4
  have HB4 := Lib.hid hb4
  clear hw4 hr4 hb4
  simp only [Act.put]
  refine wp_region_noPanic ?_
  refine wp_region_held_drew (S := fun v => v.cell? ⟨p, 0, none⟩ = some (.pointer (some ⟨gp, 0, none⟩)) ∧ v.cell? ⟨p, 26, none⟩ = some (.int .i64 (t.top : Int)) ∧ v.cell? ⟨p, 27, none⟩ = some (.int .i64 (t.en : Int)) ∧ v.cell? ⟨gp, 0, none⟩ = some (.int .i64 (t.w : Int)) ∧ v.cell? ⟨gp, 1, none⟩ = some (.int .i64 (t.h : Int))) (by kernel_rfl) ⟨c0, c26, c27, g0, g1⟩ (fun hHeld => ?_)
  refine wpAnyH_take (i := 0) (v := ?va0) rfl (by kernel_rfl) (by kernel_rfl) (by kernel_rfl) (fun _ _ _ h => h) (Or.inl ⟨by rfl, ?ha0⟩) (by assumption) ?_
  case ha0 => intro w hSw; (try dsimp only at hSw); go_simp; try with_reducible rfl
  simp only [List.getElem_toArray, List.getElem_cons_zero, Act.put, List.setIfInBounds_toArray, List.set_cons_zero, List.set_cons_succ]
  refine wpAnyH_take (i := 1) (v := ?va1) rfl (by kernel_rfl) (by kernel_rfl) (by kernel_rfl) (fun _ _ _ h => h) (Or.inl ⟨by rfl, ?ha1⟩) (by assumption) ?_
  case ha1 => intro w hSw; (try dsimp only at hSw); go_simp; try with_reducible rfl
  simp only [List.getElem_toArray, List.getElem_cons_succ, List.getElem_cons_zero, Act.put, List.setIfInBounds_toArray, List.set_cons_zero, List.set_cons_succ]
  refine wpAnyH_take (i := 2) (v := ?va2) rfl (by kernel_rfl) (by kernel_rfl) (by kernel_rfl) (fun _ _ _ h => h) (Or.inl ⟨by rfl, ?ha2⟩) (by assumption) ?_
  case ha2 => intro w hSw; (try dsimp only at hSw); go_simp; try with_reducible rfl
  simp only [List.getElem_toArray, List.getElem_cons_succ, List.getElem_cons_zero, Act.put, List.setIfInBounds_toArray, List.set_cons_zero, List.set_cons_succ]
  refine wpAnyH_take (i := 3) (v := ?va3) rfl (by kernel_rfl) (by kernel_rfl) (by kernel_rfl) (fun _ _ _ h => h) (Or.inl ⟨by rfl, ?ha3⟩) (by assumption) ?_
  case ha3 => intro w hSw; (try dsimp only at hSw); go_simp; try with_reducible rfl
  simp only [List.getElem_toArray, List.getElem_cons_succ, List.getElem_cons_zero, Act.put, List.setIfInBounds_toArray, List.set_cons_zero, List.set_cons_succ]
  refine wpAnyH_take (i := 4) (v := ?va4) rfl (by kernel_rfl) (by kernel_rfl) (by kernel_rfl) (fun _ _ _ h => h) (Or.inl ⟨by rfl, ?ha4⟩) (by assumption) ?_
  case ha4 => intro w hSw; (try dsimp only at hSw); go_simp; try with_reducible rfl
  simp only [List.getElem_toArray, List.getElem_cons_succ, List.getElem_cons_zero, Act.put, List.setIfInBounds_toArray, List.set_cons_zero, List.set_cons_succ]
  refine wpAnyH_take (i := 5) (v := ?va5) rfl (by kernel_rfl) (by kernel_rfl) (by kernel_rfl) (fun _ _ _ h => h) (Or.inl ⟨by rfl, ?ha5⟩) (by assumption) ?_
  case ha5 => intro w hSw; (try dsimp only at hSw); go_simp; try with_reducible rfl
  simp only [List.getElem_toArray, List.getElem_cons_succ, List.getElem_cons_zero, Act.put, List.setIfInBounds_toArray, List.set_cons_zero, List.set_cons_succ]
  refine wpAnyH_take (i := 6) (v := ?va6) rfl (by kernel_rfl) (by kernel_rfl) (by kernel_rfl) (fun _ _ _ h => h) (Or.inl ⟨by rfl, ?ha6⟩) (by assumption) ?_
  case ha6 => intro w hSw; (try dsimp only at hSw); go_simp; try with_reducible rfl
  simp only [List.getElem_toArray, List.getElem_cons_succ, List.getElem_cons_zero, Act.put, List.setIfInBounds_toArray, List.set_cons_zero, List.set_cons_succ]
  refine wpAnyH_take (i := 7) (v := ?va7) rfl (by kernel_rfl) (by kernel_rfl) (by kernel_rfl) (fun _ _ _ h => h) (Or.inl ⟨by rfl, ?ha7⟩) (by assumption) ?_
  case ha7 => intro w hSw; (try dsimp only at hSw); go_simp; try with_reducible rfl
  simp only [List.getElem_toArray, List.getElem_cons_succ, List.getElem_cons_zero, Act.put, List.setIfInBounds_toArray, List.set_cons_zero, List.set_cons_succ]
  refine wpAnyH_take (i := 8) (v := ?va8) rfl (by kernel_rfl) (by kernel_rfl) (by kernel_rfl) (fun _ _ _ h => h) (Or.inl ⟨by rfl, ?ha8⟩) (by assumption) ?_
  case ha8 => intro w hSw; (try dsimp only at hSw); go_simp; try with_reducible rfl
  simp only [List.getElem_toArray, List.getElem_cons_succ, List.getElem_cons_zero, Act.put, List.setIfInBounds_toArray, List.set_cons_zero, List.set_cons_succ]
  refine wpAnyH_take (i := 9) (v := ?va9) rfl (by kernel_rfl) (by kernel_rfl) (by kernel_rfl) (fun _ _ _ h => h) (Or.inl ⟨by rfl, ?ha9⟩) (by assumption) ?_
  case ha9 => intro w hSw; (try dsimp only at hSw); go_simp; try with_reducible rfl
  simp only [List.getElem_toArray, List.getElem_cons_succ, List.getElem_cons_zero, Act.put, List.setIfInBounds_toArray, List.set_cons_zero, List.set_cons_succ]
  refine wpAnyH_take (i := 10) (v := ?va10) rfl (by kernel_rfl) (by kernel_rfl) (by kernel_rfl) (fun _ _ _ h => h) (Or.inl ⟨by rfl, ?ha10⟩) (by assumption) ?_
  case ha10 => intro w hSw; (try dsimp only at hSw); go_simp; try with_reducible rfl
  simp only [List.getElem_toArray, List.getElem_cons_succ, List.getElem_cons_zero, Act.put, List.setIfInBounds_toArray, List.set_cons_zero, List.set_cons_succ]
  refine wpAnyH_take (i := 11) (v := ?va11) rfl (by kernel_rfl) (by kernel_rfl) (by kernel_rfl) (fun _ _ _ h => h) (Or.inl ⟨by rfl, ?ha11⟩) (by assumption) ?_
  case ha11 => intro w hSw; (try dsimp only at hSw); go_simp; try with_reducible rfl
  simp only [List.getElem_toArray, List.getElem_cons_succ, List.getElem_cons_zero, Act.put, List.setIfInBounds_toArray, List.set_cons_zero, List.set_cons_succ]
  refine wpAnyH_take (i := 12) (v := ?va12) rfl (by kernel_rfl) (by kernel_rfl) (by kernel_rfl) (fun _ _ _ h => h) (Or.inl ⟨by rfl, ?ha12⟩) (by assumption) ?_
  case ha12 => intro w hSw; (try dsimp only at hSw); go_simp; try with_reducible rfl
  simp only [List.getElem_toArray, List.getElem_cons_succ, List.getElem_cons_zero, Act.put, List.setIfInBounds_toArray, List.set_cons_zero, List.set_cons_succ]
  refine wpAnyH_take (i := 13) (v := ?va13) rfl (by kernel_rfl) (by kernel_rfl) (by kernel_rfl) (fun _ _ _ h => h) (Or.inl ⟨by rfl, ?ha13⟩) (by assumption) ?_
  case ha13 => intro w hSw; (try dsimp only at hSw); go_simp; try with_reducible rfl
  simp only [List.getElem_toArray, List.getElem_cons_succ, List.getElem_cons_zero, Act.put, List.setIfInBounds_toArray, List.set_cons_zero, List.set_cons_succ]
  refine wpAnyH_take (i := 14) (v := ?va14) rfl (by kernel_rfl) (by kernel_rfl) (by kernel_rfl) (fun _ _ _ h => h) (Or.inl ⟨by rfl, ?ha14⟩) (by assumption) ?_
  case ha14 => intro w hSw; (try dsimp only at hSw); go_simp; try with_reducible rfl
  simp only [List.getElem_toArray, List.getElem_cons_succ, List.getElem_cons_zero, Act.put, List.setIfInBounds_toArray, List.set_cons_zero, List.set_cons_succ]
  refine wpAnyH_take (i := 15) (v := ?va15) rfl (by kernel_rfl) (by kernel_rfl) (by kernel_rfl) (fun _ _ _ h => h) (Or.inl ⟨by rfl, ?ha15⟩) (by assumption) ?_
  case ha15 => intro w hSw; (try dsimp only at hSw); go_simp; try with_reducible rfl
  simp only [List.getElem_toArray, List.getElem_cons_succ, List.getElem_cons_zero, Act.put, List.setIfInBounds_toArray, List.set_cons_zero, List.set_cons_succ]
  refine wpAnyH_take (i := 16) (v := ?va16) rfl (by kernel_rfl) (by kernel_rfl) (by kernel_rfl) (fun _ _ _ h => h) (Or.inl ⟨by rfl, ?ha16⟩) (by assumption) ?_
  case ha16 => intro w hSw; (try dsimp only at hSw); go_simp; try with_reducible rfl
  simp only [List.getElem_toArray, List.getElem_cons_succ, List.getElem_cons_zero, Act.put, List.setIfInBounds_toArray, List.set_cons_zero, List.set_cons_succ]
  refine wpAnyH_take (i := 17) (v := ?va17) rfl (by kernel_rfl) (by kernel_rfl) (by kernel_rfl) (fun _ _ _ h => h) (Or.inl ⟨by rfl, ?ha17⟩) (by assumption) ?_
  case ha17 => intro w hSw; (try dsimp only at hSw); go_simp; try with_reducible rfl
  simp only [List.getElem_toArray, List.getElem_cons_succ, List.getElem_cons_zero, Act.put, List.setIfInBounds_toArray, List.set_cons_zero, List.set_cons_succ]
  refine wpAnyH_take (i := 18) (v := ?va18) rfl (by kernel_rfl) (by kernel_rfl) (by kernel_rfl) (fun _ _ _ h => h) (Or.inl ⟨by rfl, ?ha18⟩) (by assumption) ?_
  case ha18 => intro w hSw; (try dsimp only at hSw); go_simp; try with_reducible rfl
  simp only [List.getElem_toArray, List.getElem_cons_succ, List.getElem_cons_zero, Act.put, List.setIfInBounds_toArray, List.set_cons_zero, List.set_cons_succ]
  refine wpAnyH_take (i := 19) (v := ?va19) rfl (by kernel_rfl) (by kernel_rfl) (by kernel_rfl) (fun _ _ _ h => h) (Or.inl ⟨by rfl, ?ha19⟩) (by assumption) ?_
  case ha19 => intro w hSw; (try dsimp only at hSw); go_simp; try with_reducible rfl
  simp only [List.getElem_toArray, List.getElem_cons_succ, List.getElem_cons_zero, Act.put, List.setIfInBounds_toArray, List.set_cons_zero, List.set_cons_succ]
  refine wpAnyH_take (i := 20) (v := ?va20) rfl (by kernel_rfl) (by kernel_rfl) (by kernel_rfl) (fun _ _ _ h => h) (Or.inl ⟨by rfl, ?ha20⟩) (by assumption) ?_
  case ha20 => intro w hSw; (try dsimp only at hSw); go_simp; try with_reducible rfl
  simp only [List.getElem_toArray, List.getElem_cons_succ, List.getElem_cons_zero, Act.put, List.setIfInBounds_toArray, List.set_cons_zero, List.set_cons_succ]
  refine wpAnyH_take (i := 21) (v := ?va21) rfl (by kernel_rfl) (by kernel_rfl) (by kernel_rfl) (fun _ _ _ h => h) (Or.inl ⟨by rfl, ?ha21⟩) (by assumption) ?_
  case ha21 => intro w hSw; (try dsimp only at hSw); go_simp; try with_reducible rfl
  simp only [List.getElem_toArray, List.getElem_cons_succ, List.getElem_cons_zero, Act.put, List.setIfInBounds_toArray, List.set_cons_zero, List.set_cons_succ]
  refine wpAnyH_take (i := 22) (v := ?va22) rfl (by kernel_rfl) (by kernel_rfl) (by kernel_rfl) (fun _ _ _ h => h) (Or.inl ⟨by rfl, ?ha22⟩) (by assumption) ?_
  case ha22 => intro w hSw; (try dsimp only at hSw); go_simp; try with_reducible rfl
  simp only [List.getElem_toArray, List.getElem_cons_succ, List.getElem_cons_zero, Act.put, List.setIfInBounds_toArray, List.set_cons_zero, List.set_cons_succ]
  refine wpAnyH_ready (rs := [23]) (by kernel_rfl) (by simp) ?_
  refine AllReadyH.cons rfl (fun K hK => ?_) AllReadyH.nil
  rw [if_pos (by kernel_rfl)]
  refine wp_build4 20 27 31 35 rfl _ _ _ _ rfl rfl rfl rfl ?_
  rw [← W4.out, show w3.drew.heap.size = base from hbs.symm]
  simp only [List.getElem_toArray, List.getElem_cons_succ, List.getElem_cons_zero, Act.put, List.setIfInBounds_toArray, List.set_cons_zero, List.set_cons_succ]
  obtain ⟨e0, e1, -, -⟩ := HG.out w4 HB4.out
  refine hK.out _ _ ?_ (fun hHeld => ?_)
  · exact ⟨HC.out w4 HB4.out 0 (by omega), HC.out w4 HB4.out 26 (by omega), HC.out w4 HB4.out 27 (by omega), e0, e1⟩
  clear hK K
  refine wpAnyH_ready (rs := [24]) (by kernel_rfl) (by simp) ?_
  refine AllReadyH.cons rfl (fun K hK => ?_) AllReadyH.nil
  rw [if_pos (by kernel_rfl)]
  refine wp_enter 42 #[.slice none 0 0, .slice (some ⟨base, 0, none⟩) 4 4] (w0 := w4) (by kernel_rfl) _ (HN4.out w4 (Below.refl _ _)) ?_
  rintro v5 w5 ⟨ho5, hg5⟩
  simp only [List.getElem_toArray, List.getElem_cons_succ, List.getElem_cons_zero, Act.put, List.setIfInBounds_toArray, List.set_cons_zero, List.set_cons_succ]
  have hb5 : Below base w3 w5 := HB4.out.trans (hg5.below (Own.nil w4 base) (by omega))
  have hz5 : base ≤ w5.heap.size := by rw [hbs]; exact hb5.size
  obtain ⟨e0, e1, -, -⟩ := HG.out w5 hb5
  have HB5 := Lib.hid hb5
  have HO5 := Lib.hid (show Own w5 base v5 (VM.encs [t.w, t.h, t.top, t.en]) by simpa using ho5)
  clear ho5 hg5
  refine hK.out _ _ ?_ (fun hHeld => ?_)
  · exact ⟨HC.out w5 HB5.out 0 (by omega), HC.out w5 HB5.out 26 (by omega), HC.out w5 HB5.out 27 (by omega), e0, e1⟩
  clear hK K
  refine wpAnyH_take (i := 25) (v := v5) rfl (by kernel_rfl) (by kernel_rfl) (by kernel_rfl) (fun _ _ _ h => h) (Or.inl ⟨by rfl, ?hb25⟩) (by assumption) ?_
  case hb25 => intro wq hSw; kernel_rfl
  simp only [List.getElem_toArray, List.getElem_cons_succ, List.getElem_cons_zero, Act.put, List.setIfInBounds_toArray, List.set_cons_zero]
  refine wpAnyH_done (by kernel_rfl) ?_ _
  refine NoPanic.normal ?_
  clear e0 e1 c0 c26 c27 g0 g1 HN4 W4 HB4 hz4 hb5
  -- regions 3 and 4: the flags
  have ha8 : Tryd.prog.arrayLen 72 = 8 := by kernel_rfl
  have ha60 : Tryd.prog.arrayLen 74 = 60 := by kernel_rfl
  have HFM := Lib.hid (fun (wr : World) (hb : Below base w3 wr) (v : Value) (ys : List Nat) (hy : ys.length ≤ 200000) (ho : Own wr base v ys) => putFlags_ok v ys wr base (by omega) ho (by rw [hbs]; exact hb.size) mb 0 8 8 t.m (fun k => ⟨p, modeP k, none⟩) (by omega) HOK.out.m
    (fun k hk => by rw [Nat.zero_add, cell_of_row _ _ _ _ _ _ ((hb.block mb (by omega)).trans HM3.out)]; exact modeA_at p k hk)
    (fun k hk => (HC.out wr hb (modeP k) (by unfold modeP; split <;> (try split) <;> omega)).trans (congrArg some (tm_mode t gp op _ PA pc k hk))))
  have HFS := Lib.hid (fun (wr : World) (hb : Below base w3 wr) (v : Value) (ys : List Nat) (hy : ys.length ≤ 200000) (ho : Own wr base v ys) => putFlags_ok v ys wr base (by omega) ho (by rw [hbs]; exact hb.size) (mb + 1) 0 60 60 t.s (fun k => ⟨p, 28 + k, none⟩) (by omega) HOK.out.s
    (fun k hk => by rw [Nat.zero_add, cell_of_row _ _ _ _ _ _ ((hb.block (mb + 1) (by omega)).trans HS3.out)]; exact HPC.out k hk)
    (fun k hk => (HC.out wr hb (28 + k) (by omega)).trans (congrArg some (tm_tab t gp op _ PA pc k hk))))
  have hl1 : (VM.encs [t.w, t.h, t.top, t.en]).length ≤ 100000 := by have := HSUM.out; simp only [encT, List.length_append] at this; omega
  have HQ5 := Lib.hid (HFM.out w5 HB5.out v5 (VM.encs [t.w, t.h, t.top, t.en]) (by omega) HO5.out)
  have HBS := Lib.hid hbs
  have HMB := Lib.hid hmbB
  have HWB := Lib.hid hwB
  clear hbs hmbB hz3 hz5 HFM HWZ hwB hpB hgpB hopB
  go_wp2_with fail
  refine HQ5.out.mono ?_
  rintro e w6 ⟨v6, rfl, ho6, hg6⟩
  have HB6 := Lib.hid (HB5.out.trans (hg6.below HO5.out (by rw [HBS.out]; exact HB5.out.size)))
  have HO6 := Lib.hid ho6
  clear ho6 hg6 hl1
  have hl2 : (VM.encs [t.w, t.h, t.top, t.en] ++ VM.enc t.m).length ≤ 100000 := by have := HSUM.out; simp only [encT, List.length_append] at this ⊢; omega
  have HQ6 := Lib.hid (HFS.out w6 HB6.out v6 (VM.encs [t.w, t.h, t.top, t.en] ++ VM.enc t.m) (by omega) HO6.out)
  clear hl2
  go_wp2_with fail
  refine HQ6.out.mono ?_
  rintro e w7 ⟨v7, rfl, ho7, hg7⟩
  have HB7 := Lib.hid (HB6.out.trans (hg7.below HO6.out (by rw [HBS.out]; exact HB6.out.size)))
  have HO7 := Lib.hid ho7
  clear ho7 hg7 HFS HO6 HO5 HB5 HB6
  -- region 5: the cursors
  go_wp2_with fail
  refine (cursors_ok w7 p).mono ?_
  rintro e w8 ⟨rfl, hb8⟩
  have HB8 := Lib.hid (HB7.out.trans (hb8.mono (by rw [HBS.out]; exact HB7.out.size)))
  have HO8 := Lib.hid (HO7.out.below hb8)
  have HY3 := Lib.hid (show (VM.encs [t.w, t.h, t.top, t.en] ++ VM.enc t.m ++ VM.enc t.s).length + (encCs t.cs).length ≤ 100000 by have := HSUM.out; simp only [encT, List.length_append] at this ⊢; omega)
  have HE := Lib.hid (show encT t = VM.encs [t.w, t.h, t.top, t.en] ++ VM.enc t.m ++ VM.enc t.s ++ encCs t.cs ++ encLs t.ls ++ encLs t.os ++ (VM.enc t.bk.length ++ encBk t.bk) ++ (VM.enc t.title.length ++ t.title) ++ (VM.enc t.reply.length ++ t.reply) ++ encP t.p by simp only [encT, List.append_assoc])
  have hcs3 : t.cs.length = 3 := HOK.out.cs.1
  have HCS := Lib.hid HOK.out.cs.2
  have HWH := Lib.hid (And.intro HOK.out.w HOK.out.h)
  clear hb8 HB7 HO7
  generalize VM.encs [t.w, t.h, t.top, t.en] ++ VM.enc t.m ++ VM.enc t.s = y3 at *
  go_wp2
  go_loopw [0, 46] (fun x i wr => ∃ k : Nat, k ≤ 3 ∧ i = .int .i64 (k : Int) ∧ Own wr base x (y3 ++ encCs (t.cs.take k)) ∧ Below base w3 wr) (fun _ i _ => 3 - (RowKit.intOf i).toNat)
  case atStart => exact ⟨0, Nat.zero_le _, rfl, by simpa [encCs] using HO8.out, HB8.out⟩
  case round =>
    obtain ⟨k, hk, rfl, ho, hb⟩ := hrel
    have H1 := Lib.hid ho
    have H2 := Lib.hid hb
    clear ho hb
    by_cases hlt : k < 3
    · have hix := fun W => index3 W p k hlt
      have hd := fun (j : Nat) (hj : j < 8) => (HC.out wr H2.out (2 + 8 * k + j) (by omega)).trans (congrArg some (tm_cs t gp op (.slice BA t.bk.length bc) PA pc k j hlt hj))
      have hgc : t.cs.getD k zcur = t.cs[k]'(by omega) := by simp [hcs3, hlt]
      rw [hgc] at hd
      have HCk := Lib.hid (HCS.out (t.cs[k]'(by omega)) (List.getElem_mem _))
      have HTK := Lib.hid (encCs_take t.cs k (by omega))
      have HTL := Lib.hid (encCs_take_len t.cs k)
      have g1 : decide ((k : Int) < 3) = true := by simp; omega
      clear hgc
      generalize t.cs[k]'(by omega) = c at *
      obtain ⟨o, ho⟩ : ∃ o, o = 2 + 8 * k := ⟨_, rfl⟩
      rw [← ho] at hix hd
      have d0 : wr.cell? ⟨p, o, none⟩ = some (.int .i64 (c.x : Int)) := hd 0 (by omega)
      have d1 : wr.cell? ⟨p, o + 1, none⟩ = some (.int .i64 (c.y : Int)) := hd 1 (by omega)
      have d2 : wr.cell? ⟨p, o + 2, none⟩ = some (.bool c.late) := hd 2 (by omega)
      have d3 : wr.cell? ⟨p, o + 3, none⟩ = some (.bool c.sty.bold) := hd 3 (by omega)
      have d4 : wr.cell? ⟨p, o + 4, none⟩ = some (.bool c.sty.under) := hd 4 (by omega)
      have d5 : wr.cell? ⟨p, o + 5, none⟩ = some (.bool c.sty.turned) := hd 5 (by omega)
      have d6 : wr.cell? ⟨p, o + 6, none⟩ = some (.int .i64 c.sty.fore) := hd 6 (by omega)
      have d7 : wr.cell? ⟨p, o + 7, none⟩ = some (.int .i64 c.sty.back) := hd 7 (by omega)
      have hq := putCursor_ok u0 (y3 ++ encCs (t.cs.take k)) c wr base (by have := HY3.out; have := HTL.out; rw [List.length_append]; omega) (by have h1 := HCk.out.1; have h2 := HCk.out.2.1; have h3 := HWH.out; omega) HCk.out.2.2.2 H1.out (by rw [HBS.out]; exact H2.out.size)
      rw [List.append_assoc, ← HTK.out] at hq
      unfold curV at hq
      have HQ := Lib.hid hq
      clear hq hd ho HTK HTL HCk
      go_wp2_with fail
      refine HQ.out.mono ?_
      rintro e w9 ⟨v', rfl, ho1, hb1⟩
      have H3 := Lib.hid ho1
      have H4 := Lib.hid (H2.out.trans hb1)
      clear ho1 hb1
      go_wp2
      go_roundw
      case rel => exact ⟨k + 1, by omega, by simp, H3.out, H4.out⟩
      case measure => simp [RowKit.intOf]; omega
    · have hk3 : k = 3 := by omega
      have H5 := Lib.hid (show Own wr base u0 (y3 ++ encCs t.cs) by have := H1.out; rwa [hk3, List.take_of_length_le (by omega)] at this)
      have g1 : decide ((k : Int) < 3) = false := by simp; omega
      clear hk3 HQ5 HQ6 H1 hlt
      have HF0 := Lib.hid (fun x (hx : x ∈ t.ls) => (show x.length ≤ 1000 ∧ ∀ r ∈ runs x, Fine r from by
        obtain ⟨a1, _, a3⟩ := HOK.out.ls.2 x hx
        have := HOK.out.w
        exact ⟨by omega, a3⟩))
      have HF1 := Lib.hid (fun x (hx : x ∈ t.os) => (show x.length ≤ 1000 ∧ ∀ r ∈ runs x, Fine r from by
        obtain ⟨a1, _, a3⟩ := HOK.out.os.2 x hx
        have := HOK.out.w
        exact ⟨by omega, a3⟩))
      have HF2 := Lib.hid (fun x (hx : x ∈ t.bk) => (show x.length ≤ 100 ∧ ∀ r ∈ runs x, Fine r from by
        obtain ⟨a1, a2, a3⟩ := HOK.out.bk.2 x hx
        exact ⟨by omega, a3.2.2⟩))
      have hl0 : t.ls.length ≤ 1000 := by have := HOK.out.ls.1; have := HOK.out.h; omega
      have hl1 : t.os.length ≤ 1000 := by have := HOK.out.os.1; have := HOK.out.h; omega
      have hl2 : t.bk.length ≤ 100 := by have := HOK.out.bk.1; omega
      have HSUM2 := Lib.hid (show y3.length + (encCs t.cs).length + (encLs t.ls).length + (encLs t.os).length + (VM.enc t.bk.length ++ encBk t.bk).length + (VM.enc t.title.length ++ t.title).length + (VM.enc t.reply.length ++ t.reply).length + (encP t.p).length ≤ 100000 by
        have := HSUM.out
        rw [HE.out] at this
        simp only [List.length_append] at this ⊢
        omega)
      -- region 10
      have c0 : wr.cell? ⟨p, 0, none⟩ = some (.pointer (some ⟨gp, 0, none⟩)) := HC.out wr H2.out 0 (by omega)
      obtain ⟨-, -, e2, -⟩ := HG.out wr H2.out
      have HP0 := Lib.hid (putLines_ok u0 (y3 ++ encCs t.cs) wr base H5.out (by rw [HBS.out]; exact H2.out.size) (some ⟨hb0, 0, none⟩) t.ls hc0 (linesBase HLS.out H2.out) hl0 HF0.out (by have := HSUM2.out; simp only [List.length_append] at this ⊢; omega))
      go_wp2_with fail
      refine HP0.out.mono ?_
      rintro e wa ⟨va, rfl, ha, hba⟩
      have HA := Lib.hid ha
      have HBA := Lib.hid (H2.out.trans hba)
      clear ha hba c0 e2 HP0 H2 H5 HF0
      -- region 11
      have c1 : wa.cell? ⟨p, 1, none⟩ = some (.pointer (some ⟨op, 0, none⟩)) := HC.out wa HBA.out 1 (by omega)
      obtain ⟨-, -, -, e3⟩ := HG.out wa HBA.out
      have HP1 := Lib.hid (putLines_ok va (y3 ++ encCs t.cs ++ encLs t.ls) wa base HA.out (by rw [HBS.out]; exact HBA.out.size) (some ⟨hb1, 0, none⟩) t.os hc1 (linesBase HLO.out HBA.out) hl1 HF1.out (by have := HSUM2.out; simp only [List.length_append] at this ⊢; omega))
      go_wp2_with fail
      refine HP1.out.mono ?_
      rintro e wb ⟨vb, rfl, hb, hbb⟩
      have HB := Lib.hid hb
      have HBB := Lib.hid (HBA.out.trans hbb)
      clear hb hbb c1 e3 HP1 HA HBA HF1
      -- region 12
      have c97 : wb.cell? ⟨p, 97, none⟩ = some (.slice BA t.bk.length bc) := HC.out wb HBB.out 97 (by omega)
      have HP2 := Lib.hid (putBack_ok vb (y3 ++ encCs t.cs ++ encLs t.ls ++ encLs t.os) wb base HB.out (by rw [HBS.out]; exact HBB.out.size) BA t.bk bc (linesBase HLB.out HBB.out) hl2 HF2.out (by have := HSUM2.out; simp only [List.length_append] at this ⊢; omega))
      go_wp2_with fail
      refine HP2.out.mono ?_
      rintro e wc ⟨vc, rfl, hc, hbc⟩
      have HCc := Lib.hid hc
      have HBC := Lib.hid (HBB.out.trans hbc)
      clear hc hbc c97 HP2 HB HBB HF2
      -- region 13
      have c96 : wc.cell? ⟨p, 96, none⟩ = some (.string (str t.title)) := HC.out wc HBC.out 96 (by omega)
      have HP3 := Lib.hid (putText_g vc (y3 ++ encCs t.cs ++ encLs t.ls ++ encLs t.os ++ (VM.enc t.bk.length ++ encBk t.bk)) t.title HOK.out.title.2 wc base (by have := HOK.out.title.1; omega) (by have := HSUM2.out; simp only [List.length_append] at this ⊢; omega) HCc.out (by rw [HBS.out]; exact HBC.out.size))
      have HLc := Lib.hid HCc.out.lt
      go_wp2_with fail
      refine HP3.out.mono ?_
      rintro e wd ⟨vd, rfl, hd, hgd⟩
      have HD := Lib.hid hd
      have HBD := Lib.hid (HBC.out.trans ((Below.refl base wc).grown hgd (by rw [HBS.out]; exact HBC.out.size) HLc.out))
      clear hd hgd c96 HP3 HCc HBC HLc
      -- region 14
      have c107 : wd.cell? ⟨p, 107, none⟩ = some (.string (str t.reply)) := HC.out wd HBD.out 107 (by omega)
      have HP4 := Lib.hid (putText_g vd (y3 ++ encCs t.cs ++ encLs t.ls ++ encLs t.os ++ (VM.enc t.bk.length ++ encBk t.bk) ++ (VM.enc t.title.length ++ t.title)) t.reply HOK.out.reply.2 wd base (by have := HOK.out.reply.1; omega) (by have := HSUM2.out; simp only [List.length_append] at this ⊢; omega) HD.out (by rw [HBS.out]; exact HBD.out.size))
      have HLd := Lib.hid HD.out.lt
      go_wp2_with fail
      refine HP4.out.mono ?_
      rintro e we ⟨ve, rfl, he, hge⟩
      have HEe := Lib.hid he
      have HBE := Lib.hid (HBD.out.trans ((Below.refl base wd).grown hge (by rw [HBS.out]; exact HBD.out.size) HLd.out))
      clear he hge c107 HP4 HD HBD HLd
      -- region 15
      have q0 : we.cell? ⟨p, 98, none⟩ = some (.int .i64 (t.p.st : Int)) := HC.out we HBE.out 98 (by omega)
      have q1 : we.cell? ⟨p, 99, none⟩ = some (.int .u8 ((nat8 t.p.u).getD 0 0 : Nat)) := HC.out we HBE.out 99 (by omega)
      have q2 : we.cell? ⟨p, 100, none⟩ = some (.int .u8 ((nat8 t.p.u).getD 1 0 : Nat)) := HC.out we HBE.out 100 (by omega)
      have q3 : we.cell? ⟨p, 101, none⟩ = some (.int .u8 ((nat8 t.p.u).getD 2 0 : Nat)) := HC.out we HBE.out 101 (by omega)
      have q4 : we.cell? ⟨p, 102, none⟩ = some (.int .i64 (t.p.u.length : Int)) := HC.out we HBE.out 102 (by omega)
      have q5 : we.cell? ⟨p, 103, none⟩ = some (.string (str t.p.marks)) := HC.out we HBE.out 103 (by omega)
      have q6 : we.cell? ⟨p, 104, none⟩ = some (.slice PA t.p.params.length pc) := HC.out we HBE.out 104 (by omega)
      have q7 : we.cell? ⟨p, 105, none⟩ = some (.string (str t.p.text)) := HC.out we HBE.out 105 (by omega)
      have q8 : we.cell? ⟨p, 106, none⟩ = some (.int .i64 (t.p.wi : Int)) := HC.out we HBE.out 106 (by omega)
      have hp5 := putParser_ok ve (y3 ++ encCs t.cs ++ encLs t.ls ++ encLs t.os ++ (VM.enc t.bk.length ++ encBk t.bk) ++ (VM.enc t.title.length ++ t.title) ++ (VM.enc t.reply.length ++ t.reply)) t.p HOK.out.p PA pc base we base (HPR.out.below HBE.out) (Nat.le_refl _) (by have := HSUM2.out; simp only [List.length_append] at this ⊢; omega) HEe.out (by rw [HBS.out]; exact HBE.out.size)
      rw [← HE.out] at hp5
      unfold parV at hp5
      have HP5 := Lib.hid hp5
      clear hp5
      generalize (nat8 t.p.u).getD 0 0 = x0 at *
      generalize (nat8 t.p.u).getD 1 0 = x1 at *
      generalize (nat8 t.p.u).getD 2 0 = x2 at *
      go_wp2_with fail
      refine HP5.out.mono ?_
      rintro e wf ⟨vf, rfl, hf, hbf⟩
      have HF := Lib.hid (hf.mono (show w.heap.size ≤ base by have := HWB.out; omega))
      have HBF := Lib.hid (HB3.out.trans ((HBE.out.trans hbf).mono (show w.heap.size ≤ base by have := HWB.out; omega)))
      clear hf hbf
      go_wp2
      go_ret
      exact ⟨vf, rfl, HF.out, HBF.out⟩
end Go.Proofs.YtdolapobkhhanaaDoor
/-
  Layer 11 (state): Encode, Decode.
-/
namespace Go.Proofs.YtdolapobkhhanaaDoor
open Go.RowKit Go.Lib KM
set_option maxRecDepth 100000

/-- What some bytes tell. -/
def decT (l : List Nat) : Option Tm := (takeT l false).bind fun R => if rightP R.1.p && (!R.2.2 && R.2.1.isEmpty) then some R.1 else none
theorem decT_enc (t : Tm) (h : TmOk t) (hp : rightP t.p = true) : decT (encT t) = some t := by
  have := takeT_enc t h []
  rw [List.append_nil] at this
  unfold decT
  rw [this]
  simp [hp]
theorem decT_ok {l : List Nat} {t : Tm} (hl : ∀ x ∈ l, x < 256) (h : decT l = some t) : TmOk t ∧ rightP t.p = true ∧ l = encT t := by
  unfold decT at h
  rcases hR : takeT l false with _ | ⟨T, l', b⟩
  · rw [hR] at h; cases h
  · rw [hR] at h
    simp only [Option.bind_some] at h
    obtain ⟨k1, k2⟩ := takeT_ok hl hR
    split at h
    · rename_i hc
      simp only [Option.some.injEq] at h
      subst h
      simp only [Bool.and_eq_true, Bool.not_eq_true', List.isEmpty_iff] at hc
      obtain ⟨c1, c2, c3⟩ := hc
      have := (k2 c2).2
      simp only at this c3
      rw [c3, List.append_nil] at this
      exact ⟨k1, c1, this⟩
    · cases h

/-- A terminal that the program may hold. -/
structure TmA (w : World) (p gp op : Nat) (F O : List Nat) (BA : Option Addr) (bc : Nat) (PA : Option Addr) (pc : Nat) (t : Tm) : Prop where
  tb : TmB w p gp op F O (.slice BA t.bk.length bc) PA pc t
  bk : LinesAt w (fun _ => True) BA t.bk
  pr : Row w w.heap.size .i64 PA t.p.params
theorem encode_ok (w : World) (p gp op : Nat) (F O : List Nat) (BA : Option Addr) (bc : Nat) (PA : Option Addr) (pc : Nat) (t : Tm) (hA : TmA w p gp op F O BA bc PA pc t) (hok : TmOk t) (hlen : (encT t).length ≤ 100000) :
    Calls Tryd.prog 9 #[.pointer (some ⟨p, 0, none⟩)] w fun e w' => ∃ v', e = .returned v' ∧ Own w' w.heap.size v' (encT t) ∧ Below w.heap.size w w' := by
  have HP := Lib.hid (put_ok w p gp op F O BA bc PA pc t hA.tb hok hA.bk hA.pr hlen)
  clear hA hok
  go_enter Tryd.func9, Tryd.ntmps9
  go_wp2_with fail
  refine HP.out.mono ?_
  rintro e w1 ⟨v1, rfl, ho, hb⟩
  have HO := Lib.hid ho
  have HB := Lib.hid hb
  clear ho hb
  go_wp2
  go_ret
  exact ⟨v1, rfl, HO.out, HB.out⟩

def DecPost (w : World) (D : Option Tm) (e : Ending) (w' : World) : Prop :=
  Below w.heap.size w w' ∧ ((D = none ∧ e = .returned (.tuple #[.pointer none, .int .i64 1])) ∨
    ∃ t p gp op F O BA bc PA pc, D = some t ∧ e = .returned (.tuple #[.pointer (some ⟨p, 0, none⟩), .int .i64 0]) ∧ TmA w' p gp op F O BA bc PA pc t)
theorem decT_none {l : List Nat} (h : takeT l false = none) : decT l = none := by unfold decT; rw [h]; rfl
theorem decT_some {l : List Nat} {R : Tm × List Nat × Bool} (h : takeT l false = some R) : decT l = if rightP R.1.p && (!R.2.2 && R.2.1.isEmpty) then some R.1 else none := by unfold decT; rw [h]; rfl

set_option maxHeartbeats 4000000 in
theorem decode_ok (w : World) (A : Option Addr) (l : List Nat) (c : Nat) (B : Nat) (hr : Row w B .u8 A l) (hA : A = none → c = 0) (hl : l.length ≤ 100000000000) (hby : ∀ x ∈ l, x < 256) (hT : Tabs w) (hU : Utf w) :
    Calls Tryd.prog 5 #[.slice A l.length c] w (DecPost w (decT l)) := by
  have hroom := hT.room
  have HOF := Lib.hid (of_any w A l c B hr hA hl hby)
  have HT := Lib.hid hT
  have HU := Lib.hid hU
  have HBY := Lib.hid hby
  clear hr hA hT hU hby hl
  have hx : ∃ D, D = decT l := ⟨_, rfl⟩
  obtain ⟨D, hD⟩ := hx
  rw [← hD]
  have HD := Lib.hid hD
  clear hD
  go_enter Tryd.func5, Tryd.ntmps5
  go_wp2_with fail
  refine HOF.out.mono ?_
  rintro e w1 ⟨g, rfl, hg, hrd, hb⟩
  have z1 := hb.size
  have HRD := Lib.hid hrd
  have HTK := Lib.hid (take_ok w1 g l false hrd HBY.out (HT.out.on hb hroom) (HU.out.on hb (by omega)) (by omega))
  have HB1 := Lib.hid hb
  clear hrd hb
  obtain ⟨R, hR⟩ : ∃ R, R = takeT l false := ⟨_, rfl⟩
  rw [← hR] at HTK
  have HR := Lib.hid hR
  clear hR
  go_wp2_with fail
  refine HTK.out.mono ?_
  rintro e w2 (⟨hn, ⟨v, rfl⟩, hgb⟩ | ⟨T, p, gp, op, F, O, BA, bc, PA, pc, hn, rfl, hm, hrow, hpa⟩)
  · have HN := Lib.hid (HD.out.trans (decT_none (HR.out.symm.trans hn)))
    have HB2 := Lib.hid (HB1.out.trans (only_below hgb (show w.heap.size ≤ g by omega) z1))
    clear hn hgb
    go_wp2
    go_ret2
    exact ⟨HB2.out, .inl ⟨HN.out, rfl⟩⟩
  · have HN := Lib.hid (HD.out.trans (decT_some (HR.out.symm.trans hn)))
    have HB2 := Lib.hid (HB1.out.trans (only_below hm.on (show w.heap.size ≤ g by omega) z1))
    obtain ⟨BA', bc', hbv, _, hbl⟩ := hm.nx.lines
    injection hbv with e1 _ e2
    subst e1
    have HTA := Lib.hid (show TmA w2 p gp op F O BA bc PA pc T.1 from ⟨⟨hm.cells, hm.ga, hm.gb, hm.ap⟩, hbl.mono (fun _ _ _ => trivial), hrow⟩)
    have HDN := Lib.hid (done_any w2 g T.2.1 T.2.2 hm.rd)
    clear hm hrow hpa hn hbl
    obtain ⟨x, hx⟩ : ∃ x, x = rightP T.1.p := ⟨_, rfl⟩
    obtain ⟨y, hy⟩ : ∃ y, y = (!T.2.2 && T.2.1.isEmpty) := ⟨_, rfl⟩
    rw [← hy] at HDN
    rw [← hx]
    rw [← hx, ← hy] at HN
    clear hx hy
    cases x with
    | false =>
      go_wp2
      go_ret2
      exact ⟨HB2.out, .inl ⟨HN.out, rfl⟩⟩
    | true =>
      cases y with
      | false =>
        go_wp2_with fail
        refine HDN.out.mono ?_
        rintro e w3 ⟨rfl, rfl⟩
        go_wp2
        go_ret2
        exact ⟨HB2.out, .inl ⟨HN.out, rfl⟩⟩
      | true =>
        go_wp2_with fail
        refine HDN.out.mono ?_
        rintro e w3 ⟨rfl, rfl⟩
        go_wp2
        go_ret2
        exact ⟨HB2.out, .inr ⟨T.1, p, gp, op, F, O, BA, bc, PA, pc, HN.out, rfl, HTA.out⟩⟩
end Go.Proofs.YtdolapobkhhanaaDoor
/-
  StateAny: the reference's new terminal fits (made, its bytes, back).
-/
namespace Go.Proofs.YtdolapobkhhanaaDoor
open Go.RowKit Go.Lib KM
set_option maxRecDepth 100000

theorem n_runs : runs (blanks 2 zero) = [(2, blankS zero)] := by decide
theorem n_big : VM.enc 72340172838076672 = [128, 130, 132, 136, 144, 160, 192, 128, 1] := by
  iterate 8 rw [VM.enc_ge (by decide)]
  rw [VM.enc_lt (by decide)]
theorem n_enc : encT (newT 2 1) = [2, 1, 0, 1, 1, 128, 130, 132, 136, 144, 160, 192, 128, 1, 0, 0, 0, 0, 0, 0, 0, 0, 0, 0, 0, 0, 2, 32, 0, 2, 32, 0, 0, 0, 0, 0, 0, 0, 0, 0, 0] := by
  have e0 : VM.enc 0 = [0] := VM.enc_lt (by decide)
  have e1 : VM.enc 1 = [1] := VM.enc_lt (by decide)
  have e2 : VM.enc 2 = [2] := VM.enc_lt (by decide)
  have e3 : VM.enc 32 = [32] := VM.enc_lt (by decide)
  have s0 : snum zero = 0 := by decide
  have r0 : runsB [(2, blankS zero)] = [2, 32, 0] := by
    rw [runsB_one]
    show VM.enc 2 ++ VM.enc 32 ++ VM.enc (snum zero) = _
    rw [s0, e0, e2, e3]; rfl
  simp only [encT, newT, encCs, encC, encLs, encBk, encP, zps, zcur, VM.encs, List.flatMap_cons, List.flatMap_nil, List.length_nil, List.replicate_succ, List.replicate_zero, n_runs, n_big, r0, s0, e0, e1, e2, Bool.toNat_false]
  rfl
theorem n_ok : TmOk (newT 2 1) := by
  have hl : ∀ x ∈ List.replicate 1 (blanks 2 zero), LnOk 2 x := by
    intro x hx
    obtain ⟨_, rfl⟩ := List.mem_replicate.1 hx
    refine ⟨rfl, by decide, ?_⟩
    rw [n_runs]
    intro r hr
    obtain rfl := List.mem_singleton.1 hr
    exact ⟨by decide, by decide, by decide, by decide, by decide⟩
  refine ⟨by decide, by decide, by decide, by decide, by decide, ⟨rfl, ?_⟩, ⟨rfl, hl⟩, ⟨rfl, hl⟩, ⟨by decide, by simp [newT]⟩, ⟨by decide, by simp [newT]⟩, ⟨by decide, by simp [newT]⟩, ⟨by decide, by decide, by decide, ⟨by decide, by simp [newT, zps]⟩, ⟨by decide, by simp [newT, zps]⟩, ⟨by decide, by simp [newT, zps]⟩⟩⟩
  intro c hc
  have : c = zcur := by simpa [newT] using hc
  subst this
  exact ⟨by decide, by decide, by decide, by decide⟩
theorem n_right : rightP (newT 2 1).p = true := by decide
theorem n_dec : decT (encT (newT 2 1)) = some (newT 2 1) := decT_enc _ n_ok n_right

theorem new_two (w : World) : Calls Tryd.prog 10 #[.int .i64 2, .int .i64 1] w fun e w' => ∃ p gp op F O, e = .returned (.pointer (some ⟨p, 0, none⟩)) ∧ TmA w' p gp op F O none 0 none 0 (newT 2 1) ∧ Below w.heap.size w w' := by
  refine (tnew_ok w 2 1 ⟨by decide, by decide⟩ ⟨by decide, by decide⟩).mono ?_
  rintro e w' ⟨p, gp, op, F, O, rfl, hb, _, _, _, hbl⟩
  exact ⟨p, gp, op, F, O, rfl, ⟨hb, LinesAt.nil, fun h => absurd h (by simp [newT, zps])⟩, hbl⟩
theorem TmA.c0 {w : World} {p gp op : Nat} {F O : List Nat} {BA : Option Addr} {bc : Nat} {PA : Option Addr} {pc : Nat} {t : Tm} (h : TmA w p gp op F O BA bc PA pc t) : w.cell? ⟨p, 0, none⟩ = some (.pointer (some ⟨gp, 0, none⟩)) := h.tb.cells.cell (i := 0) (by omega)
theorem TmA.c1 {w : World} {p gp op : Nat} {F O : List Nat} {BA : Option Addr} {bc : Nat} {PA : Option Addr} {pc : Nat} {t : Tm} (h : TmA w p gp op F O BA bc PA pc t) : w.cell? ⟨p, 1, none⟩ = some (.pointer (some ⟨op, 0, none⟩)) := h.tb.cells.cell (i := 1) (by omega)

set_option maxHeartbeats 4000000 in
theorem sfit_ok (w : World) (hT : Tabs w) (hU : Utf w) : Calls Tryd.prog 4 #[] w fun e w' => e = .returned (.bool true) ∧ Below w.heap.size w w' := by
  have HT := Lib.hid hT
  have HU := Lib.hid hU
  have hroom := hT.room
  clear hT hU
  have HN := Lib.hid (new_two w)
  go_enter Tryd.func4, Tryd.ntmps4
  go_wp2_with fail
  refine HN.out.mono ?_
  rintro e w1 ⟨p, gp, op, F, O, rfl, hA, hb⟩
  have c0 := hA.c0
  have c1 := hA.c1
  have z1 := hb.size
  have HB1 := Lib.hid hb
  have HA := Lib.hid hA
  clear hA hb HN
  have HE := Lib.hid (encode_ok w1 p gp op F O none 0 none 0 (newT 2 1) HA.out n_ok (by rw [n_enc]; decide))
  go_wp2_with fail
  refine HE.out.mono ?_
  rintro e w2 ⟨v2, rfl, ho, hb2⟩
  obtain ⟨A2, a2, rfl, hl2, hc2, _, hr2⟩ := ho.form
  have z2 := hb2.size
  have HB2 := Lib.hid (HB1.out.trans (hb2.mono z1))
  obtain ⟨l, hl⟩ : ∃ l, l = encT (newT 2 1) := ⟨_, rfl⟩
  rw [← hl] at hr2 hl2
  have hlen : l.length = 41 := by rw [hl, n_enc]; rfl
  obtain ⟨b, off, rfl, hbb, hcl⟩ := hr2 (by omega)
  have q0 : w2.cell? ⟨b, off, none⟩ = some (.int .u8 2) := by
    have := hcl 0 (by omega)
    simpa [hl, n_enc] using this
  have q3 : w2.cell? ⟨b, off + 3, none⟩ = some (.int .u8 1) := by
    have := hcl 3 (by omega)
    simpa [hl, n_enc] using this
  have HD := Lib.hid (decode_ok w2 (some ⟨b, off, none⟩) l a2 w2.heap.size (fun h => ⟨b, off, rfl, hbb, hcl⟩) (fun h => by cases h) (by omega) (by rw [hl, n_enc]; decide) (HT.out.on HB2.out hroom) (HU.out.on HB2.out (by omega)))
  rw [hl, n_dec, ← hl, hlen] at HD
  rw [← hl, hlen]
  rw [hlen] at hl2
  clear hr2 hbb hcl ho hb2 HE hl hlen HA c0 c1
  go_wp2_with fail
  refine HD.out.mono ?_
  rintro e w3 ⟨hb3, ⟨hn, _⟩ | ⟨t, p3, gp3, op3, F3, O3, BA, bc, PA, pc, ht, rfl, hA3⟩⟩
  · cases hn
  · injection ht with ht
    subst ht
    have HB3 := Lib.hid (HB2.out.trans (hb3.mono HB2.out.size))
    have d0 := hA3.c0
    have d1 := hA3.c1
    obtain ⟨hb_, hc_, L, hg, _⟩ := hA3.tb.shown
    have g0 : w3.cell? ⟨gp3, 0, none⟩ = some (.int .i64 2) := hg.cell0
    have g2 := hg.cell2
    rw [show L.length = 1 from hg.len] at g2
    clear hg hA3 hb3
    go_wp2
    go_ret
    exact ⟨rfl, HB3.out⟩
end Go.Proofs.YtdolapobkhhanaaDoor
