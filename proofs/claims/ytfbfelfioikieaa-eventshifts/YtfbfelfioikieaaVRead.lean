/-
  Layer 1 (vary): what a Reader's calls answer, and what becomes of it.
-/
import Derived.Test.YtfbfelfioikieaaVFit
import Derived.Test.YtfbfelfioikieaaVStr
import Derived.Lib.AppendStr
namespace Go.Proofs.Ytfbfelfioikieaa
open Go.RowKit

/-- The reader at block g has these bytes left; bad: something wasn't there. -/
def Rd (w : World) (g : Nat) (l : List Nat) (bad : Bool) : Prop :=
  ∃ A c, w.heap[g]? = some (.cells #[.slice A l.length c, .bool bad] 47 (0, 0)) ∧ l.length ≤ c ∧ c ≤ maxLen ∧ Row w g .u8 A l ∧ ∀ x ∈ l, x < 256

theorem two_cell {w : World} {g : Nat} {a b : Value} {t : TypeId} (h : w.heap[g]? = some (.cells #[a, b] t (0, 0))) :
    w.cell? ⟨g, 0, none⟩ = some a ∧ w.cell? ⟨g, 1, none⟩ = some b ∧ w.frozen? ⟨g, 0, none⟩ = false ∧ w.frozen? ⟨g, 1, none⟩ = false :=
  ⟨by rw [cell_of_row w g 0 _ t (0, 0) h]; rfl, by rw [cell_of_row w g 1 _ t (0, 0) h]; rfl, by simp [World.frozen?, h], by simp [World.frozen?, h]⟩
theorem two_set0 {w : World} {g : Nat} {a b : Value} {t : TypeId} (h : w.heap[g]? = some (.cells #[a, b] t (0, 0))) (v : Value) : (w.setCell ⟨g, 0, none⟩ v).heap[g]? = some (.cells #[v, b] t (0, 0)) := by
  simp [World.setCell, Array.getElem?_modify, h]
theorem two_set1 {w : World} {g : Nat} {a b : Value} {t : TypeId} (h : w.heap[g]? = some (.cells #[a, b] t (0, 0))) (v : Value) : (w.setCell ⟨g, 1, none⟩ v).heap[g]? = some (.cells #[a, v] t (0, 0)) := by
  simp [World.setCell, Array.getElem?_modify, h]
theorem only_set {a w : World} {g : Nat} (h : a.grownBy w (some g)) (i : Nat) (v : Value) : a.grownBy (w.setCell ⟨g, i, none⟩ v) (some g) :=
  ⟨h.os, h.tape, h.output, by simpa [World.setCell] using h.size, fun k hk hne => (Below.heap_setCell w ⟨g, i, none⟩ v k (by rintro rfl; exact hne rfl)).trans (h.block k hk hne)⟩
theorem only_refl (w : World) (g : Option Nat) : w.grownBy w g := ⟨rfl, rfl, rfl, Nat.le_refl _, fun _ _ _ => rfl⟩
theorem only_trans {a b c : World} {g : Option Nat} (h : a.grownBy b g) (k : b.grownBy c g) : a.grownBy c g :=
  ⟨k.os.trans h.os, k.tape.trans h.tape, k.output.trans h.output, Nat.le_trans h.size k.size, fun i hi hne => (k.block i (Nat.lt_of_lt_of_le hi h.size) hne).trans (h.block i hi hne)⟩
theorem only_below {a w : World} {g B : Nat} (h : a.grownBy w (some g)) (hB : B ≤ g) (hz : B ≤ a.heap.size) : Below B a w :=
  ⟨h.os, h.tape, h.output, h.size, fun k hk => h.block k (by omega) (by intro e; injection e with e; omega)⟩
theorem Rd.lt {w : World} {g : Nat} {l : List Nat} {bad : Bool} (h : Rd w g l bad) : g < w.heap.size := by
  obtain ⟨A, c, h, _⟩ := h
  exact (Array.getElem?_eq_some_iff.1 h).1

theorem fail_any (w : World) (g : Nat) (l : List Nat) (bad : Bool) (h : Rd w g l bad) :
    Calls Try.prog 34 #[.pointer (some ⟨g, 0, none⟩)] w fun e w' => e = .returned (.tuple #[]) ∧ Rd w' g [] true ∧ w.grownBy w' (some g) := by
  obtain ⟨A, c, hg, _⟩ := h
  obtain ⟨h0, h1, f0, f1⟩ := two_cell hg
  have HG := Lib.hid hg; clear hg
  go_enter Try.func34, Try.ntmps34
  go_wp2
  go_end0
  exact ⟨rfl, ⟨none, 0, two_set1 (two_set0 HG.out _) _, Nat.le_refl _, by unfold maxLen; omega, Row.nil, by simp⟩, only_set (only_set (only_refl _ _) 0 _) 1 _⟩

/-- What a number below L that is asked for leaves: the number, the bytes that are left, was something missing? -/
def numOf (l : List Nat) (bad : Bool) (L : Nat) : Nat × List Nat × Bool :=
  if (VM.take l).2 = 0 ∨ L ≤ (VM.take l).1 then (0, [], true) else ((VM.take l).1, l.drop (VM.take l).2, bad)

def NumPost (w : World) (g : Nat) (r : Nat × List Nat × Bool) (e : Ending) (w' : World) : Prop :=
  e = .returned (.int .i64 r.1) ∧ Rd w' g r.2.1 r.2.2 ∧ w.grownBy w' (some g)

set_option maxRecDepth 100000 in
theorem below_any (w : World) (g : Nat) (l : List Nat) (bad : Bool) (L : Nat) (hL : L ≤ 9223372036854775808) (h : Rd w g l bad) :
    Calls Try.prog 33 #[.pointer (some ⟨g, 0, none⟩), .int .u64 L] w (NumPost w g (numOf l bad L)) := by
  have HR := Lib.hid h
  obtain ⟨A, c, hg, hlc, hcm, hr, hby⟩ := h
  obtain ⟨h0, h1, f0, f1⟩ := two_cell hg
  have htl := VM.take_lt l hby
  have HG := Lib.hid hg; have HRow := Lib.hid hr; have HBY := Lib.hid hby; have HCM := Lib.hid hcm
  clear hg hr hby hcm
  by_cases hc : (VM.take l).2 = 0 ∨ L ≤ (VM.take l).1
  · have e : numOf l bad L = (0, [], true) := by unfold numOf; rw [if_pos hc]
    rw [e]
    clear e
    go_enter Try.func33, Try.ntmps33
    go_wp2_with fail
    refine (take_any A c l _ g (by have := HCM.out; omega) HRow.out HBY.out).mono ?_
    rintro e w1 ⟨rfl, rfl⟩
    generalize (VM.take l).1 = n at *
    generalize (VM.take l).2 = k at *
    by_cases hk : k = 0
    · have hk1 : ((k : Int) == 0) = true := beq_iff_eq.2 (by omega)
      clear hc
      subst hk
      go_wp2_with fail
      refine (fail_any _ g l bad HR.out).mono ?_
      rintro e w2 ⟨rfl, hrd, hon⟩
      have H1 := Lib.hid hrd; have H2 := Lib.hid hon; clear hrd hon
      go_wp2
      go_ret
      exact ⟨rfl, H1.out, H2.out⟩
    · have hk1 : ((k : Int) == 0) = false := beq_eq_false_iff_ne.2 (by omega)
      have hLn : L ≤ n := by omega
      clear hc
      have hd : decide (L ≤ n) = true := by simp [hLn]
      go_wp2_with fail
      refine (fail_any _ g l bad HR.out).mono ?_
      rintro e w2 ⟨rfl, hrd, hon⟩
      have H1 := Lib.hid hrd; have H2 := Lib.hid hon; clear hrd hon
      go_wp2
      go_ret
      exact ⟨rfl, H1.out, H2.out⟩
  · have e : numOf l bad L = ((VM.take l).1, l.drop (VM.take l).2, bad) := by unfold numOf; rw [if_neg hc]
    rw [e]
    clear e
    go_enter Try.func33, Try.ntmps33
    go_wp2_with fail
    refine (take_any A c l _ g (by have := HCM.out; omega) HRow.out HBY.out).mono ?_
    rintro e w1 ⟨rfl, rfl⟩
    generalize (VM.take l).1 = n at *
    generalize (VM.take l).2 = k at *
    have hk1 : ((k : Int) == 0) = false := beq_eq_false_iff_ne.2 (by omega)
    have hLn : n < L := by omega
    have hd : decide (L ≤ n) = false := by simp; omega
    have hkl := htl.2
    clear hc htl
    have hcut : ∀ W, (Instr.slice 30 (.slice A l.length c) (some (.int .i64 (k : Int))) none none).run Try.prog W = .ok (.slice (cutA A c k) (l.length - k) (c - k)) W := fun W => run_cut _ _ _ _ W hkl
    go_wp2
    go_ret
    refine ⟨rfl, ⟨cutA A c k, c - k, by rw [List.length_drop]; exact two_set0 HG.out _, by rw [List.length_drop]; omega, by have := HCM.out; omega, ?_, fun x hx => HBY.out x (List.mem_of_mem_drop hx)⟩, only_set (only_refl _ _) 0 _⟩
    exact (HRow.out.cut hkl hlc).below ((Below.refl g w).setCell (p := ⟨g, 0, none⟩) (Nat.le_refl g) _)

/-- What Num asks: below the limit, or below 2^63. -/
def lim (limit : Int) : Nat := if limit ≤ 0 then 9223372036854775808 else limit.toNat

theorem num_any (w : World) (g : Nat) (l : List Nat) (bad : Bool) (limit : Int) (hL : limit ≤ 9223372036854775807) (h : Rd w g l bad) :
    Calls Try.prog 26 #[.pointer (some ⟨g, 0, none⟩), .int .i64 limit] w (NumPost w g (numOf l bad (lim limit))) := by
  have HR := Lib.hid h; clear h
  by_cases hc : limit ≤ 0
  · have e : lim limit = 9223372036854775808 := by unfold lim; rw [if_pos hc]
    rw [e]; clear e
    go_enter Try.func26, Try.ntmps26
    go_wp2_with fail
    refine (below_any w g l bad 9223372036854775808 (Nat.le_refl _) HR.out).mono ?_
    rintro e w1 ⟨rfl, hrd, hon⟩
    have H1 := Lib.hid hrd; have H2 := Lib.hid hon; clear hrd hon
    go_wp2
    go_ret
    exact ⟨rfl, H1.out, H2.out⟩
  · have e : lim limit = limit.toNat := by unfold lim; rw [if_neg hc]
    rw [e]; clear e
    obtain ⟨n, rfl⟩ := Int.eq_ofNat_of_zero_le (show 0 ≤ limit by omega)
    have hn : 0 < n := by omega
    rw [Int.toNat_natCast]
    go_enter Try.func26, Try.ntmps26
    go_wp2_with fail
    refine (below_any w g l bad n (by omega) HR.out).mono ?_
    rintro e w1 ⟨rfl, hrd, hon⟩
    have H1 := Lib.hid hrd; have H2 := Lib.hid hon; clear hrd hon
    go_wp2
    go_ret
    exact ⟨rfl, H1.out, H2.out⟩

theorem good_any (w : World) (g : Nat) (l : List Nat) (bad : Bool) (h : Rd w g l bad) :
    Calls Try.prog 17 #[.pointer (some ⟨g, 0, none⟩)] w fun e w' => e = .returned (.bool !bad) ∧ w = w' := by
  obtain ⟨A, c, hg, _⟩ := h
  obtain ⟨h0, h1, f0, f1⟩ := two_cell hg
  clear hg
  go_enter Try.func17, Try.ntmps17
  go_wp2
  go_ret
  exact ⟨rfl, rfl⟩

theorem done_any (w : World) (g : Nat) (l : List Nat) (bad : Bool) (h : Rd w g l bad) :
    Calls Try.prog 18 #[.pointer (some ⟨g, 0, none⟩)] w fun e w' => e = .returned (.bool (!bad && l.isEmpty)) ∧ w = w' := by
  obtain ⟨A, c, hg, _⟩ := h
  obtain ⟨h0, h1, f0, f1⟩ := two_cell hg
  clear hg
  cases bad with
  | true =>
    go_enter Try.func18, Try.ntmps18
    go_wp2
    go_ret
    exact ⟨rfl, rfl⟩
  | false =>
    cases l with
    | nil =>
      go_enter Try.func18, Try.ntmps18
      go_wp2
      go_ret
      exact ⟨rfl, rfl⟩
    | cons x l =>
      have hd : (((l.length : Int) + 1) == 0) = false := beq_eq_false_iff_ne.2 (by omega)
      go_enter Try.func18, Try.ntmps18
      go_wp2
      go_ret
      exact ⟨rfl, rfl⟩

/-- What a text of no more than 'most' bytes that is asked for leaves. -/
def textOf (l : List Nat) (bad : Bool) (most : Nat) : List Nat × List Nat × Bool :=
  if (numOf l bad (most + 1)).2.1.length < (numOf l bad (most + 1)).1 then ([], [], true)
  else ((numOf l bad (most + 1)).2.1.take (numOf l bad (most + 1)).1, (numOf l bad (most + 1)).2.1.drop (numOf l bad (most + 1)).1, (numOf l bad (most + 1)).2.2)

def TextPost (w : World) (g : Nat) (r : List Nat × List Nat × Bool) (e : Ending) (w' : World) : Prop :=
  e = .returned (.string (str r.1)) ∧ Rd w' g r.2.1 r.2.2 ∧ w.grownBy w' (some g)

set_option maxRecDepth 100000 in
theorem text_nat (w : World) (g : Nat) (l : List Nat) (bad : Bool) (most : Int) (M : Nat) (hM : M ≤ 9223372036854775807) (hcase : most < 0 ∧ M = 0 ∨ most = M) (h : Rd w g l bad) :
    Calls Try.prog 27 #[.pointer (some ⟨g, 0, none⟩), .int .i64 most] w (TextPost w g (textOf l bad M)) := by
  have HR := Lib.hid h; clear h
  have HC := Lib.hid (below_any w g l bad (M + 1) (by omega) HR.out)
  generalize hR0 : textOf l bad M = R
  unfold textOf at hR0
  generalize numOf l bad (M + 1) = r at *
  obtain ⟨n, l1, bad1⟩ := r
  dsimp only at hR0
  have HR0 := Lib.hid hR0; clear hR0
  rcases hcase with ⟨hneg, rfl⟩ | rfl
  · go_enter Try.func27, Try.ntmps27
    go_wp2_with fail
    refine HC.out.mono ?_
    rintro e w1 ⟨rfl, hrd, hon⟩
    dsimp only at hrd ⊢
    have HRD := Lib.hid hrd; have HON := Lib.hid hon
    obtain ⟨A, c, hg, hlc, hcm, hr, hby⟩ := hrd
    obtain ⟨h0, h1, f0, f1⟩ := two_cell hg
    have hcm' : c ≤ 9223372036854775807 := by unfold maxLen at hcm; omega
    by_cases hif : l1.length < n
    · have hR := HR0.out; rw [if_pos hif] at hR
      subst hR
      clear hg hr hby hon hcm HR0
      go_wp2_with fail
      refine (fail_any w1 g l1 bad1 HRD.out).mono ?_
      rintro e w2 ⟨rfl, hrd2, hon2⟩
      have H1 := Lib.hid hrd2; have H2 := Lib.hid hon2; clear hrd2 hon2
      go_wp2
      go_ret
      exact ⟨rfl, H1.out, only_trans HON.out H2.out⟩
    · have hR := HR0.out; rw [if_neg hif] at hR
      subst hR
      have hln : (l1.take n).length = n := by rw [List.length_take]; omega
      have hcv := run_string A (l1.take n) c _ w1 (hr.take n)
      rw [hln] at hcv
      have hhead : ∀ W, (Instr.slice 30 (.slice A l1.length c) none (some (.int .i64 (n : Int))) none).run Try.prog W = .ok (.slice A n c) W := fun W => run_head A _ c _ W (by omega)
      have hcut : ∀ W, (Instr.slice 30 (.slice A l1.length c) (some (.int .i64 (n : Int))) none none).run Try.prog W = .ok (.slice (cutA A c n) (l1.length - n) (c - n)) W := fun W => run_cut _ _ _ _ W (by omega)
      have HG := Lib.hid hg; have HRow := Lib.hid hr; have HBY := Lib.hid hby
      clear hg hr hby hon hcm HR0 hln
      go_wp2
      go_ret
      refine ⟨rfl, ⟨cutA A c n, c - n, by rw [List.length_drop]; exact two_set0 HG.out _, by rw [List.length_drop]; omega, by unfold maxLen; omega, ?_, fun x hx => HBY.out x (List.mem_of_mem_drop hx)⟩, only_set HON.out 0 _⟩
      exact (HRow.out.cut (by omega) hlc).below ((Below.refl g w1).setCell (p := ⟨g, 0, none⟩) (Nat.le_refl g) _)
  · go_enter Try.func27, Try.ntmps27
    go_wp2_with fail
    rw [show ((M : Int) + 1) = ((M + 1 : Nat) : Int) from by omega]
    refine HC.out.mono ?_
    rintro e w1 ⟨rfl, hrd, hon⟩
    dsimp only at hrd ⊢
    have HRD := Lib.hid hrd; have HON := Lib.hid hon
    obtain ⟨A, c, hg, hlc, hcm, hr, hby⟩ := hrd
    obtain ⟨h0, h1, f0, f1⟩ := two_cell hg
    have hcm' : c ≤ 9223372036854775807 := by unfold maxLen at hcm; omega
    by_cases hif : l1.length < n
    · have hR := HR0.out; rw [if_pos hif] at hR
      subst hR
      clear hg hr hby hon hcm HR0
      go_wp2_with fail
      refine (fail_any w1 g l1 bad1 HRD.out).mono ?_
      rintro e w2 ⟨rfl, hrd2, hon2⟩
      have H1 := Lib.hid hrd2; have H2 := Lib.hid hon2; clear hrd2 hon2
      go_wp2
      go_ret
      exact ⟨rfl, H1.out, only_trans HON.out H2.out⟩
    · have hR := HR0.out; rw [if_neg hif] at hR
      subst hR
      have hln : (l1.take n).length = n := by rw [List.length_take]; omega
      have hcv := run_string A (l1.take n) c _ w1 (hr.take n)
      rw [hln] at hcv
      have hhead : ∀ W, (Instr.slice 30 (.slice A l1.length c) none (some (.int .i64 (n : Int))) none).run Try.prog W = .ok (.slice A n c) W := fun W => run_head A _ c _ W (by omega)
      have hcut : ∀ W, (Instr.slice 30 (.slice A l1.length c) (some (.int .i64 (n : Int))) none none).run Try.prog W = .ok (.slice (cutA A c n) (l1.length - n) (c - n)) W := fun W => run_cut _ _ _ _ W (by omega)
      have HG := Lib.hid hg; have HRow := Lib.hid hr; have HBY := Lib.hid hby
      clear hg hr hby hon hcm HR0 hln
      go_wp2
      go_ret
      refine ⟨rfl, ⟨cutA A c n, c - n, by rw [List.length_drop]; exact two_set0 HG.out _, by rw [List.length_drop]; omega, by unfold maxLen; omega, ?_, fun x hx => HBY.out x (List.mem_of_mem_drop hx)⟩, only_set HON.out 0 _⟩
      exact (HRow.out.cut (by omega) hlc).below ((Below.refl g w1).setCell (p := ⟨g, 0, none⟩) (Nat.le_refl g) _)

theorem text_any (w : World) (g : Nat) (l : List Nat) (bad : Bool) (most : Int) (hM : most ≤ 9223372036854775807) (h : Rd w g l bad) :
    Calls Try.prog 27 #[.pointer (some ⟨g, 0, none⟩), .int .i64 most] w (TextPost w g (textOf l bad most.toNat)) :=
  text_nat w g l bad most most.toNat (by omega) (by omega) h

def OfPost (w : World) (l : List Nat) (e : Ending) (w' : World) : Prop :=
  ∃ g, e = .returned (.pointer (some ⟨g, 0, none⟩)) ∧ w.heap.size ≤ g ∧ Rd w' g l false ∧ Below w.heap.size w w'

theorem of_any (w : World) (A : Option Addr) (l : List Nat) (c : Nat) (B : Nat) (hr : Row w B .u8 A l) (hA : A = none → c = 0) (hl : l.length ≤ 100000000000) (hby : ∀ x ∈ l, x < 256) :
    Calls Try.prog 15 #[.slice A l.length c] w (OfPost w l) := by
  have HR := Lib.hid hr; have HA := Lib.hid hA; have HBY := Lib.hid hby
  clear hr hA hby
  go_enter Try.func15, Try.ntmps15
  go_wp2_with (at_builtin; refine wpList_append_row rfl (.const (.slice none 0 0)) (.tmp 3) rfl w.heap.size _ [] rfl (Own.nil _ _) A l c B rfl HR.out HA.out (by simp; omega) (Nat.le_refl _) ?_; intro v1 w1 ho1 hg1; have HO1 := Lib.hid ho1; have HG1 := Lib.hid (((Below.refl w.heap.size w).grown hg1 (Nat.le_refl _) (Own.nil w _).lt)); clear ho1 hg1; obtain ⟨A1, c1, hv1, hl1, hc1, _, hr1⟩ := HO1.out.form; rw [hv1]; rw [List.nil_append] at hl1 hr1 ⊢; have HR1 := Lib.hid hr1; have HC1 := Lib.hid hc1; clear hv1 hr1 hc1)
  go_ret
  refine ⟨w1.heap.size, rfl, HG1.out.size, ⟨A1, c1, heap_alloc_new w1 _, hl1, HC1.out, HR1.out.below ((Below.refl _ _).alloc (Nat.le_refl _) _), HBY.out⟩, HG1.out.alloc HG1.out.size _⟩

/-- A text's bytes, as numbers. -/
def sb (s : ByteArray) : List Nat := s.data.toList.map UInt8.toNat
theorem sb_len (s : ByteArray) : (sb s).length = s.size := by unfold sb; rw [List.length_map, Array.length_toList]; rfl
theorem sb_byte (s : ByteArray) : ∀ x ∈ sb s, x < 256 := by
  intro x hx
  obtain ⟨b, _, rfl⟩ := List.mem_map.1 hx
  exact b.toNat_lt
theorem str_sb (s : ByteArray) : str (sb s) = s := by
  refine ByteArray.ext (Array.toList_inj.1 ?_)
  rw [str_list, sb, List.map_map]
  conv => rhs; rw [← List.map_id s.data.toList]
  exact List.map_congr_left fun b _ => UInt8.ofNat_toNat
theorem strCells_sb (s : ByteArray) : Lib.strCells s = nums .u8 (sb s) := by unfold Lib.strCells nums sb; rw [List.map_map]; rfl

theorem putText_any (v : Value) (xs : List Nat) (s : ByteArray) (w : World) (base : Nat) (hs : s.size ≤ 100000000000) (hx : xs.length ≤ 1000000000) (hown : Own w base v xs) (hbase : base ≤ w.heap.size) :
    Calls Try.prog 25 #[v, .string s] w fun e w' => ∃ v', e = .returned v' ∧ Own w' base v' (xs ++ VM.enc s.size ++ sb s) ∧ Below base w w' := by
  obtain ⟨i0, hi, hz0, hz1, hz2⟩ := info_parts Try.info5
  have hlen := VM.enc_len64 (n := s.size) (by omega)
  go_enter Try.func25, Try.ntmps25
  go_wp2_with fail
  refine (putOne_any v xs s.size w base (by omega) hx hown hbase).mono ?_
  rintro e w1 ⟨v1, rfl, ho1, hb1⟩
  have hz := hb1.size
  have hxl : (xs ++ VM.enc s.size).length ≤ 1000000010 := by rw [List.length_append]; omega
  have HO1 := Lib.hid ho1; have HB1 := Lib.hid hb1; clear ho1 hb1 hown
  go_wp2_with (at_builtin; refine Lib.wpList_append_own_string _ rfl (.tmp 9) (.tmp 10) 30 9 rfl base 5 i0 Try.underlying30 Try.underlying9 hi hz0 hz1 hz2 v1 _ _ rfl HO1.out s rfl (by unfold maxLen; omega) (by omega) (by omega) ?_; intro v2 w2 ho2 hg2 _; have HO2 := Lib.hid ho2; have HG2 := Lib.hid (HB1.out.grown hg2 (by omega) HO1.out.lt); clear ho2 hg2)
  go_ret
  refine ⟨v2, rfl, ?_, HG2.out⟩
  have h := HO2.out
  rw [strCells_sb, ← nums_append] at h
  unfold Own
  rw [List.length_append, sb_len]
  exact h

theorem numOf_enc (n : Nat) (rest : List Nat) (bad : Bool) (L : Nat) (hn : n < 18446744073709551616) : numOf (VM.enc n ++ rest) bad L = if L ≤ n then (0, [], true) else (n, rest, bad) := by
  have := VM.enc_pos n
  unfold numOf
  rw [VM.take_enc n rest hn, List.drop_left]
  by_cases h : L ≤ n
  · rw [if_pos (Or.inr h), if_pos h]
  · rw [if_neg (by simp only; omega), if_neg h]
theorem numOf_nil (bad : Bool) (L : Nat) : numOf [] bad L = (0, [], true) := by unfold numOf; rw [VM.take_nil, if_pos (Or.inl rfl)]
theorem textOf_enc (l rest : List Nat) (bad : Bool) (most : Nat) (hn : l.length < 18446744073709551616) : textOf (VM.enc l.length ++ (l ++ rest)) bad most = if most < l.length then ([], [], true) else (l, rest, bad) := by
  unfold textOf
  rw [numOf_enc _ _ _ _ hn]
  by_cases h : most < l.length
  · rw [if_pos (show most + 1 ≤ l.length from h), if_pos h]; rfl
  · rw [if_neg (show ¬ most + 1 ≤ l.length from h), if_neg h]
    rw [if_neg (by simp)]
    simp
theorem textOf_nil (bad : Bool) (most : Nat) : textOf [] bad most = ([], [], true) := by unfold textOf; rw [numOf_nil]; rfl
end Go.Proofs.Ytfbfelfioikieaa
