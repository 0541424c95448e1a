/-
  SVtA, SVtR, SFlags, DRow, in one text.
-/
import Derived.Test.YtdolapobkhhanaaDoorM07
import Derived.Laws.Unary
import Derived.Test.YtdolapobkhhanaaDoorM03
import Derived.Test.YtdolapobkhhanaaDoorM04
import Derived.Laws.CopyOwn
import Derived.Laws.MakeOwn
import Derived.Lib.AppendZeros
import Derived.Deep.CutRange
/-
  Layer 6 (vt), for layer 11: is a parser right? Its marks, parameters, text.
-/
namespace Go.Proofs.YtdolapobkhhanaaDoor
open Go.RowKit Go.Lib

theorem sb_get (s : ByteArray) (k : Nat) (h : k < s.size) : (sb s)[k]'(by rw [sb_len]; exact h) = s[k].toNat := by
  unfold sb
  simp [ByteArray.getElem_eq_getElem_data]
theorem dec_le (n k : Nat) : decide ((n : Int) ≤ (k : Int)) = decide (n ≤ k) := by
  by_cases h : n ≤ k <;> simp [h]
theorem all_snoc {l : List Nat} {f : Nat → Bool} {k : Nat} (hk : k < l.length) (h : (l.take k).all f = true) (hf : f l[k] = true) : (l.take (k + 1)).all f = true := by
  rw [List.take_succ_eq_append_getElem hk, List.all_append, h]
  simp [hf]
theorem all_not {l : List Nat} {f : Nat → Bool} {k : Nat} (hk : k < l.length) (hf : f l[k] = false) : l.all f = false := by
  rw [← Bool.not_eq_true, List.all_eq_true]
  intro h
  have := h l[k] (List.getElem_mem hk)
  rw [hf] at this
  cases this

set_option maxRecDepth 100000 in
set_option maxHeartbeats 1000000 in
theorem inEscape_ok (w : World) (c : Nat) : Calls Tryd.prog 16 #[.int .u8 (c : Int)] w fun e w' => e = .returned (.bool (inEsc c)) ∧ w' = w := by
  unfold inEsc
  by_cases h1 : 32 ≤ c
  · by_cases h2 : c ≤ 47
    · have g : decide (32 ≤ c ∧ c ≤ 47) = true := by simp; omega
      have k1 : (32 : Int) ≤ (c : Int) := by omega
      have k2 : (c : Int) ≤ 47 := by omega
      rw [g]
      go_enter Tryd.func16, Tryd.ntmps16
      go_wp2
      go_ret
      exact ⟨rfl, rfl⟩
    · have g : decide (32 ≤ c ∧ c ≤ 47) = false := by simp; omega
      have k1 : (32 : Int) ≤ (c : Int) := by omega
      have k2 : ¬ (c : Int) ≤ 47 := by omega
      rw [g]
      go_enter Tryd.func16, Tryd.ntmps16
      go_wp2
      go_ret
      exact ⟨rfl, rfl⟩
  · have g : decide (32 ≤ c ∧ c ≤ 47) = false := by simp; omega
    have k1 : ¬ (32 : Int) ≤ (c : Int) := by omega
    rw [g]
    go_enter Tryd.func16, Tryd.ntmps16
    go_wp2
    go_ret
    exact ⟨rfl, rfl⟩

set_option maxRecDepth 100000 in
set_option maxHeartbeats 1000000 in
theorem inEntry_ok (w : World) (c : Nat) : Calls Tryd.prog 17 #[.int .u8 (c : Int)] w fun e w' => e = .returned (.bool (inEnt c)) ∧ w' = w := by
  have HE := Lib.hid (fun w => inEscape_ok w c)
  unfold inEnt
  rcases hE : inEsc c with _ | _
  · rw [hE] at HE
    by_cases h1 : 60 ≤ c
    · by_cases h2 : c ≤ 63
      · have g : decide (60 ≤ c ∧ c ≤ 63) = true := by simp; omega
        have k1 : (60 : Int) ≤ (c : Int) := by omega
        have k2 : (c : Int) ≤ 63 := by omega
        rw [g]
        go_enter Tryd.func17, Tryd.ntmps17
        go_wp2_with fail
        refine (HE.out _).mono ?_
        rintro e w1 ⟨rfl, rfl⟩
        go_wp2
        go_ret
        exact ⟨by first | rfl | (simp [k2]), rfl⟩
      · have g : decide (60 ≤ c ∧ c ≤ 63) = false := by simp; omega
        have k1 : (60 : Int) ≤ (c : Int) := by omega
        have k2 : ¬ (c : Int) ≤ 63 := by omega
        rw [g]
        go_enter Tryd.func17, Tryd.ntmps17
        go_wp2_with fail
        refine (HE.out _).mono ?_
        rintro e w1 ⟨rfl, rfl⟩
        go_wp2
        go_ret
        exact ⟨by first | rfl | (simp [k2]), rfl⟩
    · have g : decide (60 ≤ c ∧ c ≤ 63) = false := by simp; omega
      have k1 : ¬ (60 : Int) ≤ (c : Int) := by omega
      rw [g]
      go_enter Tryd.func17, Tryd.ntmps17
      go_wp2_with fail
      refine (HE.out _).mono ?_
      rintro e w1 ⟨rfl, rfl⟩
      go_wp2
      go_ret
      exact ⟨rfl, rfl⟩
  · rw [hE] at HE
    go_enter Tryd.func17, Tryd.ntmps17
    go_wp2_with fail
    refine (HE.out _).mono ?_
    rintro e w1 ⟨rfl, rfl⟩
    go_wp2
    go_ret
    exact ⟨rfl, rfl⟩

set_option maxRecDepth 100000 in
set_option maxHeartbeats 1000000 in
theorem rightText_ok (w : World) (s : ByteArray) (hs : s.size ≤ 1000) : Calls Tryd.prog 19 #[.string s] w fun e w' => e = .returned (.bool (textR (sb s))) ∧ w' = w := by
  unfold textR
  rw [sb_len]
  go_enter Tryd.func19, Tryd.ntmps19
  go_wp2
  go_loopw [6] (fun i wr => ∃ k : Nat, k ≤ s.size ∧ i = .int .i64 (k : Int) ∧ wr = w ∧ ((sb s).take k).all (fun n => decide (32 ≤ n)) = true) (fun i _ => s.size - (RowKit.intOf i).toNat)
  case atStart => exact ⟨0, Nat.zero_le _, rfl, rfl, by simp⟩
  case round =>
    obtain ⟨k, hk, rfl, rfl, ha⟩ := hrel
    have HA := Lib.hid ha
    clear ha
    by_cases hlt : k < s.size
    · have hl : k < (sb s).length := by rw [sb_len]; exact hlt
      have hg := sb_get s k hlt
      by_cases hc : 32 ≤ s[k].toNat
      · have HS := Lib.hid (all_snoc (f := fun n => decide (32 ≤ n)) hl HA.out (by rw [hg]; simpa using hc))
        have gc : decide ((s[k].toNat : Int) < 32) = false := by simp; omega
        have gc' : decide (s[k].toNat < 32) = false := by simp; omega
        clear hg
        go_wp2
        go_roundw
        case rel => exact ⟨k + 1, by omega, by simp, by first | rfl | trivial, HS.out⟩
        case measure => simp [RowKit.intOf]; omega
      · have HS := Lib.hid (all_not (f := fun n => decide (32 ≤ n)) hl (by rw [hg]; simpa using hc))
        have gc : decide ((s[k].toNat : Int) < 32) = true := by simp; omega
        have gc' : decide (s[k].toNat < 32) = true := by simp; omega
        clear hg
        go_wp2
        go_ret
        rw [HS.out]
        exact ⟨rfl, rfl⟩
    · have hks : k = s.size := by omega
      subst hks
      have e : (sb s).all (fun n => decide (32 ≤ n)) = true := by
        have := HA.out
        rwa [List.take_of_length_le (by rw [sb_len]; exact Nat.le_refl _)] at this
      have HE := Lib.hid e
      clear e
      go_wp2
      go_ret
      rw [HE.out, Bool.true_and, ← dec_le s.size 40]
      exact ⟨rfl, rfl⟩

set_option maxRecDepth 100000 in
set_option maxHeartbeats 1000000 in
theorem rightParams_ok (w : World) (l : List Nat) (hl : l.length ≤ 1000) (A : Option Addr) (c B : Nat) (hr : Row w B .i64 A l) : Calls Tryd.prog 18 #[.slice A l.length c] w fun e w' => e = .returned (.bool (paramR l)) ∧ w' = w := by
  have HR := Lib.hid hr
  clear hr
  unfold paramR
  go_enter Tryd.func18, Tryd.ntmps18
  go_wp2
  go_loopw [7] (fun i wr => ∃ k : Nat, k ≤ l.length ∧ i = .int .i64 (k : Int) ∧ wr = w ∧ (l.take k).all (fun n => decide (n ≤ 9999)) = true) (fun i _ => l.length - (RowKit.intOf i).toNat)
  case atStart => exact ⟨0, Nat.zero_le _, rfl, rfl, by simp⟩
  case round =>
    obtain ⟨k, hk, rfl, rfl, ha⟩ := hrel
    have HA := Lib.hid ha
    clear ha
    by_cases hlt : k < l.length
    · obtain ⟨b, off, rfl, _, hcell⟩ := HR.out.at_ hlt
      have hgd : l.getD k 0 = l[k] := by simp [hlt]
      rw [hgd] at hcell
      by_cases hc : l[k] ≤ 9999
      · have HS := Lib.hid (all_snoc (f := fun n => decide (n ≤ 9999)) hlt HA.out (by simpa using hc))
        clear hgd
        generalize l[k] = n at *
        have g0 : ((n : Int) < 0) = False := by simp
        have gc : decide ((9999 : Int) < (n : Int)) = false := by simp; omega
        have gc' : decide (9999 < n) = false := by simp; omega
        go_wp2
        go_roundw
        case rel => exact ⟨k + 1, by omega, by simp, by first | rfl | trivial, HS.out⟩
        case measure => simp [RowKit.intOf]; omega
      · have HS := Lib.hid (all_not (f := fun n => decide (n ≤ 9999)) hlt (by simpa using hc))
        clear hgd
        generalize l[k] = n at *
        have g0 : ((n : Int) < 0) = False := by simp
        have gc : decide ((9999 : Int) < (n : Int)) = true := by simp; omega
        have gc' : decide (9999 < n) = true := by simp; omega
        go_wp2
        go_ret
        rw [HS.out]
        exact ⟨rfl, rfl⟩
    · have hks : k = l.length := by omega
      subst hks
      have e : l.all (fun n => decide (n ≤ 9999)) = true := by
        have := HA.out
        rwa [List.take_of_length_le (Nat.le_refl _)] at this
      have HE := Lib.hid e
      clear e
      go_wp2
      go_ret
      rw [HE.out, Bool.true_and, ← dec_le l.length 8]
      exact ⟨rfl, rfl⟩

set_option maxRecDepth 100000 in
set_option maxHeartbeats 1000000 in
theorem rightMarksE_ok (w : World) (s : ByteArray) (hs : s.size ≤ 1000) :
    Calls Tryd.prog 15 #[.string s, .func (.func 16) #[] #[]] w fun e w' => e = .returned (.bool (markR inEsc (sb s))) ∧ w' = w := by
  have HF := Lib.hid (fun (w : World) (c : Nat) => inEscape_ok w c)
  unfold markR
  rw [sb_len]
  go_enter Tryd.func15, Tryd.ntmps15
  go_wp2
  go_loopw [8] (fun i wr => ∃ k : Nat, k ≤ s.size ∧ i = .int .i64 (k : Int) ∧ wr = w ∧ ((sb s).take k).all inEsc = true) (fun i _ => s.size - (RowKit.intOf i).toNat)
  case atStart => exact ⟨0, Nat.zero_le _, rfl, rfl, by simp⟩
  case round =>
    obtain ⟨k, hk, rfl, rfl, ha⟩ := hrel
    have HA := Lib.hid ha
    clear ha
    by_cases hlt : k < s.size
    · have hl : k < (sb s).length := by rw [sb_len]; exact hlt
      have hg := sb_get s k hlt
      rcases hc : inEsc s[k].toNat with _ | _
      · have HS := Lib.hid (all_not (f := inEsc) hl (by rw [hg]; exact hc))
        have HC := Lib.hid (HF.out wr s[k].toNat)
        rw [hc] at HC
        clear hg hc
        go_wp2_with fail
        refine HC.out.mono ?_
        rintro e w1 ⟨rfl, rfl⟩
        go_wp2
        go_ret
        rw [HS.out]
        exact ⟨rfl, rfl⟩
      · have HS := Lib.hid (all_snoc (f := inEsc) hl HA.out (by rw [hg]; exact hc))
        have HC := Lib.hid (HF.out wr s[k].toNat)
        rw [hc] at HC
        clear hg hc
        go_wp2_with fail
        refine HC.out.mono ?_
        rintro e w1 ⟨rfl, rfl⟩
        go_wp2
        go_roundw
        case rel => exact ⟨k + 1, by omega, by simp, by first | rfl | trivial, HS.out⟩
        case measure => simp [RowKit.intOf]; omega
    · have hks : k = s.size := by omega
      subst hks
      have e : (sb s).all inEsc = true := by
        have := HA.out
        rwa [List.take_of_length_le (by rw [sb_len]; exact Nat.le_refl _)] at this
      have HE := Lib.hid e
      clear e
      go_wp2
      go_ret
      rw [HE.out, Bool.true_and, ← dec_le s.size 2]
      exact ⟨rfl, rfl⟩

set_option maxRecDepth 100000 in
set_option maxHeartbeats 1000000 in
theorem rightMarksN_ok (w : World) (s : ByteArray) (hs : s.size ≤ 1000) :
    Calls Tryd.prog 15 #[.string s, .func (.func 17) #[] #[]] w fun e w' => e = .returned (.bool (markR inEnt (sb s))) ∧ w' = w := by
  have HF := Lib.hid (fun (w : World) (c : Nat) => inEntry_ok w c)
  unfold markR
  rw [sb_len]
  go_enter Tryd.func15, Tryd.ntmps15
  go_wp2
  go_loopw [8] (fun i wr => ∃ k : Nat, k ≤ s.size ∧ i = .int .i64 (k : Int) ∧ wr = w ∧ ((sb s).take k).all inEnt = true) (fun i _ => s.size - (RowKit.intOf i).toNat)
  case atStart => exact ⟨0, Nat.zero_le _, rfl, rfl, by simp⟩
  case round =>
    obtain ⟨k, hk, rfl, rfl, ha⟩ := hrel
    have HA := Lib.hid ha
    clear ha
    by_cases hlt : k < s.size
    · have hl : k < (sb s).length := by rw [sb_len]; exact hlt
      have hg := sb_get s k hlt
      rcases hc : inEnt s[k].toNat with _ | _
      · have HS := Lib.hid (all_not (f := inEnt) hl (by rw [hg]; exact hc))
        have HC := Lib.hid (HF.out wr s[k].toNat)
        rw [hc] at HC
        clear hg hc
        go_wp2_with fail
        refine HC.out.mono ?_
        rintro e w1 ⟨rfl, rfl⟩
        go_wp2
        go_ret
        rw [HS.out]
        exact ⟨rfl, rfl⟩
      · have HS := Lib.hid (all_snoc (f := inEnt) hl HA.out (by rw [hg]; exact hc))
        have HC := Lib.hid (HF.out wr s[k].toNat)
        rw [hc] at HC
        clear hg hc
        go_wp2_with fail
        refine HC.out.mono ?_
        rintro e w1 ⟨rfl, rfl⟩
        go_wp2
        go_roundw
        case rel => exact ⟨k + 1, by omega, by simp, by first | rfl | trivial, HS.out⟩
        case measure => simp [RowKit.intOf]; omega
    · have hks : k = s.size := by omega
      subst hks
      have e : (sb s).all inEnt = true := by
        have := HA.out
        rwa [List.take_of_length_le (by rw [sb_len]; exact Nat.le_refl _)] at this
      have HE := Lib.hid e
      clear e
      go_wp2
      go_ret
      rw [HE.out, Bool.true_and, ← dec_le s.size 2]
      exact ⟨rfl, rfl⟩

/-- Is this the zero Decoder? -/
def zdec (x y z : Nat) (n : Int) : Bool := decide (((x : Int) = 0 ∧ (y : Int) = 0 ∧ (z : Int) = 0) ∧ n = 0)
set_option maxRecDepth 100000 in
set_option maxHeartbeats 2000000 in
theorem bare_ok (w : World) (st : Int) (x y z : Nat) (n : Int) (ms ts : ByteArray) (A : Option Addr) (k c : Nat) (wi : Int) :
    Calls Tryd.prog 20 #[.agg #[.int .i64 st, .int .u8 (x : Int), .int .u8 (y : Int), .int .u8 (z : Int), .int .i64 n, .string ms, .slice A k c, .string ts, .int .i64 wi]] w
      fun e w' => e = .returned (.bool (zdec x y z n && ((ms.toList == []) && (decide (k = 0) && ((ts.toList == []) && decide (wi = 0)))))) ∧ Below w.heap.size w w' := by
  have heq := fun w => run_eqD w (x : Int) (y : Int) (z : Int) n 0 0 0 0
  have hz0 : decide (((x : Int) = 0 ∧ (y : Int) = 0 ∧ (z : Int) = 0) ∧ n = 0) = zdec x y z n := rfl
  rw [hz0] at heq
  clear hz0
  have hb : Below w.heap.size w (w.alloc (.cells #[.int .i64 st, .int .u8 (x : Int), .int .u8 (y : Int), .int .u8 (z : Int), .int .i64 n, .string ms, .slice A k c, .string ts, .int .i64 wi] 41)) := (Below.refl _ _).alloc (Nat.le_refl _) _
  have HB := Lib.hid hb
  clear hb
  generalize zdec x y z n = q at *
  rcases q with _ | _
  · go_enter Tryd.func20, Tryd.ntmps20
    go_wp2
    go_ret
    exact ⟨rfl, HB.out⟩
  rcases hm : (ms.toList == []) with _ | _
  · go_enter Tryd.func20, Tryd.ntmps20
    go_wp2
    go_ret
    exact ⟨rfl, HB.out⟩
  rcases hk : decide (k = 0) with _ | _
  · have hk' : ((k : Int) == 0) = false := by have := of_decide_eq_false hk; simp; omega
    go_enter Tryd.func20, Tryd.ntmps20
    go_wp2
    go_ret
    exact ⟨rfl, HB.out⟩
  have hk' : ((k : Int) == 0) = true := by have := of_decide_eq_true hk; simp; omega
  rcases ht : (ts.toList == []) with _ | _
  · go_enter Tryd.func20, Tryd.ntmps20
    go_wp2
    go_ret
    exact ⟨rfl, HB.out⟩
  rcases hw : decide (wi = 0) with _ | _
  · have hw' : (wi == 0) = false := by have := of_decide_eq_false hw; simp; omega
    go_enter Tryd.func20, Tryd.ntmps20
    go_wp2
    go_ret
    exact ⟨rfl, HB.out⟩
  · have hw' : (wi == 0) = true := by have := of_decide_eq_true hw; simp; omega
    go_enter Tryd.func20, Tryd.ntmps20
    go_wp2
    go_ret
    exact ⟨rfl, HB.out⟩
end Go.Proofs.YtdolapobkhhanaaDoor
/-
  Layer 6 (vt), for layer 11: a parser as a value; is it right?
-/
namespace Go.Proofs.YtdolapobkhhanaaDoor
open Go.RowKit Go.Lib
set_option maxRecDepth 100000

/-- A parser as a value, its parameters at PA. -/
def parV (p : Ps) (PA : Option Addr) (pc : Nat) : Value :=
  .agg #[.int .i64 (p.st : Int), .int .u8 ((nat8 p.u).getD 0 0 : Nat), .int .u8 ((nat8 p.u).getD 1 0 : Nat), .int .u8 ((nat8 p.u).getD 2 0 : Nat), .int .i64 (p.u.length : Int), .string (str p.marks), .slice PA p.params.length pc, .string (str p.text), .int .i64 (p.wi : Int)]
theorem sb_str (l : List Nat) (h : ∀ c ∈ l, c < 256) : sb (str l) = l := by
  unfold sb
  rw [str_list, List.map_map]
  conv => rhs; rw [← List.map_id l]
  exact List.map_congr_left fun b hb => by simp [UInt8.toNat_ofNat', Nat.mod_eq_of_lt (h b hb)]
theorem str_nil_eq (l : List Nat) : ((str l).toList == []) = decide (l = []) := by
  rw [str_toList]
  cases l <;> simp
theorem zdec_eq (u : List UInt8) : zdec ((nat8 u).getD 0 0) ((nat8 u).getD 1 0) ((nat8 u).getD 2 0) (u.length : Int) = decide (u = []) := by
  unfold zdec
  cases u with
  | nil => simp [nat8]
  | cons a r =>
    have : ¬ ((r.length : Int) + 1 = 0) := by omega
    simp [this]
theorem bare_okP (w : World) (p : Ps) (PA : Option Addr) (pc : Nat) :
    Calls Tryd.prog 20 #[parV p PA pc] w fun e w' => e = .returned (.bool (bareP p)) ∧ Below w.heap.size w w' := by
  have h := bare_ok w (p.st : Int) ((nat8 p.u).getD 0 0) ((nat8 p.u).getD 1 0) ((nat8 p.u).getD 2 0) (p.u.length : Int) (str p.marks) (str p.text) PA p.params.length pc (p.wi : Int)
  rw [zdec_eq, str_nil_eq, str_nil_eq] at h
  have e1 : decide (p.params.length = 0) = decide (p.params = []) := by cases p.params <;> simp
  have e2 : decide ((p.wi : Int) = 0) = decide (p.wi = 0) := by by_cases hw : p.wi = 0 <;> simp [hw]
  rw [e1, e2] at h
  exact h
/-- A Decoder that holds some bytes (three at most): is it right? -/
theorem dright_u (w : World) (hT : Utf w) (u : List UInt8) (hl : u.length ≤ 3) :
    Calls Tryd.prog 14 #[.agg #[.int .u8 ((nat8 u).getD 0 0 : Nat), .int .u8 ((nat8 u).getD 1 0 : Nat), .int .u8 ((nat8 u).getD 2 0 : Nat), .int .i64 (u.length : Int)]] w fun e w' => e = .returned (.bool (!UM.full u)) ∧ Below w.heap.size w w' := by
  have h := dright_ok w hT (u.getD 0 0) (u.getD 1 0) (u.getD 2 0) (u.length : Int)
  rw [under_of u hl] at h
  have hh : holdsB (u.getD 0 0) (u.getD 1 0) (u.getD 2 0) (u.length : Int) = true := by
    unfold holdsB
    rw [under_of u hl, near_of _ hl]
    simp only [nat8_get]
    simp
  rw [hh, Bool.true_and] at h
  unfold decV at h
  simp only [nat8_get]
  exact h
end Go.Proofs.YtdolapobkhhanaaDoor
/-
  Layer 11 (state): flags, as many as there are, by pointers: put, taken.
-/
namespace Go.Proofs.YtdolapobkhhanaaDoor
open Go.RowKit Go.Lib
set_option maxRecDepth 100000

/-- So many of the lowest bits. -/
theorem mod_succ (N k : Nat) : N % 2 ^ (k + 1) = N % 2 ^ k + (N.testBit k).toNat * 2 ^ k := by
  rw [Nat.mod_pow_succ, Nat.testBit_eq_decide_div_mod_eq]
  rcases Nat.mod_two_eq_zero_or_one (N / 2 ^ k) with h | h <;> simp [h]
theorem or_bit (n k : Nat) (hn : n < 2 ^ k) (hk : k < 64) : bits .or .u64 (n : Int) ((2 ^ k : Nat) : Int) = ((n + 2 ^ k : Nat) : Int) := by
  have h1 : n < 2 ^ 64 := Nat.lt_trans hn (Nat.pow_lt_pow_right (by omega) hk)
  have h2 : 2 ^ k < 2 ^ 64 := Nat.pow_lt_pow_right (by omega) hk
  have h3 : 2 ^ k + n < 2 ^ 64 := by
    have : 2 ^ k + 2 ^ k ≤ 2 ^ 64 := by
      have : 2 ^ (k + 1) ≤ 2 ^ 64 := Nat.pow_le_pow_right (by omega) (by omega)
      rw [Nat.pow_succ] at this
      omega
    omega
  have key : (BitVec.ofInt 64 (n : Int) ||| BitVec.ofInt 64 ((2 ^ k : Nat) : Int)).toNat = 2 ^ k + n := by
    rw [BitVec.toNat_or, BitVec.toNat_ofInt, BitVec.toNat_ofInt]
    have e1 : ((n : Int) % ((2 ^ 64 : Nat) : Int)).toNat = n := by omega
    have e2 : (((2 ^ k : Nat) : Int) % ((2 ^ 64 : Nat) : Int)).toNat = 2 ^ k := by omega
    rw [e1, e2, Nat.or_comm]
    have := Nat.two_pow_add_eq_or_of_lt hn 1
    rw [Nat.mul_one] at this
    exact this.symm
  show IntKind.u64.wrap ((BitVec.ofInt 64 (n : Int) ||| BitVec.ofInt 64 ((2 ^ k : Nat) : Int)).toNat : Nat) = _
  rw [key, IntKind.wrap_u64]
  omega

theorem wrap_pow (k : Nat) (hk : k < 64) : IntKind.u64.wrap (2 ^ k) = ((2 ^ k : Nat) : Int) := by
  have h2 : 2 ^ k < 2 ^ 64 := Nat.pow_lt_pow_right (by omega) hk
  have e : (2 : Int) ^ k = ((2 ^ k : Nat) : Int) := by push_cast; rfl
  rw [e]
  generalize 2 ^ k = m at h2
  rw [IntKind.wrap_u64]
  omega
theorem i64_and1 (n : Int) : bits .and .i64 n 1 = n % 2 := by
  have h1 : (BitVec.ofInt 64 1).toNat = 2 ^ 1 - 1 := by decide
  have key : (BitVec.ofInt 64 n &&& BitVec.ofInt 64 1).toNat = (n % ((2 ^ 64 : Nat) : Int)).toNat % 2 ^ 1 := by
    rw [BitVec.toNat_and, BitVec.toNat_ofInt, h1, Nat.and_two_pow_sub_one_eq_mod]
  show IntKind.i64.wrap ((BitVec.ofInt 64 n &&& BitVec.ofInt 64 1).toNat : Nat) = n % 2
  rw [key, IntKind.wrap_i64]
  omega
theorem bit_at (N k : Nat) : (bits .and .i64 ((N : Int) / 2 ^ k) 1 != 0) = N.testBit k := by
  have e : (N : Int) / 2 ^ k = ((N / 2 ^ k : Nat) : Int) := by push_cast; rfl
  rw [e, i64_and1, Nat.testBit_eq_decide_div_mod_eq]
  generalize N / 2 ^ k = m
  rcases Nat.mod_two_eq_zero_or_one m with h | h
  · have : (m : Int) % 2 = 0 := by omega
    simp [this, h]
  · have : (m : Int) % 2 = 1 := by omega
    simp [this, h]

set_option maxHeartbeats 1000000 in
/-- putFlags: the flags' number. -/
theorem putFlags_ok (v : Value) (xs : List Nat) (w : World) (base : Nat) (hx : xs.length ≤ 50000000) (hown : Own w base v xs) (hbase : base ≤ w.heap.size) (b off c n N : Nat) (a : Nat → Addr) (hn : n ≤ 60) (hN : N < 2 ^ n)
    (hp : ∀ j, j < n → w.cell? ⟨b, off + j, none⟩ = some (.pointer (some (a j)))) (hb : ∀ j, j < n → w.cell? (a j) = some (.bool (N.testBit j))) :
    Calls Tryd.prog 43 #[v, .slice (some ⟨b, off, none⟩) n c] w fun e w' => ∃ v', e = .returned v' ∧ Own w' base v' (xs ++ VM.enc N) ∧ Grow w w' v v' := by
  have HP := Lib.hid hp
  have HB := Lib.hid hb
  have HO := Lib.hid hown
  clear hp hb hown
  go_enter Tryd.func43, Tryd.ntmps43
  go_wp2
  go_loopw [5, 10] (fun x i wr => ∃ k : Nat, k ≤ n ∧ i = .int .i64 (k : Int) ∧ x = .int .u64 ((N % 2 ^ k : Nat) : Int) ∧ wr = w) (fun _ i _ => n - (RowKit.intOf i).toNat)
  case atStart => exact ⟨0, Nat.zero_le _, rfl, by simp [Nat.mod_one], rfl⟩
  case round =>
    obtain ⟨k, hk, rfl, rfl, rfl⟩ := hrel
    by_cases hlt : k < n
    · have c1 := HP.out k hlt
      have c2 := HB.out k hlt
      have HM := Lib.hid (mod_succ N k)
      have hor := or_bit (N % 2 ^ k) k (Nat.mod_lt _ (Nat.two_pow_pos k)) (by omega)
      have g1 : decide ((k : Int) < (n : Int)) = true := by simp; omega
      generalize N % 2 ^ k = m at *
      rcases ht : N.testBit k with _ | _
      · rw [ht] at c2 HM
        simp only [Bool.toNat_false, Nat.zero_mul, Nat.add_zero] at HM
        clear hor
        go_wp2
        go_roundw
        case rel => exact ⟨k + 1, by omega, by simp, by rw [HM.out], by first | rfl | trivial⟩
        case measure => simp [RowKit.intOf]; omega
      · rw [ht] at c2 HM
        simp only [Bool.toNat_true, Nat.one_mul] at HM
        have HW := Lib.hid (wrap_pow k (by omega))
        have HOR := Lib.hid hor
        clear hor
        go_wp2
        go_roundw
        case rel => exact ⟨k + 1, by omega, by simp, by rw [HM.out, HW.out, HOR.out], by first | rfl | trivial⟩
        case measure => simp [RowKit.intOf]; omega
    · have hkn : k = n := by omega
      subst hkn
      rw [Nat.mod_eq_of_lt hN]
      have hN64 : N < 18446744073709551616 := Nat.lt_trans hN (Nat.lt_of_le_of_lt (Nat.pow_le_pow_right (by omega) hn) (by decide))
      have HC := Lib.hid (put_one_grow v xs N wr base hN64 (by omega) HO.out hbase)
      clear hN
      go_wp2_with fail
      refine HC.out.mono ?_
      rintro e w1 ⟨v', rfl, ho, hg⟩
      have H1 := Lib.hid ho
      have H2 := Lib.hid hg
      clear ho hg
      go_wp2
      go_ret
      exact ⟨v', rfl, H1.out, H2.out⟩

/-! ### cells behind a pointer -/
/-- The block p has these n cells. -/
def CellsF (w : World) (p : Nat) (T : TypeId) (n : Nat) (f : Nat → Value) : Prop := ∃ V : Array Value, w.heap[p]? = some (.cells V T (0, 0)) ∧ V.size = n ∧ ∀ i, i < n → V[i]? = some (f i)
def upd (f : Nat → Value) (i : Nat) (v : Value) : Nat → Value := fun j => if j = i then v else f j
section
variable {w w' : World} {p : Nat} {T : TypeId} {n : Nat} {f : Nat → Value}
theorem CellsF.cell (h : CellsF w p T n f) {i : Nat} (hi : i < n) : w.cell? ⟨p, i, none⟩ = some (f i) := by
  obtain ⟨V, hV, _, hc⟩ := h
  simp only [World.cell?, hV]
  exact hc i hi
theorem CellsF.frozen (h : CellsF w p T n f) (i : Nat) : w.frozen? ⟨p, i, none⟩ = false := by
  obtain ⟨V, hV, _, _⟩ := h
  simp [World.frozen?, hV]
theorem CellsF.lt (h : CellsF w p T n f) : p < w.heap.size := by
  obtain ⟨V, hV, _, _⟩ := h
  exact (Array.getElem?_eq_some_iff.1 hV).1
theorem CellsF.keep (h : CellsF w p T n f) (hk : w'.heap[p]? = w.heap[p]?) : CellsF w' p T n f := by
  obtain ⟨V, hV, h2⟩ := h
  exact ⟨V, hk.trans hV, h2⟩
theorem CellsF.below (h : CellsF w p T n f) {B : Nat} (hb : Below B w w') (hp : p < B) : CellsF w' p T n f := h.keep (hb.block p hp)
theorem CellsF.congr (h : CellsF w p T n f) {g : Nat → Value} (hg : ∀ i, i < n → f i = g i) : CellsF w p T n g := by
  obtain ⟨V, hV, h2, h3⟩ := h
  exact ⟨V, hV, h2, fun i hi => by rw [← hg i hi]; exact h3 i hi⟩
theorem CellsF.set (h : CellsF w p T n f) {i : Nat} (hi : i < n) (v : Value) : CellsF (w.setCell ⟨p, i, none⟩ v) p T n (upd f i v) := by
  obtain ⟨V, hV, h2, h3⟩ := h
  refine ⟨V.set i v (by omega), ?_, by simpa using h2, fun j hj => ?_⟩
  · simp only [World.setCell, Array.getElem?_modify, hV, if_pos]
    simp [Array.setIfInBounds, h2, hi]
  · unfold upd
    by_cases e : j = i
    · subst e; simp [h2, hi]
    · rw [if_neg e, Array.getElem?_set_ne _ (fun h => e h.symm)]
      exact h3 j hj
theorem CellsF.other (h : CellsF w p T n f) {a : Addr} (ha : a.block ≠ p) (v : Value) : CellsF (w.setCell a v) p T n f := h.keep (Below.heap_setCell _ _ _ _ (fun e => ha e.symm))
end
/-- Flags stored one behind the other. -/
def setFl (w : World) (p : Nat) (o : Nat → Nat) (N : Nat) : Nat → World
  | 0 => w
  | k + 1 => (setFl w p o N k).setCell ⟨p, o k, none⟩ (.bool (N.testBit k))
def updFl (f : Nat → Value) (o : Nat → Nat) (N : Nat) : Nat → Nat → Value
  | 0 => f
  | k + 1 => upd (updFl f o N k) (o k) (.bool (N.testBit k))
theorem setFl_other (w : World) (p : Nat) (o : Nat → Nat) (N k b : Nat) (hb : b ≠ p) : (setFl w p o N k).heap[b]? = w.heap[b]? := by
  induction k with
  | zero => rfl
  | succ k ih => exact (Below.heap_setCell _ _ _ _ hb).trans ih
theorem setFl_cells {w : World} {p : Nat} {T : TypeId} {n : Nat} {f : Nat → Value} (h : CellsF w p T n f) (o : Nat → Nat) (N k : Nat) (ho : ∀ j, j < k → o j < n) : CellsF (setFl w p o N k) p T n (updFl f o N k) := by
  induction k with
  | zero => exact h
  | succ k ih => exact (ih fun j hj => ho j (by omega)).set (ho k (by omega)) _
theorem setFl_below {B : Nat} {w0 w : World} (h : Below B w0 w) (p : Nat) (hp : B ≤ p) (o : Nat → Nat) (N k : Nat) : Below B w0 (setFl w p o N k) := by
  induction k with
  | zero => exact h
  | succ k ih => exact ih.setCell (p := ⟨p, o k, none⟩) hp _
theorem setFl_size (w : World) (p : Nat) (o : Nat → Nat) (N k : Nat) : (setFl w p o N k).heap.size = w.heap.size := by
  induction k with
  | zero => rfl
  | succ k ih => simpa [setFl, World.setCell] using ih
/-- What takeFlags leaves. -/
def FlPost (w : World) (g p : Nat) (o : Nat → Nat) (n : Nat) (r : Nat × List Nat × Bool) (e : Ending) (w' : World) : Prop :=
  e = .returned (.tuple #[]) ∧ ∃ w1, Rd w1 g r.2.1 r.2.2 ∧ w.grownBy w1 (some g) ∧ w' = setFl w1 p o r.1 n

set_option maxHeartbeats 1000000 in
/-- takeFlags: a number's bits into as many flags. -/
theorem takeFlags_ok (w : World) (g : Nat) (l : List Nat) (bad : Bool) (h : Rd w g l bad) (b off c n p m : Nat) (T : TypeId) (f : Nat → Value) (o : Nat → Nat) (hn : n ≤ 60) (hbg : b ≠ g) (hbp : b ≠ p) (hpg : p ≠ g) (hb : b < w.heap.size)
    (hc : CellsF w p T m f) (ho : ∀ j, j < n → o j < m) (hp : ∀ j, j < n → w.cell? ⟨b, off + j, none⟩ = some (.pointer (some ⟨p, o j, none⟩))) :
    Calls Tryd.prog 30 #[.pointer (some ⟨g, 0, none⟩), .slice (some ⟨b, off, none⟩) n c] w (FlPost w g p o n (numOf l bad (2 ^ n))) := by
  have hpow : 2 ^ n < 9223372036854775808 := Nat.lt_of_le_of_lt (Nat.pow_le_pow_right (by omega) hn) (by decide)
  have HN := num_any w g l bad ((2 ^ n : Nat) : Int) (by omega) h
  have hlim : lim ((2 ^ n : Nat) : Int) = 2 ^ n := by
    have := Nat.two_pow_pos n
    unfold lim
    rw [if_neg (by omega), Int.toNat_natCast]
  rw [hlim] at HN
  have hlt := numOf_lt l bad (2 ^ n) (Nat.two_pow_pos n)
  have HL := Lib.hid h.lt
  generalize numOf l bad (2 ^ n) = r at *
  have HN' := Lib.hid HN
  have HP := Lib.hid hp
  have HC := Lib.hid hc
  have HO := Lib.hid ho
  clear HN h hlim hp hc ho
  have hw : IntKind.i64.wrap (2 ^ n) = ((2 ^ n : Nat) : Int) := by
    have e : (2 : Int) ^ n = ((2 ^ n : Nat) : Int) := by push_cast; rfl
    rw [e, IntKind.wrap_i64]
    omega
  go_enter Tryd.func30, Tryd.ntmps30
  go_wp2_with fail
  refine HN'.out.mono ?_
  rintro e w1 ⟨rfl, hrd, hg1⟩
  have H1 := Lib.hid hrd
  have H2 := Lib.hid hg1
  have HC1 := Lib.hid (HC.out.keep (hg1.block p HC.out.lt (by intro e; injection e with e; exact hpg e)))
  have HP1 := Lib.hid (fun j (hj : j < n) => (World.cell?_of_block (w := w) (a := ⟨b, off + j, none⟩) (hg1.block b hb (by intro e; injection e with e; exact hbg e))).trans (HP.out j hj))
  clear hrd hg1 HP HC hw
  obtain ⟨N, l2, b2⟩ := r
  dsimp only at *
  go_wp2
  go_loopw [14] (fun i wr => ∃ k : Nat, k ≤ n ∧ i = .int .i64 (k : Int) ∧ wr = setFl w1 p o N k) (fun i _ => n - (RowKit.intOf i).toNat)
  case atStart => exact ⟨0, Nat.zero_le _, rfl, rfl⟩
  case round =>
    obtain ⟨k, hk, rfl, rfl⟩ := hrel
    by_cases hlt : k < n
    · have c1 := (World.cell?_of_block (w := w1) (a := ⟨b, off + k, none⟩) (setFl_other w1 p o N k b hbp)).trans (HP1.out k hlt)
      have HCk := setFl_cells HC1.out o N k fun j hj => HO.out j (by omega)
      have c2 := HCk.cell (HO.out k hlt)
      have c3 := HCk.frozen (o k)
      have g1 : decide ((k : Int) < (n : Int)) = true := by simp; omega
      clear HCk
      have HBIT := Lib.hid (bit_at N k)
      go_wp2
      go_roundw
      case rel => exact ⟨k + 1, by omega, by simp, by rw [HBIT.out]; rfl⟩
      case measure => simp [RowKit.intOf]; omega
    · have hkn : k = n := by omega
      subst hkn
      go_wp2
      go_end0
      exact ⟨rfl, w1, H1.out, H2.out, rfl⟩
end Go.Proofs.YtdolapobkhhanaaDoor
/-
  Rows of elements: cut, copied into, made; what an operation changes ('Fr'); slice headers as elements.
-/
namespace Go.Proofs.YtdolapobkhhanaaDoor
open Go.RowKit Go.Lib KM

/-! ### what has changed -/
/-- w' is w but for the blocks of S and for new ones. -/
structure Fr (S : Nat → Prop) (w w' : World) : Prop where
  os : w'.os = w.os
  tape : w'.tape = w.tape
  output : w'.output = w.output
  size : w.heap.size ≤ w'.heap.size
  block : ∀ k, k < w.heap.size → ¬ S k → w'.heap[k]? = w.heap[k]?
theorem Fr.refl (S : Nat → Prop) (w : World) : Fr S w w := ⟨rfl, rfl, rfl, Nat.le_refl _, fun _ _ _ => rfl⟩
theorem Fr.below {S : Nat → Prop} {w w' : World} (h : Fr S w w') {B : Nat} (hB : B ≤ w.heap.size) (hS : ∀ k, S k → B ≤ k) : Below B w w' :=
  ⟨h.os, h.tape, h.output, h.size, fun k hk => h.block k (by omega) (fun hs => by have := hS k hs; omega)⟩
theorem Fr.of_below {S : Nat → Prop} {w w' : World} (h : Below w.heap.size w w') : Fr S w w' := ⟨h.os, h.tape, h.output, h.size, fun k hk _ => h.block k hk⟩
theorem Fr.trans' {S : Nat → Prop} {a b c : World} (h : Fr S a b) (k : Fr S b c) : Fr S a c := by
  have hs := h.size
  exact ⟨k.os.trans h.os, k.tape.trans h.tape, k.output.trans h.output, Nat.le_trans hs k.size, fun i hi hn => (k.block i (by omega) hn).trans (h.block i hi hn)⟩
/-- Two steps, the second one on whatever is old of S or new. -/
theorem Fr.trans {S T : Nat → Prop} {a b c : World} (h : Fr S a b) (k : Fr T b c) (hT : ∀ i, T i → S i ∨ a.heap.size ≤ i) : Fr S a c := by
  have hs := h.size
  refine ⟨k.os.trans h.os, k.tape.trans h.tape, k.output.trans h.output, Nat.le_trans hs k.size, fun i hi hn => (k.block i (by omega) (fun ht => ?_)).trans (h.block i hi hn)⟩
  rcases hT i ht with h1 | h1
  · exact hn h1
  · omega
theorem Fr.mono {S T : Nat → Prop} {w w' : World} (h : Fr S w w') (hT : ∀ i, S i → T i) : Fr T w w' := ⟨h.os, h.tape, h.output, h.size, fun k hk hn => h.block k hk (fun hs => hn (hT k hs))⟩
theorem Fr.setCell {S : Nat → Prop} {w : World} {a : Addr} (u : Value) (h : S a.block) : Fr S w (w.setCell a u) :=
  ⟨rfl, rfl, rfl, by simp, fun k _ hn => Below.heap_setCell _ _ _ _ (fun e => hn (by rw [e]; exact h))⟩
theorem Fr.alloc (S : Nat → Prop) (w : World) (o : Obj) : Fr S w (w.alloc o) := Fr.of_below ((Below.refl _ _).alloc (Nat.le_refl _) o)
theorem Fr.setRow {S : Nat → Prop} {w : World} {g : Nat} (cs : Array Value) (h : S g) : Fr S w (w.setRow g cs) :=
  ⟨rfl, rfl, rfl, by simp [World.setRow], fun k _ hn => setRow_other w g k cs (fun e => hn (by rw [e]; exact h))⟩
theorem Fr.drew (S : Nat → Prop) (w : World) : Fr S w w.drew := ⟨rfl, rfl, rfl, Nat.le_refl _, fun _ _ _ => rfl⟩
theorem Fr.drewN (S : Nat → Prop) (w : World) (n : Nat) : Fr S w (w.drewN n) := ⟨rfl, rfl, rfl, Nat.le_refl _, fun _ _ _ => rfl⟩
theorem Fr.to_below {w w' : World} (h : Fr (fun _ => False) w w') : Below w.heap.size w w' := h.below (Nat.le_refl _) (fun _ h => h.elim)

/-! ### slice headers -/
/-- A slice value that isn't opened. -/
structure Sl where
  a : Option Addr
  n : Nat
  c : Nat
def Sl.v (s : Sl) : Value := .slice s.a s.n s.c
/-- Its block. -/
def Sl.blk (s : Sl) : Option Nat := s.a.map (·.block)
theorem Sl.own (s : Sl) : s.v.ownBlock = s.blk := by
  obtain ⟨a, n, c⟩ := s
  cases a <;> rfl
def linE : El Sl where
  ty := 48
  sl := 35
  s := 1
  bytes := 24
  z := .slice none 0 0
  f := fun s => [s.v]
  pos := by decide
  len := fun _ => rfl
  one := fun a u hu => by
    simp only [List.mem_cons, List.not_mem_nil, or_false] at hu
    subst hu; rfl
  und := Tryd.underlying35
  info := by kernel_rfl
  zs := rfl

theorem take_splice {β : Type} (l X : List β) (a n : Nat) (h1 : a + X.length ≤ n) (h2 : n ≤ l.length) : (l.take a ++ X ++ l.drop (a + X.length)).take n = (l.take n).take a ++ X ++ (l.take n).drop (a + X.length) := by
  have hl : (l.take a ++ X).length = a + X.length := by simp; omega
  rw [List.take_append, hl, List.take_of_length_le (by omega), List.drop_take, List.take_take, Nat.min_eq_left (by omega)]

section
variable {α : Type} {E : El α}
theorem El.size_of (E : El α) : ∃ i, Tryd.prog.info? E.ty = some i ∧ i.size = E.s ∧ i.zero = some E.z ∧ i.bytes = E.bytes := by
  obtain ⟨i, hi, h1, h2, h3⟩ := info_parts E.info
  exact ⟨i, hi, h2, h1, h3⟩
theorem El.cells_take (L : List α) (k : Nat) : E.cells (L.take k) = (E.cells L).take (k * E.s) := by
  induction L generalizing k with
  | nil => simp [El.cells]
  | cons a L ih =>
    cases k with
    | zero => simp [El.cells]
    | succ k =>
      rw [List.take_succ_cons, E.cells_cons, E.cells_cons, ih, Nat.add_mul, Nat.one_mul, Nat.add_comm, List.take_append, E.len, Nat.add_sub_cancel_left, List.take_of_length_le (l := E.f a) (by rw [E.len]; omega)]
theorem El.cells_drop (L : List α) (k : Nat) : E.cells (L.drop k) = (E.cells L).drop (k * E.s) := by
  induction L generalizing k with
  | nil => simp [El.cells]
  | cons a L ih =>
    cases k with
    | zero => simp
    | succ k =>
      rw [List.drop_succ_cons, E.cells_cons, ih, Nat.add_mul, Nat.one_mul, Nat.add_comm, List.drop_append, E.len, Nat.add_sub_cancel_left, show (E.f a).drop (E.s + k * E.s) = [] from List.drop_eq_nil_of_le (by rw [E.len]; omega), List.nil_append]

/-- The builtin copy, of whole elements. -/
theorem El.run_copy (E : El α) (w : World) (ty : TypeId) (D : Option Addr) (dLen dCap : Nat) (A : Option Addr) (M : List α) (n c B : Nat) (hr : E.Row w B A M) (hn : n = M.length) (g o k : Nat) (cur : Array Value) (t : TypeId) (hg : w.heap[g]? = some (.cells cur t (0, 0)))
    (hk : k = min M.length dLen) (hD : 0 < k → D = some ⟨g, o, none⟩) (hfit : o + k * E.s ≤ cur.size) :
    (Builtin.copy_ #[E.sl, E.sl] ty #[.slice D dLen dCap, .slice A n c]).run Tryd.prog w = .ok (.int .i64 (k : Int)) (w.setRow g (cur.toList.take o ++ E.cells (M.take k) ++ cur.toList.drop (o + k * E.s)).toArray) := by
  obtain ⟨i, hi, hs, _, _⟩ := E.size_of
  subst hn
  have hmin : Nat.min M.length dLen = k := hk.symm
  rcases Nat.eq_zero_or_pos k with h0 | h0
  · subst h0
    have e : w.setRow g (cur.toList.take o ++ E.cells (M.take 0) ++ cur.toList.drop (o + 0 * E.s)).toArray = w := by
      simp only [List.take_zero, El.cells_nil, List.append_nil, Nat.zero_mul, Nat.add_zero, List.take_append_drop, Array.toArray_toList]
      exact setRow_self w g cur t (0, 0) hg
    rw [e]
    have hl : ∀ (x : Addr), (loadCells x 0).run Tryd.prog w = .ok #[] w := fun x => by simpa using run_loadCells_list (P := Tryd.prog) w x [] (by simp)
    cases D <;> cases A <;> simp [Builtin.copy_, run_underlying E.und, Builtin.lenOf, Builtin.firstCells, sizeOf, typeInfo, hi, hmin, storeCells, hl, goInt]
  · obtain rfl := hD h0
    have hM : 0 < M.length := by omega
    obtain ⟨b, off, rfl, hb, hc⟩ := hr hM
    have hcl : (E.cells (M.take k)).length = k * E.s := by rw [E.cells_len, List.length_take, Nat.min_eq_left (by omega)]
    have hl := run_loadCells_list (P := Tryd.prog) w ⟨b, off, none⟩ (E.cells (M.take k)) (fun j v hv => by
      have hj : j < k * E.s := by
        rcases Nat.lt_or_ge j (k * E.s) with h | h
        · exact h
        · rw [List.getElem?_eq_none (by rw [hcl]; exact h)] at hv; cases hv
      have hplain : (⟨b, off, none⟩ : Addr).add j = ⟨b, off + j, none⟩ := by unfold Addr.add; split <;> simp_all
      have hkm : k * E.s ≤ M.length * E.s := Nat.mul_le_mul_right _ (by omega)
      rw [hplain, hc j (by omega), ← hv, E.cells_take, List.getElem?_take_of_lt hj])
    have hst := run_storeCells_at Tryd.prog g o t (E.cells (M.take k)) 0 cur w hg (by rw [hcl]; simpa using hfit) (E.cells_one' _)
    rw [hcl] at hl hst
    simp only [Nat.add_zero] at hst
    simp [Builtin.copy_, run_underlying E.und, Builtin.lenOf, Builtin.firstCells, sizeOf, typeInfo, hi, hs, hmin, hl, hst, goInt]

variable {w w' : World} {base B : Nat} {v v' : Value} {A : Option Addr} {L M : List α}
/-- The block of a row of the call's own. -/
theorem El.Own.block (h : E.Own w base v L) {g c : Nat} (hv : v = .slice (some ⟨g, 0, none⟩) L.length c) : ∃ cur, w.heap[g]? = some (.cells cur E.ty (0, 0)) ∧ cur.size = c * E.s ∧ L.length ≤ c ∧ cur.toList.take (L.length * E.s) = E.cells L := by
  rcases h.2 with ⟨e, _⟩ | ⟨g', cap, cur, e, hb, hh, h1, h3, h4, h5⟩
  · rw [hv] at e; cases e
  · rw [hv] at e
    simp only [Value.slice.injEq, Option.some.injEq, Addr.mk.injEq, and_true, true_and] at e
    obtain ⟨rfl, rfl⟩ := e
    exact ⟨cur, hh, h4, h1, h5⟩
/-- Elements copied over some of a row of the call's own. -/
theorem El.Own.splice (h : E.Own w base v L) {g c : Nat} (hv : v = .slice (some ⟨g, 0, none⟩) L.length c) {cur : Array Value} {t : TypeId} (hg : w.heap[g]? = some (.cells cur t (0, 0))) (M : List α) (o : Nat) (ho : o + M.length ≤ L.length) :
    E.Own (w.setRow g (cur.toList.take (o * E.s) ++ E.cells M ++ cur.toList.drop (o * E.s + M.length * E.s)).toArray) base v (L.take o ++ M ++ L.drop (o + M.length)) := by
  have hlen : (L.take o ++ M ++ L.drop (o + M.length)).length = L.length := by simp; omega
  have hcs : E.cells (L.take o ++ M ++ L.drop (o + M.length)) = (E.cells L).take (o * E.s) ++ E.cells M ++ (E.cells L).drop (o * E.s + M.length * E.s) := by
    rw [E.cells_append, E.cells_append, E.cells_take, E.cells_drop, Nat.add_mul]
  have hm1 : o * E.s + M.length * E.s ≤ L.length * E.s := by rw [← Nat.add_mul]; exact Nat.mul_le_mul_right _ ho
  refine ⟨by rw [E.cells_len], ?_⟩
  rcases h.2 with ⟨e, _⟩ | ⟨g', cap, cur', e, hb, hh, h1, h3, h4, h5⟩
  · rw [hv] at e; cases e
  · rw [hv] at e
    simp only [Value.slice.injEq, Option.some.injEq, Addr.mk.injEq, and_true, true_and] at e
    obtain ⟨rfl, rfl⟩ := e
    rw [hh] at hg
    simp only [Option.some.injEq, Obj.cells.injEq] at hg
    obtain ⟨rfl, rfl, _⟩ := hg
    have hm2 : L.length * E.s ≤ c * E.s := Nat.mul_le_mul_right _ h1
    have hcl := E.cells_len M
    refine .inr ⟨g, c, _, by rw [hlen]; exact hv, hb, setRow_heap w g cur' _ E.ty (0, 0) hh, by omega, h3, ?_, ?_⟩
    · simp only [List.size_toArray, List.length_append, List.length_take, List.length_drop, hcl, Array.length_toList, h4]
      omega
    · have hcur : L.length * E.s ≤ cur'.toList.length := by rw [show cur'.toList.length = cur'.size from Array.length_toList, h4]; exact hm2
      have := take_splice cur'.toList (E.cells M) (o * E.s) (L.length * E.s) (by rw [hcl]; exact hm1) hcur
      rw [hcl] at this
      rw [hlen, hcs, ← h5]
      simpa using this
/-- A row cut at its end. -/
theorem El.Own.short {c : Nat} (h : E.Own w base (.slice A L.length c) L) (k : Nat) (hk : k ≤ L.length) : E.Own w base (.slice A k c) (L.take k) := by
  have hlen : (L.take k).length = k := by simp; omega
  refine ⟨by rw [E.cells_len], ?_⟩
  rcases h.2 with ⟨e, h0⟩ | ⟨g, cap, cur, e, hb, hh, h1, h3, h4, h5⟩
  · simp only [Value.slice.injEq] at e
    obtain ⟨rfl, h1, rfl⟩ := e
    obtain rfl : k = 0 := by omega
    exact .inl ⟨rfl, by simp⟩
  · simp only [Value.slice.injEq] at e
    obtain ⟨rfl, _, rfl⟩ := e
    refine .inr ⟨g, c, cur, by rw [hlen], hb, hh, by omega, h3, h4, ?_⟩
    rw [hlen, E.cells_take, ← h5, List.take_take, Nat.min_eq_left (Nat.mul_le_mul_right _ hk)]
theorem El.Row.of_own {c : Nat} (h : E.Own w base (.slice A L.length c) L) : E.Row w w.heap.size A L := by
  obtain ⟨A', c', e, _, _, _, hr⟩ := h.row
  simp only [Value.slice.injEq] at e
  obtain ⟨rfl, _, rfl⟩ := e
  exact hr
/-- A new row of k zero elements (E's zero being z0's cells). -/
theorem El.own_made (E : El α) (w : World) (base k : Nat) (z0 : α) (hz : E.z.cells.toList = E.f z0) (hbase : base ≤ w.heap.size) (hk : k ≤ maxLen) :
    E.Own (w.alloc (.cells (madeCells E.z.cells (k * E.s)) E.ty)) base (.slice (some ⟨w.heap.size, 0, none⟩) k k) (List.replicate k z0) := by
  refine ⟨by rw [E.cells_len], .inr ⟨w.heap.size, k, _, by rw [List.length_replicate], hbase, heap_alloc_new w _, by simp, hk, by rw [size_madeCells], ?_⟩⟩
  rw [List.length_replicate]
  have hzl : E.z.cells.size = E.s := E.zs
  apply List.ext_getElem?
  intro j
  rw [List.getElem?_take]
  by_cases hj : j < k * E.s
  · have hpos := E.pos
    have hq : j / E.s < k := Nat.div_lt_of_lt_mul (by rw [Nat.mul_comm]; exact hj)
    have hr : j % E.s < E.s := Nat.mod_lt _ hpos
    have hd : j = j / E.s * E.s + j % E.s := by rw [Nat.mul_comm]; exact (Nat.div_add_mod j E.s).symm
    rw [if_pos hj]
    conv => rhs; rw [hd]
    rw [E.cells_at _ _ (by simpa using hq) _ hr, List.getElem_replicate, ← hz]
    have e1 : (madeCells E.z.cells (k * E.s)).toList[j]? = some (E.z.cells[j % E.z.cells.size]!) := by
      rw [Array.getElem?_toList]
      simp [madeCells, hj]
    rw [e1, hzl, Array.getElem?_toList]
    have hlt : j % E.s < E.z.cells.size := by rw [hzl]; exact hr
    simp [hlt]
  · rw [if_neg hj, List.getElem?_eq_none (by rw [E.cells_len, List.length_replicate]; omega)]
/-- make of k elements. -/
theorem El.run_made (E : El α) (w : World) (k : Nat) (hk : k ≤ 100000) (hb : E.bytes ≤ 1000) :
    (Instr.makeSlice E.sl (.int .i64 (k : Int)) (.int .i64 (k : Int))).run Tryd.prog w = .ok (.slice (some ⟨w.heap.size, 0, none⟩) k k) (w.alloc (.cells (madeCells E.z.cells (k * E.s)) E.ty)) := by
  obtain ⟨i, hi, hs, hz, hby⟩ := E.size_of
  have h1 : i.bytes * k ≤ 1000 * 100000 := by rw [hby]; exact Nat.mul_le_mul hb hk
  have h2 : (i.bytes : Int) * (k : Int) ≤ 281474976710656 := by
    have : ((i.bytes * k : Nat) : Int) ≤ 281474976710656 := by omega
    rwa [Int.natCast_mul] at this
  have := run_make (P := Tryd.prog) w E.sl E.ty i E.z E.und hi hz .i64 .i64 (k : Int) (k : Int) (by omega) (by omega) h2 (by omega)
  simp only [Int.toNat_natCast, hs] at this
  exact this
end
end Go.Proofs.YtdolapobkhhanaaDoor
