/-
  Layer 4's laws: calls as plain data: Call.kind, right, short, keeps.
-/
import Derived.Test.YtdaipoelicpnoaaFMem
import Derived.Test.YtdaipoelicpnoaaFCrash
namespace Go.Proofs.Ytdaipoelicpnoaa
open Go.RowKit Go.Maps FM

/-- A call, with where its data lie. -/
structure CallV where
  kind : Int
  n : Int
  name : ByteArray
  to : ByteArray
  A : Option Addr
  cap : Nat
  data : List Nat
def CallV.val (c : CallV) : Value := .agg #[.int .i64 c.kind, .int .i64 c.n, .string c.name, .string c.to, .slice c.A c.data.length c.cap]
def CallV.k (c : CallV) : Nat := (c.kind % 8).toNat
/-- What is known of a call that came in. -/
structure CallV.Ok (w : World) (B : Nat) (c : CallV) : Prop where
  n : -9223372036854775808 ≤ c.n ∧ c.n ≤ 9223372036854775807
  name : c.name.size ≤ maxLen
  to : c.to.size ≤ maxLen
  row : Row w B .u8 c.A c.data
  nil : c.A = none → c.cap = 0
  small : ∀ x ∈ c.data, x < 256
  long : c.data.length ≤ maxLen

theorem i64_and7 (n : Int) : bits .and .i64 n 7 = n % 8 := by
  have h127 : (BitVec.ofInt 64 7).toNat = 2 ^ 3 - 1 := by decide
  have key : (BitVec.ofInt 64 n &&& BitVec.ofInt 64 7).toNat = (n % ((2 ^ 64 : Nat) : Int)).toNat % 2 ^ 3 := by
    rw [BitVec.toNat_and, BitVec.toNat_ofInt, h127, Nat.and_two_pow_sub_one_eq_mod]
  show IntKind.i64.wrap ((BitVec.ofInt 64 n &&& BitVec.ofInt 64 7).toNat : Nat) = n % 8
  rw [key, IntKind.wrap_i64]
  omega

set_option maxRecDepth 100000 in
theorem kind_ok (w : World) (c : CallV) : Calls Try.prog 19 #[c.val] w fun e w' => e = .returned (.int .i64 (c.k : Int)) ∧ Below w.heap.size w w' := by
  have hb : bits .and .i64 c.kind 7 = (c.k : Int) := by rw [i64_and7]; unfold CallV.k; omega
  have HB := Lib.hid hb
  unfold CallV.val
  clear hb
  go_enter Try.func19, Try.ntmps19
  go_wp2
  go_ret
  exact ⟨by rw [← HB.out]; rfl, (Below.refl _ _).alloc (Nat.le_refl _) _⟩

theorem right_ok (w : World) (n : ByteArray) :
    Calls Try.prog 23 #[.string n] w fun e w' => e = .returned (.bool (isName n.data.toList)) ∧ w' = w := by
  unfold isName
  have e : n.data.toList.length = n.size := by simp
  rw [e]
  by_cases h1 : 1 ≤ n.size
  · have d1 : decide ((0 : Int) < (n.size : Int)) = true := by simp; omega
    by_cases h2 : n.size ≤ 12
    · have d2 : decide ((n.size : Int) < 13) = true := by simp; omega
      go_enter Try.func23, Try.ntmps23
      go_wp2
      go_ret
      exact ⟨by simp [h1, h2], rfl⟩
    · have d2 : decide ((n.size : Int) < 13) = false := by simp; omega
      go_enter Try.func23, Try.ntmps23
      go_wp2
      go_ret
      exact ⟨by simp [h1, h2], rfl⟩
  · have d1 : decide ((0 : Int) < (n.size : Int)) = false := decide_eq_false (by omega)
    go_enter Try.func23, Try.ntmps23
    go_wp2
    go_ret
    exact ⟨by simp [h1], rfl⟩

/-- The slice value at A, of calls, reads as cs and lies below block B. -/
def Row5 (w : World) (B : Nat) (A : Option Addr) (cs : List CallV) : Prop :=
  0 < cs.length → ∃ b off, A = some ⟨b, off, none⟩ ∧ b < B ∧ ∀ j (hj : j < cs.length),
    w.cell? ⟨b, off + j * 5, none⟩ = some (.int .i64 cs[j].kind) ∧ w.cell? ⟨b, off + j * 5 + 1, none⟩ = some (.int .i64 cs[j].n) ∧ w.cell? ⟨b, off + j * 5 + 2, none⟩ = some (.string cs[j].name) ∧
    w.cell? ⟨b, off + j * 5 + 3, none⟩ = some (.string cs[j].to) ∧ w.cell? ⟨b, off + j * 5 + 4, none⟩ = some (.slice cs[j].A cs[j].data.length cs[j].cap) ∧ cs[j].Ok w B

theorem Row5.below {w w' : World} {A : Option Addr} {cs : List CallV} (h : Row5 w w.heap.size A cs) (hb : Below w.heap.size w w') : Row5 w' w'.heap.size A cs := fun hp => by
  obtain ⟨b, off, e, hlt, hc⟩ := h hp
  refine ⟨b, off, e, Nat.lt_of_lt_of_le hlt hb.size, fun j hj => ?_⟩
  obtain ⟨h1, h2, h3, h4, h5, hok⟩ := hc j hj
  exact ⟨(hb.cell (p := ⟨b, off + j * 5, none⟩) hlt).trans h1, (hb.cell (p := ⟨b, off + j * 5 + 1, none⟩) hlt).trans h2, (hb.cell (p := ⟨b, off + j * 5 + 2, none⟩) hlt).trans h3,
    (hb.cell (p := ⟨b, off + j * 5 + 3, none⟩) hlt).trans h4, (hb.cell (p := ⟨b, off + j * 5 + 4, none⟩) hlt).trans h5, ⟨hok.n, hok.name, hok.to, (hok.row.below hb).mono hb.size, hok.nil, hok.small, hok.long⟩⟩

def shortC (c : CallV) : Bool := decide (c.data.length ≤ 100) && decide (c.name.size ≤ 50) && decide (c.to.size ≤ 50)
def shortL (cs : List CallV) : Bool := decide (cs.length ≤ 100) && cs.all shortC

set_option maxRecDepth 100000 in
set_option maxHeartbeats 1000000 in
theorem short_walk (w : World) (A : Option Addr) (cs : List CallV) (cap : Nat) (h : Row5 w w.heap.size A cs) (hl : cs.length ≤ 100) :
    Calls Try.prog 9 #[.slice A cs.length cap] w fun e w' => e = .returned (.bool (cs.all shortC)) ∧ Below w.heap.size w w' := by
  have HH := Lib.hid h
  clear h
  have hd : decide ((100 : Int) < (cs.length : Int)) = false := by simp; omega
  go_enter Try.func9, Try.ntmps9
  go_wp2
  go_loopw [10] (fun u wr => ∃ i : Nat, i ≤ cs.length ∧ u = .int .i64 (i : Int) ∧ (cs.take i).all shortC = true ∧ Below w.heap.size w wr)
    (fun u _ => cs.length - (intOf u).toNat)
  case atStart => exact ⟨0, Nat.zero_le _, rfl, by simp, Below.refl _ _⟩
  case round =>
    obtain ⟨i, hi, rfl, ha, hbe⟩ := hrel
    have HA := Lib.hid ha; have HB := Lib.hid hbe
    clear ha hbe
    by_cases hlt : i < cs.length
    · obtain ⟨b, off, hA, hb, hc⟩ := HH.out (by omega)
      subst hA
      obtain ⟨h1, h2, h3, h4, h5, hok⟩ := hc i hlt
      have g1 := (HB.out.cell (p := ⟨b, off + i * 5, none⟩) hb).trans h1
      have g2 := (HB.out.cell (p := ⟨b, off + i * 5 + 1, none⟩) hb).trans h2
      have g3 := (HB.out.cell (p := ⟨b, off + i * 5 + 2, none⟩) hb).trans h3
      have g4 := (HB.out.cell (p := ⟨b, off + i * 5 + 3, none⟩) hb).trans h4
      have g5 := (HB.out.cell (p := ⟨b, off + i * 5 + 4, none⟩) hb).trans h5
      have htk : (cs.take (i + 1)).all shortC = ((cs.take i).all shortC && shortC cs[i]) := by rw [List.take_succ_eq_append_getElem hlt, List.all_append]; simp
      obtain ⟨c, hce⟩ : ∃ c, c = cs[i] := ⟨_, rfl⟩
      rw [← hce] at g1 g2 g3 g4 g5 htk
      have HCE := Lib.hid hce; have HTK := Lib.hid htk
      clear h1 h2 h3 h4 h5 hok hce htk hc
      have bad : shortC c = false → cs.all shortC = false := fun hh => by rw [List.all_eq_false]; exact ⟨cs[i], List.getElem_mem hlt, by rw [← HCE.out, hh]; simp⟩
      have BAD := Lib.hid bad
      clear bad
      by_cases t1 : 100 < c.data.length
      · have d1 : decide ((100 : Int) < (c.data.length : Int)) = true := by simp; omega
        go_wp2
        go_ret
        exact ⟨by rw [BAD.out (by simp [shortC]; omega)]; rfl, HB.out.alloc HB.out.size _⟩
      · have d1 : decide ((100 : Int) < (c.data.length : Int)) = false := by simp; omega
        by_cases t2 : 50 < c.name.size
        · have d2 : decide ((50 : Int) < (c.name.size : Int)) = true := by simp; omega
          go_wp2
          go_ret
          exact ⟨by rw [BAD.out (by simp [shortC]; omega)]; rfl, HB.out.alloc HB.out.size _⟩
        · have d2 : decide ((50 : Int) < (c.name.size : Int)) = false := by simp; omega
          by_cases t3 : 50 < c.to.size
          · have d3 : decide ((50 : Int) < (c.to.size : Int)) = true := by simp; omega
            go_wp2
            go_ret
            exact ⟨by rw [BAD.out (by simp [shortC]; omega)]; rfl, HB.out.alloc HB.out.size _⟩
          · have d3 : decide ((50 : Int) < (c.to.size : Int)) = false := by simp; omega
            go_wp2
            go_roundw
            case rel => exact ⟨i + 1, by omega, by go_num, by rw [HTK.out, HA.out]; simp [shortC]; omega, HB.out.alloc HB.out.size _⟩
            case measure => simp [intOf]; omega
    · go_wp2
      go_ret
      have e : cs.take i = cs := List.take_of_length_le (by omega)
      have h1 := HA.out
      rw [e] at h1
      exact ⟨by rw [h1]; rfl, HB.out⟩

set_option maxRecDepth 100000 in
theorem short_ok (w : World) (A : Option Addr) (cs : List CallV) (cap : Nat) (h : Row5 w w.heap.size A cs) (hm : cs.length ≤ maxLen) :
    Calls Try.prog 9 #[.slice A cs.length cap] w fun e w' => e = .returned (.bool (shortL cs)) ∧ Below w.heap.size w w' := by
  unfold maxLen at hm
  by_cases h1 : cs.length ≤ 100
  · have := short_walk w A cs cap h h1
    unfold shortL
    rw [decide_eq_true h1, Bool.true_and]
    exact this
  · have hd : decide ((100 : Int) < (cs.length : Int)) = true := by simp; omega
    have hf : shortL cs = false := by unfold shortL; rw [decide_eq_false h1]; rfl
    rw [hf]
    clear h
    go_enter Try.func9, Try.ntmps9
    go_wp2
    go_ret
    exact ⟨rfl, Below.refl _ _⟩
end Go.Proofs.Ytdaipoelicpnoaa
