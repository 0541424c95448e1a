/-
  Layer 9's laws: a text's runes without the blanks at their end, as bytes. No program walked.
-/
import Derived.Test.YtbpkklcegiiheaaDoorDLawP
import Derived.Laws.Cover4
namespace Go.Proofs.YtbpkklcegiiheaaDoor
open Go.RowKit Go.Lib KM

theorem u8_last {m : Nat} (h : m % 256 ≠ 32) : m.toUInt8 ≠ 32 := fun e => by
  have := congrArg UInt8.toNat e
  simp at this
  omega
theorem enc_32 : Lib.encodeRune 32 = [32] := by decide
theorem enc_last (y : Int) (h : y ≠ 32) : ∃ i x, Lib.encodeRune y = i ++ [x] ∧ x ≠ 32 := by
  unfold Lib.encodeRune
  by_cases h1 : 0 ≤ y ∧ y ≤ 127
  · rw [Lib.encodeRuneZ_one h1.1 h1.2]
    exact ⟨[], _, rfl, u8_last (by omega)⟩
  by_cases h2 : 128 ≤ y ∧ y ≤ 2047
  · rw [Lib.encodeRuneZ_two h2.1 h2.2]
    exact ⟨[_], _, rfl, u8_last (by omega)⟩
  by_cases h3 : (2048 ≤ y ∧ y < 55296) ∨ (57343 < y ∧ y ≤ 65535)
  · rw [Lib.encodeRuneZ_three h3]
    exact ⟨[_, _], _, rfl, u8_last (by omega)⟩
  by_cases h4 : 65536 ≤ y ∧ y ≤ 1114111
  · rw [Lib.encodeRuneZ_four h4.1 h4.2]
    exact ⟨[_, _, _], _, rfl, u8_last (by omega)⟩
  · rw [Lib.encodeRuneZ_bad (by omega)]
    exact ⟨[_, _], _, rfl, by decide⟩
def trimI (l : List Int) : List Int := (l.reverse.dropWhile (· == 32)).reverse
theorem trim_bytes (l : List Int) : trimRightB (l.flatMap Lib.encodeRune) 32 = (trimI l).flatMap Lib.encodeRune := by
  have key : ∀ ys : List Int, trimRightB (ys.reverse.flatMap Lib.encodeRune) 32 = (ys.dropWhile (· == 32)).reverse.flatMap Lib.encodeRune := by
    intro ys
    induction ys with
    | nil => rfl
    | cons y ys ih =>
      rw [List.reverse_cons, List.flatMap_append]
      by_cases h : y = 32
      · subst h
        have e1 : ([32] : List Int).flatMap Lib.encodeRune = [32] := by simp [enc_32]
        have e2 : trimRightB (ys.reverse.flatMap Lib.encodeRune ++ [32]) 32 = trimRightB (ys.reverse.flatMap Lib.encodeRune) 32 := by simp [trimRightB]
        rw [e1, e2, ih]
        simp
      · obtain ⟨i, x, e, hx⟩ := enc_last y h
        have e1 : ([y] : List Int).flatMap Lib.encodeRune = i ++ [x] := by simp [e]
        have hb : (x == 32) = false := by simp [hx]
        have hy : (y == 32) = false := by simp [h]
        have e2 : trimRightB (ys.reverse.flatMap Lib.encodeRune ++ (i ++ [x])) 32 = ys.reverse.flatMap Lib.encodeRune ++ (i ++ [x]) := by
          unfold trimRightB
          rw [← List.append_assoc, List.reverse_append, List.reverse_singleton, List.singleton_append, List.dropWhile_cons, hb]
          simp
        rw [e1, e2, List.dropWhile_cons, hy]
        simp [e]
  have := key l.reverse
  rw [List.reverse_reverse] at this
  exact this
theorem trimI_cut (l : List Int) (k : Nat) (h1 : k < l.length) (h : l[k] = 32) : trimI (l.take (k + 1)) = trimI (l.take k) := by
  rw [List.take_succ_eq_append_getElem h1, h]
  simp [trimI]
theorem trimI_stop (l : List Int) (k : Nat) (h1 : k < l.length) (h : l[k] ≠ 32) : trimI (l.take (k + 1)) = l.take (k + 1) := by
  rw [List.take_succ_eq_append_getElem h1]
  have : (l[k] == 32) = false := by simp [h]
  unfold trimI
  rw [List.reverse_append, List.reverse_singleton, List.singleton_append, List.dropWhile_cons, this]
  simp
theorem encode_eq (r : Int) : Utf8.encode r = ⟨(Lib.encodeRune r).toArray⟩ := by
  by_cases hb : r < 0 ∨ (55296 ≤ r ∧ r ≤ 57343) ∨ 1114111 < r
  · have hv : Utf8.valid r = false := by unfold Utf8.valid; simp; omega
    unfold Utf8.encode Lib.encodeRune
    rw [Lib.encodeRuneZ_bad hb, hv]
    simp only [Bool.false_eq_true, if_false]
    decide +kernel
  · obtain ⟨n, rfl⟩ := Int.eq_ofNat_of_zero_le (show 0 ≤ r by omega)
    have hv : Utf8.valid (n : Int) = true := by unfold Utf8.valid; simp; omega
    unfold Utf8.encode Lib.encodeRune
    rw [hv]
    simp only [if_true, Int.toNat_natCast]
    by_cases h1 : n < 128
    · rw [if_pos h1, Lib.encodeRuneZ_one (by omega) (by omega)]
      simp [Nat.toUInt8]
    by_cases h2 : n < 2048
    · rw [if_neg h1, if_pos h2, Lib.encodeRuneZ_two (by omega) (by omega)]
      simp only [List.map_cons, List.map_nil, Nat.toUInt8, show (192 + (n : Int) / 64).toNat = 192 + n / 64 by omega, show (128 + (n : Int) % 64).toNat = 128 + n % 64 by omega]
    by_cases h3 : n < 65536
    · rw [if_neg h1, if_neg h2, if_pos h3, Lib.encodeRuneZ_three (by omega)]
      simp only [List.map_cons, List.map_nil, Nat.toUInt8, show (224 + (n : Int) / 4096).toNat = 224 + n / 4096 by omega, show (128 + (n : Int) / 64 % 64).toNat = 128 + n / 64 % 64 by omega, show (128 + (n : Int) % 64).toNat = 128 + n % 64 by omega]
    · rw [if_neg h1, if_neg h2, if_neg h3, Lib.encodeRuneZ_four (by omega) (by omega)]
      simp only [List.map_cons, List.map_nil, Nat.toUInt8, show (240 + (n : Int) / 262144).toNat = 240 + n / 262144 by omega, show (128 + (n : Int) / 4096 % 64).toNat = 128 + n / 4096 % 64 by omega, show (128 + (n : Int) / 64 % 64).toNat = 128 + n / 64 % 64 by omega, show (128 + (n : Int) % 64).toNat = 128 + n % 64 by omega]
theorem fold_bytes : ∀ (zs : List Int) (acc : List UInt8), zs.foldl (fun r n => r ++ Utf8.encode n) (⟨acc.toArray⟩ : ByteArray) = ⟨(acc ++ zs.flatMap Lib.encodeRune).toArray⟩
  | [], acc => by simp
  | z :: zs, acc => by
    have h : (⟨acc.toArray⟩ : ByteArray) ++ Utf8.encode z = ⟨(acc ++ Lib.encodeRune z).toArray⟩ := by rw [encode_eq]; exact ByteArray.mk_append_mk acc _
    rw [List.foldl_cons, h, fold_bytes zs, List.flatMap_cons, List.append_assoc]
theorem runesBytes_eqI (zs : List Int) : runesBytes zs = ⟨(zs.flatMap Lib.encodeRune).toArray⟩ := by
  have := fold_bytes zs []
  rw [List.nil_append] at this
  exact this

/-- Rows of runes. -/
def runeE : El Int where
  ty := 21
  sl := 59
  s := 1
  bytes := 4
  z := .int .i32 0
  f := fun z => [.int .i32 z]
  pos := by decide
  len := fun _ => rfl
  one := fun a u hu => by
    simp only [List.mem_cons, List.not_mem_nil, or_false] at hu
    subst hu; rfl
  und := Tryd.underlying59
  info := by kernel_rfl
  zs := rfl
theorem run_runes_back (w : World) (b off cap : Nat) (zs : List Int) (h : ∀ j (hj : j < zs.length), w.cell? ⟨b, off + j, none⟩ = some (.int .i32 zs[j])) :
    (convert 59 9 (.slice (some ⟨b, off, none⟩) zs.length cap)).run Tryd.prog w = .ok (.string ⟨(zs.flatMap Lib.encodeRune).toArray⟩) w := by
  have key := run_convert_runes (P := Tryd.prog) w 59 9 21 ⟨b, off, none⟩ zs.length cap zs (Nat.le_refl _) Tryd.underlying59 Tryd.underlying21 Tryd.underlying9 (fun j hj => by
    have e : zs.getD j 0 = zs[j] := by simp [List.getD, hj]
    rw [show (⟨b, off, none⟩ : Addr).add j = ⟨b, off + j, none⟩ by unfold Addr.add; split <;> simp_all, h j hj, e])
  rw [key, List.take_length, runesBytes_eqI]
end Go.Proofs.YtbpkklcegiiheaaDoor
