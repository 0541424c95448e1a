/-
  Layer 15's laws, plain: a player behind ticks and pauses; numbers in a row that came in.
-/
import Derived.Test.YtdbnpdbnjipjiaaYMem
namespace Go.Proofs.Ytdbnpdbnjipjiaa.PM
open Go.Proofs.Ytdbnpdbnjipjiaa EM
set_option maxRecDepth 100000

/-- A player behind so much wall time, paused or not. -/
def atP (l : List Ev) (s p q W : Int) (b : Bool) : Pl := ⟨l, upTo l (min (s + W * p / q) 4611686018427387904), s, W, p, q, b⟩
theorem atP_now (l : List Ev) (s p q W : Int) (b : Bool) : (atP l s p q W b).now = min (s + W * p / q) 4611686018427387904 := rfl
theorem atP_full (l : List Ev) (s p q W : Int) (b : Bool) : (atP l s p q W b).Full := rfl
theorem atP_new (l : List Ev) (s p q : Int) (h : s < 4611686018427387904) : new l s p q = atP l s p q 0 false := by
  unfold new atP
  rw [Int.zero_mul, Int.zero_ediv, Int.add_zero, show min s 4611686018427387904 = s by omega]
theorem atP_pause (l : List Ev) (s p q W : Int) (b on : Bool) : (atP l s p q W b).pause on = atP l s p q W on := rfl
theorem atP_tick (l : List Ev) (s p q W n : Int) (b : Bool) (h0 : 0 ≤ n) (h1 : W + n ≤ 4611686018427387904) : (atP l s p q W b).tick n = atP l s p q (if b = true then W else W + n) b := by
  have e : (atP l s p q W b).goes n = { atP l s p q W b with wall := if b = true then W else W + n } := by
    unfold Pl.goes atP
    simp only
    congr 1
    split
    · rfl
    · omega
  unfold Pl.tick
  rw [e]
  rfl
theorem atP_ok {l : List Ev} {s p q W : Int} {b : Bool} (h : (new l s p q).Ok) (h0 : 0 ≤ W) (h1 : W ≤ 4611686018427387904) : (atP l s p q W b).Ok := ⟨h.s0, h.s1, h0, h1, h.p0, h.p1, h.q0, h.q1, h.len, h.rise, h.times⟩
theorem atP_mono (l : List Ev) {s p q W V : Int} (b b' : Bool) (h : (new l s p q).Ok) (hW : W ≤ V) : (atP l s p q W b).told ≤ (atP l s p q V b').told := by
  refine upTo_mono l ?_
  have h1 : W * p ≤ V * p := Int.mul_le_mul_of_nonneg_right hW (by have := h.p0; show 0 ≤ (new l s p q).p; omega)
  have h2 := Int.ediv_le_ediv (c := q) (by have := h.q0; show 0 < (new l s p q).q; omega) h1
  omega
end Go.Proofs.Ytdbnpdbnjipjiaa.PM
namespace Go.Proofs.Ytdbnpdbnjipjiaa
open Go.RowKit Go.Lib EM PM
/-- Numbers, as the elements of a row. -/
def intE : El Int where
  ty := 3
  sl := 48
  s := 1
  bytes := 8
  z := .int .i64 0
  f := fun z => [.int .i64 z]
  pos := by decide
  len := fun _ => rfl
  one := fun a u hu => by
    simp only [List.mem_cons, List.not_mem_nil, or_false] at hu
    subst hu; rfl
  und := Try.underlying48
  info := by kernel_rfl
  zs := rfl
theorem int_cells (l : List Int) : intE.cells l = l.map fun z => Value.int .i64 z := by
  induction l with
  | nil => rfl
  | cons a l ih => rw [intE.cells_cons, ih]; rfl
theorem ints_in {w : World} {A : Option Addr} {len cap : Nat} {zs : List Int} (h : IsRow .i64 w A len cap zs) :
    ∃ l : List Int, len = l.length ∧ len ≤ cap ∧ (A = none → cap = 0) ∧ intE.Row w w.heap.size A l ∧ ∀ z ∈ l, -9223372036854775808 ≤ z ∧ z ≤ 9223372036854775807 := by
  rcases h with ⟨rfl, rfl, rfl, rfl⟩ | ⟨x, rfl, h1, h2, h3, h4, h5⟩
  · exact ⟨[], rfl, Nat.le_refl _, fun _ => rfl, El.Row.nil, by simp⟩
  · refine ⟨zs.take len, by simp; omega, h1, by simp, fun hp => ?_, fun z hz => ?_⟩
    · simp only [List.length_take] at hp
      obtain ⟨b, off, rfl, h⟩ := ints_at h4 (by omega)
      have hlt := World.block_lt_of_cell? w ⟨b, off + 0, none⟩ (h 0 (by omega))
      refine ⟨b, off, rfl, hlt, fun j hj => ?_⟩
      have hj' : j < min len zs.length := by simpa [intE] using hj
      rw [h j (by omega), int_cells]
      simp [show j < len by omega, show j < zs.length by omega]
    · have := bounds_i64 (h5 z (List.mem_of_mem_take hz))
      omega
theorem int_at {w : World} {B : Nat} {A : Option Addr} {l : List Int} (h : intE.Row w B A l) {i : Nat} (hi : i < l.length) : ∃ b off, A = some ⟨b, off, none⟩ ∧ b < B ∧ w.cell? ⟨b, off + i, none⟩ = some (.int .i64 l[i]) := by
  obtain ⟨b, off, e, hb, q⟩ := h.at_ hi
  refine ⟨b, off, e, hb, ?_⟩
  have := q 0 (by decide)
  rw [show off + i * intE.s + 0 = off + i by show off + i * 1 + 0 = off + i; omega] at this
  exact this
theorem i64_and24 (n : Int) : bits .and .i64 n 16777215 = n % 16777216 := by
  have h127 : (BitVec.ofInt 64 16777215).toNat = 2 ^ 24 - 1 := by decide
  have key : (BitVec.ofInt 64 n &&& BitVec.ofInt 64 16777215).toNat = (n % ((2 ^ 64 : Nat) : Int)).toNat % 2 ^ 24 := by
    rw [BitVec.toNat_and, BitVec.toNat_ofInt, h127, Nat.and_two_pow_sub_one_eq_mod]
  show IntKind.i64.wrap ((BitVec.ofInt 64 n &&& BitVec.ofInt 64 16777215).toNat : Nat) = n % 16777216
  rw [key, IntKind.wrap_i64]
  omega
theorem i64_and65k (n : Int) : bits .and .i64 n 65535 = n % 65536 := by
  have h127 : (BitVec.ofInt 64 65535).toNat = 2 ^ 16 - 1 := by decide
  have key : (BitVec.ofInt 64 n &&& BitVec.ofInt 64 65535).toNat = (n % ((2 ^ 64 : Nat) : Int)).toNat % 2 ^ 16 := by
    rw [BitVec.toNat_and, BitVec.toNat_ofInt, h127, Nat.and_two_pow_sub_one_eq_mod]
  show IntKind.i64.wrap ((BitVec.ofInt 64 n &&& BitVec.ofInt 64 65535).toNat : Nat) = n % 65536
  rw [key, IntKind.wrap_i64]
  omega
end Go.Proofs.Ytdbnpdbnjipjiaa
