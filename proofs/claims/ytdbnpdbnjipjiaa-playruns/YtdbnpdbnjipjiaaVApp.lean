/-
  Bytes appended to a row of the call's own, wherever they lie: what has changed, and where the row lies behind it. Cuts of slices of bytes.
-/
import Derived.Test.YtdbnpdbnjipjiaaVStr
import Derived.Test.YtdbnpdbnjipjiaaVOne
import Derived.Maps.AppendAt
namespace Go.Proofs.Ytdbnpdbnjipjiaa
open Go.RowKit
set_option maxRecDepth 100000

theorem Own.below {w w' : World} {base : Nat} {v : Value} {l : List Nat} (h : Own w base v l) (hb : Below w.heap.size w w') : Own w' base v l := by
  refine ⟨h.1, ?_⟩
  rcases h.2 with h1 | ⟨g, cap, cur, h1, h2, h3, h4⟩
  · exact .inl h1
  · exact .inr ⟨g, cap, cur, h1, h2, (hb.block g (Array.getElem?_eq_some_iff.1 h3).1).trans h3, h4⟩
theorem Own.mono {w : World} {base base' : Nat} {v : Value} {l : List Nat} (h : Own w base v l) (hb : base' ≤ base) : Own w base' v l := by
  refine ⟨h.1, ?_⟩
  rcases h.2 with h1 | ⟨g, cap, cur, h1, h2, h3⟩
  · exact .inl h1
  · exact .inr ⟨g, cap, cur, h1, by omega, h3⟩
theorem Grow.of_below {w w1 w2 : World} {v v' : Value} (hb : Below w.heap.size w w1) (h : Grow w1 w2 v v') : Grow w w2 v v' := by
  have hs := hb.size
  refine ⟨⟨h.grown.os.trans hb.os, h.grown.tape.trans hb.tape, h.grown.output.trans hb.output, Nat.le_trans hs h.grown.size, fun k hk hne => (h.grown.block k (by omega) hne).trans (hb.block k hk)⟩, ?_⟩
  rcases h.place with e | e
  · exact .inl e
  · exact .inr fun k hk => by have := e k hk; omega

/-- A new block of four bytes, as the row that a slice over it reads. -/
theorem row_new4 (w : World) (a b c d : Int) (l : List Nat) (t : TypeId) (x0 x1 x2 x3 : Nat) (hl : l = [x0, x1, x2, x3]) (h0 : a = x0) (h1 : b = x1) (h2 : c = x2) (h3 : d = x3) :
    Row (w.alloc (.cells #[.int .u8 a, .int .u8 b, .int .u8 c, .int .u8 d] t)) (w.heap.size + 1) .u8 (some ⟨w.heap.size, 0, none⟩) l := fun _ => by
  subst hl h0 h1 h2 h3
  refine ⟨w.heap.size, 0, rfl, by omega, fun j hj => ?_⟩
  match j, hj with
  | 0, _ => simp
  | 1, _ => simp
  | 2, _ => simp
  | 3, _ => simp

/-- A row of the call's own stays where only another row has changed. -/
theorem ownsRow_grown {w w' : World} {base : Nat} {e : TypeId} {s : Nat} {v : Value} {n : Nat} {xs : List Value} {row : Option Nat} (h : w.ownsRow base e s v n xs) (hg : w.grownBy w' row) (hne : ∀ k, v.ownBlock = some k → row ≠ some k) : w'.ownsRow base e s v n xs := by
  refine ⟨h.1, ?_⟩
  rcases h.2 with h1 | ⟨g, cap, cur, h1, h2, h3, h4⟩
  · exact .inl h1
  · exact .inr ⟨g, cap, cur, h1, h2, (hg.block g (Array.getElem?_eq_some_iff.1 h3).1 (fun e => hne g (by rw [h1]; rfl) e.symm)).trans h3, h4⟩
theorem i64_and65535 (n : Int) : bits .and .i64 n 65535 = n % 65536 := by
  have h127 : (BitVec.ofInt 64 65535).toNat = 2 ^ 16 - 1 := by decide
  have key : (BitVec.ofInt 64 n &&& BitVec.ofInt 64 65535).toNat = (n % ((2 ^ 64 : Nat) : Int)).toNat % 2 ^ 16 := by
    rw [BitVec.toNat_and, BitVec.toNat_ofInt, h127, Nat.and_two_pow_sub_one_eq_mod]
  show IntKind.i64.wrap ((BitVec.ofInt 64 n &&& BitVec.ofInt 64 65535).toNat : Nat) = n % 65536
  rw [key, IntKind.wrap_i64]
  omega
theorem low16 (n : Int) : ∃ q : Nat, q < 65536 ∧ bits .and .i64 n 65535 = (q : Int) := ⟨(n % 65536).toNat, by omega, by rw [i64_and65535]; omega⟩
end Go.Proofs.Ytdbnpdbnjipjiaa
