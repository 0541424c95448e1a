/-
  Layer 4's laws: Call.keeps.
-/
import Derived.Test.YtdaipoelicpnoaaFCall
namespace Go.Proofs.Ytdaipoelicpnoaa
open Go.RowKit Go.Maps FM

theorem Try.info3 : (Try.prog.info? 3).map (fun i => (i.zero, i.size, i.bytes)) = some (some (.int .i64 0), 1, 8) := by kernel_rfl

def ints (l : List Int) : List Value := l.map fun n => .int .i64 n
/-- The slice value v, in a row of the call's own from block 'base' on, holds just these ints. -/
def OwnI (w : World) (base : Nat) (v : Value) (l : List Int) : Prop := w.ownsRow base 3 1 v l.length (ints l)
theorem OwnI.lt {w : World} {base : Nat} {v : Value} {l : List Int} (h : OwnI w base v l) : ∀ k, v.ownBlock = some k → base ≤ k := fun k hk => (World.ownsRow.lt h k hk).1
theorem OwnI.row {w : World} {base : Nat} {v : Value} {l : List Int} (h : OwnI w base v l) : ∃ A c, v = .slice A l.length c ∧ (A = none → c = 0) ∧ (∀ a, A = some a → base ≤ a.block) ∧ RowI w w.heap.size A l := by
  rcases h.2 with ⟨rfl, h0⟩ | ⟨g, cap, cur, rfl, hg, hh, h1, h2, _⟩
  · refine ⟨none, 0, by rw [h0], fun _ => rfl, (fun _ hh => by cases hh), fun hp => ?_⟩
    omega
  · refine ⟨_, _, rfl, by simp, (fun a ha => by injection ha with ha; subst ha; exact hg), fun hp => ⟨g, 0, rfl, (Array.getElem?_eq_some_iff.1 hh).1, fun j hj => ?_⟩⟩
    have hc := World.ownsRow.cells h (g := g) rfl j (.int .i64 (l.getD j 0)) (by simp [ints, List.getElem?_eq_getElem hj])
    rw [← hc]
    unfold Addr.add
    split <;> simp_all
theorem OwnI.snoc {w : World} {base : Nat} {v : Value} {l : List Int} {x : Int} (h : w.ownsRow base 3 1 v (l.length + 1) (ints l ++ [.int .i64 x])) : OwnI w base v (l ++ [x]) := by
  unfold OwnI
  rw [show ints (l ++ [x]) = ints l ++ [.int .i64 x] by simp [ints], List.length_append]
  exact h
theorem OwnI.one (w : World) (n : Int) (base : Nat) (hb : base ≤ w.heap.size) : OwnI (w.alloc (.cells #[.int .i64 n] 3)) base (.slice (some ⟨w.heap.size, 0, none⟩) 1 1) [n] :=
  ⟨by simp [ints], .inr ⟨w.heap.size, 1, #[.int .i64 n], rfl, hb, (MapKept.heap_alloc w _).1, by simp, by unfold maxLen; omega, by simp, by simp [ints]⟩⟩

def keepsOf (c : CallV) : List Int := c.n :: c.data.map fun x => ((x % 16 : Nat) : Int)

set_option maxRecDepth 100000 in
set_option maxHeartbeats 1000000 in
theorem keeps_ok (w : World) (c : CallV) (B : Nat) (h : c.Ok w B) (hB : B ≤ w.heap.size) (hl : c.data.length ≤ 1000000) :
    Calls Try.prog 26 #[c.val] w fun e w' => ∃ v, e = .returned v ∧ OwnI w' w.heap.size v (keepsOf c) ∧ Below w.heap.size w w' := by
  obtain ⟨i0, hi, hz0, hz1, hz2⟩ := info_parts Try.info3
  have HR := Lib.hid h.row; have HS := Lib.hid h.small
  unfold CallV.val
  clear h
  go_enter Try.func26, Try.ntmps26
  go_wp2
  go_loopw [3, 12] (fun u i wr => ∃ k : Nat, k ≤ c.data.length ∧ i = .int .i64 (k : Int) ∧ OwnI wr w.heap.size u (c.n :: (c.data.take k).map fun x => ((x % 16 : Nat) : Int)) ∧ Below w.heap.size w wr)
    (fun _ i _ => c.data.length - (intOf i).toNat)
  case atStart =>
    refine ⟨0, Nat.zero_le _, rfl, ?_, ((Below.refl _ w).alloc (Nat.le_refl _) _).alloc (by simp) _⟩
    have := OwnI.one (w.alloc (.cells #[.int .i64 c.kind, .int .i64 c.n, .string c.name, .string c.to, .slice c.A c.data.length c.cap] 33)) c.n w.heap.size (by simp)
    simpa using this
  case round =>
    obtain ⟨k, hk, rfl, ho, hb⟩ := hrel
    have HO := Lib.hid ho; have HB := Lib.hid hb
    have hzr := hb.size
    clear ho hb
    by_cases hlt : k < c.data.length
    · obtain ⟨b, off, hA, hbb, hcell⟩ := ((HR.out.mono hB).below HB.out).at_ hlt
      have hgk : c.data.getD k 0 = c.data[k] := by simp [hlt]
      have h256 : c.data.getD k 0 < 256 := by rw [hgk]; exact HS.out _ (List.getElem_mem _)
      have htk : c.data.take (k + 1) = c.data.take k ++ [c.data.getD k 0] := by rw [hgk]; exact List.take_succ_eq_append_getElem hlt
      obtain ⟨xs, hxs⟩ : ∃ xs, xs = c.n :: (c.data.take k).map fun x => ((x % 16 : Nat) : Int) := ⟨_, rfl⟩
      have hxl : xs.length ≤ 1000001 := by rw [hxs]; simp; omega
      have hnx : (c.n :: (c.data.take (k + 1)).map fun x => ((x % 16 : Nat) : Int)) = xs ++ [((c.data.getD k 0 % 16 : Nat) : Int)] := by rw [hxs, htk]; simp
      rw [← hxs] at HO
      rw [hA]
      have HNX := Lib.hid hnx
      clear hgk htk hnx hxs hA
      generalize c.data.getD k 0 = x at *
      go_wp2_with (at_builtin; refine wpList_append_own_at _ rfl _ _ 49 rfl w.heap.size 3 i0 (.int .i64 0) 1 8 Try.underlying49 hi hz0 hz1 hz2 rfl (by decide) _ _ _ rfl (HO.out.alloc _) ⟨wr.heap.size, 0, none⟩ 1 1 [.int .i64 ((x : Int) % 16)] rfl rfl ?c1 ?c2 ?c3 ?c4 ?c5 ?_)
      case c1 => exact cell_one_new _ _ _
      case c2 => intro u hu; simp at hu; subst hu; rfl
      case c3 => unfold maxLen; omega
      case c4 => omega
      case c5 => simp; omega
      · intro v' w1 ho1 hg1 _ hp1
        have ho2 : OwnI w1 w.heap.size v' (xs ++ [((x % 16 : Nat) : Int)]) := OwnI.snoc (by rw [show ((x % 16 : Nat) : Int) = (x : Int) % 16 by omega]; exact ho1)
        have HO1 := Lib.hid ho2
        have hb1 : Below w.heap.size w w1 := (HB.out.alloc hzr _).grown hg1 (by simp; omega) HO.out.lt
        have HB1 := Lib.hid hb1
        clear ho1 hg1 hp1 ho2 hb1
        go_wp2
        go_roundw
        case rel => exact ⟨k + 1, by omega, by go_num, by rw [HNX.out]; exact HO1.out, HB1.out⟩
        case measure => simp [intOf]; omega
    · go_wp2
      go_ret
      have e : c.data.take k = c.data := List.take_of_length_le (by omega)
      have h1 := HO.out
      rw [e] at h1
      exact ⟨_, rfl, h1, HB.out⟩
end Go.Proofs.Ytdaipoelicpnoaa
