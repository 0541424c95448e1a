/-
  Layer 2 (crc): what bytes.Clone and Next answer.
-/
import Derived.Test.YtfndbgdamplelaaCRead
import Derived.Test.YtfndbgdamplelaaCFrame
import Derived.Test.YtfndbgdamplelaaVTake
import Derived.Lib.SliceRun
namespace Go.Proofs.Ytfndbgdamplelaa
open Go.RowKit

set_option maxRecDepth 100000 in
set_option maxHeartbeats 400000 in
theorem clone_some (a : Addr) (c : Nat) (l : List Nat) (w : World) (B : Nat) (hB : B ≤ w.heap.size) (hm : l.length ≤ 1000000000) (hr : Row w B .u8 (some a) l) :
    Calls Try.prog 18 #[.slice (some a) l.length c] w fun e w' => ∃ v, e = .returned v ∧ Own w' w.heap.size v l ∧ Below w.heap.size w w' := by
  have HR := Lib.hid hr; clear hr
  have hn : ∀ w, (binOp .eql 23 (.slice (some a) l.length c) (.slice none 0 0)).run Try.prog w = .ok (.bool false) w := fun w => by
    rw [Lib.run_eql_slice_nil w 23 5 (some a) l.length c 0 0 Try.underlying23]; rfl
  go_enter Try.func18, Try.ntmps18
  go_wp2_with (at_builtin; refine wpList_append_g rfl (.tmp 5) (.tmp 6) rfl w.heap.size _ [] rfl ?c1 (some a) l _ c B rfl rfl ?c2 ?c3 ?c4 ?c5 ?_)
  case c1 => exact World.ownsRow_lit w #[] 0 (Nat.le_refl _) (Nat.zero_le _) rfl
  case c2 => exact HR.out.below ((Below.refl _ _).alloc hB _)
  case c3 => simp
  case c4 => simp; omega
  case c5 => simp
  intro v2 w2 ho2 hg2
  have hb2 : Below w.heap.size w w2 := ((Below.refl _ _).alloc (Nat.le_refl _) _).trans (hg2.below (l := []) (World.ownsRow_lit w #[] 0 (Nat.le_refl _) (Nat.zero_le _) rfl) (by simp))
  have HO := Lib.hid ho2; have HB := Lib.hid hb2
  clear ho2 hg2 hb2
  go_wp2
  go_ret
  exact ⟨v2, rfl, HO.out, HB.out⟩

/-- What Next leaves: the bytes in a row of its own, and how many the frame has. -/
def NextPost (w : World) (l : List Nat) (e : Ending) (w' : World) : Prop :=
  ∃ v, e = .returned (.tuple #[v, .int .i64 ((CM.next l).2 : Nat)]) ∧ Own w' w.heap.size v (CM.next l).1 ∧ Below w.heap.size w w'

set_option maxRecDepth 100000 in
set_option maxHeartbeats 1000000 in
theorem next_none (A : Option Addr) (c : Nat) (l : List Nat) (w : World) (hm : l.length ≤ 1000000000) (hr : Row w w.heap.size .u8 A l) (hb : ∀ x ∈ l, x < 256)
    (hn : (VM.take l).2 = 0 ∨ l.length < (VM.take l).2 + 4 ∨ l.length - (VM.take l).2 - 4 < (VM.take l).1) :
    Calls Try.prog 13 #[.slice A l.length c] w (NextPost w l) := by
  have hN : CM.next l = ([], 0) := by unfold CM.next; simp only; rw [if_pos hn]
  have HN := Lib.hid hN; clear hN
  obtain ⟨ht1, ht2⟩ := VM.take_lt l hb
  have HR := Lib.hid hr; have HBY := Lib.hid hb
  clear hr hb
  have hpost : ∀ w', w' = w → NextPost w l (.returned (.tuple #[.slice none 0 0, .int .i64 0])) w' := fun w' h => by
    subst h
    exact ⟨_, by rw [HN.out]; rfl, by rw [HN.out]; exact Own.nil _ _, Below.refl _ _⟩
  have HP := Lib.hid hpost; clear hpost
  by_cases h0 : (VM.take l).2 = 0
  · have h00 : (((VM.take l).2 : Nat) : Int) = 0 := by omega
    go_enter Try.func13, Try.ntmps13
    go_wp2_with fail
    refine (take_any A c l _ w.heap.size (by unfold maxLen; omega) HR.out HBY.out).mono ?_
    rintro e w1 ⟨rfl, rfl⟩
    rw [h00]
    generalize (VM.take l).1 = n at *
    clear hn h0 h00
    go_wp2
    go_ret2
    exact HP.out w rfl
  · have b0 : (((VM.take l).2 : Int) == 0) = false := by simp; omega
    by_cases h1 : l.length < (VM.take l).2 + 4
    · have b1 : decide ((l.length : Int) - ((VM.take l).2 : Int) - 4 < 0) = true := by simp; omega
      go_enter Try.func13, Try.ntmps13
      go_wp2_with fail
      refine (take_any A c l _ w.heap.size (by unfold maxLen; omega) HR.out HBY.out).mono ?_
      rintro e w1 ⟨rfl, rfl⟩
      generalize (VM.take l).1 = n at *
      generalize (VM.take l).2 = k at *
      clear hn h0
      go_wp2
      go_ret2
      exact HP.out w rfl
    · have b1 : decide ((l.length : Int) - ((VM.take l).2 : Int) - 4 < 0) = false := by simp; omega
      have b2 : decide ((l.length : Int) - ((VM.take l).2 : Int) - 4 < ((VM.take l).1 : Int)) = true := by simp; omega
      go_enter Try.func13, Try.ntmps13
      go_wp2_with fail
      refine (take_any A c l _ w.heap.size (by unfold maxLen; omega) HR.out HBY.out).mono ?_
      rintro e w1 ⟨rfl, rfl⟩
      have hs : (l.length : Int) - ((VM.take l).2 : Int) - 4 < ((VM.take l).1 : Int) := by omega
      have hs0 : 0 ≤ (l.length : Int) - ((VM.take l).2 : Int) - 4 := by omega
      generalize (VM.take l).1 = n at *
      generalize (VM.take l).2 = k at *
      clear hn h0
      go_wp2
      go_ret2
      exact HP.out w rfl

theorem Row.drewN {w : World} {B : Nat} {k : IntKind} {A : Option Addr} {l : List Nat} (h : Row w B k A l) (n : Nat) : Row (w.drewN n) B k A l := h.keep fun p _ => by simp
theorem below_drewN {B : Nat} {a w : World} (h : Below B a w) (n : Nat) : Below B a (w.drewN n) := ⟨h.os, h.tape, h.output, h.size, h.block⟩

set_option maxRecDepth 100000 in
set_option maxHeartbeats 1000000 in
theorem next_some (A : Option Addr) (c : Nat) (l : List Nat) (w : World) (hm : l.length ≤ 1000000000) (hlc : l.length ≤ c) (hcm : c ≤ maxLen) (hr : Row w w.heap.size .u8 A l) (hb : ∀ x ∈ l, x < 256)
    (hn : ¬ ((VM.take l).2 = 0 ∨ l.length < (VM.take l).2 + 4 ∨ l.length - (VM.take l).2 - 4 < (VM.take l).1)) :
    Calls Try.prog 13 #[.slice A l.length c] w (NextPost w l) := by
  unfold maxLen at hcm
  have hN : CM.next l = if CM.rd4 (l.drop ((VM.take l).2 + (VM.take l).1)) = CM.sum (l.take ((VM.take l).2 + (VM.take l).1)) then ((l.drop (VM.take l).2).take (VM.take l).1, (VM.take l).2 + (VM.take l).1 + 4) else ([], 0) := by
    conv => lhs; unfold CM.next
    simp only
    rw [if_neg hn]
  obtain ⟨ht1, ht2⟩ := VM.take_lt l hb
  have HT := Lib.hid (take_any A c l w w.heap.size (by unfold maxLen; omega) hr hb)
  generalize (VM.take l).1 = n at *
  generalize (VM.take l).2 = k at *
  have hk0 : 0 < k := by omega
  have hkn : k + n + 4 ≤ l.length := by omega
  have hd1 : (l.drop (k + n)).length = l.length - (k + n) := List.length_drop
  have hd2 : (l.take (k + n)).length = k + n := by rw [List.length_take]; omega
  have hd3 : ((l.drop k).take n).length = n := by rw [List.length_take, List.length_drop]; omega
  have hr1 : Row w w.heap.size .u8 (cutA A c (k + n)) (l.drop (k + n)) := hr.cut (by omega) hlc
  have hr2 : Row w w.heap.size .u8 A (l.take (k + n)) := hr.take _
  have hr3 : Row w w.heap.size .u8 (cutA A c k) ((l.drop k).take n) := (hr.cut (by omega) hlc).take n
  have hA3 : ∃ a, cutA A c k = some a := by
    obtain ⟨b, off, rfl, _⟩ := hr (by omega)
    unfold cutA
    rw [if_neg (by omega)]
    exact ⟨_, rfl⟩
  obtain ⟨a3, hA3⟩ := hA3
  have hb1 : ∀ x ∈ l.drop (k + n), x < 256 := fun x hx => hb x (List.mem_of_mem_drop hx)
  have hb2 : ∀ x ∈ l.take (k + n), x < 256 := fun x hx => hb x (List.mem_of_mem_take hx)
  have c1 : ∀ W, (Instr.slice 23 (.slice A l.length c) (some (.int .i64 ((k : Int) + (n : Int)))) none none).run Try.prog W = .ok (.slice (cutA A c (k + n)) (l.drop (k + n)).length (c - (k + n))) W := fun W => by
    have := run_cut A l.length c (k + n) W (by omega)
    rw [Int.natCast_add] at this
    rw [this, hd1]
  have c2 : ∀ W, (Instr.slice 23 (.slice A l.length c) none (some (.int .i64 ((k : Int) + (n : Int)))) none).run Try.prog W = .ok (.slice A (l.take (k + n)).length c) W := fun W => by
    have := run_head A l.length c (k + n) W (by omega)
    rw [Int.natCast_add] at this
    rw [this, hd2]
  have c3 : ∀ W, (Instr.slice 23 (.slice A l.length c) (some (.int .i64 (k : Int))) (some (.int .i64 ((k : Int) + (n : Int)))) none).run Try.prog W = .ok (.slice (some a3) ((l.drop k).take n).length (c - k)) W := fun W => by
    have := run_mid A l.length c k (k + n) W (by omega) (by omega)
    rw [Int.natCast_add] at this
    rw [this, hd3, hA3]
    congr 2
    omega
  rw [hA3] at hr3
  have HR1 := Lib.hid hr1; have HR2 := Lib.hid hr2; have HR3 := Lib.hid hr3; have HB1 := Lib.hid hb1; have HB2 := Lib.hid hb2
  have l1 : (l.drop (k + n)).length ≤ 1000000000 := by omega
  have l2 : (l.take (k + n)).length ≤ 1000000000 := by omega
  have l3 : ((l.drop k).take n).length ≤ 1000000000 := by omega
  have l4 : 4 ≤ (l.drop (k + n)).length := by omega
  clear hr hb hn hr1 hr2 hr3 hb1 hb2 hd1 hd2 hd3 hA3
  generalize l.drop (k + n) = p1 at *
  generalize l.take (k + n) = p2 at *
  generalize (l.drop k).take n = p3 at *
  have HN := Lib.hid hN; clear hN
  have b0 : ((k : Int) == 0) = false := by simp; omega
  have b1 : decide ((l.length : Int) - (k : Int) - 4 < 0) = false := by simp; omega
  have b2 : decide ((l.length : Int) - (k : Int) - 4 < (n : Int)) = false := by simp; omega
  by_cases hq : CM.rd4 p1 = CM.sum p2
  · have q1 : (((CM.rd4 p1 : Nat) : Int) != ((CM.sum p2 : Nat) : Int)) = false := by rw [hq]; simp
    have hN := HN.out
    rw [if_pos hq] at hN
    have HN2 := Lib.hid hN; clear hN HN hq
    go_enter Try.func13, Try.ntmps13
    go_wp2_with fail
    refine HT.out.mono ?_
    rintro e w1 ⟨rfl, rfl⟩
    go_wp2
    go_quiet (first | (go_at_call 17; refine Calls.quiet_of (readSum_any _ _ p1 _ w.heap.size (by unfold maxLen; omega) l4 (HR1.out.drewN _) HB1.out)) | (go_at_call 12; refine Calls.quiet_of_same ((sum_any _ _ p2 _ w.heap.size (by unfold maxLen; omega) (HR2.out.drewN _) HB2.out).mono (fun _ _ h => ⟨h.1, h.2.symm⟩))))
    go_wp2_with fail
    refine (clone_some a3 (c - k) p3 _ w.heap.size (by simp) l3 (HR3.out.drewN _)).mono ?_
    rintro e w2 ⟨v, rfl, ho, hb2⟩
    have HO := Lib.hid ho; have HB := Lib.hid hb2
    clear ho hb2
    go_wp2
    go_ret2
    refine ⟨v, ?_, ?_, ?_⟩
    · rw [HN2.out]; rfl
    · rw [HN2.out]; exact HO.out
    · exact (below_drewN (Below.refl _ _) nq).trans HB.out
  · have q1 : (((CM.rd4 p1 : Nat) : Int) != ((CM.sum p2 : Nat) : Int)) = true := by simp; omega
    have hN := HN.out
    rw [if_neg hq] at hN
    have HN2 := Lib.hid hN; clear hN HN hq
    go_enter Try.func13, Try.ntmps13
    go_wp2_with fail
    refine HT.out.mono ?_
    rintro e w1 ⟨rfl, rfl⟩
    go_wp2
    go_quiet (first | (go_at_call 17; refine Calls.quiet_of (readSum_any _ _ p1 _ w.heap.size (by unfold maxLen; omega) l4 (HR1.out.drewN _) HB1.out)) | (go_at_call 12; refine Calls.quiet_of_same ((sum_any _ _ p2 _ w.heap.size (by unfold maxLen; omega) (HR2.out.drewN _) HB2.out).mono (fun _ _ h => ⟨h.1, h.2.symm⟩))))
    go_wp2
    go_ret2
    refine ⟨.slice none 0 0, ?_, ?_, ?_⟩
    · rw [HN2.out]; rfl
    · rw [HN2.out]; exact Own.nil _ _
    · exact below_drewN (Below.refl _ _) nq

theorem next_row (A : Option Addr) (c : Nat) (l : List Nat) (w : World) (hm : l.length ≤ 1000000000) (hlc : l.length ≤ c) (hcm : c ≤ maxLen) (hr : Row w w.heap.size .u8 A l) (hb : ∀ x ∈ l, x < 256) :
    Calls Try.prog 13 #[.slice A l.length c] w (NextPost w l) := by
  by_cases hn : (VM.take l).2 = 0 ∨ l.length < (VM.take l).2 + 4 ∨ l.length - (VM.take l).2 - 4 < (VM.take l).1
  · exact next_none A c l w hm hr hb hn
  · exact next_some A c l w hm hlc hcm hr hb hn
end Go.Proofs.Ytfndbgdamplelaa
