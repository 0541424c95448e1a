/-
  Layer 4's laws: fuses. No walk but Fuse's and Crash's at a store.
-/
import Derived.Test.YtdaipoelicpnoaaFSto
namespace Go.Proofs.Ytdaipoelicpnoaa
open Go.RowKit Go.Maps FM

theorem low6 (n : Int) : ∃ q : Nat, q < 64 ∧ bits .and .i64 n 63 = (q : Int) := by
  have h127 : (BitVec.ofInt 64 63).toNat = 2 ^ 6 - 1 := by decide
  have key : (BitVec.ofInt 64 n &&& BitVec.ofInt 64 63).toNat = (n % ((2 ^ 64 : Nat) : Int)).toNat % 2 ^ 6 := by
    rw [BitVec.toNat_and, BitVec.toNat_ofInt, h127, Nat.and_two_pow_sub_one_eq_mod]
  refine ⟨(n % 64).toNat, by omega, ?_⟩
  show IntKind.i64.wrap ((BitVec.ofInt 64 n &&& BitVec.ofInt 64 63).toNat : Nat) = _
  rw [key, IntKind.wrap_i64]
  omega

theorem sto_fuse {w : World} {S : Nat → Prop} {sb : Nat} {s : St} (h : Sto w S sb s) (n : Int) (hn : -9223372036854775808 ≤ n ∧ n < 9223372036854775808) :
    Calls Try.prog 20 #[.pointer (some ⟨sb, 0, none⟩), .int .i64 n] w fun e w' => e = .returned (.tuple #[]) ∧ Sto w' S sb (setFuse s n) ∧ Fr S w w' := by
  obtain ⟨mb, L, h, hS, hM, hold, hlt⟩ := h
  refine (fuse_ok w sb mb L s n hn h).mono ?_
  rintro e w' ⟨rfl, h1, h2, h3⟩
  exact ⟨rfl, ⟨mb, L, h1, hS, hM, hold, fun k hk => by rw [h3]; exact hlt k hk⟩, fr_sb hS h2⟩
theorem Loop.fuse {w wr w1 : World} {S : Nat → Prop} {sb : Nat} {s : St} {k : Nat} (h : Loop w wr S sb s k) {n : Int} (hs : Sto w1 S sb (setFuse s n)) (hf : Fr S wr w1) : Loop w w1 S sb (setFuse s n) k :=
  { sto := hs, new := h.new, below := h.below.trans (hf.below h.below.size h.new), files := h.files, used := h.used, room := h.room }

/-- A crash that keeps nothing. -/
theorem sto_crash0 {w : World} {S : Nat → Prop} {sb : Nat} {s : St} (h : Sto w S sb s) (hN : s.fs.length ≤ 1000000) (hu : used s ≤ 1000000) :
    Calls Try.prog 15 #[.pointer (some ⟨sb, 0, none⟩), .slice none 0 0] w (CrashPost w S sb s []) :=
  crash_ok w S sb s none [] 0 0 h hN (by omega) (by simp) (by simp) (fun hp => absurd hp (by simp)) (Nat.zero_le _) (fun hp => absurd hp (by simp))
theorem crash_used (s : St) (keep : List Int) : used (crash s keep) ≤ used s := crashed_sum (fun _ _ => lasts_le _ _) 0 s.fs
theorem crash_len (s : St) (keep : List Int) : (crash s keep).fs.length = s.fs.length := crashed_length _ 0 s.fs
theorem Loop.crash {w wr w1 : World} {S : Nat → Prop} {sb : Nat} {s : St} {k : Nat} (h : Loop w wr S sb s k) {keep : List Int} {e : Ending} (hc : CrashPost wr S sb s keep e w1) : Loop w w1 (wider S wr w1) sb (FM.crash s keep) k :=
  { sto := hc.2.1
    new := fun j hj => by
      rcases hj with hj | hj
      · exact h.new j hj
      · have := h.below.size; omega
    below := h.below.trans (hc.2.2.below h.below.size h.new)
    files := by rw [crash_len]; exact h.files
    used := Nat.le_trans (crash_used s keep) h.used
    room := Nat.le_trans (crash_used s keep) h.room }

theorem appendErr_5 (s : St) (n : Name) (b : List Nat) : appendErr s n b ≤ 5 := by unfold appendErr; split <;> (try split) <;> simp
theorem missing_5 (s : St) (n : Name) : missing s n ≤ 5 := by unfold missing; split <;> simp
theorem renameErr_5 (s : St) (a b : Name) : renameErr s a b ≤ 5 := by
  unfold renameErr; split
  · exact missing_5 _ _
  · simp
theorem step_doing (s : St) (c : CallV) (hk : c.k < 6) : ∃ e f, step s c = doing s e f ∧ e ≤ 5 := by
  unfold step
  split
  · exact ⟨_, _, rfl, missing_5 _ _⟩
  split
  · exact ⟨_, _, rfl, renameErr_5 _ _ _⟩
  split
  · exact ⟨_, _, rfl, missing_5 _ _⟩
  split
  · exact ⟨_, _, rfl, missing_5 _ _⟩
  split
  · omega
  split
  · omega
  exact ⟨_, _, rfl, appendErr_5 _ _ _⟩
/-- On a store that is down nothing is done. -/
theorem step_down {s : St} {c : CallV} (hk : c.k < 6) (hd : s.down = true) : step s c = (8, s) := by
  obtain ⟨e, f, h, _⟩ := step_doing s c hk
  have hc : change s e = (8, s) := by unfold change; rw [hd]; rfl
  rw [h, doing_err (by rw [hc]; simp), hc]
/-- On a store that is up: it is done, and the fuse counts it; or the fuse was at its end; or it is refused. -/
theorem step_up {s : St} {c : CallV} (hk : c.k < 6) (hd : s.down = false) (hf : 0 ≤ s.fuse) :
    ((step s c).1 = 0 ∧ s.fuse ≠ 0 ∧ (step s c).2.down = false ∧ (step s c).2.fuse = s.fuse - 1) ∨ ((step s c).1 = 8 ∧ s.fuse = 0 ∧ (step s c).2.down = true ∧ used (step s c).2 = used s) ∨
    ((step s c).1 ≠ 0 ∧ (step s c).1 ≠ 8 ∧ (step s c).2.down = false ∧ (step s c).2.fuse = s.fuse ∧ used (step s c).2 = used s) := by
  obtain ⟨e, f, h, h5⟩ := step_doing s c hk
  rw [h]
  by_cases h0 : e = 0
  · subst h0
    by_cases hz : s.fuse = 0
    · have hc : change s 0 = (8, { s with down := true }) := by unfold change; rw [hd, if_neg (by simp), if_neg (by simp), if_pos hz]
      rw [doing_err (by rw [hc]; simp), hc]
      exact .inr (.inl ⟨rfl, hz, rfl, rfl⟩)
    · have hc : change s 0 = (0, { s with fuse := s.fuse - 1 }) := by unfold change; rw [hd, if_neg (by simp), if_neg (by simp), if_neg hz, if_pos (by omega)]
      rw [doing_ok (by rw [hc]), hc]
      exact .inl ⟨rfl, hz, hd, rfl⟩
  · have hc : change s e = (e, s) := by unfold change; rw [hd, if_neg (by simp), if_pos h0]
    rw [doing_err (by rw [hc]; exact h0), hc]
    exact .inr (.inr ⟨h0, by simp only; omega, hd, rfl, rfl⟩)
theorem append_none {s : St} {n : Name} (hd : s.down = false) (hf : s.fuse < 0) (hn : isName n = true) (b : List Nat) (hr : b.length ≤ s.quota - used s) : (append s n b).1 = 0 := by
  have he : appendErr s n b = 0 := by unfold appendErr; rw [if_pos hn, if_neg (by omega)]
  show (change s (appendErr s n b)).1 = 0
  rw [he]
  unfold change
  rw [hd, if_neg (by simp), if_neg (by simp), if_neg (by omega), if_neg (by omega)]
end Go.Proofs.Ytdaipoelicpnoaa
