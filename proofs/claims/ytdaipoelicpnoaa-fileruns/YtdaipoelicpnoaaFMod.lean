/-
  FileRuns' model: its struct and its row; at, used.
-/
import Derived.Test.YtdaipoelicpnoaaFOnes
import Derived.BigQuiet
import Derived.Deep.QuietTactic
namespace Go.Proofs.Ytdaipoelicpnoaa
open Go.RowKit Go.Maps FM

/-- The model whose struct lies in block pb, its files in the row of v. -/
structure MoB (w : World) (pb : Nat) (v : Value) (s : St) : Prop where
  cells : w.heap[pb]? = some (.cells #[v, .int .i64 (s.quota : Int), .int .i64 (max s.fuse (-1)), .bool s.down] 30)
  own : OwnO w 0 v s.fs
/-- .. with its blocks among those of T. -/
def Mod (w : World) (T : Nat → Prop) (pb : Nat) (s : St) : Prop := ∃ v, MoB w pb v s ∧ T pb ∧ (∀ k, v.ownBlock = some k → T k) ∧ ∀ k, T k → k < w.heap.size

section
variable {w w' : World} {pb : Nat} {v : Value} {s : St} {T : Nat → Prop}
theorem MoB.cell0 (h : MoB w pb v s) : w.cell? ⟨pb, 0, none⟩ = some v := by simp [World.cell?, h.cells]
theorem MoB.cell1 (h : MoB w pb v s) : w.cell? ⟨pb, 1, none⟩ = some (.int .i64 (s.quota : Int)) := by simp [World.cell?, h.cells]
theorem MoB.cell2 (h : MoB w pb v s) : w.cell? ⟨pb, 2, none⟩ = some (.int .i64 (max s.fuse (-1))) := by simp [World.cell?, h.cells]
theorem MoB.cell3 (h : MoB w pb v s) : w.cell? ⟨pb, 3, none⟩ = some (.bool s.down) := by simp [World.cell?, h.cells]
theorem MoB.frozen (h : MoB w pb v s) (i : Nat) : w.frozen? ⟨pb, i, none⟩ = false := by simp [World.frozen?, h.cells]
theorem MoB.lt (h : MoB w pb v s) : pb < w.heap.size := (Array.getElem?_eq_some_iff.1 h.cells).1
theorem MoB.ne (h : MoB w pb v s) : v.ownBlock ≠ some pb := fun e => by
  obtain ⟨cur, hc⟩ := h.own.notCells e
  rw [h.cells] at hc; simp at hc
theorem MoB.keep (h : MoB w pb v s) (hp : w'.heap[pb]? = w.heap[pb]?) (hb : ∀ k, v.ownBlock = some k → w'.heap[k]? = w.heap[k]?) : MoB w' pb v s := ⟨hp.trans h.cells, h.own.keep hb⟩
theorem MoB.below (h : MoB w pb v s) (hb : Below w.heap.size w w') : MoB w' pb v s := h.keep (hb.block pb h.lt) fun k hk => hb.block k (h.own.lt k hk).2
theorem Mod.keep (h : Mod w T pb s) (hb : ∀ k, T k → w'.heap[k]? = w.heap[k]?) (hs : w.heap.size ≤ w'.heap.size) : Mod w' T pb s := by
  obtain ⟨v, h1, h2, h3, h4⟩ := h
  exact ⟨v, h1.keep (hb pb h2) fun k hk => hb k (h3 k hk), h2, h3, fun k hk => Nat.lt_of_lt_of_le (h4 k hk) hs⟩
theorem Mod.below (h : Mod w T pb s) (hb : Below w.heap.size w w') : Mod w' T pb s := by
  have h4 : ∀ k, T k → k < w.heap.size := by obtain ⟨v, _, _, _, h4⟩ := h; exact h4
  exact h.keep (fun k hk => hb.block k (h4 k hk)) hb.size
theorem Mod.lt (h : Mod w T pb s) : ∀ k, T k → k < w.heap.size := by obtain ⟨v, _, _, _, h4⟩ := h; exact h4
end

theorem sum_append {α : Type} (f : α → Nat) : ∀ (a b : List (Name × α)), sum f (a ++ b) = sum f a + sum f b
  | [], b => by simp [sum]
  | p :: r, b => by simp only [List.cons_append, sum, sum_append f r b]; omega
theorem sum_take_le {α : Type} (f : α → Nat) (l : List (Name × α)) (i : Nat) : sum f (l.take i) ≤ sum f l := by
  have := sum_append f (l.take i) (l.drop i)
  rw [List.take_append_drop] at this
  omega

/-- Where a name is, or would be. -/
def pos (n : Name) : List (Name × File) → Nat
  | [] => 0
  | p :: r => if bytesBefore p.1 n then pos n r + 1 else 0
theorem pos_le (n : Name) : ∀ fs, pos n fs ≤ fs.length
  | [] => Nat.le_refl _
  | p :: r => by
    unfold pos; split
    · have := pos_le n r; simp; omega
    · simp
def found (n : Name) (fs : List (Name × File)) : Bool := match fs[pos n fs]? with | some p => p.1 == n | none => false
theorem pos_at (n : Name) : ∀ (fs : List (Name × File)) (i : Nat) (hi : i < fs.length), i < pos n fs → bytesBefore (fs[i]).1 n = true
  | p :: r, 0, _, h => by
    unfold pos at h
    split at h
    · assumption
    · omega
  | p :: r, i + 1, hi, h => by
    unfold pos at h
    split at h
    · exact pos_at n r i (by simpa using hi) (by omega)
    · omega
theorem pos_end (n : Name) : ∀ (fs : List (Name × File)) (hi : pos n fs < fs.length), bytesBefore (fs[pos n fs]).1 n = false
  | p :: r, hi => by
    by_cases hb : bytesBefore p.1 n = true
    · have e : pos n (p :: r) = pos n r + 1 := by rw [pos, if_pos hb]
      have hr : pos n r < r.length := by rw [e] at hi; simpa using hi
      have := pos_end n r hr
      simp only [e, List.getElem_cons_succ]
      exact this
    · have e : pos n (p :: r) = 0 := by rw [pos, if_neg hb]
      simp only [e, List.getElem_cons_zero]
      simpa using hb

theorem less_eq : ∀ a b : List UInt8, Op.bytesLess a b = bytesBefore a b
  | [], [] => rfl
  | [], _ :: _ => rfl
  | _ :: _, [] => rfl
  | a :: r, b :: t => by
    simp only [Op.bytesLess, bytesBefore, less_eq r t]
theorem less_nm (a : Name) (n : ByteArray) : Op.bytesLess (nm a).toList n.toList = bytesBefore a n.data.toList := by
  rw [less_eq, ByteArray.toList_eq, ByteArray.toList_eq]; rfl
theorem same_nm (a : Name) (n : ByteArray) : ((nm a).toList == n.toList) = (a == n.data.toList) := by
  rw [ByteArray.toList_eq, ByteArray.toList_eq]; rfl

set_option maxRecDepth 100000 in
set_option maxHeartbeats 1000000 in
theorem mat_ok (w : World) (pb : Nat) (v : Value) (s : St) (n : ByteArray) (h : MoB w pb v s) (hl : s.fs.length ≤ 1000000) :
    Calls Try.prog 27 #[.pointer (some ⟨pb, 0, none⟩), .string n] w fun e w' => e = .returned (.tuple #[.int .i64 (pos n.data.toList s.fs : Int), .bool (found n.data.toList s.fs)]) ∧ Below w.heap.size w w' := by
  have c0 := h.cell0
  obtain ⟨A, c, hv, _, _, _, hc⟩ := h.own.form
  subst hv
  have hpl := pos_le n.data.toList s.fs
  have HC := Lib.hid hc
  clear h hc
  go_enter Try.func27, Try.ntmps27
  go_wp2
  go_loopw [6] (fun u wr => ∃ i : Nat, i ≤ pos n.data.toList s.fs ∧ u = .int .i64 (i : Int) ∧ wr = w)
    (fun u _ => s.fs.length - (intOf u).toNat)
  case atStart => exact ⟨0, Nat.zero_le _, rfl, rfl⟩
  case round =>
    obtain ⟨i, hi, rfl, hwr⟩ := hrel
    subst hwr
    by_cases hlt : i < s.fs.length
    · obtain ⟨g, hA, hg, k1, k2, k3, _, _⟩ := HC.out i hlt
      subst hA
      by_cases hip : i < pos n.data.toList s.fs
      · have hb : Op.bytesLess (nm (s.fs[i]).1).toList n.toList = true := by rw [less_nm]; exact pos_at _ _ i hlt hip
        go_wp2
        go_roundw
        case rel => exact ⟨i + 1, by omega, by go_num, trivial⟩
        case measure => simp [intOf]; omega
      · have hie : i = pos n.data.toList s.fs := by omega
        have hb : Op.bytesLess (nm (s.fs[i]).1).toList n.toList = false := by rw [less_nm]; subst hie; exact pos_end _ _ hlt
        obtain ⟨fd, hfd⟩ : ∃ fd, fd = found n.data.toList s.fs := ⟨_, rfl⟩
        have hq : ((nm (s.fs[i]).1).toList == n.toList) = fd := by
          rw [same_nm, hfd]
          unfold found
          rw [← hie, List.getElem?_eq_getElem hlt]
        have HFD := Lib.hid hfd; have HIE := Lib.hid hie
        clear hfd hie hip
        have c0' := c0
        go_wp2
        go_quiet (fail)
        go_wp2
        go_ret2
        exact ⟨by rw [← HFD.out, ← HIE.out]; rfl, below_drewN (Below.refl _ _) _⟩
    · have hie : i = pos n.data.toList s.fs := by omega
      have hfd : found n.data.toList s.fs = false := by unfold found; rw [← hie, List.getElem?_eq_none (by omega)]
      have HFD := Lib.hid hfd; have HIE := Lib.hid hie
      have hdi : decide ((i : Int) < (s.fs.length : Int)) = false := decide_eq_false (by omega)
      clear hfd hie
      go_wp2
      go_quiet (fail)
      go_wp2
      go_ret2
      exact ⟨by rw [HFD.out, ← HIE.out]; rfl, below_drewN (Below.refl _ _) _⟩

set_option maxRecDepth 100000 in
set_option maxHeartbeats 1000000 in
theorem mused_ok (w : World) (pb : Nat) (v : Value) (s : St) (h : MoB w pb v s) (hl : s.fs.length ≤ 1000000) (hu : used s ≤ 1000000) :
    Calls Try.prog 34 #[.pointer (some ⟨pb, 0, none⟩)] w fun e w' => e = .returned (.int .i64 (used s : Int)) ∧ Below w.heap.size w w' := by
  have c0 := h.cell0
  obtain ⟨A, c, hv, _, _, _, hc⟩ := h.own.form
  subst hv
  have HC := Lib.hid hc
  clear h hc
  go_enter Try.func34, Try.ntmps34
  go_wp2
  go_loopw [3, 11] (fun x u wr => ∃ i : Nat, i ≤ s.fs.length ∧ u = .int .i64 (i : Int) ∧ x = .int .i64 (sum len (s.fs.take i) : Int) ∧ Below w.heap.size w wr)
    (fun _ u _ => s.fs.length - (intOf u).toNat)
  case atStart => exact ⟨0, Nat.zero_le _, rfl, rfl, Below.refl _ _⟩
  case round =>
    obtain ⟨i, hi, rfl, rfl, hb⟩ := hrel
    have HB := Lib.hid hb
    clear hb
    by_cases hlt : i < s.fs.length
    · obtain ⟨g, hA, hg, k1, k2, k3, _, _⟩ := HC.out i hlt
      subst hA
      have g1 := (HB.out.cell (p := ⟨g, i * 3, none⟩) hg).trans k1
      have g2 := (HB.out.cell (p := ⟨g, i * 3 + 1, none⟩) hg).trans k2
      have g3 := (HB.out.cell (p := ⟨g, i * 3 + 2, none⟩) hg).trans k3
      have hsz : (str (s.fs[i]).2.data).size = (s.fs[i]).2.data.length := str_size _
      have hsum : sum len (s.fs.take (i + 1)) = sum len (s.fs.take i) + (s.fs[i]).2.data.length := by rw [List.take_succ_eq_append_getElem hlt, sum_append]; simp [sum, len]
      have hle : sum len (s.fs.take (i + 1)) ≤ used s := sum_take_le len _ _
      have hle2 : sum len (s.fs.take i) + (s.fs[i]).2.data.length ≤ 1000000 := by omega
      have HS := Lib.hid hsum
      clear hsum k1 k2 k3 hle
      generalize sum len (s.fs.take i) = a at *
      generalize (s.fs[i]).2.data.length = b at *
      go_wp2
      go_roundw
      case rel => exact ⟨i + 1, by omega, by go_num, by rw [HS.out]; go_num, HB.out.alloc HB.out.size _⟩
      case measure => simp [intOf]; omega
    · have e : s.fs.take i = s.fs := List.take_of_length_le (by omega)
      go_wp2
      go_ret
      exact ⟨by rw [e]; rfl, HB.out⟩
end Go.Proofs.Ytdaipoelicpnoaa
