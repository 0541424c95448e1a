/-
  Layer 4 (file): lists of named things, rising by their names; a store in plain words: its files, its fuse, what each call answers and leaves. No program.
-/
import Derived.WideAt
import Derived.WideShapes
import Derived.Maps.OwnSet
namespace Go.Proofs.Ytdaipoelicpnoaa.FM

abbrev Name := List UInt8

section
variable {α β : Type}

def ins (n : Name) (a : α) : List (Name × α) → List (Name × α)
  | [] => [(n, a)]
  | y :: r => if bytesBefore n y.1 then (n, a) :: y :: r else y :: ins n a r
def del (n : Name) (l : List (Name × α)) : List (Name × α) := l.filter fun p => !(p.1 == n)
def put (n : Name) (a : α) (l : List (Name × α)) : List (Name × α) := ins n a (del n l)
def get (n : Name) (l : List (Name × α)) : Option α := (l.find? fun p => p.1 == n).map Prod.snd
def mapV (f : α → β) (l : List (Name × α)) : List (Name × β) := l.map fun p => (p.1, f p.2)
def Rise (l : List (Name × α)) : Prop := l.Pairwise fun a b => bytesBefore a.1 b.1 = true

theorem mapV_length (f : α → β) (l : List (Name × α)) : (mapV f l).length = l.length := by simp [mapV]
theorem mapV_ins (f : α → β) (n : Name) (a : α) : ∀ l : List (Name × α), mapV f (ins n a l) = ins n (f a) (mapV f l)
  | [] => rfl
  | y :: r => by
    show mapV f (if bytesBefore n y.1 then (n, a) :: y :: r else y :: ins n a r) = if bytesBefore n y.1 then (n, f a) :: mapV f (y :: r) else (y.1, f y.2) :: ins n (f a) (mapV f r)
    split
    · rfl
    · rw [← mapV_ins f n a r]; rfl
theorem mapV_del (f : α → β) (n : Name) (l : List (Name × α)) : mapV f (del n l) = del n (mapV f l) := by
  unfold mapV del; rw [List.filter_map]; rfl
theorem mapV_put (f : α → β) (n : Name) (a : α) (l : List (Name × α)) : mapV f (put n a l) = put n (f a) (mapV f l) := by
  unfold put; rw [mapV_ins, mapV_del]
theorem mapV_get (f : α → β) (n : Name) (l : List (Name × α)) : get n (mapV f l) = (get n l).map f := by
  unfold get mapV; rw [List.find?_map]; simp [Function.comp_def]
theorem mapV_rise (f : α → β) {l : List (Name × α)} : Rise (mapV f l) ↔ Rise l := by unfold Rise mapV; rw [List.pairwise_map]

theorem mem_ins {n : Name} {a : α} {p : Name × α} : ∀ {l : List (Name × α)}, p ∈ ins n a l ↔ p = (n, a) ∨ p ∈ l
  | [] => by simp [ins]
  | y :: r => by
    unfold ins; split
    · simp
    · simp [mem_ins (l := r)]; constructor <;> rintro (h | h | h) <;> simp [h]
theorem mem_del {n : Name} {p : Name × α} {l : List (Name × α)} : p ∈ del n l ↔ p ∈ l ∧ p.1 ≠ n := by simp [del]
theorem mem_put {n : Name} {a : α} {p : Name × α} {l : List (Name × α)} : p ∈ put n a l ↔ p = (n, a) ∨ (p ∈ l ∧ p.1 ≠ n) := by unfold put; rw [mem_ins, mem_del]

theorem find_ins_hit (n : Name) (a : α) : ∀ l : List (Name × α), (∀ p ∈ l, p.1 ≠ n) → (ins n a l).find? (fun p => p.1 == n) = some (n, a)
  | [], _ => by simp [ins]
  | y :: r, h => by
    unfold ins; split
    · simp
    · rw [List.find?_cons_of_neg (by simpa using h y (by simp))]; exact find_ins_hit n a r fun p hp => h p (by simp [hp])
theorem find_ins_miss {n m : Name} (a : α) (h : n ≠ m) : ∀ l : List (Name × α), (ins n a l).find? (fun p => p.1 == m) = l.find? (fun p => p.1 == m)
  | [] => by simp [ins, h]
  | y :: r => by
    unfold ins; split
    · rw [List.find?_cons_of_neg (by simpa using h)]
    · rw [List.find?_cons, List.find?_cons, find_ins_miss a h r]
theorem get_put_same (n : Name) (a : α) (l : List (Name × α)) : get n (put n a l) = some a := by
  unfold get put; rw [find_ins_hit n a _ fun p hp => (mem_del.1 hp).2]; rfl
theorem get_del_other {n m : Name} (h : n ≠ m) (l : List (Name × α)) : get m (del n l) = get m l := by
  unfold get del; rw [Maps.find_filter_keep]; intro p hp; simp at hp ⊢; rw [hp]; exact fun e => h e.symm
theorem get_put_other {n m : Name} (a : α) (h : n ≠ m) (l : List (Name × α)) : get m (put n a l) = get m l := by
  have := get_del_other h l
  unfold get put at *; rw [find_ins_miss a h]; exact this
theorem get_del_same (n : Name) (l : List (Name × α)) : get n (del n l) = none := by
  unfold get del; simp [List.find?_filter]
theorem get_some_mem {n : Name} {a : α} {l : List (Name × α)} (h : get n l = some a) : (n, a) ∈ l := by
  unfold get at h
  obtain ⟨p, hp, rfl⟩ := Option.map_eq_some_iff.1 h
  have h1 := List.find?_some hp
  have h2 := List.mem_of_find?_eq_some hp
  simp at h1; subst h1; exact h2
theorem get_none {n : Name} {l : List (Name × α)} (h : get n l = none) : ∀ p ∈ l, p.1 ≠ n := by
  unfold get at h; simpa using h
theorem bb_ne {a b : Name} (h : bytesBefore a b = true) : a ≠ b := by
  rintro rfl; rw [WideAt.bytes_irrefl] at h; cases h
theorem get_of_mem {n : Name} {a : α} : ∀ {l : List (Name × α)}, Rise l → (n, a) ∈ l → get n l = some a
  | y :: r, hr, hm => by
    rw [Rise, List.pairwise_cons] at hr
    unfold get
    rcases List.mem_cons.1 hm with rfl | hm
    · simp
    · have hne : ¬ (y.1 == n) = true := by simpa using bb_ne (hr.1 _ hm)
      rw [List.find?_cons_of_neg (p := fun p : Name × α => p.1 == n) hne]
      exact get_of_mem (l := r) hr.2 hm
theorem Rise.apart {l : List (Name × α)} (h : Rise l) {p q : Name × α} (hp : p ∈ l) (hq : q ∈ l) (e : p.1 = q.1) : p = q := by
  have h1 := get_of_mem h (n := p.1) (a := p.2) hp
  have h2 := get_of_mem h (n := q.1) (a := q.2) hq
  rw [← e, h1] at h2
  exact Prod.ext e (Option.some.inj h2)
theorem Rise.del {l : List (Name × α)} (h : Rise l) (n : Name) : Rise (del n l) := List.Pairwise.filter _ h
theorem Rise.ins {n : Name} (a : α) : ∀ {l : List (Name × α)}, Rise l → (∀ p ∈ l, p.1 ≠ n) → Rise (ins n a l)
  | [], _, _ => by simp [FM.ins, Rise]
  | y :: r, h, hn => by
    unfold FM.ins
    rw [Rise, List.pairwise_cons] at h
    split
    · rename_i hb
      refine List.pairwise_cons.2 ⟨fun p hp => ?_, List.pairwise_cons.2 h⟩
      rcases List.mem_cons.1 hp with rfl | hp
      · exact hb
      · exact WideShapes.bytes_trans _ _ _ hb (h.1 p hp)
    · rename_i hb
      refine List.pairwise_cons.2 ⟨fun p hp => ?_, Rise.ins a (l := r) h.2 fun p hp => hn p (by simp [hp])⟩
      rcases mem_ins.1 hp with rfl | hp
      · rcases WideAt.bytes_total y.1 n (hn y (by simp)) with h1 | h1
        · exact h1
        · exact absurd h1 hb
      · exact h.1 p hp
theorem Rise.put {l : List (Name × α)} (h : Rise l) (n : Name) (a : α) : Rise (put n a l) := Rise.ins a (h.del n) fun _ hp => (mem_del.1 hp).2

theorem length_ins (n : Name) (a : α) : ∀ l : List (Name × α), (ins n a l).length = l.length + 1
  | [] => rfl
  | y :: r => by unfold ins; split <;> simp [length_ins n a r]
theorem length_del_le (n : Name) (l : List (Name × α)) : (del n l).length ≤ l.length := List.length_filter_le _ _
theorem length_put_le (n : Name) (a : α) (l : List (Name × α)) : (put n a l).length ≤ l.length + 1 := by
  unfold put; rw [length_ins]; have := length_del_le n l; omega
theorem del_none {n : Name} {l : List (Name × α)} (h : get n l = none) : del n l = l := by
  unfold del; rw [List.filter_eq_self]; intro p hp; simpa using get_none h p hp

/-- The sum of a number of each. -/
def sum (f : α → Nat) : List (Name × α) → Nat
  | [] => 0
  | p :: r => f p.2 + sum f r
theorem sum_ins (f : α → Nat) (n : Name) (a : α) : ∀ l : List (Name × α), sum f (ins n a l) = f a + sum f l
  | [] => rfl
  | y :: r => by
    unfold ins; split
    · rfl
    · simp only [sum, sum_ins f n a r]; omega
theorem sum_del (f : α → Nat) {n : Name} {a : α} : ∀ {l : List (Name × α)}, Rise l → get n l = some a → sum f (del n l) + f a = sum f l
  | y :: r, h, hg => by
    rw [Rise, List.pairwise_cons] at h
    by_cases e : y.1 = n
    · have hy : y.2 = a := by unfold get at hg; rw [List.find?_cons_of_pos (by simpa using e)] at hg; simpa using hg
      have hr : get n r = none := by unfold get; rw [Option.map_eq_none_iff, List.find?_eq_none]; intro p hp; simp; rw [← e]; exact (bb_ne (h.1 p hp)).symm
      have : del n (y :: r) = r := by
        have := del_none hr
        unfold del at *; rw [List.filter_cons_of_neg (by simpa using e), this]
      rw [this]; simp only [sum, hy]; omega
    · have hg' : get n r = some a := by unfold get at *; rwa [List.find?_cons_of_neg (by simpa using e)] at hg
      have := sum_del f h.2 hg'
      have e2 : del n (y :: r) = y :: del n r := by unfold del; rw [List.filter_cons_of_pos (by simpa using e)]
      rw [e2]; simp only [sum]; omega
theorem sum_del_le (f : α → Nat) (n : Name) : ∀ (l : List (Name × α)), sum f (del n l) ≤ sum f l
  | [] => Nat.le_refl _
  | y :: r => by
    have := sum_del_le f n r
    unfold del at *; rw [List.filter_cons]; split
    · simp only [sum]; omega
    · simp only [sum]; omega
theorem sum_put (f : α → Nat) {l : List (Name × α)} (h : Rise l) (n : Name) (a : α) : sum f (put n a l) + ((get n l).map f).getD 0 = sum f l + f a := by
  unfold put; rw [sum_ins]
  rcases hg : get n l with _ | b
  · rw [del_none hg]; simp; omega
  · have := sum_del f h hg; simp; omega
theorem sum_mem (f : α → Nat) {p : Name × α} : ∀ {l : List (Name × α)}, p ∈ l → f p.2 ≤ sum f l
  | y :: r, h => by
    rcases List.mem_cons.1 h with rfl | h
    · simp only [sum]; omega
    · have := sum_mem f h; simp only [sum]; omega
theorem sum_mapV (f : β → Nat) (g : α → β) : ∀ l : List (Name × α), sum f (mapV g l) = sum (fun a => f (g a)) l
  | [] => rfl
  | y :: r => by
    have := sum_mapV f g r
    show f (g y.2) + sum f (mapV g r) = f (g y.2) + sum _ r
    rw [this]
end

/-! ### a store -/
structure File where
  data : List Nat
  sure : Nat
structure St where
  fs : List (Name × File)
  quota : Nat
  fuse : Int
  down : Bool

def noFile : File := ⟨[], 0⟩
def used (s : St) : Nat := sum (fun f => f.data.length) s.fs
def isName (n : Name) : Bool := decide (1 ≤ n.length) && decide (n.length ≤ 12)
def fileOf (s : St) (n : Name) : File := (get n s.fs).getD noFile
def missing (s : St) (n : Name) : Nat := if (get n s.fs).isSome then 0 else 4
def fresh (q : Int) : St := ⟨[], q.toNat, -1, false⟩
def setFuse (s : St) (n : Int) : St := { s with fuse := n }

/-- What a change answers that would answer e on a store that stays up; the store behind it. -/
def change (s : St) (e : Nat) : Nat × St :=
  if s.down then (8, s) else if e ≠ 0 then (e, s) else if s.fuse = 0 then (8, { s with down := true }) else if 0 < s.fuse then (0, { s with fuse := s.fuse - 1 }) else (0, s)
/-- A change that answers e, or does f. -/
def doing (s : St) (e : Nat) (f : List (Name × File) → List (Name × File)) : Nat × St :=
  ((change s e).1, if (change s e).1 = 0 then { (change s e).2 with fs := f (change s e).2.fs } else (change s e).2)
def appendErr (s : St) (n : Name) (b : List Nat) : Nat := if isName n then (if s.quota - used s < b.length then 5 else 0) else 3
def append (s : St) (n : Name) (b : List Nat) : Nat × St := doing s (appendErr s n b) fun fs => put n ⟨((get n fs).getD noFile).data ++ b, ((get n fs).getD noFile).sure⟩ fs
def sync (s : St) (n : Name) : Nat × St := doing s (missing s n) fun fs => put n ⟨((get n fs).getD noFile).data, ((get n fs).getD noFile).data.length⟩ fs
def renameErr (s : St) (a b : Name) : Nat := if isName b then missing s a else 3
def rename (s : St) (a b : Name) : Nat × St := doing s (renameErr s a b) fun fs => put b ((get a fs).getD noFile) (del a fs)
def delete (s : St) (n : Name) : Nat × St := doing s (missing s n) fun fs => del n fs
def cutTo (f : File) (n : Int) : File := ⟨f.data.take (min n.toNat f.data.length), min f.sure (min n.toNat f.data.length)⟩
def cut (s : St) (n : Name) (k : Int) : Nat × St := doing s (missing s n) fun fs => put n (cutTo ((get n fs).getD noFile) k) fs
/-- How many bytes more a crash keeps of the file at a place. -/
def more (keep : List Int) (i : Nat) : Nat := (keep.getD i 0).toNat
def lasts (f : File) (m : Nat) : File := ⟨f.data.take (f.sure + min m (f.data.length - f.sure)), f.sure + min m (f.data.length - f.sure)⟩
def crashed {α : Type} (f : Nat → α → α) : Nat → List (Name × α) → List (Name × α)
  | _, [] => []
  | i, p :: r => (p.1, f i p.2) :: crashed f (i + 1) r
def crash (s : St) (keep : List Int) : St := { s with fs := crashed (fun i f => lasts f (more keep i)) 0 s.fs, fuse := -1, down := false }

theorem change_fs (s : St) (e : Nat) : (change s e).2.fs = s.fs := by unfold change; split <;> (try split) <;> (try split) <;> (try split) <;> rfl
theorem change_quota (s : St) (e : Nat) : (change s e).2.quota = s.quota := by unfold change; split <;> (try split) <;> (try split) <;> (try split) <;> rfl
theorem doing_quota (s : St) (e : Nat) (f) : (doing s e f).2.quota = s.quota := by unfold doing; dsimp only; split <;> exact change_quota s e
theorem doing_fs (s : St) (e : Nat) (f) : (doing s e f).2.fs = if (doing s e f).1 = 0 then f s.fs else s.fs := by
  unfold doing; dsimp only; split
  · dsimp only; rw [change_fs]
  · exact change_fs s e
end Go.Proofs.Ytdaipoelicpnoaa.FM
