/-
  FileRuns: what the calls do to files in a row, place by place. No walk.
-/
import Derived.Test.YtdaipoelicpnoaaFDrop
import Derived.Test.YtdaipoelicpnoaaFWrong
import Derived.Test.YtdaipoelicpnoaaFMCrash
namespace Go.Proofs.Ytdaipoelicpnoaa
open Go.RowKit Go.Maps FM

theorem pos_front (n : Name) (fs : List (Name × File)) : ∀ p ∈ fs.take (pos n fs), bytesBefore p.1 n = true := by
  intro p hp
  obtain ⟨i, hi, rfl⟩ := List.mem_iff_getElem.1 hp
  rw [List.length_take] at hi
  rw [List.getElem_take]
  exact pos_at n fs i (by omega) (by omega)
theorem found_at {n : Name} {fs : List (Name × File)} (h : found n fs = true) : ∃ hi : pos n fs < fs.length, (fs[pos n fs]).1 = n := by
  unfold found at h
  rcases hg : fs[pos n fs]? with _ | p
  · rw [hg] at h; cases h
  · rw [hg] at h
    obtain ⟨hi, e⟩ := List.getElem?_eq_some_iff.1 hg
    exact ⟨hi, by rw [e]; simpa using h⟩
theorem split_found {n : Name} {fs : List (Name × File)} (h : found n fs = true) : ∃ hi : pos n fs < fs.length, fs = fs.take (pos n fs) ++ (n, (fs[pos n fs]).2) :: fs.drop (pos n fs + 1) := by
  obtain ⟨hi, e⟩ := found_at h
  refine ⟨hi, ?_⟩
  have e1 : (n, (fs[pos n fs]).2) = fs[pos n fs] := Prod.ext e.symm rfl
  rw [e1, ← List.drop_eq_getElem_cons hi, List.take_append_drop]
theorem get_found {n : Name} {fs : List (Name × File)} (hr : Rise fs) (h : found n fs = true) : ∃ hi : pos n fs < fs.length, get n fs = some (fs[pos n fs]).2 := by
  obtain ⟨hi, e⟩ := found_at h
  refine ⟨hi, get_of_mem hr ?_⟩
  have : (n, (fs[pos n fs]).2) = fs[pos n fs] := Prod.ext e.symm rfl
  rw [this]
  exact List.getElem_mem _
theorem back_after {n : Name} {fs : List (Name × File)} (hr : Rise fs) (h : found n fs = false) : ∀ p ∈ fs.drop (pos n fs), bytesBefore n p.1 = true := by
  by_cases hi : pos n fs < fs.length
  · have hne : (fs[pos n fs]).1 ≠ n := by
      intro e
      unfold found at h
      rw [List.getElem?_eq_getElem hi] at h
      simp [e] at h
    have hb : bytesBefore n (fs[pos n fs]).1 = true := by
      rcases WideAt.bytes_total _ _ hne with h1 | h1
      · rw [pos_end n fs hi] at h1; cases h1
      · exact h1
    intro p hp
    rw [List.drop_eq_getElem_cons hi] at hp
    rcases List.mem_cons.1 hp with rfl | hp
    · exact hb
    · refine WideShapes.bytes_trans _ _ _ hb ?_
      have hr2 : Rise (fs.drop (pos n fs)) := List.Pairwise.sublist (List.drop_sublist _ _) hr
      rw [List.drop_eq_getElem_cons hi, Rise, List.pairwise_cons] at hr2
      exact hr2.1 p hp
  · intro p hp
    rw [List.drop_of_length_le (by omega)] at hp
    cases hp
theorem get_lost {n : Name} {fs : List (Name × File)} (hr : Rise fs) (h : found n fs = false) : get n fs = none := by
  unfold FM.get
  rw [Option.map_eq_none_iff, List.find?_eq_none]
  intro p hp
  have hp' : p ∈ fs.take (pos n fs) ++ fs.drop (pos n fs) := by rw [List.take_append_drop]; exact hp
  rcases List.mem_append.1 hp' with h1 | h1
  · simpa using bb_ne (pos_front n fs p h1)
  · simpa using (bb_ne (back_after hr h p h1)).symm
theorem found_get {n : Name} {fs : List (Name × File)} (hr : Rise fs) : found n fs = (get n fs).isSome := by
  rcases h : found n fs with _ | _
  · rw [get_lost hr h]; rfl
  · obtain ⟨_, e⟩ := get_found hr h
    rw [e]; rfl
theorem put_found {n : Name} {fs : List (Name × File)} (hr : Rise fs) (h : found n fs = true) (f : File) : put n f fs = fs.set (pos n fs) (n, f) := by
  obtain ⟨hi, e⟩ := split_found h
  have hlen : (fs.take (pos n fs)).length = pos n fs := by rw [List.length_take]; omega
  have h1 : put n f fs = fs.take (pos n fs) ++ (n, f) :: fs.drop (pos n fs + 1) := by
    conv => lhs; rw [e]
    exact put_mid _ _ (by rw [← e]; exact hr)
  rw [h1]
  conv => rhs; rw [List.set_eq_take_append_cons_drop, if_pos hi]
theorem put_lost {n : Name} {fs : List (Name × File)} (hr : Rise fs) (h : found n fs = false) (f : File) : put n f fs = fs.take (pos n fs) ++ [(n, f)] ++ fs.drop (pos n fs) := by
  unfold put
  rw [del_none (get_lost hr h)]
  conv => lhs; rw [← List.take_append_drop (pos n fs) fs]
  rw [ins_mid n f _ _ (pos_front n fs) (back_after hr h)]
  simp
theorem del_found {n : Name} {fs : List (Name × File)} (hr : Rise fs) (h : found n fs = true) : del n fs = fs.take (pos n fs) ++ fs.drop (pos n fs + 1) := by
  obtain ⟨hi, e⟩ := split_found h
  have hr2 : Rise (fs.take (pos n fs) ++ (n, (fs[pos n fs]).2) :: fs.drop (pos n fs + 1)) := by rw [← e]; exact hr
  rw [Rise, List.pairwise_append] at hr2
  obtain ⟨_, h2, h3⟩ := hr2
  rw [List.pairwise_cons] at h2
  have key : del n (fs.take (pos n fs) ++ (n, (fs[pos n fs]).2) :: fs.drop (pos n fs + 1)) = fs.take (pos n fs) ++ fs.drop (pos n fs + 1) := by
    unfold del
    rw [List.filter_append, List.filter_cons_of_neg (by simp)]
    congr 1
    · rw [List.filter_eq_self]; intro p hp; simpa using bb_ne (pos_front n fs p hp)
    · rw [List.filter_eq_self]; intro p hp; simpa using (bb_ne (h2.1 p hp)).symm
  conv => lhs; rw [e]
  exact key
theorem str_append (a b : List Nat) : str a ++ str b = str (a ++ b) := by
  have h1 : (str a ++ str b).data.toList = (str a).data.toList ++ (str b).data.toList := by simp
  have h2 : (str (a ++ b)).data.toList = (str a).data.toList ++ (str b).data.toList := by rw [str_list, str_list, str_list, List.map_append]
  exact ByteArray.ext (Array.toList_inj.1 (h1.trans h2.symm))

/-- The error that a call of a kind below 6 would have on a store that stays up. -/
def errOf (s : St) (c : CallV) : Nat := if c.k < 2 then appendErr s c.name.data.toList c.data else if c.k = 3 then renameErr s c.name.data.toList c.to.data.toList else missing s c.name.data.toList
/-- What it does to the files. -/
def actOf (c : CallV) (fs : List (Name × File)) : List (Name × File) :=
  if c.k < 2 then put c.name.data.toList ⟨((get c.name.data.toList fs).getD noFile).data ++ c.data, ((get c.name.data.toList fs).getD noFile).sure⟩ fs
  else if c.k = 2 then put c.name.data.toList ⟨((get c.name.data.toList fs).getD noFile).data, ((get c.name.data.toList fs).getD noFile).data.length⟩ fs
  else if c.k = 3 then put c.to.data.toList ((get c.name.data.toList fs).getD noFile) (del c.name.data.toList fs)
  else if c.k = 4 then del c.name.data.toList fs
  else put c.name.data.toList (cutTo ((get c.name.data.toList fs).getD noFile) c.n) fs
theorem step_is {s : St} {c : CallV} (hk : c.k < 6) : step s c = doing s (errOf s c) (actOf c) := by
  unfold step errOf actOf
  rcases (show c.k = 0 ∨ c.k = 1 ∨ c.k = 2 ∨ c.k = 3 ∨ c.k = 4 ∨ c.k = 5 by omega) with h | h | h | h | h | h <;> simp [h] <;> rfl
theorem wrong_is {s : St} {c : CallV} (hr : Rise s.fs) (hroom : used s ≤ s.quota) (hd : s.down = false) : wrongV s c (found c.name.data.toList s.fs) = errOf s c := by
  rw [found_get hr]
  unfold wrongV errOf appendErr renameErr missing
  rw [hd]
  simp only [Bool.false_eq_true, if_false]
  by_cases h2 : c.k < 2
  · rw [if_pos h2]
    rcases hn : isName c.name.data.toList with _ | _
    · rw [if_pos (.inl ⟨h2, rfl⟩)]; rfl
    · rw [if_neg (by rintro (⟨_, h1⟩ | ⟨h1, _⟩); cases h1; omega)]
      simp only [if_true]
      by_cases hf : s.quota < used s + c.data.length
      · rw [if_pos ⟨h2, hf⟩, if_pos (by omega)]
      · rw [if_neg (fun hh => hf hh.2), if_neg (fun hh => by omega), if_neg (by omega)]
  · rw [if_neg h2]
    by_cases h3 : c.k = 3
    · rw [if_pos h3]
      rcases hn : isName c.to.data.toList with _ | _
      · rw [if_pos (.inr ⟨h3, rfl⟩)]; rfl
      · rw [if_neg (by rintro (⟨h1, _⟩ | ⟨_, h1⟩); omega; cases h1), if_neg (fun hh => h2 hh.1)]
        simp only [if_true]
        rcases hg : (get c.name.data.toList s.fs).isSome with _ | _
        · rw [if_pos ⟨by omega, rfl⟩]; rfl
        · rw [if_neg (by rintro ⟨_, h1⟩; cases h1)]; rfl
    · rw [if_neg h3, if_neg (by rintro (⟨h1, _⟩ | ⟨h1, _⟩); omega; omega), if_neg (fun hh => h2 hh.1)]
      rcases hg : (get c.name.data.toList s.fs).isSome with _ | _
      · rw [if_pos ⟨by omega, rfl⟩]; rfl
      · rw [if_neg (by rintro ⟨_, h1⟩; cases h1)]; rfl
end Go.Proofs.Ytdaipoelicpnoaa
