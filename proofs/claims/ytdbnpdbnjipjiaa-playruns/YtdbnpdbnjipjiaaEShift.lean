/-
  Layer 12 (event): slices.Clone of events, Shift.
-/
import Derived.Test.YtdbnpdbnjipjiaaEWd
import Derived.Lib.SliceRun
namespace Go.Proofs.Ytdbnpdbnjipjiaa
open Go.RowKit Go.Lib EM

/-- A new block of no elements, as an empty row of the call's own. -/
theorem El.own_new0 {α : Type} (E : El α) (w : World) (base : Nat) (hbase : base ≤ w.heap.size) : E.Own (w.alloc (.cells #[] E.ty)) base (.slice (some ⟨w.heap.size, 0, none⟩) 0 0) [] := by
  refine ⟨by rw [E.cells_len], .inr ⟨w.heap.size, 0, #[], rfl, hbase, heap_alloc_new w _, Nat.le_refl _, by unfold maxLen; omega, by simp, by simp [El.cells]⟩⟩

set_option maxRecDepth 100000 in
theorem eclone_ok (w : World) (l : List Ev) (A : Option Addr) (c B : Nat) (hr : evE.Row w B A l) (hA : A = none → c = 0) (hB : B ≤ w.heap.size) (hl : l.length ≤ 1000) :
    Calls Try.prog 29 #[.slice A l.length c] w (EvsPost w l) := by
  rcases A with _ | a
  · have h0 : l = [] := by
      rcases l with _ | ⟨x, l⟩
      · rfl
      · obtain ⟨b, off, h, _⟩ := hr (by simp)
        cases h
    subst h0
    obtain rfl := hA rfl
    clear hr hA
    have hn : ∀ w, (binOp .eql 22 (.slice none 0 0) (.slice none 0 0)).run Try.prog w = .ok (.bool true) w := fun w => by
      rw [Lib.run_eql_slice_nil w 22 54 none 0 0 0 0 Try.underlying22]; rfl
    simp only [List.length_nil]
    go_enter Try.func29, Try.ntmps29
    go_wp2
    go_ret
    exact ⟨_, rfl, El.Own.nil _ _, Below.refl _ _⟩
  · have HR := Lib.hid hr
    clear hr hA
    have hn : ∀ w, (binOp .eql 22 (.slice (some a) l.length c) (.slice none 0 0)).run Try.prog w = .ok (.bool false) w := fun w => by
      rw [Lib.run_eql_slice_nil w 22 54 (some a) l.length c 0 0 Try.underlying22]; rfl
    go_enter Try.func29, Try.ntmps29
    go_wp2_with (at_builtin; refine evE.wp_append rfl (.tmp 5) (.tmp 6) rfl w.heap.size _ [] rfl (evE.own_new0 w w.heap.size (Nat.le_refl _)) _ l l.length c B rfl rfl (HR.out.below ((Below.refl B w).alloc hB _)) (by simp) ?c1 ?c2 (by simp) ?_)
    case c1 => simp [evE]; omega
    case c2 => simp [maxLen]; omega
    intro v1 w1 ho1 hg1
    have hbb : Below w.heap.size (w.alloc (.cells #[] 54)) w1 := (evE.own_new0 w w.heap.size (Nat.le_refl _)).grow_below hg1 (by simp)
    have HO := Lib.hid ho1
    have HB := Lib.hid (((Below.refl w.heap.size w).alloc (Nat.le_refl _) _).trans hbb)
    clear ho1 hg1 hbb
    go_wp2
    go_ret
    exact ⟨v1, rfl, HO.out, HB.out⟩

/-- A list whose first k events are later. -/
def shiftL (b : Int) (l : List Ev) (k : Nat) : List Ev := (l.take k).map (later b) ++ l.drop k
theorem shiftL_len (b : Int) (l : List Ev) (k : Nat) : (shiftL b l k).length = l.length := by
  unfold shiftL
  rw [List.length_append, List.length_map, List.length_take, List.length_drop]
  omega
theorem shiftL_at (b : Int) (l : List Ev) (k : Nat) (h : k < l.length) (h' : k < (shiftL b l k).length) : (shiftL b l k)[k] = l[k] := by
  have e : (shiftL b l k)[k]? = some l[k] := by
    unfold shiftL
    rw [List.getElem?_append_right (by rw [List.length_map, List.length_take]; omega)]
    simp [Nat.min_eq_left (Nat.le_of_lt h), h]
  rw [List.getElem?_eq_getElem h'] at e
  exact Option.some.inj e
theorem shiftL_set (b : Int) (l : List Ev) (k : Nat) (h : k < l.length) : (shiftL b l k).set k (later b l[k]) = shiftL b l (k + 1) := by
  unfold shiftL
  have h1 : ((l.take k).map (later b)).length = k := by rw [List.length_map, List.length_take]; omega
  rw [List.set_append_right _ _ (by omega), h1, Nat.sub_self, List.drop_eq_getElem_cons h, List.set_cons_zero, List.take_succ_eq_append_getElem h, List.map_append, List.append_assoc]
  rfl
theorem shiftL_all (b : Int) (l : List Ev) : shiftL b l l.length = l.map (later b) := by simp [shiftL]

end Go.Proofs.Ytdbnpdbnjipjiaa
