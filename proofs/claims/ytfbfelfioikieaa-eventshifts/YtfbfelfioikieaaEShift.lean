/-
  Layer 12 (event): slices.Clone of events, Shift.
-/
import Derived.Test.YtfbfelfioikieaaEWd
import Derived.Lib.SliceRun
namespace Go.Proofs.Ytfbfelfioikieaa
open Go.RowKit Go.Lib EM

/-- A new block of no elements, as an empty row of the call's own. -/
theorem El.own_new0 {α : Type} (E : El α) (w : World) (base : Nat) (hbase : base ≤ w.heap.size) : E.Own (w.alloc (.cells #[] E.ty)) base (.slice (some ⟨w.heap.size, 0, none⟩) 0 0) [] := by
  refine ⟨by rw [E.cells_len], .inr ⟨w.heap.size, 0, #[], rfl, hbase, heap_alloc_new w _, Nat.le_refl _, by unfold maxLen; omega, by simp, by simp [El.cells]⟩⟩

set_option maxRecDepth 100000 in
theorem eclone_ok (w : World) (l : List Ev) (A : Option Addr) (c B : Nat) (hr : evE.Row w B A l) (hA : A = none → c = 0) (hB : B ≤ w.heap.size) (hl : l.length ≤ 1000) :
    Calls Try.prog 31 #[.slice A l.length c] w (EvsPost w l) := by
  rcases A with _ | a
  · have h0 : l = [] := by
      rcases l with _ | ⟨x, l⟩
      · rfl
      · obtain ⟨b, off, h, _⟩ := hr (by simp)
        cases h
    subst h0
    obtain rfl := hA rfl
    clear hr hA
    have hn : ∀ w, (binOp .eql 22 (.slice none 0 0) (.slice none 0 0)).run Try.prog w = .ok (.bool true) w := fun w => by
      rw [Lib.run_eql_slice_nil w 22 25 none 0 0 0 0 Try.underlying22]; rfl
    simp only [List.length_nil]
    go_enter Try.func31, Try.ntmps31
    go_wp2
    go_ret
    exact ⟨_, rfl, El.Own.nil _ _, Below.refl _ _⟩
  · have HR := Lib.hid hr
    clear hr hA
    have hn : ∀ w, (binOp .eql 22 (.slice (some a) l.length c) (.slice none 0 0)).run Try.prog w = .ok (.bool false) w := fun w => by
      rw [Lib.run_eql_slice_nil w 22 25 (some a) l.length c 0 0 Try.underlying22]; rfl
    go_enter Try.func31, Try.ntmps31
    go_wp2_with (at_builtin; refine evE.wp_append rfl (.tmp 5) (.tmp 6) rfl w.heap.size _ [] rfl (evE.own_new0 w w.heap.size (Nat.le_refl _)) _ l l.length c B rfl rfl (HR.out.below ((Below.refl B w).alloc hB _)) (by simp) ?c1 ?c2 (by simp) ?_)
    case c1 => simp [evE]; omega
    case c2 => simp [maxLen]; omega
    intro v1 w1 ho1 hg1
    have hbb : Below w.heap.size (w.alloc (.cells #[] 25)) w1 := (evE.own_new0 w w.heap.size (Nat.le_refl _)).grow_below hg1 (by simp)
    have HO := Lib.hid ho1
    have HB := Lib.hid (((Below.refl w.heap.size w).alloc (Nat.le_refl _) _).trans hbb)
    clear ho1 hg1 hbb
    go_wp2
    go_ret
    exact ⟨v1, rfl, HO.out, HB.out⟩

/-- A list whose first k events are later. -/
def shiftL (b : Int) (l : List Ev) (k : Nat) : List Ev := (l.take k).map (later b) ++ l.drop k
theorem shiftL_len (b : Int) (l : List Ev) (k : Nat) : (shiftL b l k).length = l.length := by
  unfold shiftL
  rw [List.length_append, List.length_map, List.length_take, List.length_drop]
  omega
theorem shiftL_at (b : Int) (l : List Ev) (k : Nat) (h : k < l.length) (h' : k < (shiftL b l k).length) : (shiftL b l k)[k] = l[k] := by
  have e : (shiftL b l k)[k]? = some l[k] := by
    unfold shiftL
    rw [List.getElem?_append_right (by rw [List.length_map, List.length_take]; omega)]
    simp [Nat.min_eq_left (Nat.le_of_lt h), h]
  rw [List.getElem?_eq_getElem h'] at e
  exact Option.some.inj e
theorem shiftL_set (b : Int) (l : List Ev) (k : Nat) (h : k < l.length) : (shiftL b l k).set k (later b l[k]) = shiftL b l (k + 1) := by
  unfold shiftL
  have h1 : ((l.take k).map (later b)).length = k := by rw [List.length_map, List.length_take]; omega
  rw [List.set_append_right _ _ (by omega), h1, Nat.sub_self, List.drop_eq_getElem_cons h, List.set_cons_zero, List.take_succ_eq_append_getElem h, List.map_append, List.append_assoc]
  rfl
theorem shiftL_all (b : Int) (l : List Ev) : shiftL b l l.length = l.map (later b) := by simp [shiftL]

set_option maxRecDepth 100000 in
set_option maxHeartbeats 1000000 in
theorem shift_ok (w : World) (l : List Ev) (A : Option Addr) (c B : Nat) (by_ : Int) (hr : evE.Row w B A l) (hA : A = none → c = 0) (hB : B ≤ w.heap.size) (hl : l.length ≤ 1000) (ht : ∀ e ∈ l, -9223372036854775808 ≤ e.t + by_ ∧ e.t + by_ ≤ 9223372036854775807) :
    Calls Try.prog 21 #[.slice A l.length c, .int .i64 by_] w (EvsPost w (l.map (later by_))) := by
  have HC := Lib.hid (eclone_ok w l A c B hr hA hB hl)
  have HT := Lib.hid ht
  clear hr hA ht
  go_enter Try.func21, Try.ntmps21
  go_wp2_with fail
  refine HC.out.mono ?_
  rintro e w1 ⟨v, rfl, ho, hb1⟩
  obtain ⟨A1, c1, hv, hlc1, hcm1, hA1, -⟩ := ho.row
  subst hv
  have HO1 := Lib.hid ho
  have HB1 := Lib.hid hb1
  clear ho hb1 hA1 HC
  go_wp2_with fail
  go_loopw [11] (fun i wr => ∃ k : Nat, k ≤ l.length ∧ i = .int .i64 (k : Int) ∧ Below w.heap.size w wr ∧ evE.Own wr w.heap.size (.slice A1 l.length c1) (shiftL by_ l k)) (fun i _ => l.length - (RowKit.intOf i).toNat)
  case atStart => exact ⟨0, Nat.zero_le _, rfl, HB1.out, by have := HO1.out; simpa [shiftL] using this⟩
  case round =>
    obtain ⟨k, hk, rfl, hb, ho⟩ := hrel
    have HB := Lib.hid hb
    have HO := Lib.hid ho
    have hz := hb.size
    clear hb ho
    by_cases hlt : k < l.length
    · have g1 : decide ((k : Int) < (l.length : Int)) = true := by simp; omega
      have gn : decide (k < l.length) = true := by simp; omega
      have hll := shiftL_len by_ l k
      obtain ⟨g, c2, hv, hbg, hgz, -, -, hfz, hcell⟩ := HO.out.place (by omega)
      rw [hll] at hv
      obtain ⟨rfl, rfl⟩ : A1 = some ⟨g, 0, none⟩ ∧ c1 = c2 := by injection hv with h1 _ h3; exact ⟨h1, h3⟩
      have x0 := hcell k (by omega) 0 (by decide)
      rw [shiftL_at by_ l k hlt] at x0
      have f0 := hfz (k * 5)
      have x0' : wr.cell? ⟨g, k * 5, none⟩ = some (.int .i64 l[k].t) := x0
      have hset := Lib.hid (HO.out.set (i := k) (j := 0) (a' := later by_ l[k]) (u := .int .i64 (l[k].t + by_)) (by rw [hll]) (by omega) (by decide) (by rw [shiftL_at by_ l k hlt]; rfl))
      rw [shiftL_set by_ l k hlt] at hset
      have hT := HT.out l[k] (List.getElem_mem hlt)
      generalize l[k].t = t at *
      clear hv hcell hfz x0 hll
      go_wp2_with fail
      go_roundw
      case rel => exact ⟨k + 1, by omega, by simp, HB.out.setCell (p := ⟨g, k * 5, none⟩) hbg _, hset.out⟩
      case measure => simp [RowKit.intOf]; omega
    · have g1 : decide ((k : Int) < (l.length : Int)) = false := by simp; omega
      have gn : decide (k < l.length) = false := by simp; omega
      obtain rfl : k = l.length := by omega
      go_wp2_with fail
      go_ret
      exact ⟨_, rfl, by have := HO.out; rw [shiftL_all] at this; simpa using this, HB.out⟩
end Go.Proofs.Ytfbfelfioikieaa
