/-
  Layer 1 (vary): bytes as a text, the beginning of a slice, bytes appended to a row of the call's own.
-/
import Derived.Test.YtciogdhapogolaaDoorVPut
import Derived.Laws.BytesArg
import Derived.Laws.AppendOwnNone
namespace Go.Proofs.YtciogdhapogolaaDoor
open Go.RowKit
set_option maxRecDepth 100000

/-- The text of these bytes. -/
def str (l : List Nat) : ByteArray := strOfNums (l.map Int.ofNat)
theorem str_list (l : List Nat) : (str l).data.toList = l.map UInt8.ofNat := by
  unfold str; rw [strOfNums_data, List.map_map]; congr 1
theorem str_size (l : List Nat) : (str l).size = l.length := by unfold str; rw [strOfNums_size, List.length_map]
theorem str_inj {l m : List Nat} (hl : ∀ c ∈ l, c < 256) (hm : ∀ c ∈ m, c < 256) (h : str l = str m) : l = m := by
  have h := congrArg (fun s : ByteArray => s.data.toList) h
  simp only [str_list] at h
  have back : ∀ l : List Nat, (∀ c ∈ l, c < 256) → (l.map UInt8.ofNat).map UInt8.toNat = l := fun l hl => by
    rw [List.map_map]
    conv => rhs; rw [← List.map_id l]
    exact List.map_congr_left fun c hc => by have := hl c hc; simp; omega
  rw [← back l hl, ← back m hm, h]

theorem str_toList (l : List Nat) : (str l).toList = l.map UInt8.ofNat := by rw [ByteArray.toList_eq, str_list]
theorem str_ne {l m : List Nat} (hl : ∀ c ∈ l, c < 256) (hm : ∀ c ∈ m, c < 256) (h : l ≠ m) : ((str l).toList == (str m).toList) = false := by
  rw [beq_eq_false_iff_ne]
  intro e
  refine h (str_inj hl hm ?_)
  rw [ByteArray.toList_eq, ByteArray.toList_eq] at e
  exact ByteArray.ext (Array.toList_inj.1 e)

theorem run_string (A : Option Addr) (l : List Nat) (c B : Nat) (w : World) (hr : Row w B .u8 A l) : (convert 37 9 (.slice A l.length c)).run Tryd.prog w = .ok (.string (str l)) w := by
  rcases A with _ | a
  · have : l = [] := by
      rcases l with _ | ⟨x, l⟩
      · rfl
      · obtain ⟨b, off, h, _⟩ := hr (by simp)
        cases h
    subst this
    exact run_convert_bytes_nil w 37 5 Tryd.underlying37 Tryd.underlying5 0 c 9 Tryd.underlying9
  · rcases Nat.eq_zero_or_pos l.length with h0 | h0
    · have : l = [] := List.eq_nil_of_length_eq_zero h0
      subst this
      rw [List.length_nil, run_convert_bytes_string w 37 9 5 (some a) 0 c Tryd.underlying37 Tryd.underlying5 Tryd.underlying9]
      exact run_bytesToString w a 0 c [] (by simp [loadCells, loadCellsFrom])
    · obtain ⟨b, off, h, _, hc⟩ := hr h0
      injection h with h
      subst h
      refine run_convert_bytes_arg w 37 5 Tryd.underlying37 Tryd.underlying5 b off l.length c (l.map Int.ofNat) (by simp) (fun i hi => ?_) 9 Tryd.underlying9
      rw [hc i hi]
      simp [hi]

theorem run_head (A : Option Addr) (n c k : Nat) (w : World) (h : k ≤ c) : (Instr.slice 37 (.slice A n c) none (some (.int .i64 (k : Int))) none).run Tryd.prog w = .ok (.slice A k c) w := by
  have hs : (sizeOf (Tryd.prog.elem 37)).run Tryd.prog w = .ok 1 w := by kernel_rfl
  rw [run_slice_h (P := Tryd.prog) (w := w) (t := 37) (a := A) (len := n) (cap := c) (by kernel_rfl) .i64 (k : Int) (by omega) (by omega), hs]
  have e : A.map (fun a => a.add 0) = A := by cases A <;> simp [Addr.add]
  simp [Result.andThen, sliced, e]

theorem run_append_row (w : World) (base : Nat) (ty : TypeId) (v : Value) (xs : List Nat) (hown : Own w base v xs) (A : Option Addr) (l : List Nat) (c B : Nat) (hr : Row w B .u8 A l) (hA : A = none → c = 0)
    (hlen : xs.length + l.length ≤ 140737488355328) (hbase : base ≤ w.heap.size) :
    ∃ v' w', (Builtin.append_ #[37, 37] ty #[v, .slice A l.length c]).run Tryd.prog w = .ok v' w' ∧ Own w' base v' (xs ++ l) ∧ w.grownBy w' v.ownBlock := by
  obtain ⟨i0, hi, hz0, hz1, hz2⟩ := info_parts Tryd.info5
  rcases A with _ | a
  · have : l = [] := by
      rcases l with _ | ⟨x, l⟩
      · rfl
      · obtain ⟨b, off, h, _⟩ := hr (by simp)
        cases h
    subst this
    obtain rfl := hA rfl
    exact ⟨v, w, run_append_owned_none (P := Tryd.prog) (w := w) base 37 ty 5 i0 1 Tryd.underlying37 hi v xs.length _ hown, by simpa using hown, ⟨rfl, rfl, rfl, Nat.le_refl _, fun _ _ _ => rfl⟩⟩
  · obtain ⟨v', w', h1, h2, h3, _⟩ := run_append_own (P := Tryd.prog) w base 37 ty 5 i0 (.int .u8 0) 1 1 Tryd.underlying37 hi hz0 hz1 hz2 rfl (by decide) v xs.length _ hown a l.length c (nums .u8 l) (by rw [nums_len]; omega)
      (fun j u hu => by
        have hj : j < l.length := by
          rcases Nat.lt_or_ge j l.length with h | h
          · exact h
          · rw [List.getElem?_eq_none (by rw [nums_len]; exact h)] at hu; cases hu
        obtain ⟨b, off, h, _, hc⟩ := hr (by omega)
        injection h with h
        subst h
        have hplain : (⟨b, off, none⟩ : Addr).add j = ⟨b, off + j, none⟩ := by unfold Addr.add; split <;> simp_all
        rw [hplain, hc j hj, ← hu]
        simp [nums, hj])
      (fun u hu => by
        obtain ⟨x, _, rfl⟩ := List.mem_map.1 hu
        rfl)
      (by unfold maxLen; omega) (by omega) hbase
    refine ⟨v', w', h1, ?_, h3⟩
    unfold Own
    rw [nums_append, List.length_append]
    exact h2

/-- append(v, x...), v a row of the call's own, x whatever bytes: the walk goes on with some value that holds both. -/
theorem wpList_append_row {w : World} {ops : Array Oper} {rest : List Oper} {o : Oper} {a : Act} {Q : Exit → Act → World → Prop} (hgd : o.guard = none) (s x : Operand)
    (ho : o.op = .call { callee := .builtin .append, args := #[s, x], argTypes := #[37, 37] }) (base : Nat) (v : Value) (xs : List Nat) (hs : a.eval s = v) (hown : Own w base v xs)
    (A : Option Addr) (l : List Nat) (c B : Nat) (hx : a.eval x = .slice A l.length c) (hr : Row w B .u8 A l) (hA : A = none → c = 0) (hlen : xs.length + l.length ≤ 140737488355328) (hbase : base ≤ w.heap.size)
    (h : ∀ v' w', Own w' base v' (xs ++ l) → w.grownBy w' v.ownBlock → wpList Tryd.prog ops Q rest (a.put o.dst v') w') : wpList Tryd.prog ops Q (o :: rest) a w := by
  obtain ⟨v', w', hrun, h2, h3⟩ := run_append_row w base o.type v xs hown A l c B hr hA hlen hbase
  refine wpList_plain hgd fun K hK => ?_
  unfold Oper.wp execOp
  simp only [ho, resolve, invoke, builtin, Sem.run_bind, Sem.run_pure, Result.andThen_ok, List.map_toArray, List.map_cons, List.map_nil, hs, hx, hrun]
  exact hK _ _ (h v' w' h2 h3)
end Go.Proofs.YtciogdhapogolaaDoor
