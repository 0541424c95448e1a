/-
  Rows cut; math/bits.Mul of 1 and a number; slices.Repeat of one cell; the grid's blanks.
-/
import Derived.Test.YtbpkklcegiiheaaDoorDRow
import Derived.Test.YtbpkklcegiiheaaDoorDMath
import Derived.Deep.RegionHeld3
namespace Go.Proofs.YtbpkklcegiiheaaDoor
open Go.RowKit Go.Lib KM

section
variable {α : Type} (E : El α) {w : World}
/-- Where a cut begins. -/
def El.cutA (A : Option Addr) (c k : Nat) : Option Addr := if c = k then A else A.map (·.add (k * E.s))
theorem El.cutA_some (b o c k : Nat) (h : c ≠ k) : E.cutA (some ⟨b, o, none⟩) c k = some ⟨b, o + k * E.s, none⟩ := by
  unfold El.cutA
  rw [if_neg h]
  simp only [Option.map_some, Option.some.injEq]
  unfold Addr.add; split <;> simp_all
theorem El.elem_eq : Tryd.prog.elem E.sl = E.ty := by
  unfold Program.elem
  rw [E.und]
theorem El.und' : Tryd.prog.underlying E.sl = some (.slice (Tryd.prog.elem E.sl)) := by rw [E.elem_eq]; exact E.und
theorem El.sizeOf_run (w : World) : (sizeOf (Tryd.prog.elem E.sl)).run Tryd.prog w = .ok E.s w := by
  obtain ⟨i, hi, hs, _, _⟩ := E.size_of
  rw [E.elem_eq]
  simp [sizeOf, typeInfo, hi, hs]
theorem El.run_cut (A : Option Addr) (n c k : Nat) (w : World) (h : k ≤ n) : (Instr.slice E.sl (.slice A n c) (some (.int .i64 (k : Int))) none none).run Tryd.prog w = .ok (.slice (E.cutA A c k) (n - k) (c - k)) w := by
  rw [run_slice_l (P := Tryd.prog) (w := w) (t := E.sl) (a := A) (len := n) (cap := c) E.und' .i64 (k : Int) (by omega) (by omega), E.sizeOf_run]
  simp [Result.andThen, sliced, El.cutA]
theorem El.run_head (A : Option Addr) (n c k : Nat) (w : World) (h : k ≤ c) : (Instr.slice E.sl (.slice A n c) none (some (.int .i64 (k : Int))) none).run Tryd.prog w = .ok (.slice A k c) w := by
  rw [run_slice_h (P := Tryd.prog) (w := w) (t := E.sl) (a := A) (len := n) (cap := c) E.und' .i64 (k : Int) (by omega) (by omega), E.sizeOf_run]
  have e : A.map (fun a => a.add 0) = A := by cases A <;> simp [Addr.add]
  simp [Result.andThen, sliced, e]
theorem El.run_mid (A : Option Addr) (n c k j : Nat) (w : World) (h : k ≤ j) (hj : j ≤ c) : (Instr.slice E.sl (.slice A n c) (some (.int .i64 (k : Int))) (some (.int .i64 (j : Int))) none).run Tryd.prog w = .ok (.slice (E.cutA A c k) (j - k) (c - k)) w := by
  rw [run_slice_lh (P := Tryd.prog) (w := w) (t := E.sl) (a := A) (len := n) (cap := c) E.und' .i64 .i64 (k : Int) (j : Int) (by omega) (by omega) (by omega), E.sizeOf_run]
  simp [Result.andThen, sliced, El.cutA]
theorem El.run_three (A : Option Addr) (n c k : Nat) (w : World) (h : k ≤ c) : (Instr.slice E.sl (.slice A n c) none (some (.int .i64 (k : Int))) (some (.int .i64 (k : Int)))).run Tryd.prog w = .ok (.slice A k k) w := by
  rw [run_slice_hm (P := Tryd.prog) (w := w) (t := E.sl) (a := A) (len := n) (cap := c) E.und' .i64 .i64 (k : Int) (k : Int) (by omega) (by omega) (by omega), E.sizeOf_run]
  have e : A.map (fun a => a.add 0) = A := by cases A <;> simp [Addr.add]
  simp [Result.andThen, sliced, e]
variable {E}
theorem El.Row.cut {B c k : Nat} {A : Option Addr} {L : List α} (h : E.Row w B A L) (hk : k ≤ L.length) (hc : L.length ≤ c) : E.Row w B (E.cutA A c k) (L.drop k) := fun hp => by
  rw [List.length_drop] at hp
  obtain ⟨b, off, rfl, hb, hcell⟩ := h (by omega)
  refine ⟨b, off + k * E.s, E.cutA_some b off c k (by omega), hb, fun j hj => ?_⟩
  rw [List.length_drop] at hj
  have hm : k * E.s + (L.length - k) * E.s = L.length * E.s := by rw [← Nat.add_mul]; congr 1; omega
  rw [Nat.add_assoc, hcell _ (by omega), E.cells_drop, List.getElem?_drop]
theorem El.Row.mid {B c k j : Nat} {A : Option Addr} {L : List α} (h : E.Row w B A L) (hk : k ≤ j) (hj : j ≤ L.length) (hc : L.length ≤ c) : E.Row w B (E.cutA A c k) ((L.drop k).take (j - k)) := (h.cut (by omega) hc).take _
/-- copy into a row of the call's own, from element o of it on. -/
theorem El.copy_own {base c0 : Nat} {v : Value} {L : List α} (h : E.Own w base v L) {g : Nat} (hv : v = .slice (some ⟨g, 0, none⟩) L.length c0) (ty : TypeId) (D : Option Addr) (dLen dCap : Nat) (A : Option Addr) (M : List α) (n c B o k : Nat) (hr : E.Row w B A M) (hn : n = M.length)
    (hk : k = min M.length dLen) (hD : 0 < k → D = some ⟨g, o * E.s, none⟩) (ho : o + k ≤ L.length) :
    ∃ w', (Builtin.copy_ #[E.sl, E.sl] ty #[.slice D dLen dCap, .slice A n c]).run Tryd.prog w = .ok (.int .i64 (k : Int)) w' ∧ E.Own w' base v (L.take o ++ M.take k ++ L.drop (o + k)) ∧ Fr (· = g) w w' ∧ w'.heap.size = w.heap.size := by
  obtain ⟨cur, hg, hcs, hcl, _⟩ := h.block hv
  have hml : (M.take k).length = k := by rw [List.length_take]; omega
  have hfit : o * E.s + k * E.s ≤ cur.size := by
    rw [hcs, ← Nat.add_mul]
    exact Nat.mul_le_mul_right _ (by omega)
  refine ⟨_, E.run_copy w ty D dLen dCap A M n c B hr hn g (o * E.s) k cur E.ty hg hk hD hfit, ?_, Fr.setRow _ rfl, by simp [World.setRow]⟩
  have := h.splice hv hg (M.take k) o (by omega)
  rw [hml] at this
  exact this
end

section
variable {w : World} {base c0 : Nat} {v : Value} {A : Option Addr}
theorem copyC {L : List Cel} (h : celE.Own w base v L) {g : Nat} (hv : v = .slice (some ⟨g, 0, none⟩) L.length c0) (ty : TypeId) (D : Option Addr) (dLen dCap : Nat) (A : Option Addr) (M : List Cel) (n c B o k : Nat) (hr : celE.Row w B A M) (hn : n = M.length)
    (hk : k = min M.length dLen) (hD : 0 < k → D = some ⟨g, o * 6, none⟩) (ho : o + k ≤ L.length) :
    ∃ w', (Builtin.copy_ #[23, 23] ty #[.slice D dLen dCap, .slice A n c]).run Tryd.prog w = .ok (.int .i64 (k : Int)) w' ∧ celE.Own w' base v (L.take o ++ M.take k ++ L.drop (o + k)) ∧ Fr (· = g) w w' ∧ w'.heap.size = w.heap.size :=
  El.copy_own h hv ty D dLen dCap A M n c B o k hr hn hk hD ho
theorem copyL {L : List Sl} (h : linE.Own w base v L) {g : Nat} (hv : v = .slice (some ⟨g, 0, none⟩) L.length c0) (ty : TypeId) (D : Option Addr) (dLen dCap : Nat) (A : Option Addr) (M : List Sl) (n c B o k : Nat) (hr : linE.Row w B A M) (hn : n = M.length)
    (hk : k = min M.length dLen) (hD : 0 < k → D = some ⟨g, o, none⟩) (ho : o + k ≤ L.length) :
    ∃ w', (Builtin.copy_ #[29, 29] ty #[.slice D dLen dCap, .slice A n c]).run Tryd.prog w = .ok (.int .i64 (k : Int)) w' ∧ linE.Own w' base v (L.take o ++ M.take k ++ L.drop (o + k)) ∧ Fr (· = g) w w' ∧ w'.heap.size = w.heap.size :=
  El.copy_own h hv ty D dLen dCap A M n c B o k hr hn hk (fun h => by rw [hD h]; simp [linE]) ho
theorem cutC (A : Option Addr) (n c k : Nat) (w : World) (h : k ≤ n) : (Instr.slice 23 (.slice A n c) (some (.int .i64 (k : Int))) none none).run Tryd.prog w = .ok (.slice (celE.cutA A c k) (n - k) (c - k)) w := celE.run_cut A n c k w h
theorem headC (A : Option Addr) (n c k : Nat) (w : World) (h : k ≤ c) : (Instr.slice 23 (.slice A n c) none (some (.int .i64 (k : Int))) none).run Tryd.prog w = .ok (.slice A k c) w := celE.run_head A n c k w h
theorem midC (A : Option Addr) (n c k j : Nat) (w : World) (h : k ≤ j) (hj : j ≤ c) : (Instr.slice 23 (.slice A n c) (some (.int .i64 (k : Int))) (some (.int .i64 (j : Int))) none).run Tryd.prog w = .ok (.slice (celE.cutA A c k) (j - k) (c - k)) w := celE.run_mid A n c k j w h hj
theorem cutL (A : Option Addr) (n c k : Nat) (w : World) (h : k ≤ n) : (Instr.slice 29 (.slice A n c) (some (.int .i64 (k : Int))) none none).run Tryd.prog w = .ok (.slice (linE.cutA A c k) (n - k) (c - k)) w := linE.run_cut A n c k w h
theorem headL (A : Option Addr) (n c k : Nat) (w : World) (h : k ≤ c) : (Instr.slice 29 (.slice A n c) none (some (.int .i64 (k : Int))) none).run Tryd.prog w = .ok (.slice A k c) w := linE.run_head A n c k w h
theorem midL (A : Option Addr) (n c k j : Nat) (w : World) (h : k ≤ j) (hj : j ≤ c) : (Instr.slice 29 (.slice A n c) (some (.int .i64 (k : Int))) (some (.int .i64 (j : Int))) none).run Tryd.prog w = .ok (.slice (linE.cutA A c k) (j - k) (c - k)) w := linE.run_mid A n c k j w h hj
theorem threeL (A : Option Addr) (n c k : Nat) (w : World) (h : k ≤ c) : (Instr.slice 29 (.slice A n c) none (some (.int .i64 (k : Int))) (some (.int .i64 (k : Int)))).run Tryd.prog w = .ok (.slice A k k) w := linE.run_three A n c k w h
end

/-! ### math/bits.Mul -/
theorem u64_and32 (n : Nat) (h : n < 4294967296) : bits .and .u64 (n : Int) 4294967295 = (n : Int) := by
  have h127 : (BitVec.ofInt 64 4294967295).toNat = 2 ^ 32 - 1 := by decide
  have key : (BitVec.ofInt 64 (n : Int) &&& BitVec.ofInt 64 4294967295).toNat = n := by
    rw [BitVec.toNat_and, BitVec.toNat_ofInt, h127, Nat.and_two_pow_sub_one_eq_mod]
    omega
  show IntKind.u64.wrap ((BitVec.ofInt 64 (n : Int) &&& BitVec.ofInt 64 4294967295).toNat : Nat) = n
  rw [key, IntKind.wrap_u64]
  omega
set_option maxRecDepth 100000 in
set_option maxHeartbeats 1000000 in
theorem mul64_ok (w : World) (n : Nat) (hn : n ≤ 1000000) : Calls Tryd.prog 84 #[.int .u64 1, .int .u64 (n : Int)] w fun e w' => e = .returned (.tuple #[.int .u64 0, .int .u64 (n : Int)]) ∧ w' = w := by
  have h1 := u64_and32 n (by omega)
  have h0 : bits .and .u64 1 4294967295 = 1 := by decide
  have h00 : bits .and .u64 0 4294967295 = 0 := by decide
  have hd : (n : Int) / 4294967296 = 0 := by omega
  have hw : IntKind.u64.wrap 0 = 0 := by decide
  go_enter Tryd.func84, Tryd.ntmps84
  go_wp2
  go_ret2
  exact ⟨rfl, rfl⟩
set_option maxRecDepth 100000 in
set_option maxHeartbeats 1000000 in
theorem mul_ok (w : World) (n : Nat) (hn : n ≤ 1000000) : Calls Tryd.prog 79 #[.int .u64 1, .int .u64 (n : Int)] w fun e w' => e = .returned (.tuple #[.int .u64 0, .int .u64 (n : Int)]) ∧ w' = w := by
  have HM := Lib.hid (fun w => mul64_ok w n hn)
  go_enter Tryd.func79, Tryd.ntmps79
  go_wp2_with fail
  refine (HM.out w).mono ?_
  rintro e w1 ⟨rfl, rfl⟩
  go_wp2_with fail
  go_ret2
  exact ⟨rfl, rfl⟩

set_option maxRecDepth 100000 in
set_option maxHeartbeats 1000000 in
/-- slices.Repeat of one cell. -/
theorem repeat_ok (w : World) (x : Cel) (A : Option Addr) (c B : Nat) (hr : celE.Row w B A [x]) (hB : B ≤ w.heap.size) (n : Nat) (hn : n ≤ 1000) :
    Calls Tryd.prog 69 #[.slice A 1 c, .int .i64 (n : Int)] w (CelsPost w (List.replicate n x)) := by
  have HM := Lib.hid (fun w => mul_ok w n (by omega))
  obtain ⟨mk, hmk0⟩ : ∃ mk, mk = madeCells celE.z.cells (n * celE.s) := ⟨_, rfl⟩
  have hmk : ∀ w, (Instr.makeSlice 23 (.int .i64 (n : Int)) (.int .i64 (n : Int))).run Tryd.prog w = .ok (.slice (some ⟨w.heap.size, 0, none⟩) n n) (w.alloc (.cells mk 37)) := fun w => by
    rw [hmk0]; exact celE.run_made w n (by omega) (by decide)
  have hown := celE.own_made w w.heap.size n ⟨0, zero⟩ rfl (Nat.le_refl _) (by unfold maxLen; omega)
  rw [← hmk0] at hown
  have HR := Lib.hid hr
  have HOWN := Lib.hid (show celE.Own (w.alloc (.cells mk 37)) w.heap.size (.slice (some ⟨w.heap.size, 0, none⟩) n n) (List.replicate n ⟨0, zero⟩) from hown)
  have hbl : Below w.heap.size w (w.alloc (.cells mk 37)) := (Below.refl _ _).alloc (Nat.le_refl _) _
  have HBL := Lib.hid hbl
  clear hr hmk0 hown hbl
  go_enter Tryd.func69, Tryd.ntmps69
  go_wp2_with fail
  refine (HM.out w).mono ?_
  rintro e w1 ⟨rfl, hw1⟩
  rw [hw1]
  clear hw1 w1
  obtain ⟨w2, hw2⟩ : ∃ w2, w2 = w.alloc (.cells mk 37) := ⟨_, rfl⟩
  rw [← hw2] at HOWN HBL
  have HW2 := Lib.hid hw2
  clear hw2
  go_upto_region 7 with fail
  rw [← HW2.out]
  obtain ⟨w3, hrun, ho3, hf3, hz3⟩ := copyC HOWN.out (by rw [List.length_replicate]) 3 (some ⟨w.heap.size, 0, none⟩) n n A [x] 1 c B 0 (min 1 n) (HR.out.below (HBL.out.mono hB)) rfl rfl (fun _ => by simp) (by simp; omega)
  have hb3 : Below w.heap.size w w3 := HBL.out.trans (hf3.below HBL.out.size (fun k e => by omega))
  have hrep : (List.replicate n (⟨0, zero⟩ : Cel)).take 0 ++ [x].take (min 1 n) ++ (List.replicate n (⟨0, zero⟩ : Cel)).drop (0 + min 1 n) = List.replicate (min 1 n) x ++ List.replicate (n - min 1 n) ⟨0, zero⟩ := by
    rcases Nat.eq_zero_or_pos n with h | h
    · subst h; simp
    · rw [Nat.min_eq_left (by omega)]; simp
  rw [hrep] at ho3
  have HO3 := Lib.hid ho3
  have HB3 := Lib.hid hb3
  have hz2 := HBL.out.size
  obtain ⟨m, hm⟩ : ∃ m, m = min 1 n := ⟨_, rfl⟩
  rw [← hm] at HO3 hrun
  have hmn : m ≤ n := by omega
  have hm1 : 0 < n → 0 < m := by omega
  clear ho3 hf3 hb3 hrep hm
  go_wp2_with fail
  go_loopw [8] (fun i wr => ∃ k : Nat, k ≤ n ∧ (0 < n → 0 < k) ∧ i = .int .i64 (k : Int) ∧ Below w.heap.size w wr ∧ celE.Own wr w.heap.size (.slice (some ⟨w.heap.size, 0, none⟩) n n) (List.replicate k x ++ List.replicate (n - k) ⟨0, zero⟩)) (fun i _ => n - (RowKit.intOf i).toNat)
  case atStart => exact ⟨m, hmn, hm1, rfl, HB3.out, HO3.out⟩
  case round =>
    obtain ⟨k, hk, hk0, rfl, hb, ho⟩ := hrel
    have HB := Lib.hid hb
    have HO := Lib.hid ho
    clear hb ho
    by_cases hlt : k < n
    · have g1 : decide ((k : Int) < (n : Int)) = true := by simp; omega
      have gn : decide (k < n) = true := by simp; omega
      have hkp : 0 < k := hk0 (by omega)
      have hlen : (List.replicate k x ++ List.replicate (n - k) (⟨0, zero⟩ : Cel)).length = n := by simp; omega
      have hod := HO.out.below (w' := wr.drew) ((Below.refl _ wr).drew)
      have hrow : celE.Row wr.drew wr.drew.heap.size (some ⟨w.heap.size, 0, none⟩) (List.replicate k x) := by
        have h1 : celE.Own wr.drew w.heap.size (.slice (some ⟨w.heap.size, 0, none⟩) (List.replicate k x ++ List.replicate (n - k) (⟨0, zero⟩ : Cel)).length n) (List.replicate k x ++ List.replicate (n - k) ⟨0, zero⟩) := by rw [hlen]; exact hod
        have h2 := (El.Row.of_own h1).take k
        rwa [List.take_left' (by simp)] at h2
      have hcut : ∀ V, (Instr.slice 23 (.slice (some ⟨w.heap.size, 0, none⟩) n n) (some (.int .i64 (k : Int))) none none).run Tryd.prog V = .ok (.slice (some ⟨w.heap.size, k * 6, none⟩) (n - k) (n - k)) V := fun V => by
        rw [cutC _ _ _ _ V (by omega), celE.cutA_some _ _ _ _ (by omega), Nat.zero_add]; rfl
      have hhd : ∀ V, (Instr.slice 23 (.slice (some ⟨w.heap.size, 0, none⟩) n n) none (some (.int .i64 (k : Int))) none).run Tryd.prog V = .ok (.slice (some ⟨w.heap.size, 0, none⟩) k n) V := fun V => headC _ _ _ _ V (by omega)
      obtain ⟨w4, hrun4, ho4, hf4, hz4⟩ := copyC hod (by rw [hlen]) 3 (some ⟨w.heap.size, k * 6, none⟩) (n - k) (n - k) (some ⟨w.heap.size, 0, none⟩) (List.replicate k x) k n _ k (min k (n - k)) hrow (by simp) (by simp) (fun _ => rfl) (by rw [hlen]; omega)
      obtain ⟨q, hq⟩ : ∃ q, q = min k (n - k) := ⟨_, rfl⟩
      rw [← hq] at hrun4 ho4
      have hq1 : 0 < q ∧ k + q ≤ n ∧ q ≤ k := by omega
      have hrep : (List.replicate k x ++ List.replicate (n - k) (⟨0, zero⟩ : Cel)).take k ++ (List.replicate k x).take q ++ (List.replicate k x ++ List.replicate (n - k) (⟨0, zero⟩ : Cel)).drop (k + q) = List.replicate (k + q) x ++ List.replicate (n - (k + q)) ⟨0, zero⟩ := by
        rw [List.take_left' (by simp), List.take_replicate, Nat.min_eq_left hq1.2.2, List.replicate_append_replicate, List.drop_append, List.drop_eq_nil_of_le (by simp), List.nil_append, List.length_replicate, List.drop_replicate]
        congr 2; omega
      rw [hrep] at ho4
      have HO4 := Lib.hid ho4
      have HB4 := Lib.hid (HB.out.trans ((Below.refl w.heap.size wr).drew.trans (hf4.below HB.out.size (fun k e => by omega))))
      have hwr : IntKind.i64.wrap ((k : Int) + (q : Int)) = (k : Int) + (q : Int) := by rw [IntKind.wrap_i64]; omega
      clear hod hrow hrep ho4 hf4 hq hlen
      go_wp2_with fail
      refine wp_region_noPanic ?_
      refine wp_region_held_drew (S := fun _ => True) (by kernel_rfl) trivial (fun hHeld => ?_)
      refine wpAnyH_take (i := 0) (v := ?va0) rfl (by kernel_rfl) (by kernel_rfl) (by kernel_rfl) (fun _ _ _ h => h) (Or.inl ⟨by rfl, ?ha0⟩) (by assumption) ?_
      case ha0 => intro w hSw; (try dsimp only at hSw); go_simp; try with_reducible rfl
      simp only [List.getElem_toArray, List.getElem_cons_zero, Act.put, List.setIfInBounds_toArray, List.set_cons_zero, List.set_cons_succ]
      refine wpAnyH_take (i := 1) (v := ?va1) rfl (by kernel_rfl) (by kernel_rfl) (by kernel_rfl) (fun _ _ _ h => h) (Or.inl ⟨by rfl, ?ha1⟩) (by assumption) ?_
      case ha1 => intro w hSw; (try dsimp only at hSw); go_simp; try with_reducible rfl
      simp only [List.getElem_toArray, List.getElem_cons_succ, List.getElem_cons_zero, Act.put, List.setIfInBounds_toArray, List.set_cons_zero, List.set_cons_succ]
      refine wpAnyH_take (i := 2) (v := ?va2) rfl (by kernel_rfl) (by kernel_rfl) (by kernel_rfl) (fun _ _ _ h => h) (Or.inl ⟨by rfl, ?ha2⟩) (by assumption) ?_
      case ha2 => intro w hSw; (try dsimp only at hSw); go_simp; try with_reducible rfl
      simp only [List.getElem_toArray, List.getElem_cons_succ, List.getElem_cons_zero, Act.put, List.setIfInBounds_toArray, List.set_cons_zero, List.set_cons_succ]
      refine wpAnyH_take (i := 3) (v := ?va3) rfl (by kernel_rfl) (by kernel_rfl) (by kernel_rfl) (fun _ _ _ h => h) (Or.inl ⟨by rfl, ?ha3⟩) (by assumption) ?_
      case ha3 => intro w hSw; (try dsimp only at hSw); go_simp; try with_reducible rfl
      simp only [List.getElem_toArray, List.getElem_cons_succ, List.getElem_cons_zero, Act.put, List.setIfInBounds_toArray, List.set_cons_zero, List.set_cons_succ]
      refine wpAnyH_take (i := 4) (v := ?va4) rfl (by kernel_rfl) (by kernel_rfl) (by kernel_rfl) (fun _ _ _ h => h) (Or.inl ⟨by rfl, ?ha4⟩) (by assumption) ?_
      case ha4 => intro w hSw; (try dsimp only at hSw); go_simp; try with_reducible rfl
      simp only [List.getElem_toArray, List.getElem_cons_succ, List.getElem_cons_zero, Act.put, List.setIfInBounds_toArray, List.set_cons_zero, List.set_cons_succ]
      refine wpAnyH_take (i := 5) (v := ?va5) rfl (by kernel_rfl) (by kernel_rfl) (by kernel_rfl) (fun _ _ _ h => h) (Or.inl ⟨by rfl, ?ha5⟩) (by assumption) ?_
      case ha5 => intro w hSw; (try dsimp only at hSw); go_simp; try with_reducible rfl
      simp only [List.getElem_toArray, List.getElem_cons_succ, List.getElem_cons_zero, Act.put, List.setIfInBounds_toArray, List.set_cons_zero, List.set_cons_succ]
      refine wpAnyH_take (i := 6) (v := ?va6) rfl (by kernel_rfl) (by kernel_rfl) (by kernel_rfl) (fun _ _ _ h => h) (Or.inl ⟨by rfl, ?ha6⟩) (by assumption) ?_
      case ha6 => intro w hSw; (try dsimp only at hSw); go_simp; try with_reducible rfl
      simp only [List.getElem_toArray, List.getElem_cons_succ, List.getElem_cons_zero, Act.put, List.setIfInBounds_toArray, List.set_cons_zero, List.set_cons_succ]
      refine wpAnyH_ready (rs := [7]) (by kernel_rfl) (by simp) ?_
      refine AllReadyH.cons rfl (fun K hK => ?_) AllReadyH.nil
      go_simp
      refine hK.out _ _ ?_ (fun hHeld => ?_)
      · trivial
      clear hK K
      refine wpAnyH_take (i := 8) (v := ?vb8) rfl (by kernel_rfl) (by kernel_rfl) (by kernel_rfl) (fun _ _ _ h => h) (Or.inl ⟨by rfl, ?hb8⟩) (by assumption) ?_
      case hb8 => intro w hSw; (try dsimp only at hSw); go_simp; try with_reducible rfl
      simp only [List.getElem_toArray, List.getElem_cons_succ, List.getElem_cons_zero, Act.put, List.setIfInBounds_toArray, List.set_cons_zero, List.set_cons_succ]
      refine wpAnyH_take (i := 9) (v := ?vb9) rfl (by kernel_rfl) (by kernel_rfl) (by kernel_rfl) (fun _ _ _ h => h) (Or.inl ⟨by rfl, ?hb9⟩) (by assumption) ?_
      case hb9 => intro w hSw; (try dsimp only at hSw); go_simp; try with_reducible rfl
      simp only [List.getElem_toArray, List.getElem_cons_succ, List.getElem_cons_zero, Act.put, List.setIfInBounds_toArray, List.set_cons_zero, List.set_cons_succ]
      refine wpAnyH_done (by kernel_rfl) ?_ _
      refine NoPanic.normal ?_
      clear hHeld
      go_wp2
      go_roundw
      case rel => exact ⟨k + q, by omega, by omega, by simp, HB4.out, HO4.out⟩
      case measure => simp [RowKit.intOf]; omega
    · have g1 : decide ((k : Int) < (n : Int)) = false := by simp; omega
      have gn : decide (k < n) = false := by simp; omega
      obtain rfl : k = n := by omega
      have ho := HO.out
      simp only [Nat.sub_self, List.replicate_zero, List.append_nil] at ho
      have HO5 := Lib.hid ho
      clear ho
      go_wp2_with fail
      go_ret
      exact ⟨_, rfl, HO5.out, HB.out⟩

set_option maxRecDepth 100000 in
set_option maxHeartbeats 1000000 in
/-- The grid's blanks. -/
theorem blanks_ok (w : World) (n : Nat) (hn : n ≤ 1000) (s : Sty) : Calls Tryd.prog 55 #[.int .i64 (n : Int), styV s] w (CelsPost w (KM.blanks n s)) := by
  obtain ⟨b, u, t, f, k⟩ := s
  have HBL := Lib.hid (fun v => blank_ok v ⟨b, u, t, f, k⟩)
  have HREP := Lib.hid (fun (v : World) => repeat_ok (v.alloc (.cells #[.int .i32 32, .bool false, .bool false, .bool false, .int .i64 0, .int .i64 k] 37)) (blankS ⟨b, u, t, f, k⟩) (some ⟨v.heap.size, 0, none⟩) 1 (v.heap.size + 1) (celE.row_new v (blankS ⟨b, u, t, f, k⟩) _ _ rfl) (by simp) n hn)
  simp only [styV, celV] at HBL ⊢
  go_enter Tryd.func55, Tryd.ntmps55
  go_wp2_with fail
  refine (HBL.out _).mono ?_
  rintro e w1 ⟨rfl, hb1⟩
  have HB1 := Lib.hid (below_next ((Below.refl w.heap.size w).alloc (Nat.le_refl _) _) hb1)
  clear hb1
  go_wp2_with fail
  refine (HREP.out w1).mono ?_
  rintro e w2 ⟨v2, rfl, ho2, hb2⟩
  have hz := HB1.out.size
  have HB2 := Lib.hid (below_next (HB1.out.alloc hz _) hb2)
  have HO2 := Lib.hid (ho2.mono (show w.heap.size ≤ _ by simp; omega))
  clear ho2 hb2
  go_wp2_with fail
  go_ret
  exact ⟨v2, rfl, HO2.out, HB2.out⟩
end Go.Proofs.YtbpkklcegiiheaaDoor
