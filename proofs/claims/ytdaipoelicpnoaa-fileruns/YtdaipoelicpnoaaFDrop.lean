/-
  FileRuns' model: drop, put.
-/
import Derived.Test.YtdaipoelicpnoaaFMod
import Derived.Deep.RegionLaw
namespace Go.Proofs.Ytdaipoelicpnoaa
open Go.RowKit Go.Maps FM

theorem run_head3 (A : Option Addr) (n c k : Nat) (w : World) (h : k ≤ c) : (Instr.slice 28 (.slice A n c) none (some (.int .i64 (k : Int))) none).run Try.prog w = .ok (.slice A k c) w := by
  have hs : (sizeOf (Try.prog.elem 28)).run Try.prog w = .ok 3 w := by kernel_rfl
  rw [run_slice_h (P := Try.prog) (w := w) (t := 28) (a := A) (len := n) (cap := c) (by kernel_rfl) .i64 (k : Int) (by omega) (by omega), hs]
  have e : A.map (fun a => a.add 0) = A := by cases A <;> simp [Addr.add]
  simp [Result.andThen, sliced, e]
theorem run_cut3 (A : Option Addr) (n c k : Nat) (w : World) (h : k ≤ n) : (Instr.slice 28 (.slice A n c) (some (.int .i64 (k : Int))) none none).run Try.prog w = .ok (.slice (if c = k then A else A.map (·.add (k * 3))) (n - k) (c - k)) w := by
  have hs : (sizeOf (Try.prog.elem 28)).run Try.prog w = .ok 3 w := by kernel_rfl
  rw [run_slice_l (P := Try.prog) (w := w) (t := 28) (a := A) (len := n) (cap := c) (by kernel_rfl) .i64 (k : Int) (by omega) (by omega), hs]
  simp [Result.andThen, sliced]

theorem MoB.store {w w' : World} {pb : Nat} {v v' : Value} {s : St} {fs : List (Name × File)} (h : w.heap[pb]? = some (.cells #[v, .int .i64 (s.quota : Int), .int .i64 (max s.fuse (-1)), .bool s.down] 30)) (ho : OwnO w 0 v' fs) (hne : v'.ownBlock ≠ some pb) (hw : w' = w.setCell ⟨pb, 0, none⟩ v') :
    MoB w' pb v' { s with fs := fs } := by
  subst hw
  refine ⟨(heap_setCell_same w pb 0 _ _ _ h).trans rfl, ho.keep fun k hk => Below.heap_setCell _ _ _ _ (fun e => hne (by rw [hk, e]))⟩

/-- What drop and put leave. -/
def Moved (w : World) (pb : Nat) (s : St) (fs : List (Name × File)) (e : Ending) (w' : World) : Prop :=
  e = .returned (.tuple #[]) ∧ ∃ v', MoB w' pb v' { s with fs := fs } ∧ Fr (fun k => k = pb) w w' ∧ ∀ k, v'.ownBlock = some k → w.heap.size ≤ k

theorem Grow.belowO {w w' : World} {v v' : Value} {base : Nat} {fs : List (Name × File)} (h : Grow w w' v v') (ho : OwnO w base v fs) (hb : base ≤ w.heap.size) : Below base w w' :=
  (Below.refl base w).grown h.grown hb (fun k hk => (ho.lt k hk).1)
theorem moved_end {w w9 : World} {pb : Nat} {v v9 : Value} {s : St} {fs : List (Name × File)} (h : MoB w pb v s) (hb : Below w.heap.size w w9) (ho : OwnO w9 w.heap.size v9 fs) : Moved w pb s fs (.returned (.tuple #[])) (w9.setCell ⟨pb, 0, none⟩ v9) := by
  have hlt := h.lt
  refine ⟨rfl, v9, MoB.store ((hb.block pb hlt).trans h.cells) (ho.mono (Nat.zero_le _)) (fun e => ?_) rfl, ?_, fun k hk => (ho.lt k hk).1⟩
  · have := (ho.lt pb e).1; omega
  · exact ⟨hb.os, hb.tape, hb.output, by simpa using hb.size, fun k hk hn => (Below.heap_setCell _ _ _ _ hn).trans (hb.block k hk)⟩

set_option maxRecDepth 100000 in
set_option maxHeartbeats 2000000 in
theorem drop_ok (w : World) (pb : Nat) (v : Value) (s : St) (i : Nat) (hi : i < s.fs.length) (h : MoB w pb v s) (hl : s.fs.length ≤ 1000) :
    Calls Try.prog 29 #[.pointer (some ⟨pb, 0, none⟩), .int .i64 (i : Int)] w (Moved w pb s (s.fs.take i ++ s.fs.drop (i + 1))) := by
  have c0 := h.cell0
  have f0 := h.frozen 0
  obtain ⟨A, c, hv, hlc, hA, hr⟩ := h.own.row
  subst hv
  have hpb := h.lt
  have q1 : ∀ V, (Instr.slice 28 (.slice A s.fs.length c) none (some (.int .i64 (i : Int))) none).run Try.prog V = .ok (.slice A i c) V := fun V => run_head3 A s.fs.length c i V (by omega)
  obtain ⟨A2, hA2⟩ : ∃ A2, A2 = if c = i + 1 then A else A.map (·.add ((i + 1) * 3)) := ⟨_, rfl⟩
  have q2 : ∀ V, (Instr.slice 28 (.slice A s.fs.length c) (some (.int .i64 ((i : Int) + 1))) none none).run Try.prog V = .ok (.slice A2 (s.fs.length - (i + 1)) (c - (i + 1))) V := fun V => by
    have := run_cut3 A s.fs.length c (i + 1) V (by omega)
    rw [← hA2] at this
    exact this
  have hr1 : Row3 w.drew A (s.fs.take i) := (hr.below (below_drew w)).take i
  have hr2 : Row3 w.drew A2 (s.fs.drop (i + 1)) := by rw [hA2]; exact (hr.below (below_drew w)).cut (by omega) hlc
  have hA2n : A2 = none → c - (i + 1) = 0 := fun e => by
    rw [hA2] at e
    split at e
    · omega
    · have := hA (by simpa using e); omega
  have l1 : i = (s.fs.take i).length := by rw [List.length_take]; omega
  have l2 : s.fs.length - (i + 1) = (s.fs.drop (i + 1)).length := by rw [List.length_drop]
  have hwi : IntKind.i64.wrap ((i : Int) + 1) = (i : Int) + 1 := by rw [IntKind.wrap_i64]; omega
  have H := Lib.hid h; have HR1 := Lib.hid hr1; have HR2 := Lib.hid hr2; have HA := Lib.hid hA; have HA2 := Lib.hid hA2n
  have HL1 := Lib.hid l1; have HL2 := Lib.hid l2
  clear h hr hr1 hr2 hA hA2n hA2 l1 l2
  go_enter Try.func29, Try.ntmps29
  go_wp2
  go_region_law (first
    | (refine step_append_ones rfl (.const (.slice none 0 0)) (.tmp 10) rfl w.heap.size (.slice none 0 0) [] (by simp [Act.eval]) (OwnO.nil _ _) A (s.fs.take i) i c HL1.out (by simp [Act.eval, Act.put]) HR1.out HA.out (by rw [← HL1.out]; simp; omega) (Nat.le_refl _) ?_; intro v1 w1 ho1 hg1; have k1 : w1.cell? ⟨pb, 0, none⟩ = some (.slice A s.fs.length c) := (World.cell?_of_block (a := ⟨pb, 0, none⟩) (hg1.grown.block pb hpb (by simp [Value.ownBlock]))).trans c0; have f1 : w1.frozen? ⟨pb, 0, none⟩ = false := (World.frozen?_of_block (a := ⟨pb, 0, none⟩) (hg1.grown.block pb hpb (by simp [Value.ownBlock]))).trans f0; have HO1 := Lib.hid ho1; have HG1 := Lib.hid hg1; clear ho1 hg1)
    | (refine step_append_ones rfl (.tmp 11) (.tmp 18) rfl w.heap.size v1 ([] ++ s.fs.take i) (by simp [Act.eval, Act.put]) HO1.out A2 (s.fs.drop (i + 1)) (s.fs.length - (i + 1)) (c - (i + 1)) HL2.out (by simp [Act.eval, Act.put]) (HR2.out.below (HG1.out.below (l := []) (base := w.heap.size) (World.ownsRow_nil _ _ _ _) (Nat.le_refl _))) HA2.out (by rw [← HL2.out, List.nil_append, ← HL1.out]; omega) HG1.out.grown.size ?_; intro v2 w2 ho2 hg2; obtain ⟨A3, n3, c3, hv3⟩ := ho2.shape; subst hv3; have hpn : some pb ≠ v1.ownBlock := fun e => by {have := (HO1.out.lt pb e.symm).1; omega}; have hp1 : pb < w1.heap.size := by {have := HG1.out.grown.size; simp at this; omega}; have k2 : w2.cell? ⟨pb, 0, none⟩ = some (.slice A s.fs.length c) := (World.cell?_of_block (a := ⟨pb, 0, none⟩) (hg2.grown.block pb hp1 hpn)).trans k1; have f2 : w2.frozen? ⟨pb, 0, none⟩ = false := (World.frozen?_of_block (a := ⟨pb, 0, none⟩) (hg2.grown.block pb hp1 hpn)).trans f1; have HO2 := Lib.hid ho2; have HG2 := Lib.hid hg2; clear ho2 hg2 hpn hp1))
  all_goals go_wp2
  all_goals go_end0
  all_goals
    have hb1 : Below w.heap.size w w1 := Below.of_drew (HG1.out.belowO (OwnO.nil w.drew w.heap.size) (Nat.le_refl _))
    exact moved_end H.out (hb1.trans (HG2.out.belowO HO1.out hb1.size)) HO2.out

set_option maxRecDepth 100000 in
set_option maxHeartbeats 2000000 in
theorem put_ok (w : World) (pb : Nat) (v : Value) (s : St) (i : Nat) (hi : i ≤ s.fs.length) (p : Name × File) (h : MoB w pb v s) (hl : s.fs.length ≤ 1000) :
    Calls Try.prog 30 #[.pointer (some ⟨pb, 0, none⟩), .int .i64 (i : Int), .agg #[.string (nm p.1), .string (str p.2.data), .int .i64 (p.2.sure : Int)]] w (Moved w pb s (s.fs.take i ++ [p] ++ s.fs.drop i)) := by
  have c00 := h.cell0
  have f00 := h.frozen 0
  obtain ⟨A, c, hv, hlc, hA, hr⟩ := h.own.row
  subst hv
  have hpb := h.lt
  have q1 : ∀ V, (Instr.slice 28 (.slice A s.fs.length c) none (some (.int .i64 (i : Int))) none).run Try.prog V = .ok (.slice A i c) V := fun V => run_head3 A s.fs.length c i V (by omega)
  obtain ⟨A2, hA2⟩ : ∃ A2, A2 = if c = i then A else A.map (·.add (i * 3)) := ⟨_, rfl⟩
  have q2 : ∀ V, (Instr.slice 28 (.slice A s.fs.length c) (some (.int .i64 (i : Int))) none none).run Try.prog V = .ok (.slice A2 (s.fs.length - i) (c - i)) V := fun V => by
    have := run_cut3 A s.fs.length c i V (by omega)
    rw [← hA2] at this
    exact this
  have hr1 : Row3 w A (s.fs.take i) := hr.take i
  have hr2 : Row3 w A2 (s.fs.drop i) := by rw [hA2]; exact hr.cut (by omega) hlc
  have hA2n : A2 = none → c - i = 0 := fun e => by
    rw [hA2] at e
    split at e
    · omega
    · have := hA (by simpa using e); omega
  have l1 : i = (s.fs.take i).length := by rw [List.length_take]; omega
  have l2 : s.fs.length - i = (s.fs.drop i).length := by rw [List.length_drop]
  have H := Lib.hid h; have HR1 := Lib.hid hr1; have HR2 := Lib.hid hr2; have HA := Lib.hid hA; have HA2 := Lib.hid hA2n
  have HL1 := Lib.hid l1; have HL2 := Lib.hid l2
  clear h hr hr1 hr2 hA hA2n hA2 l1 l2
  go_enter Try.func30, Try.ntmps30
  go_wp2
  have hbz : Below w.heap.size w (w.alloc (.cells #[.string (nm p.1), .string (str p.2.data), .int .i64 (p.2.sure : Int)] 62)) := (Below.refl _ w).alloc (Nat.le_refl _) _
  have hbx : (w.alloc (.cells #[.string (nm p.1), .string (str p.2.data), .int .i64 (p.2.sure : Int)] 62)).heap[w.heap.size]? = some (.cells #[.string (nm p.1), .string (str p.2.data), .int .i64 (p.2.sure : Int)] 62) := (MapKept.heap_alloc w _).1
  obtain ⟨wz, hwz⟩ : ∃ wz, wz = w.alloc (.cells #[.string (nm p.1), .string (str p.2.data), .int .i64 (p.2.sure : Int)] 62) := ⟨_, rfl⟩
  have hsz : wz.heap.size = w.heap.size + 1 := by rw [hwz]; simp
  rw [← hwz] at hbz hbx ⊢
  clear hwz
  have facts : ∀ W, Below wz.heap.size wz W → W.cell? ⟨pb, 0, none⟩ = some (.slice A s.fs.length c) ∧ W.frozen? ⟨pb, 0, none⟩ = false ∧ W.cell? ⟨w.heap.size, 0, none⟩ = some (.string (nm p.1)) ∧ W.cell? ⟨w.heap.size, 1, none⟩ = some (.string (str p.2.data)) ∧ W.cell? ⟨w.heap.size, 2, none⟩ = some (.int .i64 (p.2.sure : Int)) := fun W hW => by
    have e1 : W.heap[pb]? = w.heap[pb]? := (hW.block pb (by omega)).trans (hbz.block pb hpb)
    have e2 := (hW.block w.heap.size (by omega)).trans hbx
    exact ⟨(World.cell?_of_block (a := ⟨pb, 0, none⟩) e1).trans c00, (World.frozen?_of_block (a := ⟨pb, 0, none⟩) e1).trans f00, by simp only [World.cell?, e2]; rfl, by simp only [World.cell?, e2]; rfl, by simp only [World.cell?, e2]; rfl⟩
  have rows : ∀ W, Below wz.heap.size wz W → Row3 W A (s.fs.take i) ∧ Row3 W A2 (s.fs.drop i) := fun W hW => ⟨HR1.out.below (hbz.trans (hW.mono (by omega))), HR2.out.below (hbz.trans (hW.mono (by omega)))⟩
  have FA := Lib.hid facts; have RW := Lib.hid rows
  have HB0 := Lib.hid (show Below wz.heap.size wz wz.drew from below_drew wz)
  obtain ⟨c0, f0, b0, b1, b2⟩ := facts wz.drew (below_drew wz)
  have HBZ := Lib.hid hbz
  have HSZ := Lib.hid hsz
  clear facts rows c00 f00 hbz hbx hsz
  have c0a : ∀ o, (wz.drew.alloc o).cell? ⟨pb, 0, none⟩ = some (.slice A s.fs.length c) := fun o => (FA.out _ (HB0.out.alloc (Nat.le_refl _) o)).1
  have c0b : ∀ o, (wz.alloc o).cell? ⟨pb, 0, none⟩ = some (.slice A s.fs.length c) := fun o => (FA.out _ (HB0.out.alloc (Nat.le_refl _) o)).1
  have c0z : wz.cell? ⟨pb, 0, none⟩ = some (.slice A s.fs.length c) := c0
  have b0z : wz.cell? ⟨w.heap.size, 0, none⟩ = some (.string (nm p.1)) := b0
  have b1z : wz.cell? ⟨w.heap.size, 1, none⟩ = some (.string (str p.2.data)) := b1
  have b2z : wz.cell? ⟨w.heap.size, 2, none⟩ = some (.int .i64 (p.2.sure : Int)) := b2
  go_region_law (first
    | (refine step_append_ones rfl (.const (.slice none 0 0)) (.tmp 12) rfl wz.heap.size (.slice none 0 0) [] rfl (OwnO.nil _ _) A (s.fs.take i) i c HL1.out rfl (RW.out _ (by first | exact HB0.out | exact HB0.out.alloc (Nat.le_refl _) _)).1 HA.out (by rw [← HL1.out]; simp; omega) (by first | exact HB0.out.size | exact (HB0.out.alloc (Nat.le_refl _) _).size) ?_; intro v1 w1 ho1 hg1; have hb1 : Below wz.heap.size wz w1 := Below.trans (by first | exact HB0.out | exact HB0.out.alloc (Nat.le_refl _) _) (hg1.belowO (OwnO.nil _ _) (by first | exact HB0.out.size | exact (HB0.out.alloc (Nat.le_refl _) _).size)); obtain ⟨k0, k1, k2, k3, k4⟩ := FA.out w1 hb1; have k0a : ∀ o, (w1.alloc o).cell? ⟨pb, 0, none⟩ = some (.slice A s.fs.length c) := fun o => (FA.out _ (hb1.alloc hb1.size o)).1; (first | (have hX1 : Row3 w1 (some ⟨wz.heap.size, 0, none⟩) [p] := (row3_new wz.drew p).below (hg1.belowO (OwnO.nil _ _) (Nat.le_refl _)); have HX1 := Lib.hid hX1; clear hX1) | skip); have HB1 := Lib.hid hb1; have HO1 := Lib.hid ho1; clear ho1 hg1 hb1)
    | (refine step_append_ones rfl (.tmp 13) (.tmp 15) rfl wz.heap.size v1 ([] ++ s.fs.take i) rfl (by first | exact HO1.out | exact World.ownsRow.alloc HO1.out _) _ [p] 1 1 rfl rfl (by first | exact HX1.out | exact row3_new w1 p) (fun e => by cases e) (by rw [List.nil_append, ← HL1.out]; simp; omega) (by first | exact HB1.out.size | exact (HB1.out.alloc HB1.out.size _).size) ?_; intro v2 w2 ho2 hg2; have hb2 : Below wz.heap.size wz w2 := Below.trans (by first | exact HB1.out | exact HB1.out.alloc HB1.out.size _) (hg2.belowO (fs := [] ++ s.fs.take i) (by first | exact HO1.out | exact World.ownsRow.alloc HO1.out _) (by first | exact HB1.out.size | exact (HB1.out.alloc HB1.out.size _).size)); obtain ⟨j0, j1, j2, j3, j4⟩ := FA.out w2 hb2; have HB2 := Lib.hid hb2; have HO2 := Lib.hid ho2; clear ho2 hg2 hb2)
    | (refine step_append_ones rfl (.tmp 16) (.tmp 22) rfl wz.heap.size v2 ([] ++ s.fs.take i ++ [p]) rfl HO2.out A2 (s.fs.drop i) (s.fs.length - i) (c - i) HL2.out rfl (RW.out _ HB2.out).2 HA2.out (by rw [← HL2.out, List.nil_append, List.length_append, ← HL1.out]; simp; omega) HB2.out.size ?_; intro v3 w3 ho3 hg3; obtain ⟨A3, n3, c3, hv3⟩ := ho3.shape; subst hv3; have hb3 : Below wz.heap.size wz w3 := HB2.out.trans (hg3.belowO HO2.out HB2.out.size); obtain ⟨m0, m1, m2, m3, m4⟩ := FA.out w3 hb3; have HB3 := Lib.hid hb3; have HO3 := Lib.hid ho3; clear ho3 hg3 hb3))
  all_goals go_wp2
  all_goals go_end0
  all_goals exact moved_end H.out (HBZ.out.trans (HB3.out.mono (by have := HSZ.out; omega))) (HO3.out.mono (by have := HSZ.out; omega))
end Go.Proofs.Ytdaipoelicpnoaa
