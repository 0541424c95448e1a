/-
  Layer 17 (cast): the reader of the landed Import, and its calls.
-/
import Derived.Test.YtciogdhapogolaaDoorALand
import Derived.Test.YtciogdhapogolaaDoorAParse
import Derived.Test.YtciogdhapogolaaDoorASign
import Derived.Shelf.Abstract
set_option linter.unusedVariables false
namespace Go.Proofs.YtciogdhapogolaaDoor
open Go.RowKit Go.Lib EM
set_option maxRecDepth 100000

theorem only_next {a b c : World} {g : Option Nat} (h : a.grownBy b g) (k : Below a.heap.size b c) : a.grownBy c g :=
  ⟨k.os.trans h.os, k.tape.trans h.tape, k.output.trans h.output, Nat.le_trans h.size k.size, fun i hi hne => (k.block i hi).trans (h.block i hi hne)⟩
theorem only_first {a b c : World} {g : Option Nat} (h : Below a.heap.size a b) (k : b.grownBy c g) : a.grownBy c g :=
  ⟨k.os.trans h.os, k.tape.trans h.tape, k.output.trans h.output, Nat.le_trans h.size k.size, fun i hi hne => (k.block i (Nat.lt_of_lt_of_le hi h.size) hne).trans (h.block i hi)⟩

/-- The reader at block g: good, with a text left; or bad, with none. -/
def RdS (w : World) (g : Nat) (s : AM.St) : Prop := w.heap[g]? = some (.cells #[.string (tx (s.getD [])), .bool s.isSome] 42 (0, 0))
theorem RdS.lt {w : World} {g : Nat} {s : AM.St} (h : RdS w g s) : g < w.heap.size := (Array.getElem?_eq_some_iff.1 h).1
theorem RdS.below {w w' : World} {g : Nat} {s : AM.St} (h : RdS w g s) (hb : Below w.heap.size w w') : RdS w' g s := (hb.block g h.lt).trans h
theorem RdS.new (w : World) (l : List UInt8) : RdS (w.alloc (.cells #[.string (tx l), .bool true] 42)) w.heap.size (some l) := heap_alloc_new w _

/-- What goOn leaves. -/
def goS (s : AM.St) (l : List UInt8) (ok : Bool) : AM.St := if s.isSome && ok then some l else none
theorem goOn_ok (w : World) (g : Nat) (s : AM.St) (l : List UInt8) (ok : Bool) (h : RdS w g s) :
    Calls Tryd.prog 30 #[.pointer (some ⟨g, 0, none⟩), .string (tx l), .bool ok] w fun e w' => e = .returned (.tuple #[]) ∧ RdS w' g (goS s l ok) ∧ w.grownBy w' (some g) := by
  obtain ⟨h0, h1, f0, f1⟩ := two_cell h
  have HG := Lib.hid h
  clear h
  cases s with
  | none =>
    simp only [Option.getD_none, Option.isSome_none] at h0 h1
    go_enter Tryd.func30, Tryd.ntmps30
    go_wp2
    go_end0
    exact ⟨rfl, two_set0 (two_set1 HG.out _) _, only_set (only_set (only_refl _ _) 1 _) 0 _⟩
  | some l0 =>
    simp only [Option.getD_some, Option.isSome_some] at h0 h1
    cases ok with
    | false =>
      go_enter Tryd.func30, Tryd.ntmps30
      go_wp2
      go_end0
      exact ⟨rfl, two_set0 (two_set1 HG.out _) _, only_set (only_set (only_refl _ _) 1 _) 0 _⟩
    | true =>
      go_enter Tryd.func30, Tryd.ntmps30
      go_wp2
      go_end0
      exact ⟨rfl, two_set0 (two_set0 (two_set1 HG.out _) _) _, only_set (only_set (only_set (only_refl _ _) 1 _) 0 _) 0 _⟩
theorem pre_nil {p : List UInt8} (hp : p ≠ []) : AM.pre p [] = none := by
  unfold AM.pre
  rw [if_neg]
  intro h
  exact hp (List.prefix_nil.1 h)
theorem skip_ok (w : World) (g : Nat) (s : AM.St) (p : List UInt8) (hp : p ≠ []) (h : RdS w g s) :
    Calls Tryd.prog 16 #[.pointer (some ⟨g, 0, none⟩), .string (tx p)] w fun e w' => e = .returned (.tuple #[]) ∧ RdS w' g (AM.preS p s) ∧ w.grownBy w' (some g) := by
  obtain ⟨h0, h1, f0, f1⟩ := two_cell h
  have HG := Lib.hid h
  clear h f0 f1 h1
  cases hpr : AM.pre p (s.getD []) with
  | none =>
    have hS : ∀ r, goS s r false = AM.preS p s := fun r => by
      unfold goS AM.preS
      rw [Bool.and_false, if_neg (by simp)]
      cases s with
      | none => rfl
      | some l => exact hpr.symm
    have HC := Lib.hid (cut_none hpr w)
    have HGO := Lib.hid (goOn_ok w g s (s.getD []) false HG.out)
    rw [hS] at HGO
    clear hS hpr
    generalize AM.preS p s = S' at *
    generalize s.getD [] = L at *
    go_enter Tryd.func16, Tryd.ntmps16
    go_wp2_with (go_at_call 29; refine HC.out.mono ?_; rintro e wx ⟨rfl, hwx⟩; rw [hwx]; clear hwx wx)
    go_wp2_with (go_at_call 30; refine HGO.out.mono ?_; rintro e w1 ⟨rfl, hr, hg⟩; refine Hid.out ?_; have HR := Lib.hid hr; have HG1 := Lib.hid hg; clear hr hg; refine Lib.hid ?_)
    go_wp2
    go_end0
    exact ⟨rfl, HR.out, HG1.out⟩
  | some r =>
    have hS : goS s r true = AM.preS p s := by
      unfold goS AM.preS
      cases s with
      | none => rw [Option.getD_none, pre_nil hp] at hpr; cases hpr
      | some l => exact hpr.symm
    have HC := Lib.hid (cut_some hpr w)
    have HGO := Lib.hid (goOn_ok w g s r true HG.out)
    rw [hS] at HGO
    clear hS hpr
    generalize AM.preS p s = S' at *
    generalize s.getD [] = L at *
    go_enter Tryd.func16, Tryd.ntmps16
    go_wp2_with (go_at_call 29; refine HC.out.mono ?_; rintro e wx ⟨rfl, hwx⟩; rw [hwx]; clear hwx wx)
    go_wp2_with (go_at_call 30; refine HGO.out.mono ?_; rintro e w1 ⟨rfl, hr, hg⟩; refine Hid.out ?_; have HR := Lib.hid hr; have HG1 := Lib.hid hg; clear hr hg; refine Lib.hid ?_)
    go_wp2
    go_end0
    exact ⟨rfl, HR.out, HG1.out⟩

/-- take, of any call that makes things anew at most. -/
theorem takeI_ok (f : Nat) (w : World) (g : Nat) (s : AM.St) (v : Int) (r : List UInt8) (ok : Bool) (eg : ∀ args w, (callFunc f args).run Tryd.prog w = .ok (.enter f args) w) (h : RdS w g s)
    (hf : Calls Tryd.prog f #[.string (tx (s.getD []))] w fun e w' => e = .returned (.tuple #[.int .i64 v, .string (tx r), .bool ok]) ∧ Below w.heap.size w w') :
    Calls Tryd.prog 17 #[.pointer (some ⟨g, 0, none⟩), .func (.func f) #[] #[]] w fun e w' => e = .returned (.int .i64 v) ∧ RdS w' g (goS s r ok) ∧ w.grownBy w' (some g) := by
  obtain ⟨h0, h1, f0, f1⟩ := two_cell h
  have HG := Lib.hid h
  have HF := Lib.hid hf
  clear h f0 f1 h1 hf
  generalize hl : s.getD [] = L at h0 HF
  have HL := Lib.hid hl
  clear hl
  go_enter Tryd.func17, Tryd.ntmps17
  go_wp2_with fail
  refine HF.out.mono ?_
  rintro e w1 ⟨rfl, b1⟩
  have HGO := Lib.hid (goOn_ok w1 g s r ok (HG.out.below b1))
  have HB := Lib.hid b1
  clear b1
  go_wp2_with fail
  refine HGO.out.mono ?_
  rintro e w2 ⟨rfl, hr, hg⟩
  have HR := Lib.hid hr
  have HG2 := Lib.hid (only_first HB.out hg)
  clear hr hg
  go_wp2
  go_ret
  exact ⟨rfl, HR.out, HG2.out⟩
theorem takeT_ok (f : Nat) (w : World) (g : Nat) (s : AM.St) (v : ByteArray) (r : List UInt8) (ok : Bool) (eg : ∀ args w, (callFunc f args).run Tryd.prog w = .ok (.enter f args) w) (h : RdS w g s)
    (hf : Calls Tryd.prog f #[.string (tx (s.getD []))] w fun e w' => e = .returned (.tuple #[.string v, .string (tx r), .bool ok]) ∧ Below w.heap.size w w') :
    Calls Tryd.prog 35 #[.pointer (some ⟨g, 0, none⟩), .func (.func f) #[] #[]] w fun e w' => e = .returned (.string v) ∧ RdS w' g (goS s r ok) ∧ w.grownBy w' (some g) := by
  obtain ⟨h0, h1, f0, f1⟩ := two_cell h
  have HG := Lib.hid h
  have HF := Lib.hid hf
  clear h f0 f1 h1 hf
  generalize hl : s.getD [] = L at h0 HF
  have HL := Lib.hid hl
  clear hl
  go_enter Tryd.func35, Tryd.ntmps35
  go_wp2_with fail
  refine HF.out.mono ?_
  rintro e w1 ⟨rfl, b1⟩
  have HGO := Lib.hid (goOn_ok w1 g s r ok (HG.out.below b1))
  have HB := Lib.hid b1
  clear b1
  go_wp2_with fail
  refine HGO.out.mono ?_
  rintro e w2 ⟨rfl, hr, hg⟩
  have HR := Lib.hid hr
  have HG2 := Lib.hid (only_first HB.out hg)
  clear hr hg
  go_wp2
  go_ret
  exact ⟨rfl, HR.out, HG2.out⟩
end Go.Proofs.YtciogdhapogolaaDoor
