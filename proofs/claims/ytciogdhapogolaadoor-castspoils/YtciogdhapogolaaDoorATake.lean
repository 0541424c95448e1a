/-
  Layer 17 (cast): the reader's four parts that say something.
-/
import Derived.Test.YtciogdhapogolaaDoorARdr
import Derived.Test.YtciogdhapogolaaDoorAKind
set_option linter.unusedVariables false
namespace Go.Proofs.YtciogdhapogolaaDoor
open Go.RowKit Go.Lib EM
set_option maxRecDepth 100000

theorem takeNum_ok (w : World) (g : Nat) (s : AM.St) (h : RdS w g s) (hl : (s.getD []).length ≤ 1000000) (hN : Num w) :
    Calls Tryd.prog 17 #[.pointer (some ⟨g, 0, none⟩), .func (.func 18) #[] #[]] w fun e w' => e = .returned (.int .i64 ((AM.numS s).1 : Int)) ∧ RdS w' g (AM.numS s).2 ∧ w.grownBy w' (some g) := by
  have eg : ∀ args w, (callFunc 18 args).run Tryd.prog w = .ok (.enter 18 args) w := enters_of Tryd.func18 (by kernel_rfl) rfl
  cases s with
  | none =>
    have := takeI_ok 18 w g none 0 [] false eg h (num_not (l := []) rfl hl w hN)
    exact this
  | some l =>
    cases hp : JM.num l with
    | none =>
      have := takeI_ok 18 w g (some l) 0 [] false eg h (num_not (l := l) hp hl w hN)
      have e : AM.numS (some l) = (0, none) := by unfold AM.numS; rw [Option.bind_some, hp]
      rw [e]
      exact this
    | some p =>
      obtain ⟨n, r⟩ := p
      have := takeI_ok 18 w g (some l) (n : Int) r true eg h (num_some (l := l) hp hl w hN)
      have e : AM.numS (some l) = (n, some r) := by unfold AM.numS; rw [Option.bind_some, hp]
      rw [e]
      exact this
theorem takeUtm_ok (w : World) (g : Nat) (s : AM.St) (h : RdS w g s) (hl : (s.getD []).length ≤ 1000000) (hN : Num w) :
    Calls Tryd.prog 17 #[.pointer (some ⟨g, 0, none⟩), .func (.func 33) #[] #[]] w fun e w' => e = .returned (.int .i64 ((AM.utmS s).1 : Int)) ∧ RdS w' g (AM.utmS s).2 ∧ w.grownBy w' (some g) := by
  have eg : ∀ args w, (callFunc 33 args).run Tryd.prog w = .ok (.enter 33 args) w := enters_of Tryd.func33 (by kernel_rfl) rfl
  cases s with
  | none =>
    have := takeI_ok 33 w g none 0 [] false eg h (utm_not (l := []) rfl hl w hN)
    exact this
  | some l =>
    cases hp : JM.utm l with
    | none =>
      have := takeI_ok 33 w g (some l) 0 [] false eg h (utm_not (l := l) hp hl w hN)
      have e : AM.utmS (some l) = (0, none) := by unfold AM.utmS; rw [Option.bind_some, hp]
      rw [e]
      exact this
    | some p =>
      obtain ⟨n, r⟩ := p
      have := takeI_ok 33 w g (some l) (n : Int) r true eg h (utm_some (l := l) hp hl w hN)
      have e : AM.utmS (some l) = (n, some r) := by unfold AM.utmS; rw [Option.bind_some, hp]
      rw [e]
      exact this
theorem kind_not {l : List UInt8} (h : AM.kindR l = none) (w : World) (hG : Sgn w) : Calls Tryd.prog 34 #[.string (tx l)] w fun e w' => e = .returned (.tuple #[.int .i64 0, .string (tx []), .bool false]) ∧ Below w.heap.size w w' := by
  have := kind_ok w l hG
  rw [h] at this
  exact this
theorem kind_is {l r : List UInt8} {k : Int} (h : AM.kindR l = some (k, r)) (w : World) (hG : Sgn w) : Calls Tryd.prog 34 #[.string (tx l)] w fun e w' => e = .returned (.tuple #[.int .i64 k, .string (tx r), .bool true]) ∧ Below w.heap.size w w' := by
  have := kind_ok w l hG
  rw [h] at this
  exact this
theorem takeKind_ok (w : World) (g : Nat) (s : AM.St) (h : RdS w g s) (hG : Sgn w) :
    Calls Tryd.prog 17 #[.pointer (some ⟨g, 0, none⟩), .func (.func 34) #[] #[]] w fun e w' => e = .returned (.int .i64 (AM.kindS s).1) ∧ RdS w' g (AM.kindS s).2 ∧ w.grownBy w' (some g) := by
  have eg : ∀ args w, (callFunc 34 args).run Tryd.prog w = .ok (.enter 34 args) w := enters_of Tryd.func34 (by kernel_rfl) rfl
  cases s with
  | none =>
    have := takeI_ok 34 w g none 0 [] false eg h (kind_not (l := []) rfl w hG)
    exact this
  | some l =>
    cases hp : AM.kindR l with
    | none =>
      have := takeI_ok 34 w g (some l) 0 [] false eg h (kind_not (l := l) hp w hG)
      have e : AM.kindS (some l) = (0, none) := by unfold AM.kindS; rw [Option.bind_some, hp]
      rw [e]
      exact this
    | some p =>
      obtain ⟨n, r⟩ := p
      have := takeI_ok 34 w g (some l) n r true eg h (kind_is (l := l) hp w hG)
      have e : AM.kindS (some l) = (n, some r) := by unfold AM.kindS; rw [Option.bind_some, hp]
      rw [e]
      exact this
theorem takeUnq_ok (w : World) (g : Nat) (s : AM.St) (h : RdS w g s) (hl : (s.getD []).length ≤ 1000000) (hF : Fmt w) (hN : Num w) (hU : Utf w) :
    Calls Tryd.prog 35 #[.pointer (some ⟨g, 0, none⟩), .func (.func 36) #[] #[]] w fun e w' => e = .returned (.string (tx (AM.unqS s).1)) ∧ RdS w' g (AM.unqS s).2 ∧ w.grownBy w' (some g) := by
  have eg : ∀ args w, (callFunc 36 args).run Tryd.prog w = .ok (.enter 36 args) w := enters_of Tryd.func36 (by kernel_rfl) rfl
  cases s with
  | none =>
    have := takeT_ok 36 w g none ⟨#[]⟩ [] false eg h (unq_not (l := []) rfl hl w hF hN hU)
    exact this
  | some l =>
    cases hp : JM.unq l with
    | none =>
      have := takeT_ok 36 w g (some l) ⟨#[]⟩ [] false eg h (unq_not (l := l) hp hl w hF hN hU)
      have e : AM.unqS (some l) = ([], none) := by unfold AM.unqS; rw [Option.bind_some, hp]
      rw [e]
      exact this
    | some p =>
      obtain ⟨rs, r⟩ := p
      have := takeT_ok 36 w g (some l) (tx (rs.flatMap JM.enc)) r true eg h (unq_some (l := l) hp hl w hF hN hU)
      have e : AM.unqS (some l) = (rs.flatMap JM.enc, some r) := by unfold AM.unqS; rw [Option.bind_some, hp]
      rw [e]
      exact this
end Go.Proofs.YtciogdhapogolaaDoor
