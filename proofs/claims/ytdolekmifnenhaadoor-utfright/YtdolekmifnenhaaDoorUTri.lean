/-
  An argument that is an array of three bytes: what comes in, and that it reads so behind the call.
-/
import Derived.Test.YtdolekmifnenhaaDoorRows
import Derived.WideKeyArr
import Derived.ChangeSame
namespace Go.Proofs.YtdolekmifnenhaaDoor
open Go.ChangeShapes Go.WideShapes

section
variable {H : Type} {enc : TypeId × Value → H} {W : World} {base : Nat} {sp : Nat → Bool} {held : Bool}
theorem open_tri {r : Reach} {b0 : Nat} {v : Value} {d : DataW H} {ps : List MemPlace} (hval : Value.okWide Tryd.prog W r b0 27 v) (hd : DataW.Trod enc Tryd.prog W base sp held 27 v d ps) :
    ∃ a b c : Int, v = .agg #[.int .u8 a, .int .u8 b, .int .u8 c] ∧ d = .agg [.lit (.int .u8 a), .lit (.int .u8 b), .lit (.int .u8 c)] ∧ ps = [] ∧ (Lit.int .u8 a).wf = true ∧ (Lit.int .u8 b).wf = true ∧ (Lit.int .u8 c).wf = true := by
  have hu := Tryd.underlying27
  have hs : Tryd.prog.cellsOf 27 = 3 := by kernel_rfl
  have h1 : Tryd.prog.cellsOf 5 = 1 := by kernel_rfl
  obtain ⟨c0, c1, c2, rfl⟩ : ∃ c0 c1 c2, v = .agg #[c0, c1, c2] := by
    simp only [Value.okWide, hu] at hval
    obtain ⟨cs, e1, e2, _⟩ := hval
    rw [hs] at e2
    obtain ⟨l⟩ := cs
    match l, e2 with
    | [c0, c1, c2], _ => exact ⟨c0, c1, c2, e1⟩
  obtain ⟨fuel, hf⟩ := hd
  cases fuel with
  | zero => simp [DataW.trod] at hf
  | succ n =>
    rw [DataW.trod_step] at hf
    unfold DataW.trodStep at hf
    simp only [hu, Value.cells] at hf
    rw [if_pos (by rw [hs]; rfl)] at hf
    simp only [Option.map_eq_some_iff] at hf
    obtain ⟨xs, hx, e1⟩ := hf
    rw [show List.range 3 = [0, 1, 2] from rfl, List.mapM_cons, List.mapM_cons, List.mapM_cons, List.mapM_nil] at hx
    simp only [bind, Option.bind_eq_some_iff, pure, Option.some.injEq, h1] at hx
    obtain ⟨y0, k0, _, ⟨y1, k1, _, ⟨y2, k2, _, rfl, rfl⟩, rfl⟩, rfl⟩ := hx
    obtain ⟨a, ea, rfl, wa⟩ := DataW.trod_int Tryd.underlying5 k0
    obtain ⟨b, eb, rfl, wb⟩ := DataW.trod_int Tryd.underlying5 k1
    obtain ⟨c, ec, rfl, wc⟩ := DataW.trod_int Tryd.underlying5 k2
    simp at ea eb ec
    subst ea; subst eb; subst ec
    simp only [Prod.mk.injEq] at e1
    exact ⟨a, b, c, rfl, by rw [← e1.1]; rfl, by rw [← e1.2]; rfl, wa, wb, wc⟩
theorem shut_tri {a b c : Int} (wa : (Lit.int .u8 a).wf = true) (wb : (Lit.int .u8 b).wf = true) (wc : (Lit.int .u8 c).wf = true) :
    DataW.Trod enc Tryd.prog W base sp held 27 (.agg #[.int .u8 a, .int .u8 b, .int .u8 c]) (.agg [.lit (.int .u8 a), .lit (.int .u8 b), .lit (.int .u8 c)]) [] :=
  ⟨2, by
    have hu := Tryd.underlying27
    have hs : Tryd.prog.cellsOf 27 = 3 := by kernel_rfl
    have h1 : Tryd.prog.cellsOf 5 = 1 := by kernel_rfl
    have he := Tryd.underlying5
    show DataW.trod enc Tryd.prog W base sp held (1 + 1) 27 [.int .u8 a, .int .u8 b, .int .u8 c] = _
    rw [DataW.trod_step]
    unfold DataW.trodStep
    simp only [hu]
    rw [if_pos (by rw [hs]; rfl), show List.range 3 = [0, 1, 2] from rfl, List.mapM_cons, List.mapM_cons, List.mapM_cons, List.mapM_nil]
    simp [h1, DataW.trod, he, wa, wb, wc]⟩
end
end Go.Proofs.YtdolekmifnenhaaDoor
