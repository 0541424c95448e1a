/-
  A region that draws its order, walked once in the text's order, where what it calls makes memory but keeps all that S says.
-/
import Derived.Test.YtciogdhapogolaaDoorEEv
import Derived.BigQuiet
import Derived.Deep.Quiet
import Derived.Deep.QuietTactic
import Derived.Deep.CutRange
import Derived.Outline
namespace Go.Proofs.YtciogdhapogolaaDoor
open Go.RowKit Go.Lib

/-- A world of which S holds. -/
structure Wd (S : World → Prop) where
  w : World
  h : S w
theorem region_in {P : Program} {id : Nat} {Q : Exit → Act → World → Prop} {a : Act} {w : World} {l : List Oper} (S : World → Prop) (hm : P.follows .mixedOrders = true) (hB : Region.lexB .any l.toArray = true) (hS : S w.drew)
    (h : wpQuiet P l.toArray (fun v => ∃ u : Wd S, v = u.w) (fun a' => ∀ w', (∃ u : Wd S, w' = u.w) → Q .normal a' w') l a) : (Code.region id l.toArray true).wp P Q a w :=
  wp_region_quiet (C := fun v => ∃ u : Wd S, v = u.w) hm hB ⟨⟨_, hS⟩, rfl⟩ (by simpa using h)
theorem below_drewN {B : Nat} {a w : World} (h : Below B a w) (n : Nat) : Below B a (w.drewN n) := ⟨h.os, h.tape, h.output, h.size, h.block⟩
end Go.Proofs.YtciogdhapogolaaDoor
