/-
  Layer 17 (cast): the landed code's table of signs, and sign.
-/
import Derived.Test.YtciogdhapogolaaDoorAText
set_option linter.unusedVariables false
namespace Go.Proofs.YtciogdhapogolaaDoor
open Go.RowKit Go.Lib EM
set_option maxRecDepth 100000

/-- What the table of signs holds. -/
def signL : List (List UInt8) := [[111], [105], [114], [109]]
def Sgn (w : World) : Prop := w.var? Tryd.prog "flipbook/cast.signs" = some (signL.map fun z => Value.string (tx z)).toArray
theorem Sgn.on {w w' : World} (h : Sgn w) (b : Below w.heap.size w w') : Sgn w' := var_on h b
theorem Sgn.cell {w : World} (h : Sgn w) (i : Nat) (hi : i < 4) : w.cell? ⟨0, i, none⟩ = some (.string (tx (signL.getD i []))) := by
  have := World.var?_cell (show Tryd.prog.globalNamed "flipbook/cast.signs" = some 0 by kernel_rfl) h i
  have h4 : i = 0 ∨ i = 1 ∨ i = 2 ∨ i = 3 := by omega
  rcases h4 with rfl | rfl | rfl | rfl <;> exact this
theorem Sgn.size {w : World} (h : Sgn w) : 0 < w.heap.size := by
  have := h.cell 0 (by omega)
  rcases Nat.lt_or_ge 0 w.heap.size with h' | h'
  · exact h'
  · simp [World.cell?, Array.getElem?_eq_none h'] at this
/-- What writing reads. -/
structure Fms (w : World) : Prop where
  fmt : Fmt w
  sgn : Sgn w
theorem Fms.on {w w' : World} (h : Fms w) (b : Below w.heap.size w w') : Fms w' := ⟨h.fmt.on b, h.sgn.on b⟩
/-- An array of texts that reads as these holds them, cell for cell. -/
theorem cells_of_txs {H : Type} {enc : TypeId × Value → H} {P : Program} {w : World} {base : Nat} {sp : Nat → Bool} {held : Bool} {fuel : Nat} {t e : TypeId} {n : Nat} {cs : List Value} {zs : List (List UInt8)} {p : List MemPlace}
    (ht : P.underlying t = some (.array n e)) (he : P.underlying e = some .string) (hce : P.cellsOf e = 1) (hct : P.cellsOf t = n)
    (h : DataW.trod enc P w base sp held fuel t cs = some (.agg (zs.map fun z => .lit (.string z)), p)) : cs = zs.map fun z => Value.string (tx z) := by
  cases fuel with
  | zero => simp [DataW.trod] at h
  | succ fuel =>
    simp only [DataW.trod, ht, hce, hct, Nat.mul_one] at h
    split at h
    · rename_i hl
      obtain ⟨xs, hm, hx⟩ := Option.map_eq_some_iff.1 h
      have hxs : xs.map (·.1) = zs.map fun z => (DataW.lit (.string z) : DataW H) := by
        have := congrArg Prod.fst hx
        simpa using this
      have hxl : xs.length = n := by simpa using mapM_length hm
      have hzl : zs.length = n := by
        have := congrArg List.length hxs
        simp at this
        omega
      apply List.ext_getElem?
      intro i
      by_cases hi : i < n
      · obtain ⟨b, hb, hf⟩ := mapM_at hm i i (by simp [hi])
        obtain ⟨s, hc, rfl, _⟩ := DataW.trod_string he hf
        have h1 : cs[i]? = some (.string s) := by
          have := congrArg (·[0]?) hc
          simpa [List.getElem?_take, List.getElem?_drop] using this
        have h2 : (xs.map (·.1))[i]? = some (DataW.lit (.string s.data.toList) : DataW H) := by simp [hb]
        rw [hxs] at h2
        simp only [List.getElem?_map, Option.map_eq_some_iff, DataW.lit.injEq, Lit.string.injEq] at h2
        obtain ⟨z', hz', rfl⟩ := h2
        rw [h1, List.getElem?_map, hz', Option.map_some, tx_of]
      · rw [List.getElem?_eq_none (by omega), List.getElem?_eq_none (by simp; omega)]
    · cases h
theorem signD : (Rows.laid_flipbook_cast_signs : DataW Unit) = .agg (signL.map fun z => .lit (.string z)) := by kernel_rfl
theorem sgn_of_reads {W : World} (h : VarReads Tryd.prog W "flipbook/cast.signs" Rows.laid_flipbook_cast_signs) : Sgn W := by
  rw [signD] at h
  obtain ⟨g, t, cs, fuel, p, hg, ht, hvar, hd⟩ := h
  obtain rfl := Option.some.inj ((show Tryd.prog.globalNamed "flipbook/cast.signs" = some 0 by kernel_rfl).symm.trans hg)
  obtain rfl := Option.some.inj ((show (Tryd.prog.globals[0]?).map (·.type) = some 68 by kernel_rfl).symm.trans ht)
  unfold Sgn
  rw [hvar, ← cells_of_txs Tryd.underlying68 Tryd.underlying9 (by kernel_rfl) (by kernel_rfl) hd]
end Go.Proofs.YtciogdhapogolaaDoor
