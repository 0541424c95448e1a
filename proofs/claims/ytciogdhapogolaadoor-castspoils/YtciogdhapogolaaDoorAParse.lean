/-
  Layer 17 (cast): CutPrefix, Number, Untime, Unquote in the words of AMath.
-/
import Derived.Test.YtciogdhapogolaaDoorAText
import Derived.Test.YtciogdhapogolaaDoorJUnq
set_option linter.unusedVariables false
namespace Go.Proofs.YtciogdhapogolaaDoor
open Go.RowKit Go.Lib EM

/-- Four results. -/
theorem results_tmp4 {fn : Func} {t u v x : Tmp} (h : fn.results = #[.tmp t, .tmp u, .tmp v, .tmp x]) (tmps : Array Value) (P : Program) (w : World) :
    (results fn tmps).run P w = .ok (.tuple #[tmps.getD t undef, tmps.getD u undef, tmps.getD v undef, tmps.getD x undef]) w := by
  simp [results, h]
theorem pre_len {p l r : List UInt8} (h : AM.pre p l = some r) : r.length ≤ l.length := by
  rw [AM.pre_back h, List.length_append]
  omega
theorem cut_some {p l r : List UInt8} (h : AM.pre p l = some r) (w : World) :
    Calls Tryd.prog 29 #[.string (tx l), .string (tx p)] w fun e w' => e = .returned (.tuple #[.string (tx r), .bool true]) ∧ w' = w := by
  unfold AM.pre at h
  split at h
  · rename_i hp
    have := cut_yes l p hp w
    cases h
    exact this
  · cases h
theorem cut_none {p l : List UInt8} (h : AM.pre p l = none) (w : World) :
    Calls Tryd.prog 29 #[.string (tx l), .string (tx p)] w fun e w' => e = .returned (.tuple #[.string (tx l), .bool false]) ∧ w' = w := by
  unfold AM.pre at h
  split at h
  · cases h
  · rename_i hp
    exact cut_no l p hp w
theorem num_some {l r : List UInt8} {n : Nat} (h : JM.num l = some (n, r)) (hl : l.length ≤ 1000000) (w : World) (hN : Num w) :
    Calls Tryd.prog 18 #[.string (tx l)] w fun e w' => e = .returned (.tuple #[.int .i64 (n : Int), .string (tx r), .bool true]) ∧ Below w.heap.size w w' := by
  have := number_ok (tx l) (by rw [tx_size]; exact hl) w hN
  rw [tx_list, h, numV_some] at this
  exact this
theorem num_not {l : List UInt8} (h : JM.num l = none) (hl : l.length ≤ 1000000) (w : World) (hN : Num w) :
    Calls Tryd.prog 18 #[.string (tx l)] w fun e w' => e = .returned (.tuple #[.int .i64 0, .string ⟨#[]⟩, .bool false]) ∧ Below w.heap.size w w' := by
  have := number_ok (tx l) (by rw [tx_size]; exact hl) w hN
  rw [tx_list, h, numV_none] at this
  exact this
theorem utm_some {l r : List UInt8} {n : Nat} (h : JM.utm l = some (n, r)) (hl : l.length ≤ 1000000) (w : World) (hN : Num w) :
    Calls Tryd.prog 33 #[.string (tx l)] w fun e w' => e = .returned (.tuple #[.int .i64 (n : Int), .string (tx r), .bool true]) ∧ Below w.heap.size w w' := by
  have := untime_ok (tx l) (by rw [tx_size]; exact hl) w hN
  rw [tx_list, h, numV_some] at this
  exact this
theorem utm_not {l : List UInt8} (h : JM.utm l = none) (hl : l.length ≤ 1000000) (w : World) (hN : Num w) :
    Calls Tryd.prog 33 #[.string (tx l)] w fun e w' => e = .returned (.tuple #[.int .i64 0, .string ⟨#[]⟩, .bool false]) ∧ Below w.heap.size w w' := by
  have := untime_ok (tx l) (by rw [tx_size]; exact hl) w hN
  rw [tx_list, h, numV_none] at this
  exact this
theorem unq_some {l r : List UInt8} {rs : List Nat} (h : JM.unq l = some (rs, r)) (hl : l.length ≤ 1000000) (w : World) (hF : Fmt w) (hN : Num w) (hU : Utf w) :
    Calls Tryd.prog 36 #[.string (tx l)] w fun e w' => e = .returned (.tuple #[.string (tx (rs.flatMap JM.enc)), .string (tx r), .bool true]) ∧ Below w.heap.size w w' := by
  have := unquote_ok l hl w hF hN hU
  rw [h, unV_some] at this
  exact this
theorem unq_not {l : List UInt8} (h : JM.unq l = none) (hl : l.length ≤ 1000000) (w : World) (hF : Fmt w) (hN : Num w) (hU : Utf w) :
    Calls Tryd.prog 36 #[.string (tx l)] w fun e w' => e = .returned (.tuple #[.string ⟨#[]⟩, .string ⟨#[]⟩, .bool false]) ∧ Below w.heap.size w w' := by
  have := unquote_ok l hl w hF hN hU
  rw [h, unV_none] at this
  exact this
theorem num_len {l r : List UInt8} {n : Nat} (h : JM.num l = some (n, r)) : r.length ≤ l.length := by
  rw [← JM.num_back h, List.length_append]
  omega
theorem utm_len {l r : List UInt8} {n : Nat} (h : JM.utm l = some (n, r)) : r.length ≤ l.length := by
  rw [← (JM.utm_back h).1, List.length_append]
  omega
end Go.Proofs.YtciogdhapogolaaDoor
