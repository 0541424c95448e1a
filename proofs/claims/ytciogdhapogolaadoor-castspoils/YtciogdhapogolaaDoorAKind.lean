/-
  Layer 17 (cast): kind, as it landed.
-/
import Derived.Test.YtciogdhapogolaaDoorARdr
set_option linter.unusedVariables false
namespace Go.Proofs.YtciogdhapogolaaDoor
open Go.RowKit Go.Lib EM
set_option maxRecDepth 100000

theorem kind_none {l : List UInt8} (h : ∀ j, j < 4 → AM.pre (signL.getD j []) l = none) : AM.kindR l = none := by
  cases l with
  | nil => rfl
  | cons b t =>
    have h0 := h 0 (by omega)
    have h1 := h 1 (by omega)
    have h2 := h 2 (by omega)
    have h3 := h 3 (by omega)
    have key : ∀ x : UInt8, AM.pre [x] (b :: t) = none → b ≠ x := by
      intro x hx e
      subst e
      have := AM.pre_app [b] t
      rw [List.singleton_append, hx] at this
      cases this
    have n0 := key 111 h0
    have n1 := key 105 h1
    have n2 := key 114 h2
    have n3 := key 109 h3
    simp [AM.kindR, AM.signK, n0, n1, n2, n3]
theorem kind_some {l r : List UInt8} {k : Nat} (hk : k < 4) (h : AM.pre (signL.getD k []) l = some r) : AM.kindR l = some ((k : Int), r) := by
  have := AM.pre_back h
  subst this
  have hz : k = 0 ∨ k = 1 ∨ k = 2 ∨ k = 3 := by omega
  rcases hz with rfl | rfl | rfl | rfl <;> rfl
/-- What kind answers. -/
def KindPost (w : World) (o : Option (Int × List UInt8)) (e : Ending) (w' : World) : Prop :=
  (match o with
  | some p => e = .returned (.tuple #[.int .i64 p.1, .string (tx p.2), .bool true])
  | none => e = .returned (.tuple #[.int .i64 0, .string ⟨#[]⟩, .bool false])) ∧ Below w.heap.size w w'
theorem index_sign0 (w : World) (a b c d : ByteArray) : (Instr.index 68 (.agg #[.string a, .string b, .string c, .string d]) (.int .i64 0)).run Tryd.prog w = .ok (.string a) w := by kernel_rfl
theorem index_sign1 (w : World) (a b c d : ByteArray) : (Instr.index 68 (.agg #[.string a, .string b, .string c, .string d]) (.int .i64 1)).run Tryd.prog w = .ok (.string b) w := by kernel_rfl
theorem index_sign2 (w : World) (a b c d : ByteArray) : (Instr.index 68 (.agg #[.string a, .string b, .string c, .string d]) (.int .i64 2)).run Tryd.prog w = .ok (.string c) w := by kernel_rfl
theorem index_sign3 (w : World) (a b c d : ByteArray) : (Instr.index 68 (.agg #[.string a, .string b, .string c, .string d]) (.int .i64 3)).run Tryd.prog w = .ok (.string d) w := by kernel_rfl
set_option maxHeartbeats 4000000 in
theorem kind_ok (w : World) (l : List UInt8) (hG : Sgn w) : Calls Tryd.prog 34 #[.string (tx l)] w (KindPost w (AM.kindR l)) := by
  have c0 : w.cell? ⟨0, 0, none⟩ = some (.string (tx [111])) := hG.cell 0 (by omega)
  have c1 : w.cell? ⟨0, 1, none⟩ = some (.string (tx [105])) := hG.cell 1 (by omega)
  have c2 : w.cell? ⟨0, 2, none⟩ = some (.string (tx [114])) := hG.cell 2 (by omega)
  have c3 : w.cell? ⟨0, 3, none⟩ = some (.string (tx [109])) := hG.cell 3 (by omega)
  clear hG
  have hN : (∀ j, j < 4 → AM.pre (signL.getD j []) l = none) → AM.kindR l = none := kind_none
  have hS : ∀ (k : Nat) (r : List UInt8), k < 4 → AM.pre (signL.getD k []) l = some r → AM.kindR l = some ((k : Int), r) := fun k r hk h => kind_some hk h
  generalize hR : AM.kindR l = R at *
  have HN := Lib.hid hN
  have HS := Lib.hid hS
  have HC0 := Lib.hid (show ∀ p, AM.pre p l = none → Calls Tryd.prog 29 #[.string (tx l), .string (tx p)] w fun e w' => e = .returned (.tuple #[.string (tx l), .bool false]) ∧ w' = w from fun p h => cut_none h w)
  have HC1 := Lib.hid (show ∀ p r, AM.pre p l = some r → Calls Tryd.prog 29 #[.string (tx l), .string (tx p)] w fun e w' => e = .returned (.tuple #[.string (tx r), .bool true]) ∧ w' = w from fun p r h => cut_some h w)
  clear hN hS hR
  have hx0 := fun v => index_sign0 v (tx [111]) (tx [105]) (tx [114]) (tx [109])
  have hx1 := fun v => index_sign1 v (tx [111]) (tx [105]) (tx [114]) (tx [109])
  have hx2 := fun v => index_sign2 v (tx [111]) (tx [105]) (tx [114]) (tx [109])
  have hx3 := fun v => index_sign3 v (tx [111]) (tx [105]) (tx [114]) (tx [109])
  go_enter Tryd.func34, Tryd.ntmps34
  go_wp2
  go_loopw [10] (fun i wr => ∃ k : Nat, k ≤ 4 ∧ i = .int .i64 (k : Int) ∧ wr = w ∧ Hid (∀ j, j < k → AM.pre (signL.getD j []) l = none)) (fun i _ => 4 - (RowKit.intOf i).toNat)
  case atStart => exact ⟨0, Nat.zero_le _, rfl, rfl, Lib.hid (fun j hj => absurd hj (Nat.not_lt_zero _))⟩
  case round =>
    obtain ⟨k, hk, rfl, rfl, hA⟩ := hrel
    have hz : k = 0 ∨ k = 1 ∨ k = 2 ∨ k = 3 ∨ k = 4 := by omega
    clear c0 c1 c2 c3 hk
    rcases hz with rfl | rfl | rfl | rfl | rfl
    · cases h : AM.pre [111] l with
      | none =>
        have HA := Lib.hid (show ∀ j, j < 1 → AM.pre (signL.getD j []) l = none from fun j hj => by
          rcases Nat.lt_or_ge j 0 with h1 | h1
          · exact hA.out j h1
          · obtain rfl : j = 0 := by omega
            exact h)
        have hc := Lib.hid (HC0.out _ h)
        clear hA h
        go_wp2_with fail
        refine hc.out.mono ?_
        rintro e wx ⟨rfl, hwx⟩
        rw [hwx]
        clear hwx wx
        go_wp2_with fail
        go_roundw
        case rel => exact ⟨1, by omega, rfl, by trivial, HA⟩
        case measure => simp [RowKit.intOf]
      | some r =>
        have e := HS.out 0 r (by omega) h
        subst e
        have hc := Lib.hid (HC1.out _ _ h)
        clear hA h
        go_wp2_with fail
        refine hc.out.mono ?_
        rintro e wx ⟨rfl, hwx⟩
        rw [hwx]
        clear hwx wx
        go_wp2
        (try simp only [Exit.inBlock, Exit.then])
        go_ret3
        exact ⟨rfl, Below.refl _ _⟩
    · cases h : AM.pre [105] l with
      | none =>
        have HA := Lib.hid (show ∀ j, j < 2 → AM.pre (signL.getD j []) l = none from fun j hj => by
          rcases Nat.lt_or_ge j 1 with h1 | h1
          · exact hA.out j h1
          · obtain rfl : j = 1 := by omega
            exact h)
        have hc := Lib.hid (HC0.out _ h)
        clear hA h
        go_wp2_with fail
        refine hc.out.mono ?_
        rintro e wx ⟨rfl, hwx⟩
        rw [hwx]
        clear hwx wx
        go_wp2_with fail
        go_roundw
        case rel => exact ⟨2, by omega, rfl, by trivial, HA⟩
        case measure => simp [RowKit.intOf]
      | some r =>
        have e := HS.out 1 r (by omega) h
        subst e
        have hc := Lib.hid (HC1.out _ _ h)
        clear hA h
        go_wp2_with fail
        refine hc.out.mono ?_
        rintro e wx ⟨rfl, hwx⟩
        rw [hwx]
        clear hwx wx
        go_wp2
        (try simp only [Exit.inBlock, Exit.then])
        go_ret3
        exact ⟨rfl, Below.refl _ _⟩
    · cases h : AM.pre [114] l with
      | none =>
        have HA := Lib.hid (show ∀ j, j < 3 → AM.pre (signL.getD j []) l = none from fun j hj => by
          rcases Nat.lt_or_ge j 2 with h1 | h1
          · exact hA.out j h1
          · obtain rfl : j = 2 := by omega
            exact h)
        have hc := Lib.hid (HC0.out _ h)
        clear hA h
        go_wp2_with fail
        refine hc.out.mono ?_
        rintro e wx ⟨rfl, hwx⟩
        rw [hwx]
        clear hwx wx
        go_wp2_with fail
        go_roundw
        case rel => exact ⟨3, by omega, rfl, by trivial, HA⟩
        case measure => simp [RowKit.intOf]
      | some r =>
        have e := HS.out 2 r (by omega) h
        subst e
        have hc := Lib.hid (HC1.out _ _ h)
        clear hA h
        go_wp2_with fail
        refine hc.out.mono ?_
        rintro e wx ⟨rfl, hwx⟩
        rw [hwx]
        clear hwx wx
        go_wp2
        (try simp only [Exit.inBlock, Exit.then])
        go_ret3
        exact ⟨rfl, Below.refl _ _⟩
    · cases h : AM.pre [109] l with
      | none =>
        have HA := Lib.hid (show ∀ j, j < 4 → AM.pre (signL.getD j []) l = none from fun j hj => by
          rcases Nat.lt_or_ge j 3 with h1 | h1
          · exact hA.out j h1
          · obtain rfl : j = 3 := by omega
            exact h)
        have hc := Lib.hid (HC0.out _ h)
        clear hA h
        go_wp2_with fail
        refine hc.out.mono ?_
        rintro e wx ⟨rfl, hwx⟩
        rw [hwx]
        clear hwx wx
        go_wp2_with fail
        go_roundw
        case rel => exact ⟨4, by omega, rfl, by trivial, HA⟩
        case measure => simp [RowKit.intOf]
      | some r =>
        have e := HS.out 3 r (by omega) h
        subst e
        have hc := Lib.hid (HC1.out _ _ h)
        clear hA h
        go_wp2_with fail
        refine hc.out.mono ?_
        rintro e wx ⟨rfl, hwx⟩
        rw [hwx]
        clear hwx wx
        go_wp2
        (try simp only [Exit.inBlock, Exit.then])
        go_ret3
        exact ⟨rfl, Below.refl _ _⟩
    · have e := HN.out hA.out
      subst e
      go_wp2
      (try simp only [Exit.inBlock, Exit.then])
      go_ret3
      exact ⟨rfl, Below.refl _ _⟩
end Go.Proofs.YtciogdhapogolaaDoor
