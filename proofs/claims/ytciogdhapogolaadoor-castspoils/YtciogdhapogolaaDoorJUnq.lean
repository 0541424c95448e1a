/-
  Layer 3 (json): Unquote.
-/
import Derived.Test.YtciogdhapogolaaDoorJMeant
import Derived.Test.YtciogdhapogolaaDoorJUntime
import Derived.Deep.RegionWith
set_option linter.unusedVariables false
namespace Go.Proofs.YtciogdhapogolaaDoor
open Go.RowKit

/-- What Unquote answers. -/
def unV : Option (List Nat × List UInt8) → Value
  | some (rs, r) => .tuple #[.string (tx (rs.flatMap JM.enc)), .string (tx r), .bool true]
  | none => .tuple #[.string ⟨#[]⟩, .string ⟨#[]⟩, .bool false]
theorem unV_some (rs : List Nat) (r : List UInt8) : unV (some (rs, r)) = .tuple #[.string (tx (rs.flatMap JM.enc)), .string (tx r), .bool true] := rfl
theorem unV_none : unV none = .tuple #[.string ⟨#[]⟩, .string ⟨#[]⟩, .bool false] := rfl
def strLen : Value → Nat | .string s => s.size | _ => 0
theorem quote_iff (r : List UInt8) : [34] <+: r ↔ r.getD 0 0 = 34 := by
  cases r with
  | nil => simp
  | cons b t => simp [List.cons_prefix_cons, eq_comm]

set_option maxHeartbeats 4000000 in
set_option maxRecDepth 100000 in
theorem unquote_ok (l : List UInt8) (hl : l.length ≤ 1000000) (w : World) (hF : Fmt w) (hN : Num w) (hU : Utf w) :
    Calls Tryd.prog 36 #[.string (tx l)] w fun e w' => e = .returned (unV (JM.unq l)) ∧ Below w.heap.size w w' := by
  by_cases c0 : l.getD 0 0 = 34
  · have hcut := cut_yes l [34] ((quote_iff l).2 c0)
    simp only [List.length_singleton] at hcut
    have hu : JM.unq l = JM.unqN l.length (l.drop 1) [] := by unfold JM.unq; rw [if_pos c0]
    rw [hu]
    have hl0 : 0 < l.length := by
      cases l with
      | nil => simp at c0
      | cons b t => simp
    have htl : (l.drop 1).length + 1 = l.length := by rw [List.length_drop]; omega
    obtain ⟨R, hR⟩ : ∃ R, R = JM.unqN l.length (l.drop 1) [] := ⟨_, rfl⟩
    rw [← hR]
    have HR := Lib.hid hR
    have HL := Lib.hid htl
    clear hR hu c0 htl
    generalize l.drop 1 = t0 at *
    have hb0 : Bld w.heap.size w.heap.size [] (w.alloc (.cells #[.pointer none, .slice none 0 0] 50)) := Lib.IsBuilderF.of (Lib.fresh_isBuilder 50 5 w)
    have bel0 : Below w.heap.size w (w.alloc (.cells #[.pointer none, .slice none 0 0] 50)) := (Below.refl _ w).alloc (Nat.le_refl _) _
    go_enter Tryd.func36, Tryd.ntmps36
    go_wp2_with (go_at_call 29; refine (hcut _).mono ?_; rintro e w1 ⟨rfl, hw1⟩; rw [hw1]; clear hw1 w1)
    go_loopw [5] (fun u wr => ∃ (t : List UInt8) (acc : List Nat) (fuel : Nat), u = .string (tx t) ∧ Bld w.heap.size w.heap.size (acc.flatMap JM.enc) wr ∧ Below w.heap.size w wr ∧ JM.unqN fuel t acc = R ∧ t.length < fuel ∧ acc.length + t.length ≤ l.length) (fun u _ => strLen u)
    case atStart => exact ⟨_, [], l.length, rfl, hb0, bel0, HR.out.symm, by have := HL.out; omega, by have := HL.out; simp only [List.length_nil]; omega⟩
    case round =>
      obtain ⟨t, acc, fuel, rfl, hI, hbw, hrun, hfu, hle⟩ := hrel
      have hwz := hbw.size
      have hF2 := hF.on hbw
      have hN2 := hN.on hbw
      have hU2 := hU.on hbw
      have hfl := JM.flat_len JM.enc 4 acc (fun r => (JM.enc_len r).2)
      obtain ⟨f, rfl⟩ : ∃ f, fuel = f + 1 := ⟨fuel - 1, by omega⟩
      unfold JM.unqN at hrun
      by_cases h0 : t = []
      · rw [if_pos h0] at hrun
        subst h0
        have HRR := Lib.hid hrun
        clear hrun hcut
        go_wp2
        go_ret3
        refine ⟨?_, hbw⟩
        rw [← HRR.out]
        rfl
      rw [if_neg h0] at hrun
      have g0 : (t == []) = false := by simpa using h0
      have ht0 : 0 < t.length := List.length_pos_iff.2 h0
      have hix : ∀ w, (Instr.index 9 (.string (tx t)) (.int .i64 0)).run Tryd.prog w = .ok (.int .u8 ((t.getD 0 0).toNat : Nat)) w := fun w => by
        have := index_at (tx t) .i64 0 0 rfl (by rw [tx_size]; omega) w
        rw [tx_list] at this
        exact this
      obtain ⟨c, hc⟩ : ∃ c : Int, c = (t.getD 0 0).toNat := ⟨_, rfl⟩
      rw [← hc] at hix
      by_cases h34 : t.getD 0 0 = 34
      · rw [if_pos h34] at hrun
        have g1 : (c == 34) = true := by rw [hc, h34]; rfl
        have g1' : (c != 34) = false := by rw [hc, h34]; rfl
        have hsl : ∀ wx, (Instr.slice 9 (.string (tx t)) (some (.int .i64 1)) none none).run Tryd.prog wx = .ok (.string (tx (t.drop 1))) wx := by
          intro wx
          rw [run_slice_string_from_if wx 9 (tx t) .i64 1 Tryd.underlying9, if_pos ⟨by omega, by rw [tx_size]; omega⟩, show (1 : Int).toNat = 1 from rfl, cut_from, tx_list]
        generalize t.drop 1 = t1 at *
        have HRR := Lib.hid hrun
        clear hrun hcut hc h34
        go_wp2_with fail
        have hI2 : Bld w.heap.size w.heap.size (acc.flatMap JM.enc) wr.drew := hI.elim (fun h => .inl h.drew) (fun h => .inr h.drew)
        have hst := Tryd.Builder_String_any_k w.heap.size w.heap.size _ wr.drew hI2 hwz
        go_region_with (go_at_call 27; refine hst.mono ?_; rintro e w3 ⟨rfl, -, bel3, -⟩)
        all_goals (go_wp2; go_ret3; refine ⟨?_, (hbw.drew).trans bel3⟩; rw [← HRR.out, unV_some]; rfl)
      · rw [if_neg h34] at hrun
        have hc34 : ¬ c = 34 := fun h => h34 (by apply UInt8.toNat_inj.1; show _ = 34; omega)
        have g1 : (c == 34) = false := by simpa using hc34
        have g1' : (c != 34) = true := by simpa using hc34
        have hmean := meant_ok t h0 (by omega) wr hN2 hU2
        have hmle := JM.meant_le t
        have hwl := JM.wr_len (JM.meant t)
        have hwn := List.length_pos_iff.2 (JM.wr_ne (JM.meant t))
        generalize hM : JM.meant t = m at *
        have hwrit := fun w h => written_ok m hmle w h
        obtain ⟨z, hz⟩ : ∃ z : Int, z = m := ⟨_, rfl⟩
        rw [← hz] at hmean hwrit
        by_cases hpre : JM.wr m <+: t
        · rw [if_pos hpre] at hrun
          have hcu := fun w => cut_yes t (JM.wr m) hpre w
          have htd : (t.drop (JM.wr m).length).length < t.length := by rw [List.length_drop]; omega
          generalize t.drop (JM.wr m).length = t2 at *
          generalize JM.wr m = wm at *
          have HRR := Lib.hid hrun
          have z0 : 0 ≤ z := by omega
          have z1 : z ≤ 1114111 := by omega
          have HZ := Lib.hid hz
          clear hrun hcut hc h34 hc34 hM hz hpre
          go_wp2_with (go_at_call 46; refine hmean.mono ?_; rintro e w1 ⟨rfl, b1⟩; refine Hid.out ?_)
          have hF3 := hF2.on b1
          refine Lib.hid ?_
          go_wp2_with (go_at_call 42; refine (hwrit _ hF3).mono ?_; rintro e w2 ⟨rfl, b2⟩; refine Hid.out ?_)
          have bb := jbelow_next b1 b2
          have hI2 := bld_on hI bb
          have hz2 := bb.size
          refine Lib.hid ?_
          go_wp2_with (first
            | (go_at_call 29; refine (hcu _).mono ?_; rintro e w3 ⟨rfl, hw3⟩; rw [hw3]; clear hw3 w3)
            | (go_at_call 47; refine (writeRune w.heap.size w.heap.size _ z (by omega) (by omega) _ hI2 (by omega) (by omega)).mono ?_; rintro e w4 ⟨⟨n4, rfl⟩, hI4, b4, -⟩))
          go_roundw
          case rel =>
            refine ⟨t2, acc ++ [m], f, rfl, ?_, (below_at hbw hwz bb).trans b4, HRR.out, by omega, by simp only [List.length_append, List.length_singleton]; omega⟩
            have e1 : (acc ++ [m]).flatMap JM.enc = acc.flatMap JM.enc ++ Lib.encodeRune z := by
              rw [HZ.out, List.flatMap_append]
              simp [JM.enc]
            rw [e1]
            exact hI4
          case measure =>
            show (tx t2).size < (tx t).size
            rw [tx_size, tx_size]
            exact htd
        · rw [if_neg hpre] at hrun
          have hcu := fun w => cut_no t (JM.wr m) hpre w
          generalize JM.wr m = wm at *
          have HRR := Lib.hid hrun
          clear hrun hcut hc h34 hc34 hM hz hpre
          go_wp2_with (go_at_call 46; refine hmean.mono ?_; rintro e w1 ⟨rfl, b1⟩; refine Hid.out ?_)
          have hF3 := hF2.on b1
          refine Lib.hid ?_
          go_wp2_with (go_at_call 42; refine (hwrit _ hF3).mono ?_; rintro e w2 ⟨rfl, b2⟩; refine Hid.out ?_)
          have bb := jbelow_next b1 b2
          refine Lib.hid ?_
          go_wp2_with (go_at_call 29; refine (hcu _).mono ?_; rintro e w3 ⟨rfl, hw3⟩; rw [hw3]; clear hw3 w3)
          go_ret3
          refine ⟨?_, below_at hbw hwz bb⟩
          rw [← HRR.out]
          rfl
  · have hcut := cut_no l [34] (fun h => c0 ((quote_iff l).1 h))
    have hu : JM.unq l = none := by unfold JM.unq; rw [if_neg c0]
    rw [hu, unV_none]
    clear hu c0
    go_enter Tryd.func36, Tryd.ntmps36
    go_wp2_with (go_at_call 29; refine (hcut _).mono ?_; rintro e w1 ⟨rfl, rfl⟩)
    go_ret3
    exact ⟨rfl, Below.refl _ _⟩
end Go.Proofs.YtciogdhapogolaaDoor
