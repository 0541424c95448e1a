/-
  Layer 17 (cast): what Import answers, and that the landed one does.
-/
import Derived.Test.YtciogdhapogolaaDoorAText
import Derived.Test.YtciogdhapogolaaDoorASign
import Derived.Test.YtciogdhapogolaaDoorJNum
import Derived.Test.YtciogdhapogolaaDoorANext
import Derived.Test.YtciogdhapogolaaDoorEList
set_option linter.unusedVariables false
namespace Go.Proofs.YtciogdhapogolaaDoor
open Go.RowKit Go.Lib EM
set_option maxRecDepth 100000

/-- What Import answers. -/
def ImpPost (w : World) (o : Option (Nat × Nat × List Ev)) (e : Ending) (w' : World) : Prop :=
  match o with
  | some p => ∃ A c, e = .returned (.tuple #[.int .i64 (p.1 : Int), .int .i64 (p.2.1 : Int), .slice A p.2.2.length c, .int .i64 0]) ∧ (A = none → c = 0) ∧ evE.Row w' w'.heap.size A p.2.2 ∧ Below w.heap.size w w'
  | none => ∃ A c, e = .returned (.tuple #[.int .i64 0, .int .i64 0, .slice A 0 c, .int .i64 1]) ∧ Below w.heap.size w w'
def ImpSpec : Prop := ∀ (s : List UInt8) (w : World), s.length ≤ 1000000 → Fms w → Num w → Utf w → Calls Tryd.prog 11 #[.string (tx s)] w (ImpPost w (AM.imp s))
theorem ImpSpec.some (h : ImpSpec) {s : List UInt8} {w : World} {x y : Nat} {l : List Ev} (hs : s.length ≤ 1000000) (hF : Fms w) (hN : Num w) (hU : Utf w) (he : AM.imp s = .some (x, y, l)) :
    Calls Tryd.prog 11 #[.string (tx s)] w fun e w' => ∃ A c, e = .returned (.tuple #[.int .i64 (x : Int), .int .i64 (y : Int), .slice A l.length c, .int .i64 0]) ∧ (A = none → c = 0) ∧ evE.Row w' w'.heap.size A l ∧ Below w.heap.size w w' := by
  have := h s w hs hF hN hU
  rw [he] at this
  exact this
theorem ImpSpec.none (h : ImpSpec) {s : List UInt8} {w : World} (hs : s.length ≤ 1000000) (hF : Fms w) (hN : Num w) (hU : Utf w) (he : AM.imp s = .none) :
    Calls Tryd.prog 11 #[.string (tx s)] w fun e w' => ∃ A c, e = .returned (.tuple #[.int .i64 0, .int .i64 0, .slice A 0 c, .int .i64 1]) ∧ Below w.heap.size w w' := by
  have := h s w hs hF hN hU
  rw [he] at this
  exact this

/-- How much a reader has left. -/
def leftN (w : World) (g : Nat) : Nat :=
  match w.cell? ⟨g, 0, none⟩ with
  | some (.string b) => b.size
  | _ => 0
theorem leftN_of {w : World} {g : Nat} {s : AM.St} (h : RdS w g s) : leftN w g = (s.getD []).length := by
  obtain ⟨h0, -⟩ := two_cell h
  unfold leftN
  rw [h0]
  exact tx_size _
/-- Where an answer of Import is none. -/
theorem ImpPost.no {w w' : World} {x y : Nat} {R : Option (List Ev)} {l : List Ev} (hR : R = none ∨ (R = some l ∧ listB 0 l = false)) (hb : Below w.heap.size w w') :
    ImpPost w (R.bind fun l => if listB 0 l then some (x, y, l) else none) (.returned (.tuple #[.int .i64 0, .int .i64 0, .slice none 0 0, .int .i64 1])) w' := by
  have : (R.bind fun l => if listB 0 l then some (x, y, l) else none) = none := by
    rcases hR with h | ⟨h, h'⟩
    · rw [h]; rfl
    · rw [h, Option.bind_some, h']; rfl
  rw [this]
  exact ⟨none, 0, rfl, hb⟩

set_option maxHeartbeats 4000000 in
theorem import_ok : ImpSpec := by
  intro s w hs hF hN hU
  rw [← AM.impW_eq, AM.impW_S]
  have hn := Rn.new w s hF hN hU
  obtain ⟨V, hV⟩ : ∃ V, V = w.alloc (.cells #[.string (tx s), .bool true] 42) := ⟨_, rfl⟩
  rw [← hV] at hn
  have hVz : V.heap.size = w.heap.size + 1 := by rw [hV]; simp
  have HV := Lib.hid hV
  have q0 : ((some s : AM.St).getD []).length ≤ 1000000 := hs
  have HK0 := Lib.hid (hn.skip AM.pA (by simp [AM.pA]))
  have HBD := fun v => run_build_rd v (tx s)
  have q1 := AM.preS_len (p := AM.pA) q0
  have q2 := AM.numS_len q1
  have q3 := AM.preS_len (p := AM.pB) q2
  have q4 := AM.numS_len q3
  have q5 := AM.preS_len (p := [125, 10]) q4
  clear hV hn hF hN hU
  generalize hs1 : AM.preS AM.pA (some s) = s1 at *
  generalize ha : AM.numS s1 = a at *
  obtain ⟨x, s2⟩ := a
  simp only at q2 q3 q4 q5 ⊢
  generalize hs3 : AM.preS AM.pB s2 = s3 at *
  generalize hb : AM.numS s3 = b at *
  obtain ⟨y, s4⟩ := b
  simp only at q4 q5 ⊢
  generalize hs5 : AM.preS [125, 10] s4 = s5 at *
  generalize hR : AM.tailS [] s5 = R
  have HA := Lib.hid ha
  have H3 := Lib.hid hs3
  have HB := Lib.hid hb
  have H5 := Lib.hid hs5
  have HRR := Lib.hid hR
  clear hs1 ha hs3 hb hs5 hR
  unfold AM.pA at HK0
  go_enter Tryd.func11, Tryd.ntmps11
  go_upto_region 2 with fail
  rw [← HV.out]
  go_wp2_with fail
  refine HK0.out.mono ?_
  rintro e w1 ⟨rfl, hr1, hg1⟩
  have hz1 := hg1.size
  have HT := Lib.hid (hr1.takeNum q1)
  rw [HA.out] at HT
  clear hr1 hg1 HK0
  go_wp2_with fail
  refine HT.out.mono ?_
  rintro e w2 ⟨rfl, hr2, hg2⟩
  simp only at hr2 ⊢
  have hz2 := hg2.size
  have HK2 := Lib.hid (hr2.skip AM.pB (by simp [AM.pB]))
  rw [H3.out] at HK2
  unfold AM.pB at HK2
  clear hr2 hg2 HT
  go_wp2_with fail
  refine HK2.out.mono ?_
  rintro e w3 ⟨rfl, hr3, hg3⟩
  have hz3 := hg3.size
  have HT3 := Lib.hid (hr3.takeNum q3)
  rw [HB.out] at HT3
  clear hr3 hg3 HK2
  go_wp2_with fail
  refine HT3.out.mono ?_
  rintro e w4 ⟨rfl, hr4, hg4⟩
  simp only at hr4 ⊢
  have hz4 := hg4.size
  have HK4 := Lib.hid (hr4.skip [125, 10] (by simp))
  rw [H5.out] at HK4
  clear hr4 hg4 HT3
  go_wp2_with fail
  refine HK4.out.mono ?_
  rintro e w5 ⟨rfl, hr5, hg5⟩
  have hz5 := hg5.size
  have HR5 := Lib.hid hr5
  clear hr5 hg5 HK4
  go_wp2_with fail
  go_loopw [9] (fun v wr => ∃ (acc : List Ev) (st : AM.St), evE.Own wr (w.heap.size + 1) v acc ∧ Rn w wr w.heap.size st ∧ acc.length + (st.getD []).length ≤ 1000000 ∧ AM.tailS acc st = R) (fun _ wr => leftN wr w.heap.size)
  case atStart => exact ⟨[], s5, El.Own.nil _ _, HR5.out, by simpa using q5, HRR.out⟩
  case round =>
    obtain ⟨acc, st, ho, hrn, hlen, hta⟩ := hrel
    have HO := Lib.hid ho
    have HRN := Lib.hid hrn
    have HTA := Lib.hid hta
    have hgr := hrn.rd.lt
    obtain ⟨A, c, hv, -, -, hA, hrw⟩ := ho.row
    subst hv
    have HRW := Lib.hid hrw
    clear hrw
    obtain ⟨c0, c1, -, -⟩ := two_cell hrn.rd
    clear ho hrn hta HR5 HRR HA H3 HB H5
    cases st with
    | none =>
      have HRn := Lib.hid (show R = none from HTA.out.symm)
      simp only [Option.getD_none, Option.isSome_none] at c0 c1
      go_wp2_with fail
      (try simp only [Exit.inBlock, Exit.then])
      refine bodyPost_ret (results_tmp4 rfl _ _ _) rfl ?_
      exact ImpPost.no (l := []) (.inl HRn.out) HRN.out.bel
    | some l =>
      simp only [Option.getD_some, Option.isSome_some] at c0 c1 hlen
      by_cases hl : l = []
      · subst hl
        have HRs := Lib.hid (show R = some acc by rw [← HTA.out, AM.tailS_done])
        have HLS := Lib.hid (list_ok wr acc A c wr.heap.size HRW.out (Nat.le_refl _) (by simpa using hlen))
        go_wp2_with fail
        refine HLS.out.mono ?_
        rintro e wa ⟨rfl, hba⟩
        have HBA := Lib.hid hba
        clear hba HLS
        cases hli : listB 0 acc with
        | false =>
          go_wp2_with fail
          (try simp only [Exit.inBlock, Exit.then])
          refine bodyPost_ret (results_tmp4 rfl _ _ _) rfl ?_
          exact ImpPost.no (l := acc) (.inr ⟨HRs.out, hli⟩) (below_at HRN.out.bel HRN.out.bel.size HBA.out)
        | true =>
          go_wp2_with fail
          (try simp only [Exit.inBlock, Exit.then])
          refine bodyPost_ret (results_tmp4 rfl _ _ _) rfl ?_
          rw [HRs.out, Option.bind_some, if_pos hli]
          exact ⟨A, c, rfl, hA, (HRW.out.below HBA.out).mono HBA.out.size, below_at HRN.out.bel HRN.out.bel.size HBA.out⟩
      · have g0 : (l == []) = false := by simpa using hl
        have hts := AM.tailS_step acc hl
        have hll := AM.tail_less hl
        have HNX := Lib.hid (next_ok w wr w.heap.size (some l) HRN.out (by show l.length ≤ 1000000; omega))
        rw [HTA.out] at hts
        have HME := Lib.hid (show leftN wr w.heap.size = l.length from leftN_of HRN.out.rd)
        generalize AM.lineS (some l) = r at *
        obtain ⟨ev, st'⟩ := r
        simp only at hts hll HNX
        have HTS := Lib.hid hts
        obtain ⟨t, kk, d, a1, b1⟩ := ev
        simp only [evV] at HNX
        have hlp : 0 < l.length := List.length_pos_iff.2 hl
        clear hts hl
        go_wp2_with fail
        refine HNX.out.mono ?_
        rintro e w6 ⟨rfl, hr6, hg6⟩
        have hz6 := hg6.size
        have HO6 := Lib.hid (HO.out.grown hg6 (fun k hk e => by have := (HO.out.lt k hk).1; injection e with e; omega))
        have HR6 := Lib.hid hr6
        clear hr6 hg6 HNX c0 c1
        go_wp2_with (at_builtin; refine evE.wp_append1 rfl (.tmp 28) (.tmp 31) rfl (w.heap.size + 1) _ acc rfl HO6.out ⟨t, kk, d, a1, b1⟩ #[.int .i64 t, .int .i64 kk, .string d, .int .i64 a1, .int .i64 b1] 27 rfl rfl ?c1 ?c2 (by omega) ?_)
        case c1 => simp only [evE]; omega
        case c2 => unfold maxLen; omega
        intro v7 w7 ho7 hg7
        have hb7 := HO6.out.grow_below hg7 (by omega)
        have HR7 := Lib.hid (HR6.out.on hb7 (by omega))
        have HO7 := Lib.hid ho7
        clear ho7 hg7 hb7
        go_wp2_with fail
        go_roundw
        case rel => exact ⟨acc ++ [⟨t, kk, d, a1, b1⟩], st', HO7.out, HR7.out, by rw [List.length_append, List.length_singleton]; omega, HTS.out.symm⟩
        case measure => rw [leftN_of HR7.out.rd, HME.out]; exact hll
end Go.Proofs.YtciogdhapogolaaDoor
