/-
  FileCrash: for all calls and numbers the law answers true: a crash keeps of each file what was sure, and as much behind it as is said; a second one changes nothing. No condition.
-/
import Derived.Test.YtdaipoelicpnoaaFCells
import Derived.BigQuiet
import Derived.Deep.QuietTactic
import Derived.ProofKit
import Derived.OpenShut
namespace Go.Proofs.Ytdaipoelicpnoaa.fileCrash
open Go.ChangeShapes Go.WideShapes Go.ChangeAt Go.RowKit Go.Sort Go.Shelf FM

set_option maxRecDepth 100000 in
set_option maxHeartbeats 4000000 in
theorem long0 (A : Option Addr) (cs : List CallV) (cap : Nat) (A1 : Option Addr) (keep : List Int) (c1 : Nat) (w : World) (h : Row5 w w.heap.size A cs) (hm : cs.length ≤ maxLen) (hs : shortL cs = false) :
    Calls Try.prog 7 #[.slice A cs.length cap, .slice A1 keep.length c1] w fun e w' => e = .returned (.bool true) ∧ Below w.heap.size w w' := by
  have HH := Lib.hid h
  have HF := Lib.hid (fit_ok w)
  clear h
  go_enter Try.func7, Try.ntmps7
  go_wp2_with fail
  refine HF.out.mono ?_
  rintro e w1 ⟨rfl, hb1⟩
  have HB1 := Lib.hid hb1
  clear hb1
  go_wp2_with fail
  refine (short_ok w1 A cs cap (HH.out.below HB1.out) hm).mono ?_
  rintro e w2 ⟨rfl, hb2⟩
  rw [hs]
  have HB2 := Lib.hid (HB1.out.trans (hb2.mono HB1.out.size))
  clear hb2
  go_wp2
  go_ret
  exact ⟨rfl, HB2.out⟩

set_option maxRecDepth 100000 in
set_option maxHeartbeats 4000000 in
theorem long1 (A : Option Addr) (cs : List CallV) (cap : Nat) (A1 : Option Addr) (keep : List Int) (c1 : Nat) (w : World) (h : Row5 w w.heap.size A cs) (hm : cs.length ≤ maxLen) (hs : shortL cs = true) (hl : 100 < keep.length) :
    Calls Try.prog 7 #[.slice A cs.length cap, .slice A1 keep.length c1] w fun e w' => e = .returned (.bool true) ∧ Below w.heap.size w w' := by
  have dl : decide ((100 : Int) < (keep.length : Int)) = true := decide_eq_true (by omega)
  have HH := Lib.hid h
  have HF := Lib.hid (fit_ok w)
  clear h
  go_enter Try.func7, Try.ntmps7
  go_wp2_with fail
  refine HF.out.mono ?_
  rintro e w1 ⟨rfl, hb1⟩
  have HB1 := Lib.hid hb1
  clear hb1
  go_wp2_with fail
  refine (short_ok w1 A cs cap (HH.out.below HB1.out) hm).mono ?_
  rintro e w2 ⟨rfl, hb2⟩
  rw [hs]
  have HB2 := Lib.hid (HB1.out.trans (hb2.mono HB1.out.size))
  clear hb2
  go_wp2
  go_ret
  exact ⟨rfl, HB2.out⟩

set_option maxRecDepth 100000 in
set_option maxHeartbeats 4000000 in
theorem main (A : Option Addr) (cs : List CallV) (cap : Nat) (A1 : Option Addr) (keep : List Int) (c1 : Nat) (w : World) (h : Row5 w w.heap.size A cs) (hm : cs.length ≤ maxLen) (hs : shortL cs = true) (hl : keep.length ≤ 100) (hr : RowI w w.heap.size A1 keep) (hkw : ∀ x ∈ keep, x ≤ 9223372036854775807) :
    Calls Try.prog 7 #[.slice A cs.length cap, .slice A1 keep.length c1] w fun e w' => e = .returned (.bool true) ∧ Below w.heap.size w w' := by
  have dl : decide ((100 : Int) < (keep.length : Int)) = false := decide_eq_false (by omega)
  obtain ⟨hl1, hsh⟩ := short_all hs
  have HSH := Lib.hid hsh; have HR := Lib.hid hr; have HKW := Lib.hid hkw
  clear hsh hr hkw
  obtain ⟨i0, hi0, hz0, hz1, hz2⟩ := info_parts Try.info9
  obtain ⟨i1, hi1, hy0, hy1, hy2⟩ := info_parts Try.info3
  have HH := Lib.hid h
  have HF := Lib.hid (fit_ok w)
  clear h
  go_enter Try.func7, Try.ntmps7
  go_wp2_with fail
  refine HF.out.mono ?_
  rintro e w1 ⟨rfl, hb1⟩
  have HB1 := Lib.hid hb1
  clear hb1
  go_wp2_with fail
  refine (short_ok w1 A cs cap (HH.out.below HB1.out) hm).mono ?_
  rintro e w2 ⟨rfl, hb2⟩
  rw [hs]
  have HB2 := Lib.hid (HB1.out.trans (hb2.mono HB1.out.size))
  clear hb2
  go_wp2_with fail
  refine (new_ok w2 1048576 (by omega)).mono ?_
  rintro e w3 ⟨sb, rfl, h3, hb3⟩
  have HL3 := Lib.hid (Loop.start HB2.out h3 hb3)
  clear h3 hb3
  go_wp2
  go_loopw [34] (fun u wr => ∃ (i : Nat) (S : Nat → Prop) (s : St), i ≤ cs.length ∧ u = .int .i64 (i : Int) ∧ Loop w wr S sb s i ∧ Calm s)
    (fun u _ => cs.length - (intOf u).toNat)
  case atStart => exact ⟨0, _, _, Nat.zero_le _, rfl, HL3.out, rfl, by show (-1 : Int) < 0; omega⟩
  case round =>
    obtain ⟨i, S, s, hi, rfl, hL, hcs⟩ := hrel
    have HL := Lib.hid hL; have HC := Lib.hid hcs
    clear hL hcs
    by_cases hlt : i < cs.length
    · obtain ⟨b, off, hA, g1, g2, g3, g4, g5, hok⟩ := HH.out.call HL.out.below hlt
      subst hA
      have hd1 := (HSH.out i hlt).1
      obtain ⟨c, hce⟩ : ∃ c, c = cs[i] := ⟨_, rfl⟩
      rw [← hce] at g1 g2 g3 g4 g5 hok hd1
      have HOK := Lib.hid hok
      clear hok hce
      have hba : Below wr.heap.size wr (wr.alloc (.cells #[.int .i64 c.kind, .int .i64 c.n, .string c.name, .string c.to, .slice c.A c.data.length c.cap] 33)) := (Below.refl _ _).alloc (Nat.le_refl _) _
      have HLa := Lib.hid (HL.out.moved hba)
      have HCa := Lib.hid (CallAt.alloc wr c)
      clear hba
      go_wp2_with fail
      refine (kind_ok _ c).mono ?_
      rintro e wk ⟨rfl, hbk⟩
      have HLk := Lib.hid (HLa.out.moved hbk)
      have HCk := Lib.hid (HCa.out.below hbk)
      clear hbk g1 g2 g3 g4 g5
      have k0 := HCk.out.k0; have k1 := HCk.out.k1; have k2 := HCk.out.k2; have k3 := HCk.out.k3; have k4 := HCk.out.k4
      by_cases hk6 : c.k = 6
      · have d1 : ((c.k : Int) != 6) = false := by simp; omega
        clear k0 k1 k2 k3 k4
        go_wp2
        go_roundw
        case rel => exact ⟨i + 1, _, _, by omega, by go_num, HLk.out.later, HC.out⟩
        case measure => simp [intOf]; omega
      · have d1 : ((c.k : Int) != 6) = true := by simp; omega
        go_wp2_with fail
        refine (do_ok _ S sb s c w.heap.size HLk.out.sto (HLk.out.fits HOK.out (by omega) (by omega))).mono ?_
        rintro e wc hac
        have HLc := Lib.hid (HLk.out.step (by omega) hac)
        obtain ⟨rfl, _, _⟩ := hac
        clear k0 k1 k2 k3 k4
        go_wp2
        go_roundw
        case rel => exact ⟨i + 1, _, _, by omega, by go_num, HLc.out, calm_step HC.out hk6⟩
        case measure => simp [intOf]; omega
    · have hil : i ≤ 100 := by omega
      go_wp2_with fail
      clear hlt hi
      refine (sto_names HL.out.sto (by have := HL.out.files; omega)).mono ?_
      rintro e w5 ⟨v5, rfl, hrow5, hb5⟩
      have hn5 : OwnC w5 wr.heap.size 9 v5 ((s.fs.map Prod.fst).map encStr) := by unfold OwnC; rw [List.length_map, List.length_map]; exact hrow5
      obtain ⟨A5, c5, rfl, _, hcell5⟩ := hn5.form
      have hln : ((s.fs.map Prod.fst).map encStr).length = s.fs.length := by simp
      rw [hln] at hcell5
      rw [hln]
      have hfl : s.fs.length ≤ 110 := by have := HL.out.files; omega
      have hus : used s ≤ 40000 := by have := HL.out.used; omega
      have HN5 := Lib.hid hn5
      have HL5 := Lib.hid (HL.out.moved hb5)
      have hz5 := hb5.size
      have hS5 : ∀ k, S k → k < wr.heap.size := HL.out.sto.lt
      have HS5 := Lib.hid hS5
      have hw5 := HL5.out.below.size
      have HC5 := Lib.hid hcell5
      have hrise := HL.out.sto.rise
      have HRI := Lib.hid hrise
      have HSU := Lib.hid HL.out.sto.sures
      have HSM := Lib.hid HL.out.sto.small
      clear hrow5 hn5 hb5 hS5 hcell5 hln hrise
      go_wp2
      go_loopw [9, 10, 49] (fun v9 v10 u wq => ∃ j : Nat, j ≤ s.fs.length ∧ u = .int .i64 (j : Int) ∧ OwnC wq w5.heap.size 9 v9 ((s.fs.take j).map fun p => .string (str p.2.data)) ∧ OwnC wq w5.heap.size 3 v10 ((s.fs.take j).map fun p => .int .i64 (p.2.sure : Int)) ∧ (∀ k, v9.ownBlock = some k → v10.ownBlock ≠ some k) ∧ Below w5.heap.size w5 wq)
        (fun _ _ u _ => s.fs.length - (intOf u).toNat)
      case atStart => exact ⟨0, Nat.zero_le _, rfl, OwnC.nil _ _ _, OwnC.nil _ _ _, (fun k hk => by cases hk), Below.refl _ _⟩
      case round =>
        rename World => wq
        obtain ⟨j, hj, rfl, h9, h10, hap, hbq⟩ := hrel
        have H9 := Lib.hid h9; have H10 := Lib.hid h10; have HAP := Lib.hid hap; have HBQ := Lib.hid hbq
        have hzq := hbq.size
        have HLq := Lib.hid (HL5.out.keep (fun k hk => by have := HS5.out k hk; omega) hw5 hbq)
        clear h9 h10 hap hbq
        by_cases hjl : j < s.fs.length
        · obtain ⟨g5, hA5, hc5⟩ := HC5.out j hjl
          subst hA5
          obtain ⟨n, hn⟩ : ∃ n : ByteArray, n = ⟨⟨(s.fs[j]).1⟩⟩ := ⟨_, rfl⟩
          have hnl : n.data.toList = (s.fs[j]).1 := by rw [hn]
          have hg5 : g5 < w5.heap.size := (HN5.out.lt g5 rfl).2
          have hcn : wq.cell? ⟨g5, j, none⟩ = some (.string n) := by
            rw [HBQ.out.cell (p := ⟨g5, j, none⟩) hg5, hc5, hn]
            simp [hjl, encStr]
          have hns : n.size ≤ maxLen := by
            have : n.size = n.data.toList.length := by simp
            rw [this, hnl]
            obtain ⟨mb, L, hB, _⟩ := HL.out.sto
            have hm : s.fs[j] ∈ mapV Prod.snd L := by rw [← hB.fs]; exact List.getElem_mem _
            obtain ⟨q, hq, e⟩ := List.mem_map.1 hm
            rw [← e]
            exact hB.short q hq
          obtain ⟨f, hf⟩ : ∃ f, f = (s.fs[j]).2 := ⟨_, rfl⟩
          obtain ⟨hrd, hfo⟩ := calm_read HC.out HRI.out hjl
          rw [← hnl, ← hf] at hrd hfo
          have hfle : f.data.length ≤ 40000 := by have := sto_file_le HL.out.sto n.data.toList; rw [hfo] at this; omega
          have ht9 : (s.fs.take (j + 1)).map (fun p => Value.string (str p.2.data)) = (s.fs.take j).map (fun p => Value.string (str p.2.data)) ++ [.string (str f.data)] := by rw [List.take_succ_eq_append_getElem hjl, List.map_append, hf]; rfl
          have ht10 : (s.fs.take (j + 1)).map (fun p => Value.int .i64 (p.2.sure : Int)) = (s.fs.take j).map (fun p => Value.int .i64 (p.2.sure : Int)) ++ [.int .i64 (f.sure : Int)] := by rw [List.take_succ_eq_append_getElem hjl, List.map_append, hf]; rfl
          obtain ⟨x9, hx9⟩ : ∃ x, x = (s.fs.take j).map fun p => Value.string (str p.2.data) := ⟨_, rfl⟩
          obtain ⟨x10, hx10⟩ : ∃ x, x = (s.fs.take j).map fun p => Value.int .i64 (p.2.sure : Int) := ⟨_, rfl⟩
          have l9 : x9.length ≤ 200 := by rw [hx9]; simp; omega
          have l10 : x10.length ≤ 200 := by rw [hx10]; simp; omega
          rw [← hx9] at H9 ht9
          rw [← hx10] at H10 ht10
          have HT9 := Lib.hid ht9; have HT10 := Lib.hid ht10
          clear hx9 hx10 ht9 ht10 hc5 hn hf
          go_wp2_with fail
          refine (sto_read HLq.out.sto n hns (by omega)).mono ?_
          rintro e w6 ⟨v6, rfl, ho6, hb6⟩
          rw [hrd] at ho6 ⊢
          obtain ⟨A6, c6, rfl, _, _, _, hr6⟩ := ho6.form
          have hs6 : (convert 31 9 (.slice A6 f.data.length c6)).run Try.prog w6 = .ok (.string (str f.data)) w6 := run_string A6 f.data c6 _ w6 hr6
          have hz6 := hb6.size
          have HO9 := Lib.hid (H9.out.below hb6)
          have HO10 := Lib.hid (H10.out.below hb6)
          have HB6 := Lib.hid (HBQ.out.trans (hb6.mono hzq))
          clear ho6 hb6 hr6 hcn
          have hnq : n.size ≤ maxLen := hns
          go_wp2_with (at_builtin; refine wpList_append_own_at _ rfl _ _ 50 rfl w5.heap.size 9 i0 (.string ByteArray.empty) 1 16 Try.underlying50 hi0 hz0 hz1 hz2 rfl (by decide) _ _ _ rfl (World.ownsRow.alloc HO9.out _) ⟨w6.heap.size, 0, none⟩ 1 1 [.string (str f.data)] rfl rfl (cell_one_new _ _ _) (by intro u hu; simp at hu; subst hu; rfl) (by unfold maxLen; omega) (by omega) (by simp; omega) ?_; intro v7 w7 ho7 hg7 _ hp7; refine Hid.out ?_)
          have hO7 : OwnC w7 w5.heap.size 9 v7 (x9 ++ [.string (str f.data)]) := OwnC.snoc ho7
          have hb7 : Below w5.heap.size w5 w7 := (HB6.out.alloc (by omega) _).grown hg7 (by simp; omega) (fun k hk => (HO9.out.lt k hk).1)
          have hz7 := hg7.size
          have hza : (w6.alloc (.cells #[.string (str f.data)] 9)).heap.size = w6.heap.size + 1 := by simp
          rw [hza] at hz7
          have hk10 : ∀ k, u10.ownBlock = some k → w7.heap[k]? = w6.heap[k]? := fun k hk => by
            have hlt := (HO10.out.lt k hk).2
            refine (hg7.block k (by omega) (fun e => ?_)).trans (Below.heap_alloc _ _ k hlt)
            exact HAP.out k e.symm hk
          have hO10 : OwnC w7 w5.heap.size 3 u10 x10 := HO10.out.keep hk10
          have hap7 : ∀ k, v7.ownBlock = some k → u10.ownBlock ≠ some k := fun k hk e => by
            have hlt := (HO10.out.lt k e).2
            rcases hp7 with e1 | e1
            · exact HAP.out k (by rw [← hk]; exact e1.symm) e
            · rw [hk] at e1; simp at e1; omega
          have HL7 := Lib.hid (HL5.out.keep (fun k hk => by have := HS5.out k hk; omega) hw5 hb7)
          have HO7 := Lib.hid hO7; have HO17 := Lib.hid hO10; have HA7 := Lib.hid hap7; have HB7 := Lib.hid hb7
          clear ho7 hg7 hp7 hO7 hb7 hza hk10 hO10 hap7
          refine Lib.hid ?_
          go_wp2_with fail
          refine (sto_sure HL7.out.sto n hns).mono ?_
          rintro e wy ⟨rfl, hwy⟩
          rw [hwy, hfo]
          clear hwy wy
          go_wp2_with (at_builtin; refine wpList_append_own_at _ rfl _ _ 49 rfl w5.heap.size 3 i1 (.int .i64 0) 1 8 Try.underlying49 hi1 hy0 hy1 hy2 rfl (by decide) _ _ _ rfl (World.ownsRow.alloc HO17.out _) ⟨w7.heap.size, 0, none⟩ 1 1 [.int .i64 (f.sure : Int)] rfl rfl (cell_one_new _ _ _) (by intro u hu; simp at hu; subst hu; rfl) (by unfold maxLen; omega) (by omega) (by simp; omega) ?_; intro v8 w8 ho8 hg8 _ hp8; refine Hid.out ?_)
          have hO8 : OwnC w8 w5.heap.size 3 v8 (x10 ++ [.int .i64 (f.sure : Int)]) := OwnC.snoc ho8
          have hb8 : Below w5.heap.size w5 w8 := (HB7.out.alloc (by omega) _).grown hg8 (by simp; omega) (fun k hk => (HO17.out.lt k hk).1)
          have hz8 := hg8.size
          have hza : (w7.alloc (.cells #[.int .i64 (f.sure : Int)] 3)).heap.size = w7.heap.size + 1 := by simp
          rw [hza] at hz8
          have hO9 : OwnC w8 w5.heap.size 9 v7 (x9 ++ [.string (str f.data)]) := HO7.out.keep fun k hk => by
            have hlt := (HO7.out.lt k hk).2
            refine (hg8.block k (by omega) (fun e => ?_)).trans (Below.heap_alloc _ _ k hlt)
            exact HA7.out k hk e.symm
          have hap8 : ∀ k, v7.ownBlock = some k → v8.ownBlock ≠ some k := fun k hk e => by
            have hlt := (HO7.out.lt k hk).2
            rcases hp8 with e1 | e1
            · exact HA7.out k hk (by rw [← e]; exact e1.symm)
            · rw [e] at e1; simp at e1; omega
          have HO8 := Lib.hid hO8; have HO89 := Lib.hid hO9; have HA8 := Lib.hid hap8; have HB8 := Lib.hid hb8
          clear ho8 hg8 hp8 hO8 hb8 hza hO9 hap8 hs6
          refine Lib.hid ?_
          go_wp2
          go_roundw
          case rel => exact ⟨j + 1, by omega, by go_num, by rw [HT9.out]; exact HO89.out, by rw [HT10.out]; exact HO8.out, HA8.out, HB8.out⟩
          case measure => simp [intOf]; omega
        · have hjn : j = s.fs.length := by omega
          subst hjn
          have t9 := H9.out; have t10 := H10.out
          rw [List.take_length] at t9 t10
          obtain ⟨A9, c9, hv9, _, hc9⟩ := t9.form
          obtain ⟨A10, c10, hv10, _, hc10⟩ := t10.form
          rw [List.length_map] at hv9 hc9 hv10 hc10
          subst hv9
          subst hv10
          have HT9 := Lib.hid t9; have HT10 := Lib.hid t10; have HC9 := Lib.hid hc9; have HC10 := Lib.hid hc10
          clear t9 t10 hc9 hc10
          have hkeep : RowI wq w.heap.size A1 keep := row_i_keep HR.out HLq.out.below
          have HKP := Lib.hid hkeep
          clear hkeep
          have hnS : 0 < keep.length → ∀ a, A1 = some a → ¬ S a.block := fun hp a ha hs => by
            obtain ⟨b, off, e, hb, _⟩ := HR.out hp
            rw [ha] at e
            injection e with e
            subst e
            have := HL.out.new _ hs
            simp only at *
            omega
          have HNS := Lib.hid hnS
          clear hnS
          go_wp2_with fail
          refine (crash_ok wq S sb s A1 keep c1 w.heap.size HLq.out.sto (by omega) (by omega) (by omega) HKW.out HKP.out HLq.out.below.size HNS.out).mono ?_
          rintro e w11 hc11
          have HL11 := Lib.hid (HLq.out.crash hc11)
          have HF11 := Lib.hid hc11.2.2
          obtain ⟨rfl, _, _⟩ := hc11
          have hz11 := HF11.out.size
          obtain ⟨S11, hS11⟩ : ∃ S', S' = wider S wq w11 := ⟨_, rfl⟩
          rw [← hS11] at HL11
          clear hS11
          obtain ⟨s11, hs11⟩ : ∃ s', s' = FM.crash s keep := ⟨_, rfl⟩
          rw [← hs11] at HL11
          have HS11 := Lib.hid hs11
          clear hs11
          go_wp2
          go_loopw [76] (fun u wv => ∃ j : Nat, j ≤ s.fs.length ∧ u = .int .i64 (j : Int) ∧ Below w11.heap.size w11 wv)
            (fun u _ => s.fs.length - (intOf u).toNat)
          case atStart => exact ⟨0, Nat.zero_le _, rfl, Below.refl _ _⟩
          case round =>
            rename World => wv
            obtain ⟨j, hj, rfl, hbv⟩ := hrel
            have HBV := Lib.hid hbv
            have hzv := hbv.size
            have HLv := Lib.hid (HL11.out.moved hbv)
            clear hbv
            by_cases hjl : j < s.fs.length
            · obtain ⟨g5, hA5, hc5⟩ := HC5.out j hjl
              subst hA5
              obtain ⟨g9, hA9, hc9⟩ := HC9.out j hjl
              subst hA9
              obtain ⟨g10, hA10, hc10⟩ := HC10.out j hjl
              subst hA10
              obtain ⟨n, hn⟩ : ∃ n : ByteArray, n = ⟨⟨(s.fs[j]).1⟩⟩ := ⟨_, rfl⟩
              have hnl : n.data.toList = (s.fs[j]).1 := by rw [hn]
              have hb5 := HN5.out.lt g5 rfl
              have hb9 := HT9.out.lt g9 rfl
              have hb10 := HT10.out.lt g10 rfl
              have n5 : ¬ S g5 := fun hs => by have := HS5.out _ hs; omega
              have n9 : ¬ S g9 := fun hs => by have := HS5.out _ hs; omega
              have n10 : ¬ S g10 := fun hs => by have := HS5.out _ hs; omega
              have hblk : ∀ g, g < wq.heap.size → ¬ S g → wv.heap[g]? = wq.heap[g]? := fun g hg hn => (HBV.out.block g (by omega)).trans (HF11.out.block g hg hn)
              obtain ⟨f, hf⟩ : ∃ f, f = (s.fs[j]).2 := ⟨_, rfl⟩
              have hcn : wv.cell? ⟨g5, j, none⟩ = some (.string n) := by
                rw [World.cell?_of_block (a := ⟨g5, j, none⟩) (hblk g5 (by omega) n5), HBQ.out.cell (p := ⟨g5, j, none⟩) hb5.2, hc5, hn]
                simp [hjl, encStr]
              have hk9 : wv.cell? ⟨g9, j, none⟩ = some (.string (str f.data)) := by
                rw [World.cell?_of_block (a := ⟨g9, j, none⟩) (hblk g9 hb9.2 n9), hc9, hf]
                simp [hjl]
              have hk10 : wv.cell? ⟨g10, j, none⟩ = some (.int .i64 (f.sure : Int)) := by
                rw [World.cell?_of_block (a := ⟨g10, j, none⟩) (hblk g10 hb10.2 n10), hc10, hf]
                simp [hjl]
              have hns : n.size ≤ maxLen := by
                have : n.size = n.data.toList.length := by simp
                rw [this, hnl]
                obtain ⟨mb, L, hB, _⟩ := HL.out.sto
                have hm : s.fs[j] ∈ mapV Prod.snd L := by rw [← hB.fs]; exact List.getElem_mem _
                obtain ⟨q, hq, e⟩ := List.mem_map.1 hm
                rw [← e]
                exact hB.short q hq
              obtain ⟨hj11, e1, e2⟩ := crash_at (keep := keep) hjl
              have hcm : Calm s11 := by rw [HS11.out]; exact calm_crash s keep
              have hrd11 : readV s11 n.data.toList = ((lasts f (more keep j)).data, 0) ∧ fileOf s11 n.data.toList = lasts f (more keep j) := by
                have := calm_read (s := FM.crash s keep) (by rw [← HS11.out]; exact hcm) (by rw [← HS11.out]; exact HLv.out.sto.rise) hj11
                rw [e1, e2, ← hnl, ← hf, ← HS11.out] at this
                exact this
              obtain ⟨hrd, hfo⟩ := hrd11
              have hsu : f.sure ≤ f.data.length := by rw [hf]; exact HSU.out _ (List.getElem_mem _)
              have hfle : f.data.length ≤ 40000 := by
                have := sum_mem (fun x : File => x.data.length) (List.getElem_mem hjl)
                rw [← hf] at this
                exact Nat.le_trans this hus
              obtain ⟨m, hm⟩ : ∃ m, m = more keep j := ⟨_, rfl⟩
              obtain ⟨k, hk⟩ : ∃ k, k = f.sure + min m (f.data.length - f.sure) := ⟨_, rfl⟩
              have hla : lasts f m = ⟨f.data.take k, k⟩ := by unfold lasts; rw [← hk]
              rw [← hm, hla] at hrd hfo
              have hkl : k ≤ f.data.length := by omega
              have htl : (f.data.take k).length = k := by rw [List.length_take]; omega
              have hfs : (fileOf s11 n.data.toList).sure = k := by rw [hfo]
              obtain ⟨X, hX⟩ : ∃ X, X = f.data.take k := ⟨_, rfl⟩
              rw [← hX] at hrd htl
              have hwsz : (str f.data).size = f.data.length := str_size f.data
              have q1 : ∀ V, (Instr.slice 9 (.string (str f.data)) none (some (.int .i64 (k : Int))) none).run Try.prog V = .ok (.string (str X)) V := fun V => by rw [hX]; exact run_cut_str f.data k hkl V
              have HRD := Lib.hid hrd; have HFS := Lib.hid hfs
              have hkf : f.sure ≤ k := by omega
              have hkm : k - f.sure ≤ m := by omega
              have hkeq : k < f.data.length → k - f.sure = m := fun _ => by omega
              have hik : j < keep.length → ∃ b off z, A1 = some ⟨b, off, none⟩ ∧ wv.cell? ⟨b, off + j, none⟩ = some (.int .i64 z) ∧ max z 0 = (m : Int) := fun hik => by
                obtain ⟨b, off, e, hb, hc⟩ := HR.out (by omega)
                refine ⟨b, off, keep.getD j 0, e, ?_, by rw [hm]; unfold more; omega⟩
                exact (HLv.out.below.cell (p := ⟨b, off + j, none⟩) hb).trans (hc j hik)
              have HIK := Lib.hid hik
              clear hik
              have hik0 : ¬ j < keep.length → m = 0 := fun hik => by rw [hm]; unfold more; rw [List.getD_eq_getElem?_getD, List.getElem?_eq_none (by omega)]; rfl
              have hmk : (m : Int) ≤ 9223372036854775807 := by
                rw [hm]; unfold more
                by_cases hik : j < keep.length
                · have := HKW.out (keep.getD j 0) (by simp [hik])
                  omega
                · rw [List.getD_eq_getElem?_getD, List.getElem?_eq_none (by omega)]; simp
              have HIK0 := Lib.hid hik0
              clear hc5 hc9 hc10 hn hnl hb5 hb9 hb10 n5 n9 n10 hblk hf e1 e2 hcm hrd hfo hm hk hla hfs hX hik0 hj11
              go_wp2_with fail
              refine (sto_read HLv.out.sto n hns (by have := HLv.out.used; omega)).mono ?_
              rintro e w12 ⟨v12, rfl, ho12, hb12⟩
              rw [HRD.out] at ho12 ⊢
              obtain ⟨A12, c12, rfl, _, _, _, hr12⟩ := ho12.form
              have q2 : ∀ n, (convert 31 9 (.slice A12 X.length c12)).run Try.prog (w12.drewN n) = .ok (.string (str X)) (w12.drewN n) := fun n => run_string A12 X c12 _ _ (hr12.drewN n)
              rw [htl] at q2 ⊢
              have k9 : w12.cell? ⟨g9, j, none⟩ = some (.string (str f.data)) := (hb12.cell (World.block_lt_of_cell? wv _ hk9)).trans hk9
              have k10 : w12.cell? ⟨g10, j, none⟩ = some (.int .i64 (f.sure : Int)) := (hb12.cell (World.block_lt_of_cell? wv _ hk10)).trans hk10
              have HLw := Lib.hid (HLv.out.moved hb12)
              have HBX := Lib.hid hb12
              have hz12 := hb12.size
              have HBW := Lib.hid (HBV.out.trans (hb12.mono hzv))
              clear ho12 hb12 hr12 hcn hk9 hk10
              generalize hws : str f.data = ws at *
              go_wp2
              go_quiet (first | (go_at_call 14; refine Calls.quiet_of_same (sto_sure' (HLw.out.sto.below (below_drewN (Below.refl _ _) _)) n hns HFS.out)))
              have hsub : (k : Int) - (f.sure : Int) = ((k - f.sure : Nat) : Int) := by omega
              by_cases hik1 : j < keep.length
              · obtain ⟨b, off, z, hA1, hcz, hmz⟩ := HIK.out hik1
                subst hA1
                have hcz2 : w12.cell? ⟨b, off + j, none⟩ = some (.int .i64 z) := (HBX.out.cell (World.block_lt_of_cell? wv _ hcz)).trans hcz
                have d1 : decide ((j : Int) < (keep.length : Int)) = true := by simp; omega
                clear hcz
                by_cases hkk : k < f.data.length
                · have hkq := hkeq hkk
                  have hkq2 : ((k - f.sure : Nat) : Int) = (m : Int) := by omega
                  go_wp2
                  go_roundw
                  case rel => exact ⟨j + 1, by omega, by go_num, below_drewN HBW.out _⟩
                  case measure => simp [intOf]; omega
                · have hkq : k = f.data.length := by omega
                  go_wp2
                  go_roundw
                  case rel => exact ⟨j + 1, by omega, by go_num, below_drewN HBW.out _⟩
                  case measure => simp [intOf]; omega
              · obtain rfl := HIK0.out hik1
                have d1 : decide ((j : Int) < (keep.length : Int)) = false := by simp; omega
                by_cases hkk : k < f.data.length
                · have hkq := hkeq hkk
                  go_wp2
                  go_roundw
                  case rel => exact ⟨j + 1, by omega, by go_num, below_drewN HBW.out _⟩
                  case measure => simp [intOf]; omega
                · have hkq : k = f.data.length := by omega
                  go_wp2
                  go_roundw
                  case rel => exact ⟨j + 1, by omega, by go_num, below_drewN HBW.out _⟩
                  case measure => simp [intOf]; omega
            · go_wp2_with fail
              refine (sto_used HLv.out.sto (by have := HLv.out.used; omega)).mono ?_
              rintro e w13 ⟨rfl, hb13⟩
              have HL13 := Lib.hid (HLv.out.moved hb13)
              clear hb13
              have hk13 : RowI w13 w.heap.size A1 keep := row_i_keep HR.out HL13.out.below
              have hn13 : 0 < keep.length → ∀ a, A1 = some a → ¬ S11 a.block := fun hp a ha hs => by
                obtain ⟨b, off, e, hb, _⟩ := HR.out hp
                rw [ha] at e
                injection e with e
                subst e
                have := HL13.out.new _ hs
                simp only at *
                omega
              have HK13 := Lib.hid hk13; have HN13 := Lib.hid hn13
              clear hk13 hn13
              go_wp2_with fail
              refine (crash_ok w13 S11 sb s11 A1 keep c1 w.heap.size HL13.out.sto (by have := HL13.out.files; omega) (by have := HL13.out.used; omega) (by omega) HKW.out HK13.out HL13.out.below.size HN13.out).mono ?_
              rintro e w14 hc14
              have HL14 := Lib.hid (HL13.out.crash hc14)
              obtain ⟨rfl, _, _⟩ := hc14
              have hag : FM.crash s11 keep = s11 := by rw [HS11.out]; exact crash_again HSU.out keep
              rw [hag] at HL14
              clear hag
              go_wp2_with fail
              refine (sto_used HL14.out.sto (by have := HL14.out.used; omega)).mono ?_
              rintro e w15 ⟨rfl, hb15⟩
              have HL15 := Lib.hid (HL14.out.moved hb15)
              clear hb15
              go_wp2_with fail
              refine (sto_names HL15.out.sto (by have := HL15.out.files; omega)).mono ?_
              rintro e w16 ⟨v16, rfl, hrow16, hb16⟩
              have hn16 : OwnC w16 w15.heap.size 9 v16 ((s11.fs.map Prod.fst).map encStr) := by unfold OwnC; rw [List.length_map, List.length_map]; exact hrow16
              obtain ⟨A16, c16, rfl, _, _⟩ := hn16.form
              have hl16 : ((s11.fs.map Prod.fst).map encStr).length = s.fs.length := by rw [List.length_map, List.length_map, HS11.out, crash_len]
              rw [hl16]
              have HL16 := Lib.hid (HL15.out.moved hb16)
              clear hrow16 hb16 hn16 hl16
              go_wp2
              go_ret
              exact ⟨rfl, HL16.out.below⟩

theorem walk (a0 : Option Addr) (len0 cap0 : Nat) (a1 : Option Addr) (len1 cap1 : Nat) (z1 : List Int) (w : World) (w0 : IsCalls w a0 len0) (w1 : IsRow .i64 w a1 len1 cap1 z1) :
    Calls Try.prog 7 #[.slice a0 len0 cap0, .slice a1 len1 cap1] w fun e w' => e = .returned (.bool true) ∧ Below w.heap.size w w' := by
  obtain ⟨cs, rfl, hm, h⟩ := w0
  obtain ⟨keep, rfl, hkm, hr, hkw⟩ := came_i w1
  rcases hs : shortL cs with _ | _
  · exact long0 a0 cs cap0 a1 keep cap1 w h hm hs
  · by_cases hll : 100 < keep.length
    · exact long1 a0 cs cap0 a1 keep cap1 w h hm hs hll
    · exact main a0 cs cap0 a1 keep cap1 w h hm hs (by omega) hr hkw

theorem own : ownKnob Try.prog.godebug = none := by kernel_rfl
theorem laidOut : laidOutB Try.prog = true := by kernel_rfl

set_option maxRecDepth 100000 in
theorem lifted (os : Os) (started : os.Started) (H : Type) (enc : TypeId × Value → H) :
    ReturnsInHanded {} Try.checked os 7 .any (Rows.fileCrashSpec.pre6 enc Try.prog Try.f7 Rows.fileCrashRow.domain false) (Rows.fileCrashSpec.post enc Try.prog Try.f7 false true false false) := by
  refine returnsInHanded_of_change (C := Try.checked) own started (by kernel_rfl) Try.func7
    (ChangeSpec.witness6 (enc := enc) (C := Try.checked) false ⟨#[], #[.slice none 0 0, .slice none 0 0], []⟩ 8 (by kernel_rfl) (by kernel_rfl) (by kernel_rfl) (by kernel_rfl)) ?_
  intro W base args ds gs before hval0 hW hcnd _
  have hval : ∀ (j : Nat) t v, Try.f7.params[j]? = some t → args[j]? = some v → Value.okWide Try.prog W .any base t v := hval0
  have hW' := hW
  obtain ⟨p, q, hA0, hV, rfl, hfz, hnd⟩ := hW
  have hA : DataW.TrodAll enc Try.prog W 0 (fun _ => true) true Try.f7.params.toList args.toList ds p := hA0
  rw [Try.params7] at hA hval
  obtain ⟨v0, vs0, d0, ds0, p0, q0, hargs, rfl, rfl, h0, r0⟩ := trodAll_cons hA
  obtain ⟨v1, vs1, d1, ds1, p1, q1, rfl, rfl, rfl, h1, r1⟩ := trodAll_cons r0
  obtain ⟨rfl, rfl, rfl⟩ := trodAll_nil r1
  obtain rfl : args = #[v0, v1] := by cases args; simp_all
  obtain ⟨rfl, rfl⟩ := trodVars_none hV
  obtain ⟨a0, len0, cap0, rfl⟩ := okWide_slice Try.underlying22 (hval 0 22 v0 rfl rfl)
  have k0 := h0
  have lt0 : ∀ x ∈ p0, x.block < W.heap.size := by obtain ⟨m, hm⟩ := k0; exact DataW.trod_lt m _ _ _ hm
  have w0 : IsCalls W a0 len0 := by
    obtain ⟨fuel, hf⟩ := h0
    exact calls_in hf
  obtain ⟨a1, len1, cap1, rfl⟩ := okWide_slice Try.underlying49 (hval 1 49 v1 rfl rfl)
  have k1 := h1
  have lt1 : ∀ x ∈ p1, x.block < W.heap.size := by obtain ⟨m, hm⟩ := k1; exact DataW.trod_lt m _ _ _ hm
  obtain ⟨z1, w1⟩ : ∃ zs, IsRow .i64 W a1 len1 cap1 zs := by
    obtain ⟨fuel, hf⟩ := h1
    rcases open_ints Try.underlying49 Try.underlying3 (by kernel_rfl) hf with ⟨hcs, _⟩ | ⟨x, l, c, zs, hcs, _, hl, hm, hz, _, hcell, hwz⟩
    · simp [Value.cells] at hcs
      obtain ⟨rfl, rfl, rfl⟩ := hcs
      exact ⟨[], .inl ⟨rfl, rfl, rfl, rfl⟩⟩
    · simp [Value.cells] at hcs
      obtain ⟨rfl, rfl, rfl⟩ := hcs
      exact ⟨zs, .inr ⟨_, rfl, hl, hm, by simpa using hz, hcell, hwz⟩⟩
  clear hA0 hval0
  refine (walk a0 len0 cap0 a1 len1 cap1 z1 W w0 w1).mono fun e W' ⟨he, bel⟩ => ?_
  subst he
  exact ⟨_, rfl, _, _, _, [], _, [], hW', trodAll_mk1 (shut_bool Try.underlying4 _), (trodAll_cons_mk (Below.trod laidOut (by kernel_rfl) (of_decide_eq_true (by kernel_rfl)) k0 bel lt0) (trodAll_cons_mk (Below.trod laidOut (by kernel_rfl) (of_decide_eq_true (by kernel_rfl)) k1 bel lt1) trodAll_mk0)), rfl, bel.frame _, fun h => by cases h⟩

theorem over : Rows.fileCrashRow.holds Try.pinned (OpenSpec.ofChange Rows.fileCrashSpec) :=
  OpenClaim.holds_of_wide 7 Try.f7 rfl rfl rfl rfl rfl rfl rfl ⟨rfl, rfl, rfl, rfl, rfl⟩ rfl rfl rfl rfl rfl (by kernel_rfl) Try.func7 (by kernel_rfl)
    (of_decide_eq_true (by kernel_rfl)) (by unfold Func.isWrapper; first | (rw [if_pos (by decide +kernel)]; kernel_rfl) | (rw [if_neg (by decide +kernel)]; exact ⟨rfl, rfl⟩))
    (fun os started H enc _ => lifted os started H enc)

end Go.Proofs.Ytdaipoelicpnoaa.fileCrash
namespace Go.Proofs.Ytdaipoelicpnoaa
theorem fileCrash_holds : Rows.FileCrashSaid := fileCrash.over
end Go.Proofs.Ytdaipoelicpnoaa
