/-
  Layer 8 (cell): spread, PutLine.
-/
import Derived.Test.YtalngmegenlfgaaDoorKGoes
import Derived.Test.YtalngmegenlfgaaDoorKMend
namespace Go.Proofs.YtalngmegenlfgaaDoor
open Go.RowKit Go.Lib KM

/-- A run that lies in a block of its own. -/
def RunAt (w : World) (g : Nat) (x : Nat × Cel) : Prop := w.heap[g]? = some (.cells #[.int .i64 (x.1 : Int), .int .i32 x.2.rune, .bool x.2.sty.bold, .bool x.2.sty.under, .bool x.2.sty.turned, .int .i64 x.2.sty.fore, .int .i64 x.2.sty.back] 65 (0, 0))
theorem RunAt.cells {w : World} {g : Nat} {x : Nat × Cel} (h : RunAt w g x) : w.cell? ⟨g, 0, none⟩ = some (.int .i64 (x.1 : Int)) ∧ w.cell? ⟨g, 1, none⟩ = some (.int .i32 x.2.rune) ∧ w.cell? ⟨g, 2, none⟩ = some (.bool x.2.sty.bold) ∧ w.cell? ⟨g, 3, none⟩ = some (.bool x.2.sty.under) ∧
    w.cell? ⟨g, 4, none⟩ = some (.bool x.2.sty.turned) ∧ w.cell? ⟨g, 5, none⟩ = some (.int .i64 x.2.sty.fore) ∧ w.cell? ⟨g, 6, none⟩ = some (.int .i64 x.2.sty.back) := by
  unfold RunAt at h
  refine ⟨?_, ?_, ?_, ?_, ?_, ?_, ?_⟩ <;> simp [World.cell?, h]
theorem RunAt.below {w w' : World} {g B : Nat} {x : Nat × Cel} (h : RunAt w g x) (hb : Below B w w') (hg : g < B) : RunAt w' g x := (hb.block g hg).trans h
theorem RunAt.lt {w : World} {g : Nat} {x : Nat × Cel} (h : RunAt w g x) : g < w.heap.size := (Array.getElem?_eq_some_iff.1 h).1
theorem RunAt.grow {w w' : World} {g : Nat} {x : Nat × Cel} {v v' : Value} (h : RunAt w g x) (hg : Grow w w' v v') (hne : ∀ k, v.ownBlock = some k → k ≠ g) : RunAt w' g x :=
  (hg.grown.block g h.lt fun e => hne g e.symm rfl).trans h
theorem Grow.apart {w w' : World} {g : Nat} {v v' : Value} (hg : Grow w w' v v') (hl : g < w.heap.size) (hne : ∀ k, v.ownBlock = some k → k ≠ g) : ∀ k, v'.ownBlock = some k → k ≠ g := fun k hk => by
  rcases hg.place with e | e
  · exact hne k (e ▸ hk)
  · have := e k hk; omega

theorem spread_take (rs : List (Nat × Cel)) (m k : Nat) (hk : k < rs.length) : spread (rs.take (k + 1)) m = spread (rs.take k) m ++ List.replicate (min rs[k].1 m) rs[k].2 := by
  rw [List.take_succ_eq_append_getElem hk, spread_append, spread_one]
theorem spread_take_len (rs : List (Nat × Cel)) (m k : Nat) : (spread (rs.take k) m).length ≤ (spread rs m).length := by
  conv => rhs; rw [← List.take_append_drop k rs]
  rw [spread_append, List.length_append]
  omega

set_option maxRecDepth 100000 in
set_option maxHeartbeats 1000000 in
theorem spread_ok (w : World) (rs : List (Nat × Cel)) (A : Option Addr) (c B m : Nat) (hr : runE.Row w B A rs) (hB : B ≤ w.heap.size) (hl : rs.length ≤ 1000) (hs : (spread rs m).length ≤ 1000) :
    Calls Tryd.prog 44 #[.slice A rs.length c, .int .i64 (m : Int)] w (CelsPost w (spread rs m)) := by
  have HR := Lib.hid hr
  clear hr
  go_enter Tryd.func44, Tryd.ntmps44
  go_wp2
  go_loopw [5, 10] (fun v i wr => ∃ k : Nat, k ≤ rs.length ∧ i = .int .i64 (k : Int) ∧ Below w.heap.size w wr ∧ celE.Own wr w.heap.size v (spread (rs.take k) m)) (fun _ i _ => rs.length - (RowKit.intOf i).toNat)
  case atStart => exact ⟨0, Nat.zero_le _, rfl, Below.refl _ _, El.Own.nil _ _⟩
  case round =>
    obtain ⟨k, hk, rfl, hb, ho⟩ := hrel
    have HB := Lib.hid hb
    have HO := Lib.hid ho
    have hz := hb.size
    clear hb ho
    by_cases hlt : k < rs.length
    · have g1 : decide ((k : Int) < (rs.length : Int)) = true := by simp; omega
      have gn : decide (k < rs.length) = true := by simp; omega
      obtain ⟨b, off, rfl, hbl, c0, c1, c2, c3, c4, c5, c6⟩ := run_at (HR.out.below (HB.out.mono hB)) hlt
      have hst := spread_take rs m k hlt
      have hlen := spread_take_len rs m (k + 1)
      rw [hst, List.length_append, List.length_replicate] at hlen
      have HST := Lib.hid hst
      clear hst
      generalize rs[k] = x at *
      generalize spread (rs.take k) m = L at *
      obtain ⟨q, hq⟩ : ∃ q, q = min x.1 m := ⟨_, rfl⟩
      rw [← hq] at hlen HST
      have hmin : min (x.1 : Int) (m : Int) = (q : Int) := by rw [hq]; omega
      clear hq
      obtain ⟨w1, hw1⟩ : ∃ w1, w1 = wr.alloc (.cells #[.int .i64 (x.1 : Int), .int .i32 x.2.rune, .bool x.2.sty.bold, .bool x.2.sty.under, .bool x.2.sty.turned, .int .i64 x.2.sty.fore, .int .i64 x.2.sty.back] 65) := ⟨_, rfl⟩
      have hb1 : Below wr.heap.size wr w1 := by rw [hw1]; exact (Below.refl _ _).alloc (Nat.le_refl _) _
      have hc1 : RunAt w1 wr.heap.size x := by rw [hw1]; exact heap_alloc_new wr _
      have ho1 := HO.out.below hb1
      have HNE := Lib.hid (show ∀ k, u5.ownBlock = some k → k ≠ wr.heap.size from fun k hk => by have := (HO.out.lt k hk).2; omega)
      have HB1 := Lib.hid (below_next HB.out hb1)
      have HC1 := Lib.hid hc1
      have HO1 := Lib.hid ho1
      have W1 := Lib.hid hw1
      have hz1 := hb1.size
      obtain ⟨d0, d1, d2, d3, d4, d5, d6⟩ := hc1.cells
      clear hw1 hb1 hc1 ho1
      obtain ⟨n, ⟨r, ⟨bo, u, t, f, ba⟩⟩⟩ := x
      simp only at *
      go_upto_region 5 with fail
      rw [← W1.out]
      go_wp2
      go_loopw [5, 18] (fun v i wi => ∃ j : Nat, j ≤ q ∧ i = .int .i64 (j : Int) ∧ Below w.heap.size w wi ∧ celE.Own wi w.heap.size v (L ++ List.replicate j ⟨r, ⟨bo, u, t, f, ba⟩⟩) ∧ RunAt wi wr.heap.size (n, ⟨r, ⟨bo, u, t, f, ba⟩⟩) ∧ ∀ k, v.ownBlock = some k → k ≠ wr.heap.size) (fun _ i _ => q - (RowKit.intOf i).toNat)
      case atStart => exact ⟨0, Nat.zero_le _, rfl, HB1.out, by simpa using HO1.out, HC1.out, HNE.out⟩
      case round =>
        obtain ⟨j, hj, rfl, hbi, hoi, hci, hni⟩ := hrel
        have HBI := Lib.hid hbi
        have HOI := Lib.hid hoi
        have HCI := Lib.hid hci
        have HNI := Lib.hid hni
        have hzi := hbi.size
        obtain ⟨e0, e1, e2, e3, e4, e5, e6⟩ := hci.cells
        simp only at e0 e1 e2 e3 e4 e5 e6
        clear hbi hoi hci hni d0 d1 d2 d3 d4 d5 d6 c0 c1 c2 c3 c4 c5 c6
        by_cases hjq : j < q
        · have g2 : decide ((j : Int) < (q : Int)) = true := by simp; omega
          have g2n : decide (j < q) = true := by simp; omega
          go_wp2_with (at_builtin; refine celE.wp_append1 rfl (.tmp 20) (.tmp 23) rfl w.heap.size _ (L ++ List.replicate j ⟨r, ⟨bo, u, t, f, ba⟩⟩) rfl HOI.out ⟨r, ⟨bo, u, t, f, ba⟩⟩ #[.int .i32 r, .bool bo, .bool u, .bool t, .int .i64 f, .int .i64 ba] 33 rfl rfl ?c1 ?c2 hzi ?_)
          case c1 => simp only [celE, List.length_append, List.length_replicate]; omega
          case c2 => unfold maxLen; simp only [List.length_append, List.length_replicate]; omega
          intro v3 w3 o3 g3
          have HO3 := Lib.hid o3
          have HB3 := Lib.hid (HBI.out.trans (HOI.out.grow_below g3 hzi))
          have HC3 := Lib.hid (HCI.out.grow g3 HNI.out)
          have HN3 := Lib.hid (g3.apart HCI.out.lt HNI.out)
          clear o3 g3
          go_wp2_with fail
          go_roundw
          case rel => exact ⟨j + 1, by omega, by simp, HB3.out, by rw [List.replicate_succ']; simpa using HO3.out, HC3.out, HN3.out⟩
          case measure => simp [RowKit.intOf]; omega
        · have g2 : decide ((j : Int) < (q : Int)) = false := by simp; omega
          have g2n : decide (j < q) = false := by simp; omega
          obtain rfl : j = q := by omega
          go_wp2_with fail
          go_roundw
          case rel => exact ⟨k + 1, by omega, by simp, HBI.out, by rw [HST.out]; exact HOI.out⟩
          case measure => simp [RowKit.intOf]; omega
    · have g1 : decide ((k : Int) < (rs.length : Int)) = false := by simp; omega
      have gn : decide (k < rs.length) = false := by simp; omega
      obtain rfl : k = rs.length := by omega
      have ho := HO.out
      rw [List.take_length] at ho
      have HO2 := Lib.hid ho
      clear ho
      go_wp2_with fail
      go_ret
      exact ⟨u5, rfl, HO2.out, HB.out⟩
/-! ### PutLine -/
theorem Grow.ne {w w' : World} {u v v' : Value} (hg : Grow w w' v v') (hl : ∀ k, u.ownBlock = some k → k < w.heap.size) (hne : ∀ k, u.ownBlock = some k → v.ownBlock ≠ some k) : ∀ k, u.ownBlock = some k → v'.ownBlock ≠ some k := fun k hk => by
  rcases hg.place with e | e
  · rw [e]; exact hne k hk
  · intro h; have := e k h; have := hl k hk; omega
theorem Own.grow_below {w w' : World} {base : Nat} {v v' : Value} {l : List Nat} (ho : Own w base v l) (h : Grow w w' v v') (hb : base ≤ w.heap.size) : Below base w w' :=
  (Below.refl base w).grown h.grown hb fun k hk => ho.lt k hk
theorem Own.lt2 {w : World} {base : Nat} {v : Value} {l : List Nat} (h : Own w base v l) : ∀ k, v.ownBlock = some k → k < w.heap.size := fun k hk => (World.ownsRow.lt h k hk).2
theorem runsB_take (rs : List (Nat × Cel)) (k : Nat) (hk : k < rs.length) : runsB (rs.take (k + 1)) = runsB (rs.take k) ++ runB rs[k] := by
  rw [List.take_succ_eq_append_getElem hk, runsB_append, runsB_one]
theorem runsB_take_len (rs : List (Nat × Cel)) (hf : ∀ x ∈ rs, Fine x) (k : Nat) : (runsB (rs.take k)).length ≤ 30 * rs.length := by
  have := runsB_len (rs.take k) fun x hx => hf x (List.mem_of_mem_take hx)
  rw [List.length_take] at this
  omega
/-- What PutLine answers. -/
def LinePost (w : World) (base : Nat) (xs : List Nat) (e : Ending) (w' : World) : Prop := ∃ v', e = .returned v' ∧ Own w' base v' xs ∧ Below base w w'

set_option maxRecDepth 100000 in
set_option maxHeartbeats 1000000 in
theorem putLine_ok (w : World) (v : Value) (xs : List Nat) (base : Nat) (l : List Cel) (A : Option Addr) (c B : Nat) (hown : Own w base v xs) (hbase : base ≤ w.heap.size) (hxs : xs.length ≤ 1000) (hr : celE.Row w B A l) (hB : B ≤ w.heap.size) (hl : l.length ≤ 1000) (hf : ∀ x ∈ runs l, Fine x) :
    Calls Tryd.prog 28 #[v, .slice A l.length c] w (LinePost w base (xs ++ runsB (runs l))) := by
  have HF := Lib.hid hf
  have HRO := Lib.hid (runsOf_ok w l A c B hr hB hl)
  have hrl := runs_len l
  have HLE := Lib.hid (runsB_take_len (runs l) hf)
  have HOW := Lib.hid hown
  clear hr hf hown
  generalize runs l = rs at *
  go_enter Tryd.func28, Tryd.ntmps28
  go_wp2_with fail
  refine HRO.out.mono ?_
  rintro e w1 ⟨uv, rfl, o1, b1⟩
  have HB1 := Lib.hid b1
  have z1 := b1.size
  have HV1 := Lib.hid (HOW.out.below b1)
  have HNE := Lib.hid (show ∀ k, uv.ownBlock = some k → v.ownBlock ≠ some k from fun k hk e => by have h1 := (o1.lt k hk).1; have h2 := HOW.out.lt2 k e; omega)
  obtain ⟨A1, c1, rfl, hc1, _, hA1, _⟩ := o1.row
  have HO1 := Lib.hid o1
  clear b1 o1
  go_wp2
  go_loopw [0, 10] (fun x i wr => ∃ k : Nat, k ≤ rs.length ∧ i = .int .i64 (k : Int) ∧ Below base w wr ∧ w1.heap.size ≤ wr.heap.size ∧ Own wr base x (xs ++ runsB (rs.take k)) ∧ runE.Own wr w.heap.size (.slice A1 rs.length c1) rs ∧ ∀ k, (Value.slice A1 rs.length c1).ownBlock = some k → x.ownBlock ≠ some k) (fun _ i _ => rs.length - (RowKit.intOf i).toNat)
  case atStart => exact ⟨0, Nat.zero_le _, rfl, HB1.out.mono hbase, Nat.le_refl _, by simpa [runsB] using HV1.out, HO1.out, HNE.out⟩
  case round =>
    obtain ⟨k, hk, rfl, hb, hzz, hx, ho, hne⟩ := hrel
    have HB := Lib.hid hb
    have HX := Lib.hid hx
    have HO := Lib.hid ho
    have HN := Lib.hid hne
    have hz := hb.size
    clear hb hx ho hne
    by_cases hlt : k < rs.length
    · have g1 : decide ((k : Int) < (rs.length : Int)) = true := by simp; omega
      have gn : decide (k < rs.length) = true := by simp; omega
      have hplace := HO.out.place (by omega)
      obtain ⟨g, cq, hv, hgb, hgl, _, _, hfr, hcells⟩ := hplace
      simp only [Value.slice.injEq, true_and] at hv
      obtain ⟨rfl, rfl⟩ := hv
      have c0 : wr.cell? ⟨g, k * 7, none⟩ = some (.int .i64 (rs[k].1 : Int)) := hcells k hlt 0 (by decide)
      have c1' : wr.cell? ⟨g, k * 7 + 1, none⟩ = some (.int .i32 rs[k].2.rune) := hcells k hlt 1 (by decide)
      have c2 : wr.cell? ⟨g, k * 7 + 2, none⟩ = some (.bool rs[k].2.sty.bold) := hcells k hlt 2 (by decide)
      have c3 : wr.cell? ⟨g, k * 7 + 3, none⟩ = some (.bool rs[k].2.sty.under) := hcells k hlt 3 (by decide)
      have c4 : wr.cell? ⟨g, k * 7 + 4, none⟩ = some (.bool rs[k].2.sty.turned) := hcells k hlt 4 (by decide)
      have c5 : wr.cell? ⟨g, k * 7 + 5, none⟩ = some (.int .i64 rs[k].2.sty.fore) := hcells k hlt 5 (by decide)
      have c6 : wr.cell? ⟨g, k * 7 + 6, none⟩ = some (.int .i64 rs[k].2.sty.back) := hcells k hlt 6 (by decide)
      clear hfr hcells
      have hfx := HF.out rs[k] (List.getElem_mem hlt)
      have HST := Lib.hid (runsB_take rs k hlt)
      have hlen := HLE.out k
      generalize rs[k] = x at *
      generalize runsB (rs.take k) = L at *
      obtain ⟨w2, hw2⟩ : ∃ w2, w2 = wr.alloc (.cells #[.int .i64 (x.1 : Int), .int .i32 x.2.rune, .bool x.2.sty.bold, .bool x.2.sty.under, .bool x.2.sty.turned, .int .i64 x.2.sty.fore, .int .i64 x.2.sty.back] 65) := ⟨_, rfl⟩
      have b2 : Below wr.heap.size wr w2 := by rw [hw2]; exact (Below.refl _ _).alloc (Nat.le_refl _) _
      have hc2 : RunAt w2 wr.heap.size x := by rw [hw2]; exact heap_alloc_new wr _
      have HX2 := Lib.hid (HX.out.below b2)
      have HN2 := Lib.hid (show ∀ k, u0.ownBlock = some k → k ≠ wr.heap.size from fun k hk => by have := HX.out.lt2 k hk; omega)
      have HB2 := Lib.hid (HB.out.trans (b2.mono (Nat.le_trans hbase hz)))
      have HO2 := Lib.hid (HO.out.below b2)
      have HC2 := Lib.hid hc2
      have W2 := Lib.hid hw2
      have z2 := b2.size
      obtain ⟨d0, d1, d2, d3, d4, d5, d6⟩ := hc2.cells
      clear hw2 b2 hc2
      obtain ⟨n, ⟨r, ⟨bo, u, t, f, ba⟩⟩⟩ := x
      obtain ⟨f1, f2, f3, f4, f5⟩ := hfx
      simp only at *
      obtain ⟨r, rfl⟩ := Int.eq_ofNat_of_zero_le f3
      have hr' : r < 1114112 := by omega
      have HFS := Lib.hid f5
      clear f3 f4 f5
      go_upto_region 4 with fail
      rw [← W2.out]
      go_wp2_with fail
      refine (put_two_grow u0 (xs ++ L) n r w2 base (by omega) (by omega) (by rw [List.length_append]; omega) HX2.out (by omega)).mono ?_
      rintro e w3 ⟨v3, rfl, o3, g3⟩
      have HX3 := Lib.hid o3
      have HC3 := Lib.hid (HC2.out.grow g3 HN2.out)
      have HB3 := Lib.hid (HB2.out.trans (HX2.out.grow_below g3 (by omega)))
      have HO3 := Lib.hid (HO2.out.grown g3.grown (fun k hk => HN.out k hk))
      have HN3 := Lib.hid (g3.ne (fun k hk => (HO2.out.lt k hk).2) HN.out)
      have z3 := g3.grown.size
      clear o3 g3 d0 d1 d2 d3 d4 d5 d6
      obtain ⟨d0, d1, d2, d3, d4, d5, d6⟩ := HC3.out.cells
      simp only at d0 d1 d2 d3 d4 d5 d6
      have hl1 := VM.enc_len64 (n := n) (by omega)
      have hl2 := VM.enc_len64 (n := r) (by omega)
      go_wp2_with fail
      refine (putStyle_ok v3 (xs ++ L ++ (VM.enc n ++ VM.enc r)) ⟨bo, u, t, f, ba⟩ w3 base HFS.out (by simp only [List.length_append]; omega) HX3.out (by omega)).mono ?_
      rintro e w4 ⟨v4, rfl, o4, g4⟩
      have HX4 := Lib.hid o4
      have HB4 := Lib.hid (HB3.out.trans (HX3.out.grow_below g4 (by omega)))
      have HO4 := Lib.hid (HO3.out.grown g4.grown (fun k hk => HN3.out k hk))
      have HN4 := Lib.hid (g4.ne (fun k hk => (HO3.out.lt k hk).2) HN3.out)
      have z4 := g4.grown.size
      clear o4 g4
      go_wp2_with fail
      go_roundw
      case rel => exact ⟨k + 1, by omega, by simp, HB4.out, by omega, by rw [HST.out]; simpa [runB] using HX4.out, HO4.out, HN4.out⟩
      case measure => simp [RowKit.intOf]; omega
    · have g1 : decide ((k : Int) < (rs.length : Int)) = false := by simp; omega
      have gn : decide (k < rs.length) = false := by simp; omega
      obtain rfl : k = rs.length := by omega
      have ho := HX.out
      rw [List.take_length] at ho
      have HX2 := Lib.hid ho
      clear ho
      go_wp2_with fail
      go_ret
      exact ⟨u0, rfl, HX2.out, HB.out⟩
end Go.Proofs.YtalngmegenlfgaaDoor
