/-
  Layer 5 (utf): one byte more: the walk.
-/
import Derived.Test.YtdolekmifnenhaaDoorUFeed
namespace Go.Proofs.YtdolekmifnenhaaDoor
open Go.RowKit Go.Lib

theorem run_all (g n : Nat) (h : n ≤ 3) (w : World) : (Instr.sliceAt 42 (.pointer (some ⟨g, 0, none⟩)) none (some (.int .i64 ((n : Int) + 1))) none).run Tryd.prog w = .ok (.slice (some ⟨g, 0, none⟩) (n + 1) 4) w := by
  have ha : Tryd.prog.arrayLen 42 = 4 := by kernel_rfl
  have hs : (sizeOf (Tryd.prog.elem 42)).run Tryd.prog w = .ok 1 w := by kernel_rfl
  rw [run_sliceAt_array_h (P := Tryd.prog) w 42 ⟨g, 0, none⟩ (by kernel_rfl) .i64 ((n : Int) + 1) (by omega) (by rw [ha]; omega), hs, ha]
  have e : ((n : Int) + 1).toNat = n + 1 := by omega
  simp [Result.andThen, slicedAt, e, Addr.add]
/-- How long a slice is. -/
def sliceLen : Value → Nat
  | .slice _ n _ => n
  | _ => 0
theorem FL.start {w W : World} {d : Array Value} {base : Nat} {v : Value} {rs : List Nat} {u : List UInt8} {c : UInt8} (h : FS w W d (four (u ++ [c]))) (hu : u.length ≤ 3) (hT : Utf w) (ho : OwnR w base v rs) (h2 : 2 ≤ base) :
    FL w W base v v rs [] (some ⟨w.heap.size + 1 + 1, 0, none⟩) 4 (u ++ [c]) (u ++ [c]) where
  cap := by simp; omega
  row := h.row (by simp; omega)
  place := fun ad e => by injection e with e; rw [← e]
  own := by rw [List.append_nil]; exact ho.below h.below
  told := rfl
  left := rfl
  grow := Grow.of_below h.below (Grow.refl _ _)
  apart := fun k hk => .inl (ho.lt k hk).2
  res := h.res
  size := h.size
  short := by simp; omega
  few := by simp
  short0 := by simp; omega
  base2 := h2
  tabs := hT.on h.below hT.room

set_option maxRecDepth 100000 in
set_option maxHeartbeats 1000000 in
theorem feed_ok (w : World) (hT : Utf w) (v : Value) (rs : List Nat) (base : Nat) (hown : OwnR w base v rs) (hbase : base ≤ w.heap.size) (h2 : 2 ≤ base) (hm : rs.length ≤ 1000000) (u : List UInt8) (hu : u.length ≤ 3) (c : UInt8) :
    Calls Tryd.prog 15 #[holdV (nat8 u), v, .int .u8 (c.toNat : Int)] w (FeedPost w base v rs (u ++ [c])) := by
  obtain ⟨i0, hi, hz0, hz1, hz2⟩ := info_parts Tryd.info21
  have hlen : (nat8 u).length = u.length := nat8_len u
  have hd := FS.start w #[.int .u8 ((nat8 u).getD 0 0 : Nat), .int .u8 ((nat8 u).getD 1 0 : Nat), .int .u8 ((nat8 u).getD 2 0 : Nat), .int .i64 (u.length : Int)]
  have hdr := @dec_row (u := u) (n := (u.length : Int)) (hu := hu)
  unfold holdV decV
  rw [hlen]
  clear hlen
  obtain ⟨x, hx⟩ : ∃ x, x = (nat8 u).getD 0 0 := ⟨_, rfl⟩
  obtain ⟨y, hy⟩ : ∃ y, y = (nat8 u).getD 1 0 := ⟨_, rfl⟩
  obtain ⟨z, hz⟩ : ∃ z, z = (nat8 u).getD 2 0 := ⟨_, rfl⟩
  rw [← hx, ← hy, ← hz] at hd ⊢
  rw [← hx, ← hy, ← hz] at hdr
  obtain ⟨n, hn⟩ : ∃ n, n = u.length := ⟨_, rfl⟩
  rw [← hn] at hd ⊢
  rw [← hn] at hdr hu
  have HN := Lib.hid hn; have HD := Lib.hid hd; have HDR := Lib.hid @hdr
  have HT := Lib.hid hT; have HO := Lib.hid hown
  clear hT hown hx hy hz hn hd hdr
  go_enter Tryd.func15, Tryd.ntmps15
  go_wp2
  obtain ⟨W, hW⟩ : ∃ W, W = ((w.alloc (.cells #[.int .u8 (x : Int), .int .u8 (y : Int), .int .u8 (z : Int), .int .i64 (n : Int)] 29)).alloc (.cells #[.int .u8 0, .int .u8 0, .int .u8 0, .int .i64 0] 29)).alloc (.cells #[.int .u8 0, .int .u8 0, .int .u8 0, .int .u8 0] 42) := ⟨_, rfl⟩
  rw [← hW] at HD ⊢
  clear hW
  have d0 : W.cell? ⟨w.heap.size, 0, none⟩ = some (.int .u8 (x : Int)) := by simp only [World.cell?, HD.out.dec]; rfl
  have d1 : W.cell? ⟨w.heap.size, 1, none⟩ = some (.int .u8 (y : Int)) := by simp only [World.cell?, HD.out.dec]; rfl
  have d2 : W.cell? ⟨w.heap.size, 2, none⟩ = some (.int .u8 (z : Int)) := by simp only [World.cell?, HD.out.dec]; rfl
  have d3 : W.cell? ⟨w.heap.size, 3, none⟩ = some (.int .i64 (n : Int)) := by simp only [World.cell?, HD.out.dec]; rfl
  refine wp_region_noPanic ?_
  refine wp_region_held_drew (S := fun w' => w'.cell? ⟨w.heap.size, 0, none⟩ = some (.int .u8 (x : Int)) ∧ w'.cell? ⟨w.heap.size, 1, none⟩ = some (.int .u8 (y : Int)) ∧ w'.cell? ⟨w.heap.size, 2, none⟩ = some (.int .u8 (z : Int)) ∧ w'.cell? ⟨w.heap.size, 3, none⟩ = some (.int .i64 (n : Int))) (by kernel_rfl) ⟨d0, d1, d2, d3⟩ (fun hHeld => ?_)
  refine wpAnyH_take (i := 0) (v := ?va0) rfl (by kernel_rfl) (by kernel_rfl) (by kernel_rfl) (fun _ _ _ h => h) (Or.inl ⟨by rfl, ?ha0⟩) (by assumption) ?_
  case ha0 => intro w hSw; (try dsimp only at hSw); go_simp; try with_reducible rfl
  simp only [List.getElem_toArray, List.getElem_cons_zero, Act.put, List.setIfInBounds_toArray, List.set_cons_zero, List.set_cons_succ]
  refine wpAnyH_take (i := 1) (v := ?va1) rfl (by kernel_rfl) (by kernel_rfl) (by kernel_rfl) (fun _ _ _ h => h) (Or.inl ⟨by rfl, ?ha1⟩) (by assumption) ?_
  case ha1 => intro w hSw; (try dsimp only at hSw); go_simp; try with_reducible rfl
  simp only [List.getElem_toArray, List.getElem_cons_succ, List.getElem_cons_zero, Act.put, List.setIfInBounds_toArray, List.set_cons_zero, List.set_cons_succ]
  refine wpAnyH_ready (rs := [2]) (by kernel_rfl) (by simp) ?_
  refine AllReadyH.cons rfl (fun K hK => ?_) AllReadyH.nil
  go_simp
  refine (underWay_ok _ x y z n).mono ?_
  rintro e W4 ⟨rfl, hwy⟩
  have hb4 : Below W.heap.size W W4 := by rw [hwy]; exact ((Below.refl _ W).drew).alloc (Nat.le_refl _) _
  have h4 : W4.heap[W.heap.size]? = some (.cells #[.int .u8 (x : Int), .int .u8 (y : Int), .int .u8 (z : Int), .int .i64 (n : Int)] 29) := by rw [hwy]; exact (MapKept.heap_alloc W.drew _).1
  obtain ⟨W5, hrun, h5⟩ := (HD.out.on hb4).copied u (by rw [← HN.out]; exact hu) 3 _ 3 _ (HDR.out _ _ h4)
  rw [← HN.out] at hrun
  have e0 : W4.cell? ⟨w.heap.size, 0, none⟩ = some (.int .u8 (x : Int)) := (hb4.cell (World.block_lt_of_cell? W _ d0)).trans d0
  have e1 : W4.cell? ⟨w.heap.size, 1, none⟩ = some (.int .u8 (y : Int)) := (hb4.cell (World.block_lt_of_cell? W _ d1)).trans d1
  have e2 : W4.cell? ⟨w.heap.size, 2, none⟩ = some (.int .u8 (z : Int)) := (hb4.cell (World.block_lt_of_cell? W _ d2)).trans d2
  have e3 : W4.cell? ⟨w.heap.size, 3, none⟩ = some (.int .i64 (n : Int)) := (hb4.cell (World.block_lt_of_cell? W _ d3)).trans d3
  have H5 := Lib.hid h5; have HB4 := Lib.hid hb4
  have hnear := near_of n hu
  clear hwy hb4 h4 h5 d0 d1 d2 d3
  dsimp only
  refine hK.out _ _ ?_ (fun hHeld => ?_)
  · exact ⟨e0, e1, e2, e3⟩
  clear hK K
  rw [hnear]
  refine wpAnyH_ready (rs := [3]) (by kernel_rfl) (by simp) ?_
  refine AllReadyH.cons rfl (fun K hK => ?_) AllReadyH.nil
  go_simp
  have f0 : W5.cell? ⟨w.heap.size, 0, none⟩ = some (.int .u8 (x : Int)) := by simp only [World.cell?, H5.out.dec]; rfl
  have f1 : W5.cell? ⟨w.heap.size, 1, none⟩ = some (.int .u8 (y : Int)) := by simp only [World.cell?, H5.out.dec]; rfl
  have f2 : W5.cell? ⟨w.heap.size, 2, none⟩ = some (.int .u8 (z : Int)) := by simp only [World.cell?, H5.out.dec]; rfl
  have f3 : W5.cell? ⟨w.heap.size, 3, none⟩ = some (.int .i64 (n : Int)) := by simp only [World.cell?, H5.out.dec]; rfl
  clear hrun hnear e0 e1 e2 e3
  refine hK.out _ _ ?_ (fun hHeld => ?_)
  · exact ⟨f0, f1, f2, f3⟩
  clear hK K
  refine wpAnyH_take (i := 4) (v := ?vb4) rfl (by kernel_rfl) (by kernel_rfl) (by kernel_rfl) (fun _ _ _ h => h) (Or.inl ⟨by rfl, ?hb4⟩) (by assumption) ?_
  case hb4 => intro w hSw; (try dsimp only at hSw); go_simp; try with_reducible rfl
  simp only [List.getElem_toArray, List.getElem_cons_succ, List.getElem_cons_zero, Act.put, List.setIfInBounds_toArray, List.set_cons_zero, List.set_cons_succ]
  refine wpAnyH_done (by kernel_rfl) ?_ _
  refine NoPanic.normal ?_
  clear hHeld f0 f1 f2 f3
  have hst : W5.cell? ⟨w.heap.size + 1 + 1, n, none⟩ = some (.int .u8 0) := by
    have h5 := H5.out.all
    have e : w.heap.size + 1 + 1 = w.heap.size + 2 := rfl
    rw [e]
    simp only [World.cell?, h5]
    rw [HN.out] at hu ⊢
    match u, hu with
    | [], _ => rfl
    | [_], _ => rfl
    | [_, _], _ => rfl
    | [_, _, _], _ => rfl
  have hfr : W5.frozen? ⟨w.heap.size + 1 + 1, n, none⟩ = false := by
    have e : w.heap.size + 1 + 1 = w.heap.size + 2 := rfl
    rw [e]
    simp only [World.frozen?, H5.out.all]
    rfl
  have hn3 : (n : Int) ≤ 3 := by omega
  have hsl := run_all (w.heap.size + 1 + 1) n hu
  have h6 := H5.out.set n (.int .u8 (c.toNat : Int))
  have h7 : FS w (W5.setCell ⟨w.heap.size + 1 + 1, n, none⟩ (.int .u8 (c.toNat : Int))) #[.int .u8 (x : Int), .int .u8 (y : Int), .int .u8 (z : Int), .int .i64 (n : Int)] (four (u ++ [c])) := by
    rw [← four_set u (by rw [← HN.out]; exact hu) c, ← HN.out]
    exact h6
  have HF := Lib.hid (FL.start h7 (by rw [← HN.out]; exact hu) HT.out HO.out h2)
  have hlen : n + 1 = (u ++ [c]).length := by rw [HN.out]; simp
  have HL := Lib.hid hlen
  clear h6 h7 hlen H5 HB4 HD HDR HT HO
  go_wp2
  clear hst hfr hsl
  go_loopw [1, 10] (fun a l wr => ∃ ys A cc t, l = .slice A t.length cc ∧ FL w wr base v a rs ys A cc t (u ++ [c])) (fun _ l _ => sliceLen l)
  case atStart => exact ⟨[], _, 4, u ++ [c], by rw [HL.out], HF.out⟩
  case round =>
    obtain ⟨ys, A, cc, t, rfl, hF⟩ := hrel
    have HF := Lib.hid hF
    have hsz := hF.size
    have hzz := hF.grow.grown.size
    clear hF
    rcases hf : UM.full t with _ | _
    · go_wp2_with fail
      refine (full_ok _ HF.out.tabs t (by have := HF.out.short; omega) A cc _ HF.out.row).mono ?_
      rintro e w1 ⟨rfl, hb1⟩
      rw [hf]
      have HF1 := Lib.hid (HF.out.below hb1)
      have ht3 := UM.full_long hf
      have hE := UM.eat_end hf
      have HE := Lib.hid hE
      clear hb1 hf hE
      have hl8 : (nat8 t).length = t.length := nat8_len t
      have HL8 := Lib.hid hl8
      have hlc := holding_ok w1 (nat8 t) (by rw [hl8]; exact ht3) A cc _ HF1.out.row HF1.out.size
      rw [hl8] at hlc
      have HLC := Lib.hid hlc
      clear hl8 hlc
      go_wp2_with fail
      refine HLC.out.mono ?_
      rintro e w7 ⟨rfl, hb7⟩
      have HF7 := Lib.hid (HF1.out.below hb7)
      clear hb7
      have c0 : w7.cell? ⟨w.heap.size + 1, 0, none⟩ = some (.int .u8 0) := by simp only [World.cell?, HF7.out.res]; rfl
      have c1 : w7.cell? ⟨w.heap.size + 1, 1, none⟩ = some (.int .u8 0) := by simp only [World.cell?, HF7.out.res]; rfl
      have c2 : w7.cell? ⟨w.heap.size + 1, 2, none⟩ = some (.int .u8 0) := by simp only [World.cell?, HF7.out.res]; rfl
      have c3 : w7.cell? ⟨w.heap.size + 1, 3, none⟩ = some (.int .i64 0) := by simp only [World.cell?, HF7.out.res]; rfl
      have g0 : w7.frozen? ⟨w.heap.size + 1, 0, none⟩ = false := by simp only [World.frozen?, HF7.out.res]; rfl
      have g1 : w7.frozen? ⟨w.heap.size + 1, 1, none⟩ = false := by simp only [World.frozen?, HF7.out.res]; rfl
      have g2 : w7.frozen? ⟨w.heap.size + 1, 2, none⟩ = false := by simp only [World.frozen?, HF7.out.res]; rfl
      have g3 : w7.frozen? ⟨w.heap.size + 1, 3, none⟩ = false := by simp only [World.frozen?, HF7.out.res]; rfl
      obtain ⟨p0, hp0⟩ : ∃ p, p = (nat8 t).getD 0 0 := ⟨_, rfl⟩
      obtain ⟨p1, hp1⟩ : ∃ p, p = (nat8 t).getD 1 0 := ⟨_, rfl⟩
      obtain ⟨p2, hp2⟩ : ∃ p, p = (nat8 t).getD 2 0 := ⟨_, rfl⟩
      have hV : holdV (nat8 t) = decV p0 p1 p2 (t.length : Int) := by unfold holdV; rw [hp0, hp1, hp2, HL8.out]
      rw [hV]
      have HV := Lib.hid hV
      unfold decV
      clear hp0 hp1 hp2 hV
      go_wp2
      refine bodyPost_ret (v := .tuple #[decV p0 p1 p2 (t.length : Int), u1]) (by simp [results, Tryd.results15, go_sem, decV, c0, c1, c2, c3]) rfl ⟨u1, ?_, ?_, ?_⟩
      · rw [← HF7.out.left, HE.out, ← HV.out]
      · have h1 := HF7.out.own
        have h2 := HF7.out.told
        rw [HE.out, List.append_nil] at h2
        rw [← h2]
        refine h1.keep fun k hk => ?_
        have := HF7.out.apart k hk
        rw [Below.heap_setCell _ _ _ _ (by simp; omega), Below.heap_setCell _ _ _ _ (by simp; omega), Below.heap_setCell _ _ _ _ (by simp; omega), Below.heap_setCell _ _ _ _ (by simp; omega)]
      · exact HF7.out.grow.after ((((Below.refl _ _).setCell (by simp) _).setCell (by simp) _).setCell (by simp) _ |>.setCell (by simp) _)
    · have hw1 := UM.width_pos (l := t)
      have hw2 := UM.width_le (UM.full_ne hf)
      go_wp2_with fail
      refine (full_ok _ HF.out.tabs t (by have := HF.out.short; omega) A cc _ HF.out.row).mono ?_
      rintro e w1 ⟨rfl, hb1⟩
      rw [hf]
      have HF1 := Lib.hid (HF.out.below hb1)
      have HFU := Lib.hid hf
      clear hb1 hf
      go_wp2_with fail
      refine (decode_ok _ HF1.out.tabs t (UM.full_ne HFU.out) A cc _ HF1.out.row).mono ?_
      rintro e w2 ⟨rfl, hb2⟩
      have HF2 := Lib.hid (HF1.out.below hb2)
      clear hb2
      have hst := fun (ww : World) (u' : Value) => @FL.step w w2 ww base v _ rs ys A cc t (u ++ [c]) HF2.out HFU.out u'
      obtain ⟨r, hr⟩ : ∃ r, r = (decodeL t).1 := ⟨_, rfl⟩
      obtain ⟨k, hk⟩ : ∃ k, k = (decodeL t).2 := ⟨_, rfl⟩
      rw [← hr, ← hk] at hst ⊢
      rw [← hk] at hw1 hw2
      have hcut := fun w => run_cut A t.length cc k w hw2
      have HST := Lib.hid hst
      have hlen : (rs ++ ys).length ≤ 1000004 := by have := HF2.out.few; simp; omega
      clear hr hk hst
      have hs2 := HF2.out.size
      have hdl : t.length - k = (t.drop k).length := by simp
      have HDL := Lib.hid hdl
      clear hdl
      go_wp2_with (at_builtin; refine wpList_append_own_at _ rfl _ _ 24 rfl base 21 i0 (.int .i32 0) 1 4 Tryd.underlying24 hi hz0 hz1 hz2 rfl (by decide) _ _ _ rfl (HF2.out.own.alloc _) ⟨w2.heap.size, 0, none⟩ 1 1 [.int .i32 (r : Int)] rfl rfl ?c1 ?c2 ?c3 ?c4 ?c5 ?_)
      case c1 => exact cell_one_new _ _ _
      case c2 => intro a ha; simp at ha; subst ha; rfl
      case c3 => unfold maxLen; omega
      case c4 => omega
      case c5 => simp; omega
      · intro v' w3 ho3 hg3 _ hp3
        have HF3 := Lib.hid (HST.out w3 v' (OwnR.snoc (by rw [List.length_append]; exact ho3)) (Grow.append hg3 hp3))
        clear ho3 hg3 hp3
        go_wp2
        go_roundw
        case rel => exact ⟨ys ++ [r], _, _, t.drop k, by rw [HDL.out], HF3.out⟩
        case measure => simp [sliceLen]; omega
end Go.Proofs.YtdolekmifnenhaaDoor
