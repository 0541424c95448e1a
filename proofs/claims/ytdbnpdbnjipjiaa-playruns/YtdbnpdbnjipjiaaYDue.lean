/-
  Layer 15 (play): what is due.
-/
import Derived.Test.YtdbnpdbnjipjiaaYMeth
import Derived.Test.YtdbnpdbnjipjiaaEShift
import Derived.Deep.RegionHeld3
namespace Go.Proofs.Ytdbnpdbnjipjiaa
open Go.RowKit Go.Lib EM PM
set_option maxRecDepth 100000

set_option maxHeartbeats 2000000 in
theorem due_ok (w : World) (g c : Nat) (A : Option Addr) (P : Pl) (h : PlAt w g A c P) (ok : P.Ok) (ht : P.told ≤ upTo P.l P.now) :
    Calls Try.prog 31 #[.pointer (some ⟨g, 0, none⟩)] w (TellPost w g A c (seg P.l P.told P.due.told) P.due) := by
  have HN := Lib.hid (fun v (hv : PlAt v g A c P) => now_ok v g c A P hv ok)
  have HU := Lib.hid (fun v (hr : evE.Row v g A P.l) (hB : g ≤ v.heap.size) => until_ok v P.l A c g P.now hr hB ok.len ok.rise)
  have hle := upTo_le P.l P.now
  have hdt : P.due.told = upTo P.l P.now := rfl
  have hdue : P.due = { P with told := upTo P.l P.now } := rfl
  rw [hdt, hdue]
  clear hdt hdue
  have hlen := ok.len
  generalize P.now = N at *
  generalize upTo P.l N = d at *
  have H := Lib.hid h
  have hb := h.1
  have hlc := h.2.2.2
  have hAn := h.2.2.1
  have HRW := Lib.hid h.2.1
  clear h ok
  obtain ⟨l, told, s, wl, p, q, b⟩ := P
  simp only at hb hlc ht hle hlen HRW
  obtain ⟨n, hn⟩ : ∃ n, n = l.length := ⟨_, rfl⟩
  simp only [← hn] at hb hlc hle hlen HU
  have HNL := Lib.hid hn
  have HB := Lib.hid hb
  have HT := Lib.hid ht
  have HLE := Lib.hid hle
  have HAN := Lib.hid hAn
  obtain ⟨e0, e1, -⟩ := hb.cells
  have hlt := hb.lt
  clear hb hn hAn
  go_enter Try.func31, Try.ntmps31
  go_upto_region 2 with fail
  clear e0 e1
  refine wp_region_noPanic ?_
  refine wp_region_held_drew (S := fun v => Fr (· = g) w v ∧ ∃ t, PlB v g A n c t s wl p q b) (by kernel_rfl) ⟨Fr.drew _ _, told, HB.out⟩ (fun hHeld => ?_)
  have HSd := Lib.hid hHeld
  refine wpAnyH_take (i := 0) (v := ?va0) rfl (by kernel_rfl) (by kernel_rfl) (by kernel_rfl) (fun _ _ _ h => h) (Or.inl ⟨by rfl, ?ha0⟩) (by assumption) ?_
  case ha0 => intro w hSw; (try dsimp only at hSw); obtain ⟨_, t, hbb⟩ := hSw; obtain ⟨e0, -⟩ := hbb.cells; go_simp; try with_reducible rfl
  simp only [List.getElem_toArray, List.getElem_cons_zero, Act.put, List.setIfInBounds_toArray, List.set_cons_zero, List.set_cons_succ]
  refine wpAnyH_take (i := 1) (v := ?va1) rfl (by kernel_rfl) (by kernel_rfl) (by kernel_rfl) (fun _ _ _ h => h) (Or.inl ⟨by rfl, ?ha1⟩) (by assumption) ?_
  case ha1 => intro w hSw; (try dsimp only at hSw); obtain ⟨_, t, hbb⟩ := hSw; obtain ⟨e0, -⟩ := hbb.cells; go_simp; try with_reducible rfl
  simp only [List.getElem_toArray, List.getElem_cons_succ, List.getElem_cons_zero, Act.put, List.setIfInBounds_toArray, List.set_cons_zero, List.set_cons_succ]
  refine wpAnyH_take (i := 2) (v := ?va2) rfl (by kernel_rfl) (by kernel_rfl) (by kernel_rfl) (fun _ _ _ h => h) (Or.inl ⟨by rfl, ?ha2⟩) (by assumption) ?_
  case ha2 => intro w hSw; (try dsimp only at hSw); obtain ⟨_, t, hbb⟩ := hSw; obtain ⟨e0, -⟩ := hbb.cells; go_simp; try with_reducible rfl
  simp only [List.getElem_toArray, List.getElem_cons_succ, List.getElem_cons_zero, Act.put, List.setIfInBounds_toArray, List.set_cons_zero, List.set_cons_succ]
  refine wpAnyH_take (i := 3) (v := ?va3) rfl (by kernel_rfl) (by kernel_rfl) (by kernel_rfl) (fun _ _ _ h => h) (Or.inl ⟨by rfl, ?ha3⟩) (by assumption) ?_
  case ha3 => intro w hSw; (try dsimp only at hSw); obtain ⟨_, t, hbb⟩ := hSw; obtain ⟨e0, -⟩ := hbb.cells; go_simp; try with_reducible rfl
  simp only [List.getElem_toArray, List.getElem_cons_succ, List.getElem_cons_zero, Act.put, List.setIfInBounds_toArray, List.set_cons_zero, List.set_cons_succ]
  refine wpAnyH_take (i := 4) (v := ?va4) rfl (by kernel_rfl) (by kernel_rfl) (by kernel_rfl) (fun _ _ _ h => h) (Or.inl ⟨by rfl, ?ha4⟩) (by assumption) ?_
  case ha4 => intro w hSw; (try dsimp only at hSw); obtain ⟨_, t, hbb⟩ := hSw; obtain ⟨e0, -⟩ := hbb.cells; go_simp; try with_reducible rfl
  simp only [List.getElem_toArray, List.getElem_cons_succ, List.getElem_cons_zero, Act.put, List.setIfInBounds_toArray, List.set_cons_zero, List.set_cons_succ]
  refine wpAnyH_take (i := 5) (v := ?va5) rfl (by kernel_rfl) (by kernel_rfl) (by kernel_rfl) (fun _ _ _ h => h) (Or.inl ⟨by rfl, ?ha5⟩) (by assumption) ?_
  case ha5 => intro w hSw; (try dsimp only at hSw); obtain ⟨_, t, hbb⟩ := hSw; obtain ⟨e0, -⟩ := hbb.cells; go_simp; try with_reducible rfl
  simp only [List.getElem_toArray, List.getElem_cons_succ, List.getElem_cons_zero, Act.put, List.setIfInBounds_toArray, List.set_cons_zero, List.set_cons_succ]
  refine wpAnyH_ready (rs := [6]) (by kernel_rfl) (by simp) ?_
  refine AllReadyH.cons rfl (fun K hK => ?_) AllReadyH.nil
  rw [if_pos (by kernel_rfl)]
  go_simp
  refine (HN.out w.drew H.out).mono ?_
  rintro e y1 ⟨rfl, k, hy1⟩
  have hB1 : PlB y1 g A n c told s wl p q b := by rw [hy1]; exact HB.out
  have hF1 : Fr (· = g) w y1 := by rw [hy1]; exact (Fr.drew _ _).trans' (Fr.drewN _ _ _)
  have hR1 : evE.Row y1 g A l := by rw [hy1]; exact HRW.out
  have HB1 := Lib.hid hB1
  have HF1 := Lib.hid hF1
  have HR1 := Lib.hid hR1
  clear hB1 hF1 hR1 hy1
  dsimp only
  refine hK.out _ _ ?_ (fun hHeld => ?_)
  · exact ⟨HF1.out, told, HB1.out⟩
  clear hK K
  refine wpAnyH_ready (rs := [7]) (by kernel_rfl) (by simp) ?_
  refine AllReadyH.cons rfl (fun K hK => ?_) AllReadyH.nil
  rw [if_pos (by kernel_rfl)]
  go_simp
  refine (HU.out y1 HR1.out (Nat.le_of_lt HB1.out.lt)).mono ?_
  rintro e y2 ⟨rfl, hy2⟩
  have HB2 := Lib.hid (HB1.out.next hy2)
  have HF2 := Lib.hid (HF1.out.trans' (Fr.of_below hy2))
  have HR2 := Lib.hid (HR1.out.below (hy2.mono (Nat.le_of_lt HB1.out.lt)))
  clear hy2
  dsimp only
  refine hK.out _ _ ?_ (fun hHeld => ?_)
  · exact ⟨HF2.out, told, HB2.out⟩
  clear hK K
  refine wpAnyH_take (i := 8) (v := ?vb8) rfl (by kernel_rfl) (by kernel_rfl) (by kernel_rfl) (fun _ _ _ h => h) (Or.inl ⟨by rfl, ?hb8⟩) (by assumption) ?_
  case hb8 => intro w hSw; (try dsimp only at hSw); go_simp; try with_reducible rfl
  simp only [List.getElem_toArray, List.getElem_cons_succ, List.getElem_cons_zero, Act.put, List.setIfInBounds_toArray, List.set_cons_zero, List.set_cons_succ]
  refine wpAnyH_take (i := 9) (v := ?vb9) rfl (by kernel_rfl) (by kernel_rfl) (by kernel_rfl) (fun _ _ _ h => h) (Or.inl ⟨by rfl, ?hb9⟩) (by assumption) ?_
  case hb9 => intro w hSw; (try dsimp only at hSw); go_simp; try with_reducible rfl
  simp only [List.getElem_toArray, List.getElem_cons_succ, List.getElem_cons_zero, Act.put, List.setIfInBounds_toArray, List.set_cons_zero, List.set_cons_succ]
  refine wpAnyH_ready (rs := [10]) (by kernel_rfl) (by simp) ?_
  refine AllReadyH.cons rfl (fun K hK => ?_) AllReadyH.nil
  rw [if_pos (by kernel_rfl)]
  obtain ⟨-, e1, -⟩ := HB2.out.cells
  have f1 := HB2.out.thaw 1
  have HB3 := Lib.hid (HB2.out.set1 d)
  have hF3 : Fr (· = g) y2 (y2.setCell ⟨g, 1, none⟩ (.int .i64 (d : Int))) := Fr.setCell (a := ⟨g, 1, none⟩) _ rfl
  have HF3 := Lib.hid (HF2.out.trans' hF3)
  have HR3 := Lib.hid (HR2.out.below (hF3.below (Nat.le_of_lt HB2.out.lt) (fun k hk => by omega)))
  clear hF3
  go_simp
  refine hK.out _ _ ?_ (fun hHeld => ?_)
  · exact ⟨HF3.out, d, HB3.out⟩
  clear hK K
  refine wpAnyH_done (by kernel_rfl) ?_ _
  refine NoPanic.normal ?_
  clear e1 f1
  generalize y2.setCell ⟨g, 1, none⟩ (.int .i64 (d : Int)) = y3 at *
  have hm := fun w => midE A n c told d w HT.out (by have := HLE.out; omega)
  go_wp2_with fail
  refine wp_region_noPanic ?_
  refine wp_region_held_drew (S := fun v => Below y3.heap.size y3 v) (by kernel_rfl) (Below.refl _ _).drew (fun hHeld => ?_)
  have HSx := Lib.hid hHeld
  refine wpAnyH_take (i := 0) (v := ?vc0) rfl (by kernel_rfl) (by kernel_rfl) (by kernel_rfl) (fun _ _ _ h => h) (Or.inl ⟨by rfl, ?hc0⟩) (by assumption) ?_
  case hc0 => intro w hSw; (try dsimp only at hSw); obtain ⟨e0, e1, -⟩ := (HB3.out.next hSw).cells; go_simp; try with_reducible rfl
  simp only [List.getElem_toArray, List.getElem_cons_zero, Act.put, List.setIfInBounds_toArray, List.set_cons_zero, List.set_cons_succ]
  refine wpAnyH_take (i := 1) (v := ?vc1) rfl (by kernel_rfl) (by kernel_rfl) (by kernel_rfl) (fun _ _ _ h => h) (Or.inl ⟨by rfl, ?hc1⟩) (by assumption) ?_
  case hc1 => intro w hSw; (try dsimp only at hSw); obtain ⟨e0, e1, -⟩ := (HB3.out.next hSw).cells; go_simp; try with_reducible rfl
  simp only [List.getElem_toArray, List.getElem_cons_succ, List.getElem_cons_zero, Act.put, List.setIfInBounds_toArray, List.set_cons_zero, List.set_cons_succ]
  refine wpAnyH_take (i := 2) (v := ?vc2) rfl (by kernel_rfl) (by kernel_rfl) (by kernel_rfl) (fun _ _ _ h => h) (Or.inl ⟨by rfl, ?hc2⟩) (by assumption) ?_
  case hc2 => intro w hSw; (try dsimp only at hSw); obtain ⟨e0, e1, -⟩ := (HB3.out.next hSw).cells; go_simp; try with_reducible rfl
  simp only [List.getElem_toArray, List.getElem_cons_succ, List.getElem_cons_zero, Act.put, List.setIfInBounds_toArray, List.set_cons_zero, List.set_cons_succ]
  refine wpAnyH_take (i := 3) (v := ?vc3) rfl (by kernel_rfl) (by kernel_rfl) (by kernel_rfl) (fun _ _ _ h => h) (Or.inl ⟨by rfl, ?hc3⟩) (by assumption) ?_
  case hc3 => intro w hSw; (try dsimp only at hSw); obtain ⟨e0, e1, -⟩ := (HB3.out.next hSw).cells; go_simp; try with_reducible rfl
  simp only [List.getElem_toArray, List.getElem_cons_succ, List.getElem_cons_zero, Act.put, List.setIfInBounds_toArray, List.set_cons_zero, List.set_cons_succ]
  refine wpAnyH_take (i := 4) (v := ?vc4) rfl (by kernel_rfl) (by kernel_rfl) (by kernel_rfl) (fun _ _ _ h => h) (Or.inl ⟨by rfl, ?hc4⟩) (by assumption) ?_
  case hc4 => intro w hSw; (try dsimp only at hSw); obtain ⟨e0, e1, -⟩ := (HB3.out.next hSw).cells; go_simp; try with_reducible rfl
  simp only [List.getElem_toArray, List.getElem_cons_succ, List.getElem_cons_zero, Act.put, List.setIfInBounds_toArray, List.set_cons_zero, List.set_cons_succ]
  refine wpAnyH_take (i := 5) (v := ?vc5) rfl (by kernel_rfl) (by kernel_rfl) (by kernel_rfl) (fun _ _ _ h => h) (Or.inl ⟨by rfl, ?hc5⟩) (by assumption) ?_
  case hc5 => intro w hSw; (try dsimp only at hSw); obtain ⟨e0, e1, -⟩ := (HB3.out.next hSw).cells; go_simp; try with_reducible rfl
  simp only [List.getElem_toArray, List.getElem_cons_succ, List.getElem_cons_zero, Act.put, List.setIfInBounds_toArray, List.set_cons_zero, List.set_cons_succ]
  refine wpAnyH_take (i := 6) (v := ?vc6) rfl (by kernel_rfl) (by kernel_rfl) (by kernel_rfl) (fun _ _ _ h => h) (Or.inl ⟨by rfl, ?hc6⟩) (by assumption) ?_
  case hc6 => intro w hSw; (try dsimp only at hSw); obtain ⟨e0, e1, -⟩ := (HB3.out.next hSw).cells; go_simp; try with_reducible rfl
  simp only [List.getElem_toArray, List.getElem_cons_succ, List.getElem_cons_zero, Act.put, List.setIfInBounds_toArray, List.set_cons_zero, List.set_cons_succ]
  refine wpAnyH_take (i := 7) (v := ?vc7) rfl (by kernel_rfl) (by kernel_rfl) (by kernel_rfl) (fun _ _ _ h => h) (Or.inl ⟨by rfl, ?hc7⟩) (by assumption) ?_
  case hc7 => intro w hSw; (try dsimp only at hSw); obtain ⟨e0, e1, -⟩ := (HB3.out.next hSw).cells; go_simp; try with_reducible rfl
  simp only [List.getElem_toArray, List.getElem_cons_succ, List.getElem_cons_zero, Act.put, List.setIfInBounds_toArray, List.set_cons_zero, List.set_cons_succ]
  refine wpAnyH_take (i := 8) (v := ?vc8) rfl (by kernel_rfl) (by kernel_rfl) (by kernel_rfl) (fun _ _ _ h => h) (Or.inl ⟨by rfl, ?hc8⟩) (by assumption) ?_
  case hc8 => intro w hSw; (try dsimp only at hSw); obtain ⟨e0, e1, -⟩ := (HB3.out.next hSw).cells; go_simp; try with_reducible rfl
  simp only [List.getElem_toArray, List.getElem_cons_succ, List.getElem_cons_zero, Act.put, List.setIfInBounds_toArray, List.set_cons_zero, List.set_cons_succ]
  refine wpAnyH_take (i := 9) (v := ?vc9) rfl (by kernel_rfl) (by kernel_rfl) (by kernel_rfl) (fun _ _ _ h => h) (Or.inl ⟨by rfl, ?hc9⟩) (by assumption) ?_
  case hc9 => intro w hSw; (try dsimp only at hSw); obtain ⟨e0, e1, -⟩ := (HB3.out.next hSw).cells; go_simp; try with_reducible rfl
  simp only [List.getElem_toArray, List.getElem_cons_succ, List.getElem_cons_zero, Act.put, List.setIfInBounds_toArray, List.set_cons_zero, List.set_cons_succ]
  refine wpAnyH_ready (rs := [10]) (by kernel_rfl) (by simp) ?_
  refine AllReadyH.cons rfl (fun K hK => ?_) AllReadyH.nil
  rw [if_pos (by kernel_rfl)]
  go_simp
  have hsl := seg_len l told d HT.out (by rw [← HNL.out]; exact HLE.out)
  have hclone := eclone_ok y3.drew (seg l told d) (evE.cutA A c told) (c - told) g ((HR3.out.mid HT.out (by rw [← HNL.out]; exact HLE.out) (by rw [← HNL.out]; exact hlc) : evE.Row y3 g (evE.cutA A c told) (seg l told d)))
    (El.cutA_none evE HAN.out) (Nat.le_of_lt HB3.out.lt) (by rw [hsl]; omega)
  rw [hsl] at hclone
  refine hclone.mono ?_
  rintro e y4 ⟨v, rfl, ho, hy4⟩
  have hy : Below y3.heap.size y3 y4 := below_next HSx.out hy4
  have HB4 := Lib.hid (HB3.out.next hy)
  have HF4 := Lib.hid (HF3.out.trans' (Fr.of_below hy))
  have HR4 := Lib.hid (HR3.out.below (hy.mono (Nat.le_of_lt HB3.out.lt)))
  have HO := Lib.hid (ho.mono (base' := w.heap.size) HF3.out.size)
  have HY := Lib.hid hy
  clear hclone ho hy4 hy hsl
  dsimp only
  refine hK.out _ _ ?_ (fun hHeld => ?_)
  · exact HY.out
  clear hK K
  refine wpAnyH_take (i := 11) (v := ?vd11) rfl (by kernel_rfl) (by kernel_rfl) (by kernel_rfl) (fun _ _ _ h => h) (Or.inl ⟨by rfl, ?hd11⟩) (by assumption) ?_
  case hd11 => intro w hSw; (try dsimp only at hSw); go_simp; try with_reducible rfl
  simp only [List.getElem_toArray, List.getElem_cons_succ, List.getElem_cons_zero, Act.put, List.setIfInBounds_toArray, List.set_cons_zero, List.set_cons_succ]
  refine wpAnyH_done (by kernel_rfl) ?_ _
  refine NoPanic.normal ?_
  go_wp2_with fail
  go_ret
  exact ⟨v, rfl, HO.out, ⟨by have := HB4.out; rw [HNL.out] at this; exact this, HR4.out, HAN.out, by show l.length ≤ c; rw [← HNL.out]; exact hlc⟩, HF4.out⟩
end Go.Proofs.Ytdbnpdbnjipjiaa
