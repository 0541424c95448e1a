/-
  GlyphColumns: runes together have the columns that each has: two, one, or none. For every list of runes and every place; the package's two tables as the program's text lays them.
-/
import Derived.Test.YtgfcdekbbhndnaaDoorGFit
import Derived.Test.YtgfcdekbbhndnaaDoorGCols
import Derived.Test.YtgfcdekbbhndnaaDoorGCond
import Derived.Test.YtgfcdekbbhndnaaDoorCards
import Derived.Test.YtgfcdekbbhndnaaDoorTie
import Derived.Deep.RegionHeld3
import Derived.Laws.BitsAllLaws
import Derived.OpenShut
import Derived.HandedFrom
import Derived.ChangeSame
import Derived.ChangeVars
import Derived.JoinedOf
import Derived.JoinedAt
namespace Go.Proofs.YtgfcdekbbhndnaaDoor.glyphColumns
open Go.ChangeShapes Go.WideShapes Go.ChangeAt Go.RowKit

theorem i64_and65535 (n : Int) : bits .and .i64 n 65535 = n % 65536 := by
  have h127 : (BitVec.ofInt 64 65535).toNat = 2 ^ 16 - 1 := by decide
  have key : (BitVec.ofInt 64 n &&& BitVec.ofInt 64 65535).toNat = (n % ((2 ^ 64 : Nat) : Int)).toNat % 2 ^ 16 := by
    rw [BitVec.toNat_and, BitVec.toNat_ofInt, h127, Nat.and_two_pow_sub_one_eq_mod]
  show IntKind.i64.wrap ((BitVec.ofInt 64 n &&& BitVec.ofInt 64 65535).toNat : Nat) = n % 65536
  rw [key, IntKind.wrap_i64]
  omega
theorem low16 (n : Int) : ∃ q : Nat, q < 65536 ∧ bits .and .i64 n 65535 = (q : Int) := ⟨(n % 65536).toNat, by omega, by rw [i64_and65535]; omega⟩
theorem run_cut (A : Option Addr) (n c k : Nat) (w : World) (h : k ≤ n) : (Instr.slice 28 (.slice A n c) (some (.int .i64 (k : Int))) none none).run Tryd.prog w = .ok (.slice (cutA A c k) (n - k) (c - k)) w := by
  have hs : (sizeOf (Tryd.prog.elem 28)).run Tryd.prog w = .ok 1 w := by kernel_rfl
  rw [run_slice_l (P := Tryd.prog) (w := w) (t := 28) (a := A) (len := n) (cap := c) (by kernel_rfl) .i64 (k : Int) (by omega) (by omega), hs]
  simp [Result.andThen, sliced, cutA]
theorem run_head (A : Option Addr) (n c k : Nat) (w : World) (h : k ≤ c) : (Instr.slice 28 (.slice A n c) none (some (.int .i64 (k : Int))) none).run Tryd.prog w = .ok (.slice A k c) w := by
  have hs : (sizeOf (Tryd.prog.elem 28)).run Tryd.prog w = .ok 1 w := by kernel_rfl
  rw [run_slice_h (P := Tryd.prog) (w := w) (t := 28) (a := A) (len := n) (cap := c) (by kernel_rfl) .i64 (k : Int) (by omega) (by omega), hs]
  have e : A.map (fun a => a.add 0) = A := by cases A <;> simp [Addr.add]
  simp [Result.andThen, sliced, e]
/-- What comes in. -/
theorem came_i {w : World} {A : Option Addr} {len cap : Nat} {zs : List Int} (h : IsRow .i32 w A len cap zs) :
    ∃ l : List Int, len = l.length ∧ len ≤ cap ∧ RowI w w.heap.size A l := by
  rcases h with ⟨rfl, rfl, rfl, rfl⟩ | ⟨x, rfl, h1, h2, h3, h4, h5⟩
  · exact ⟨[], rfl, Nat.le_refl _, fun h => absurd h (by simp)⟩
  · refine ⟨zs.take len, by simp; omega, h1, fun hp => ?_⟩
    simp only [List.length_take] at hp
    obtain ⟨b, off, rfl, h⟩ := ints_at h4 (by omega)
    have hlt := World.block_lt_of_cell? w ⟨b, off + 0, none⟩ (h 0 (by omega))
    refine ⟨b, off, rfl, hlt, fun j hj => ?_⟩
    simp only [List.length_take] at hj
    rw [h j (by omega)]
    simp [show j < len by omega]

set_option maxRecDepth 100000 in
set_option maxHeartbeats 4000000 in
theorem core (A : Option Addr) (c : Nat) (l : List Int) (z : Int) (w : World) (hc : l.length ≤ c) (hr : RowI w w.heap.size A l) (hT : Tabs w) :
    Calls Tryd.prog 7 #[.slice A l.length c, .int .i64 z] w fun e w' => e = .returned (.bool true) ∧ Below w.heap.size w w' := by
  have HT := Lib.hid hT
  have HR := Lib.hid hr
  clear hT hr
  by_cases h3 : 300 < l.length
  · have g : decide ((300 : Int) < (l.length : Int)) = true := by simp; omega
    go_enter Tryd.func7, Tryd.ntmps7
    go_wp2_with (go_at_call 8; refine (fit_ok _ HT.out).mono ?_; rintro e w1 ⟨rfl, b1⟩)
    go_ret
    exact ⟨rfl, b1⟩
  · have g : decide ((300 : Int) < (l.length : Int)) = false := by simp; omega
    obtain ⟨q, hq, hqe⟩ := low16 z
    obtain ⟨t, ht, hte⟩ : ∃ t : Nat, t ≤ l.length ∧ (q : Int) % ((l.length : Int) + 1) = (t : Int) := ⟨q % (l.length + 1), by have := Nat.mod_lt q (show 0 < l.length + 1 by omega); omega, by push_cast; rfl⟩
    have HTE := Lib.hid hte
    clear hte
    go_enter Tryd.func7, Tryd.ntmps7
    go_wp2_with fail
    refine (fit_ok _ HT.out).mono ?_
    rintro e w1 ⟨rfl, b1⟩
    have HB1 := Lib.hid b1
    clear b1
    have HT1 := Lib.hid (HT.out.on HB1.out HT.out.room)
    go_wp2_with fail
    go_loopw [5, 15] (fun n i wr => ∃ k : Nat, k ≤ l.length ∧ n = .int .i64 (GM.colsL (l.take k) : Int) ∧ i = .int .i64 (k : Int) ∧ Below w.heap.size w wr) (fun _ i _ => l.length - (RowKit.intOf i).toNat)
    case atStart => exact ⟨0, Nat.zero_le _, rfl, rfl, HB1.out⟩
    case round =>
      obtain ⟨k, hk, rfl, rfl, hb⟩ := hrel
      have hle := GM.colsL_le (l.take k)
      have hlt1 : (l.take k).length ≤ l.length := by rw [List.length_take]; omega
      by_cases hlt : k < l.length
      · have g1 : decide ((k : Int) < (l.length : Int)) = true := by simp; omega
        have gn : decide (k < l.length) = true := by simp; omega
        obtain ⟨b, off, rfl, hbl, hcc⟩ := HR.out (by omega)
        have hck : wr.cell? ⟨b, off + k, none⟩ = some (.int .i32 (l.getD k 0)) := (hb.cell (p := ⟨b, off + k, none⟩) (by show b < _; omega)).trans (hcc k hlt)
        have HT2 := Lib.hid (HT.out.on hb HT.out.room)
        have HB := Lib.hid hb
        have hsum := colsL_take l k hlt
        have h2 := GM.cols_two (l.getD k 0)
        have h3 := GM.wide_right (l.getD k 0)
        clear hb hcc
        generalize l.getD k 0 = r at *
        generalize GM.colsL (l.take k) = s at *
        rcases hw : GM.wide r with _ | _
        · rcases hr : GM.right r with _ | _
          · have HS := Lib.hid (show GM.colsL (l.take (k + 1)) = s by rw [hsum, h2, hw, hr]; simp)
            clear hsum h2 h3
            go_wp2_with fail
            refine (wide_ok _ HT2.out r).mono ?_
            rintro e w2 ⟨rfl, hb2⟩
            have HB2 := Lib.hid (below_next HB.out hb2)
            clear hb2
            go_wp2_with fail
            refine (right_ok _ r).mono ?_
            rintro e w3 ⟨rfl, hw3⟩
            rw [hw3]
            clear hw3 w3
            go_wp2_with fail
            go_roundw
            case rel => exact ⟨k + 1, by omega, by rw [HS.out], by simp, HB2.out⟩
            case measure => simp [RowKit.intOf]; omega
          · have HS := Lib.hid (show GM.colsL (l.take (k + 1)) = s + 1 by rw [hsum, h2, hw, hr]; simp)
            clear hsum h2 h3
            go_wp2_with fail
            refine (wide_ok _ HT2.out r).mono ?_
            rintro e w2 ⟨rfl, hb2⟩
            have HB2 := Lib.hid (below_next HB.out hb2)
            clear hb2
            go_wp2_with fail
            refine (right_ok _ r).mono ?_
            rintro e w3 ⟨rfl, hw3⟩
            rw [hw3]
            clear hw3 w3
            go_wp2_with fail
            go_roundw
            case rel => exact ⟨k + 1, by omega, by rw [HS.out]; simp, by simp, HB2.out⟩
            case measure => simp [RowKit.intOf]; omega
        · have hr := h3 hw
          have HS := Lib.hid (show GM.colsL (l.take (k + 1)) = s + 1 + 1 by rw [hsum, h2, hw, hr]; simp)
          clear hsum h2 h3
          go_wp2_with fail
          refine (wide_ok _ HT2.out r).mono ?_
          rintro e w2 ⟨rfl, hb2⟩
          have HB2 := Lib.hid (below_next HB.out hb2)
          clear hb2
          go_wp2_with fail
          refine (right_ok _ r).mono ?_
          rintro e w3 ⟨rfl, hw3⟩
          rw [hw3]
          clear hw3 w3
          go_wp2_with fail
          go_roundw
          case rel => exact ⟨k + 1, by omega, by rw [HS.out]; simp, by simp, HB2.out⟩
          case measure => simp [RowKit.intOf]; omega
      · have g1 : decide ((k : Int) < (l.length : Int)) = false := by simp; omega
        have gn : decide (k < l.length) = false := by simp; omega
        obtain rfl : k = l.length := by omega
        rw [List.take_length]
        rw [List.take_length] at hle
        have HB := Lib.hid hb
        have HTR := Lib.hid (HT.out.on hb HT.out.room)
        have hrh := fun W => run_head A l.length c t W (by omega)
        have hrt := fun W => run_cut A l.length c t W ht
        have HS := Lib.hid (show GM.colsL l = GM.colsL (l.take t) + GM.colsL (l.drop t) by rw [← GM.colsL_append, List.take_append_drop])
        have HC := Lib.hid (fun (v : World) (hv : Tabs v) (hB : Below w.heap.size w v) => columns_ok v hv l A c w.heap.size (HR.out.below hB (Nat.le_refl _)) hB.size (by omega))
        have HC2 := Lib.hid (fun (v : World) (hv : Tabs v) (hB : Below w.heap.size w v) => columns_ok v hv (l.take t) A c w.heap.size ((HR.out.below hB (Nat.le_refl _)).take t) hB.size (by rw [List.length_take]; omega))
        have HC3 := Lib.hid (fun (v : World) (hv : Tabs v) (hB : Below w.heap.size w v) => columns_ok v hv (l.drop t) (cutA A c t) (c - t) w.heap.size ((HR.out.below hB (Nat.le_refl _)).cut ht hc) hB.size (by rw [List.length_drop]; omega))
        rw [show (l.take t).length = t by rw [List.length_take]; omega] at HC2
        rw [List.length_drop] at HC3
        clear hb hlt
        generalize GM.colsL l = s at *
        generalize GM.colsL (l.take t) = x at *
        generalize GM.colsL (l.drop t) = y at *
        have hsx := HS.out
        have gs : ((x : Int) + (y : Int) == (s : Int)) = true := by simp; omega
        have hwr : IntKind.i64.wrap ((x : Int) + (y : Int)) = (x : Int) + (y : Int) := by rw [IntKind.wrap_i64]; omega
        go_wp2_with fail
        rw [HTE.out]
        clear g1 gn hqe g
        refine wp_region_noPanic ?_
        refine wp_region_held_drew (S := fun _ => True) (by kernel_rfl) trivial (fun hHeld => ?_)
        have hbd : Below w.heap.size w wr.drew := HB.out.drew
        have htd : Tabs wr.drew := HT.out.on hbd HT.out.room
        have HBD := Lib.hid hbd
        have HTD := Lib.hid htd
        clear hbd htd
        refine wpAnyH_take (i := 0) (v := ?va0) rfl (by kernel_rfl) (by kernel_rfl) (by kernel_rfl) (fun _ _ _ h => h) (Or.inl ⟨by rfl, ?ha0⟩) (by assumption) ?_
        case ha0 => intro w hSw; (try dsimp only at hSw); go_simp; try with_reducible rfl
        simp only [List.getElem_toArray, List.getElem_cons_zero, Act.put, List.setIfInBounds_toArray, List.set_cons_zero, List.set_cons_succ]
        refine wpAnyH_take (i := 2) (v := ?va2) rfl (by kernel_rfl) (by kernel_rfl) (by kernel_rfl) (fun _ _ _ h => h) (Or.inl ⟨by rfl, ?ha2⟩) (by assumption) ?_
        case ha2 => intro w hSw; (try dsimp only at hSw); go_simp; try with_reducible rfl
        simp only [List.getElem_toArray, List.getElem_cons_succ, List.getElem_cons_zero, Act.put, List.setIfInBounds_toArray, List.set_cons_zero, List.set_cons_succ]
        refine wpAnyH_ready (rs := [1]) (by kernel_rfl) (by simp) ?_
        refine AllReadyH.cons rfl (fun K hK => ?_) AllReadyH.nil
        go_simp
        refine (HC.out wr.drew HTD.out HBD.out).mono ?_
        rintro e w2 ⟨rfl, hb2⟩
        have HB2 := Lib.hid (HBD.out.trans (hb2.mono HBD.out.size))
        have HT2 := Lib.hid (HTD.out.on hb2 HTD.out.room)
        clear hb2
        dsimp only
        refine hK.out _ _ ?_ (fun hHeld => ?_)
        · trivial
        clear hK K
        refine wpAnyH_take (i := 3) (v := ?vb3) rfl (by kernel_rfl) (by kernel_rfl) (by kernel_rfl) (fun _ _ _ h => h) (Or.inl ⟨by rfl, ?hb3⟩) (by assumption) ?_
        case hb3 => intro w hSw; (try dsimp only at hSw); go_simp; try with_reducible rfl
        simp only [List.getElem_toArray, List.getElem_cons_succ, List.getElem_cons_zero, Act.put, List.setIfInBounds_toArray, List.set_cons_zero, List.set_cons_succ]
        refine wpAnyH_take (i := 4) (v := ?vb4) rfl (by kernel_rfl) (by kernel_rfl) (by kernel_rfl) (fun _ _ _ h => h) (Or.inl ⟨by rfl, ?hb4⟩) (by assumption) ?_
        case hb4 => intro w hSw; (try dsimp only at hSw); go_simp; try with_reducible rfl
        simp only [List.getElem_toArray, List.getElem_cons_succ, List.getElem_cons_zero, Act.put, List.setIfInBounds_toArray, List.set_cons_zero, List.set_cons_succ]
        refine wpAnyH_take (i := 5) (v := ?vb5) rfl (by kernel_rfl) (by kernel_rfl) (by kernel_rfl) (fun _ _ _ h => h) (Or.inl ⟨by rfl, ?hb5⟩) (by assumption) ?_
        case hb5 => intro w hSw; (try dsimp only at hSw); go_simp; try with_reducible rfl
        simp only [List.getElem_toArray, List.getElem_cons_succ, List.getElem_cons_zero, Act.put, List.setIfInBounds_toArray, List.set_cons_zero, List.set_cons_succ]
        refine wpAnyH_take (i := 6) (v := ?vb6) rfl (by kernel_rfl) (by kernel_rfl) (by kernel_rfl) (fun _ _ _ h => h) (Or.inl ⟨by rfl, ?hb6⟩) (by assumption) ?_
        case hb6 => intro w hSw; (try dsimp only at hSw); go_simp; try with_reducible rfl
        simp only [List.getElem_toArray, List.getElem_cons_succ, List.getElem_cons_zero, Act.put, List.setIfInBounds_toArray, List.set_cons_zero, List.set_cons_succ]
        refine wpAnyH_take (i := 7) (v := ?vb7) rfl (by kernel_rfl) (by kernel_rfl) (by kernel_rfl) (fun _ _ _ h => h) (Or.inl ⟨by rfl, ?hb7⟩) (by assumption) ?_
        case hb7 => intro w hSw; (try dsimp only at hSw); go_simp; try with_reducible rfl
        simp only [List.getElem_toArray, List.getElem_cons_succ, List.getElem_cons_zero, Act.put, List.setIfInBounds_toArray, List.set_cons_zero, List.set_cons_succ]
        refine wpAnyH_take (i := 9) (v := ?vb9) rfl (by kernel_rfl) (by kernel_rfl) (by kernel_rfl) (fun _ _ _ h => h) (Or.inl ⟨by rfl, ?hb9⟩) (by assumption) ?_
        case hb9 => intro w hSw; (try dsimp only at hSw); go_simp; try with_reducible rfl
        simp only [List.getElem_toArray, List.getElem_cons_succ, List.getElem_cons_zero, Act.put, List.setIfInBounds_toArray, List.set_cons_zero, List.set_cons_succ]
        refine wpAnyH_take (i := 10) (v := ?vb10) rfl (by kernel_rfl) (by kernel_rfl) (by kernel_rfl) (fun _ _ _ h => h) (Or.inl ⟨by rfl, ?hb10⟩) (by assumption) ?_
        case hb10 => intro w hSw; (try dsimp only at hSw); go_simp; try with_reducible rfl
        simp only [List.getElem_toArray, List.getElem_cons_succ, List.getElem_cons_zero, Act.put, List.setIfInBounds_toArray, List.set_cons_zero, List.set_cons_succ]
        refine wpAnyH_take (i := 11) (v := ?vb11) rfl (by kernel_rfl) (by kernel_rfl) (by kernel_rfl) (fun _ _ _ h => h) (Or.inl ⟨by rfl, ?hb11⟩) (by assumption) ?_
        case hb11 => intro w hSw; (try dsimp only at hSw); go_simp; try with_reducible rfl
        simp only [List.getElem_toArray, List.getElem_cons_succ, List.getElem_cons_zero, Act.put, List.setIfInBounds_toArray, List.set_cons_zero, List.set_cons_succ]
        refine wpAnyH_take (i := 14) (v := ?vb14) rfl (by kernel_rfl) (by kernel_rfl) (by kernel_rfl) (fun _ _ _ h => h) (Or.inl ⟨by rfl, ?hb14⟩) (by assumption) ?_
        case hb14 => intro w hSw; (try dsimp only at hSw); go_simp; try with_reducible rfl
        simp only [List.getElem_toArray, List.getElem_cons_succ, List.getElem_cons_zero, Act.put, List.setIfInBounds_toArray, List.set_cons_zero, List.set_cons_succ]
        refine wpAnyH_ready (rs := [8]) (by kernel_rfl) (by simp) ?_
        refine AllReadyH.cons rfl (fun K hK => ?_) AllReadyH.nil
        go_simp
        refine (HC2.out w2 HT2.out HB2.out).mono ?_
        rintro e w3 ⟨rfl, hb3⟩
        have HB3 := Lib.hid (HB2.out.trans (hb3.mono HB2.out.size))
        have HT3 := Lib.hid (HT2.out.on hb3 HT2.out.room)
        clear hb3
        dsimp only
        refine hK.out _ _ ?_ (fun hHeld => ?_)
        · trivial
        clear hK K
        refine wpAnyH_ready (rs := [12]) (by kernel_rfl) (by simp) ?_
        refine AllReadyH.cons rfl (fun K hK => ?_) AllReadyH.nil
        go_simp
        refine (HC3.out w3 HT3.out HB3.out).mono ?_
        rintro e w4 ⟨rfl, hb4⟩
        have HB4 := Lib.hid (HB3.out.trans (hb4.mono HB3.out.size))
        clear hb4
        dsimp only
        refine hK.out _ _ ?_ (fun hHeld => ?_)
        · trivial
        clear hK K
        refine wpAnyH_take (i := 13) (v := ?vc13) rfl (by kernel_rfl) (by kernel_rfl) (by kernel_rfl) (fun _ _ _ h => h) (Or.inl ⟨by rfl, ?hc13⟩) (by assumption) ?_
        case hc13 => intro w hSw; (try dsimp only at hSw); go_simp; try with_reducible rfl
        simp only [List.getElem_toArray, List.getElem_cons_succ, List.getElem_cons_zero, Act.put, List.setIfInBounds_toArray, List.set_cons_zero, List.set_cons_succ]
        refine wpAnyH_take (i := 15) (v := ?vc15) rfl (by kernel_rfl) (by kernel_rfl) (by kernel_rfl) (fun _ _ _ h => h) (Or.inl ⟨by rfl, ?hc15⟩) (by assumption) ?_
        case hc15 => intro w hSw; (try dsimp only at hSw); go_simp; try with_reducible rfl
        simp only [List.getElem_toArray, List.getElem_cons_succ, List.getElem_cons_zero, Act.put, List.setIfInBounds_toArray, List.set_cons_zero, List.set_cons_succ]
        refine wpAnyH_take (i := 16) (v := ?vc16) rfl (by kernel_rfl) (by kernel_rfl) (by kernel_rfl) (fun _ _ _ h => h) (Or.inl ⟨by rfl, ?hc16⟩) (by assumption) ?_
        case hc16 => intro w hSw; (try dsimp only at hSw); go_simp; try with_reducible rfl
        simp only [List.getElem_toArray, List.getElem_cons_succ, List.getElem_cons_zero, Act.put, List.setIfInBounds_toArray, List.set_cons_zero, List.set_cons_succ]
        refine wpAnyH_take (i := 17) (v := ?vc17) rfl (by kernel_rfl) (by kernel_rfl) (by kernel_rfl) (fun _ _ _ h => h) (Or.inl ⟨by rfl, ?hc17⟩) (by assumption) ?_
        case hc17 => intro w hSw; (try dsimp only at hSw); go_simp; try with_reducible rfl
        simp only [List.getElem_toArray, List.getElem_cons_succ, List.getElem_cons_zero, Act.put, List.setIfInBounds_toArray, List.set_cons_zero, List.set_cons_succ]
        refine wpAnyH_done (by kernel_rfl) ?_ _
        refine NoPanic.normal ?_
        go_wp2_with fail
        go_ret
        exact ⟨rfl, HB4.out⟩
theorem walk (A : Option Addr) (len cap : Nat) (zs : List Int) (z : Int) (w : World) (hw : IsRow .i32 w A len cap zs) (_hz : (Lit.int .i64 z).wf = true) (hT : Tabs w) :
    Calls Tryd.prog 7 #[.slice A len cap, .int .i64 z] w fun e w' => e = .returned (.bool true) ∧ Below w.heap.size w w' := by
  obtain ⟨l, rfl, h1, h2⟩ := came_i hw
  exact core A cap l z w h1 h2 hT

theorem own : ownKnob Tryd.prog.godebug = none := by kernel_rfl
theorem laidOut : laidOutB Tryd.prog = true := by kernel_rfl

set_option maxRecDepth 100000 in
theorem lifted (os : Os) (started : os.Started) (H : Type) (enc : TypeId × Value → H) :
    ReturnsInHanded {} Tryd.checked os 7 .any (fun w args => (Rows.glyphColumnsSpec.pre enc Tryd.prog Tryd.f7 Rows.glyphColumnsRow.domain false w args ∧ laidMetH Tryd.prog Rows.glyphColumnsRow.laid w) ∧ sizedMet enc Tryd.prog Tryd.f7 (OpenSpec.ofChange Rows.glyphColumnsSpec) false w args)
      (Rows.glyphColumnsSpec.post enc Tryd.prog Tryd.f7 false true false false) := by
  refine returnsInHanded_of_change_and (C := Tryd.checked) (X := fun w _ => laidMetH Tryd.prog Rows.glyphColumnsRow.laid w) (fun _ _ _ hh h => h.of_heap hh) own started (by kernel_rfl) Tryd.func7
    (ChangeSpec.witness_shaped (enc := enc) (C := Tryd.checked) (os := os) (X := fun w _ => laidMetH Tryd.prog Rows.glyphColumnsRow.laid w) false (start7 os) #[.slice none 0 0, .int .i64 0] 8 rfl (World.shaped_of_RefB (by kernel_rfl) (by kernel_rfl)) (by kernel_rfl) (by kernel_rfl) (by kernel_rfl) (met_glyphColumns os _)) ?_
  intro W base args ds gs before hval0 hW _ _ hL _
  have hval : ∀ (j : Nat) t v, Tryd.f7.params[j]? = some t → args[j]? = some v → Value.okWide Tryd.prog W .any base t v := hval0
  have hW' := hW
  obtain ⟨p, q, hA0, hV, rfl, hfz, hnd⟩ := hW
  have hA : DataW.TrodAll enc Tryd.prog W 0 (fun _ => true) true Tryd.f7.params.toList args.toList ds p := hA0
  rw [Tryd.params7] at hA hval
  obtain ⟨v0, vs0, d0, ds0, p0, q0, hargs, rfl, rfl, h0, r0⟩ := trodAll_cons hA
  obtain ⟨v1, vs1, d1, ds1, p1, q1, rfl, rfl, rfl, h1, r1⟩ := trodAll_cons r0
  obtain ⟨rfl, rfl, rfl⟩ := trodAll_nil r1
  obtain rfl : args = #[v0, v1] := by cases args; simp_all
  obtain ⟨rfl, rfl⟩ := trodVars_none hV
  obtain ⟨a0, len0, cap0, rfl⟩ := okWide_slice Tryd.underlying28 (hval 0 28 v0 rfl rfl)
  have k0 := h0
  have lt0 : ∀ x ∈ p0, x.block < W.heap.size := by obtain ⟨m, hm⟩ := k0; exact DataW.trod_lt m _ _ _ hm
  obtain ⟨z0, w0⟩ : ∃ zs, IsRow .i32 W a0 len0 cap0 zs := by
    obtain ⟨fuel, hf⟩ := h0
    rcases open_ints Tryd.underlying28 Tryd.underlying21 (by kernel_rfl) hf with ⟨hcs, _⟩ | ⟨x, l, c, zs, hcs, _, hl, hm, hz, _, hcell, hwz⟩
    · simp [Value.cells] at hcs
      obtain ⟨rfl, rfl, rfl⟩ := hcs
      exact ⟨[], .inl ⟨rfl, rfl, rfl, rfl⟩⟩
    · simp [Value.cells] at hcs
      obtain ⟨rfl, rfl, rfl⟩ := hcs
      exact ⟨zs, .inr ⟨_, rfl, hl, hm, by simpa using hz, hcell, hwz⟩⟩
  obtain ⟨a1, rfl, rfl, rfl, w1⟩ := open_int Tryd.underlying3 (hval 1 3 v1 rfl rfl) h1
  clear hA0 hval0
  refine (walk a0 len0 cap0 z0 a1 W w0 w1 (tabs_glyphColumns hL)).mono fun e W' ⟨he, bel⟩ => ?_
  subst he
  exact ⟨_, rfl, _, _, _, [], _, [], hW', trodAll_mk1 (shut_bool Tryd.underlying4 _), (trodAll_cons_mk (Below.trod laidOut (by kernel_rfl) (of_decide_eq_true (by kernel_rfl)) k0 bel lt0) (trodAll_cons_mk (shut_int Tryd.underlying3 w1) trodAll_mk0)), rfl, bel.frame _, fun h => by cases h⟩

theorem over : Rows.glyphColumnsRow.holds Tryd.pinned (OpenSpec.ofChange Rows.glyphColumnsSpec) :=
  OpenClaim.holds_of_wide 7 Tryd.f7 rfl rfl rfl rfl rfl rfl rfl ⟨rfl, rfl, rfl, rfl, rfl⟩ rfl rfl rfl rfl rfl (by kernel_rfl) Tryd.func7 (by kernel_rfl)
    (of_decide_eq_true (by kernel_rfl)) (by unfold Func.isWrapper; first | (rw [if_pos (by decide +kernel)]; kernel_rfl) | (rw [if_neg (by decide +kernel)]; exact ⟨rfl, rfl⟩))
    (fun os started H enc _ => lifted os started H enc)

theorem cardOver : Rows.GlyphColumnsCardSaid :=
  Claim7.holds_tied_plain_at .later [] [.data, .data] true (true, "10824ea1b9618df5ce116815e75e58dfba85015eb6e90174928aa14099a72120") false
    over (fun _ h => by cases h) (by kernel_rfl) (fun _ h => by cases h) glyphColumns_row_tie rfl ⟨rfl, rfl⟩ (by kernel_rfl) rfl
    (fun f fn hf hfn => by
      obtain rfl : f = 7 := Option.some.inj ((show Tryd.prog.funcNamed Rows.glyphColumnsRow.func = some 7 by kernel_rfl).symm.trans hf) |>.symm
      obtain rfl : fn = Tryd.f7 := (Option.some.inj (Tryd.func7.symm.trans hfn)).symm
      exact ⟨by kernel_rfl, fun j t ht => by
        rw [Tryd.params7] at ht
        have hm : t ∈ [28, 3] := by simpa using Array.mem_of_getElem? ht
        have hall : ([28, 3].all fun u => !Tryd.prog.wantsStandIn u) = true := by kernel_rfl
        exact (show Tryd.prog.wantsStandIn t = false by simpa using List.all_eq_true.1 hall t hm)⟩)
    (by kernel_rfl)

end Go.Proofs.YtgfcdekbbhndnaaDoor.glyphColumns
namespace Go.Proofs.YtgfcdekbbhndnaaDoor
theorem glyphColumns_holds : Rows.GlyphColumnsCardSaid := glyphColumns.cardOver
end Go.Proofs.YtgfcdekbbhndnaaDoor
