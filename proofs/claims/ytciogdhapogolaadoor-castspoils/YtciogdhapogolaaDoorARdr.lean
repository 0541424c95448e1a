/-
  Layer 17 (cast): the reader of the landed Import, its calls, kind, and the reader's four parts that say something.
-/
import Derived.Test.YtciogdhapogolaaDoorALand
import Derived.Test.YtciogdhapogolaaDoorAParse
import Derived.Test.YtciogdhapogolaaDoorASign
import Derived.Shelf.Abstract
set_option linter.unusedVariables false
namespace Go.Proofs.YtciogdhapogolaaDoor
open Go.RowKit Go.Lib EM
set_option maxRecDepth 100000

theorem only_next {a b c : World} {g : Option Nat} (h : a.grownBy b g) (k : Below a.heap.size b c) : a.grownBy c g :=
  ⟨k.os.trans h.os, k.tape.trans h.tape, k.output.trans h.output, Nat.le_trans h.size k.size, fun i hi hne => (k.block i hi).trans (h.block i hi hne)⟩
theorem only_first {a b c : World} {g : Option Nat} (h : Below a.heap.size a b) (k : b.grownBy c g) : a.grownBy c g :=
  ⟨k.os.trans h.os, k.tape.trans h.tape, k.output.trans h.output, Nat.le_trans h.size k.size, fun i hi hne => (k.block i (Nat.lt_of_lt_of_le hi h.size) hne).trans (h.block i hi)⟩

/-- The reader at block g: good, with a text left; or bad, with none. -/
def RdS (w : World) (g : Nat) (s : AM.St) : Prop := w.heap[g]? = some (.cells #[.string (tx (s.getD [])), .bool s.isSome] 42 (0, 0))
theorem RdS.lt {w : World} {g : Nat} {s : AM.St} (h : RdS w g s) : g < w.heap.size := (Array.getElem?_eq_some_iff.1 h).1
theorem RdS.below {w w' : World} {g : Nat} {s : AM.St} (h : RdS w g s) (hb : Below w.heap.size w w') : RdS w' g s := (hb.block g h.lt).trans h
theorem RdS.new (w : World) (l : List UInt8) : RdS (w.alloc (.cells #[.string (tx l), .bool true] 42)) w.heap.size (some l) := heap_alloc_new w _

/-- What goOn leaves. -/
def goS (s : AM.St) (l : List UInt8) (ok : Bool) : AM.St := if s.isSome && ok then some l else none
theorem goOn_ok (w : World) (g : Nat) (s : AM.St) (l : List UInt8) (ok : Bool) (h : RdS w g s) :
    Calls Tryd.prog 30 #[.pointer (some ⟨g, 0, none⟩), .string (tx l), .bool ok] w fun e w' => e = .returned (.tuple #[]) ∧ RdS w' g (goS s l ok) ∧ w.grownBy w' (some g) := by
  obtain ⟨h0, h1, f0, f1⟩ := two_cell h
  have HG := Lib.hid h
  clear h
  cases s with
  | none =>
    simp only [Option.getD_none, Option.isSome_none] at h0 h1
    go_enter Tryd.func30, Tryd.ntmps30
    go_wp2
    go_end0
    exact ⟨rfl, two_set0 (two_set1 HG.out _) _, only_set (only_set (only_refl _ _) 1 _) 0 _⟩
  | some l0 =>
    simp only [Option.getD_some, Option.isSome_some] at h0 h1
    cases ok with
    | false =>
      go_enter Tryd.func30, Tryd.ntmps30
      go_wp2
      go_end0
      exact ⟨rfl, two_set0 (two_set1 HG.out _) _, only_set (only_set (only_refl _ _) 1 _) 0 _⟩
    | true =>
      go_enter Tryd.func30, Tryd.ntmps30
      go_wp2
      go_end0
      exact ⟨rfl, two_set0 (two_set0 (two_set1 HG.out _) _) _, only_set (only_set (only_set (only_refl _ _) 1 _) 0 _) 0 _⟩
theorem pre_nil {p : List UInt8} (hp : p ≠ []) : AM.pre p [] = none := by
  unfold AM.pre
  rw [if_neg]
  intro h
  exact hp (List.prefix_nil.1 h)
theorem skip_ok (w : World) (g : Nat) (s : AM.St) (p : List UInt8) (hp : p ≠ []) (h : RdS w g s) :
    Calls Tryd.prog 16 #[.pointer (some ⟨g, 0, none⟩), .string (tx p)] w fun e w' => e = .returned (.tuple #[]) ∧ RdS w' g (AM.preS p s) ∧ w.grownBy w' (some g) := by
  obtain ⟨h0, h1, f0, f1⟩ := two_cell h
  have HG := Lib.hid h
  clear h f0 f1 h1
  cases hpr : AM.pre p (s.getD []) with
  | none =>
    have hS : ∀ r, goS s r false = AM.preS p s := fun r => by
      unfold goS AM.preS
      rw [Bool.and_false, if_neg (by simp)]
      cases s with
      | none => rfl
      | some l => exact hpr.symm
    have HC := Lib.hid (cut_none hpr w)
    have HGO := Lib.hid (goOn_ok w g s (s.getD []) false HG.out)
    rw [hS] at HGO
    clear hS hpr
    generalize AM.preS p s = S' at *
    generalize s.getD [] = L at *
    go_enter Tryd.func16, Tryd.ntmps16
    go_wp2_with (go_at_call 29; refine HC.out.mono ?_; rintro e wx ⟨rfl, hwx⟩; rw [hwx]; clear hwx wx)
    go_wp2_with (go_at_call 30; refine HGO.out.mono ?_; rintro e w1 ⟨rfl, hr, hg⟩; refine Hid.out ?_; have HR := Lib.hid hr; have HG1 := Lib.hid hg; clear hr hg; refine Lib.hid ?_)
    go_wp2
    go_end0
    exact ⟨rfl, HR.out, HG1.out⟩
  | some r =>
    have hS : goS s r true = AM.preS p s := by
      unfold goS AM.preS
      cases s with
      | none => rw [Option.getD_none, pre_nil hp] at hpr; cases hpr
      | some l => exact hpr.symm
    have HC := Lib.hid (cut_some hpr w)
    have HGO := Lib.hid (goOn_ok w g s r true HG.out)
    rw [hS] at HGO
    clear hS hpr
    generalize AM.preS p s = S' at *
    generalize s.getD [] = L at *
    go_enter Tryd.func16, Tryd.ntmps16
    go_wp2_with (go_at_call 29; refine HC.out.mono ?_; rintro e wx ⟨rfl, hwx⟩; rw [hwx]; clear hwx wx)
    go_wp2_with (go_at_call 30; refine HGO.out.mono ?_; rintro e w1 ⟨rfl, hr, hg⟩; refine Hid.out ?_; have HR := Lib.hid hr; have HG1 := Lib.hid hg; clear hr hg; refine Lib.hid ?_)
    go_wp2
    go_end0
    exact ⟨rfl, HR.out, HG1.out⟩

/-- take, of any call that makes things anew at most. -/
theorem takeI_ok (f : Nat) (w : World) (g : Nat) (s : AM.St) (v : Int) (r : List UInt8) (ok : Bool) (eg : ∀ args w, (callFunc f args).run Tryd.prog w = .ok (.enter f args) w) (h : RdS w g s)
    (hf : Calls Tryd.prog f #[.string (tx (s.getD []))] w fun e w' => e = .returned (.tuple #[.int .i64 v, .string (tx r), .bool ok]) ∧ Below w.heap.size w w') :
    Calls Tryd.prog 17 #[.pointer (some ⟨g, 0, none⟩), .func (.func f) #[] #[]] w fun e w' => e = .returned (.int .i64 v) ∧ RdS w' g (goS s r ok) ∧ w.grownBy w' (some g) := by
  obtain ⟨h0, h1, f0, f1⟩ := two_cell h
  have HG := Lib.hid h
  have HF := Lib.hid hf
  clear h f0 f1 h1 hf
  generalize hl : s.getD [] = L at h0 HF
  have HL := Lib.hid hl
  clear hl
  go_enter Tryd.func17, Tryd.ntmps17
  go_wp2_with fail
  refine HF.out.mono ?_
  rintro e w1 ⟨rfl, b1⟩
  have HGO := Lib.hid (goOn_ok w1 g s r ok (HG.out.below b1))
  have HB := Lib.hid b1
  clear b1
  go_wp2_with fail
  refine HGO.out.mono ?_
  rintro e w2 ⟨rfl, hr, hg⟩
  have HR := Lib.hid hr
  have HG2 := Lib.hid (only_first HB.out hg)
  clear hr hg
  go_wp2
  go_ret
  exact ⟨rfl, HR.out, HG2.out⟩
theorem takeT_ok (f : Nat) (w : World) (g : Nat) (s : AM.St) (v : ByteArray) (r : List UInt8) (ok : Bool) (eg : ∀ args w, (callFunc f args).run Tryd.prog w = .ok (.enter f args) w) (h : RdS w g s)
    (hf : Calls Tryd.prog f #[.string (tx (s.getD []))] w fun e w' => e = .returned (.tuple #[.string v, .string (tx r), .bool ok]) ∧ Below w.heap.size w w') :
    Calls Tryd.prog 35 #[.pointer (some ⟨g, 0, none⟩), .func (.func f) #[] #[]] w fun e w' => e = .returned (.string v) ∧ RdS w' g (goS s r ok) ∧ w.grownBy w' (some g) := by
  obtain ⟨h0, h1, f0, f1⟩ := two_cell h
  have HG := Lib.hid h
  have HF := Lib.hid hf
  clear h f0 f1 h1 hf
  generalize hl : s.getD [] = L at h0 HF
  have HL := Lib.hid hl
  clear hl
  go_enter Tryd.func35, Tryd.ntmps35
  go_wp2_with fail
  refine HF.out.mono ?_
  rintro e w1 ⟨rfl, b1⟩
  have HGO := Lib.hid (goOn_ok w1 g s r ok (HG.out.below b1))
  have HB := Lib.hid b1
  clear b1
  go_wp2_with fail
  refine HGO.out.mono ?_
  rintro e w2 ⟨rfl, hr, hg⟩
  have HR := Lib.hid hr
  have HG2 := Lib.hid (only_first HB.out hg)
  clear hr hg
  go_wp2
  go_ret
  exact ⟨rfl, HR.out, HG2.out⟩
/-! ### kind -/

theorem kind_none {l : List UInt8} (h : ∀ j, j < 4 → AM.pre (signL.getD j []) l = none) : AM.kindR l = none := by
  cases l with
  | nil => rfl
  | cons b t =>
    have h0 := h 0 (by omega)
    have h1 := h 1 (by omega)
    have h2 := h 2 (by omega)
    have h3 := h 3 (by omega)
    have key : ∀ x : UInt8, AM.pre [x] (b :: t) = none → b ≠ x := by
      intro x hx e
      subst e
      have := AM.pre_app [b] t
      rw [List.singleton_append, hx] at this
      cases this
    have n0 := key 111 h0
    have n1 := key 105 h1
    have n2 := key 114 h2
    have n3 := key 109 h3
    simp [AM.kindR, AM.signK, n0, n1, n2, n3]
theorem kind_some {l r : List UInt8} {k : Nat} (hk : k < 4) (h : AM.pre (signL.getD k []) l = some r) : AM.kindR l = some ((k : Int), r) := by
  have := AM.pre_back h
  subst this
  have hz : k = 0 ∨ k = 1 ∨ k = 2 ∨ k = 3 := by omega
  rcases hz with rfl | rfl | rfl | rfl <;> rfl
/-- What kind answers. -/
def KindPost (w : World) (o : Option (Int × List UInt8)) (e : Ending) (w' : World) : Prop :=
  (match o with
  | some p => e = .returned (.tuple #[.int .i64 p.1, .string (tx p.2), .bool true])
  | none => e = .returned (.tuple #[.int .i64 0, .string ⟨#[]⟩, .bool false])) ∧ Below w.heap.size w w'
theorem index_sign0 (w : World) (a b c d : ByteArray) : (Instr.index 68 (.agg #[.string a, .string b, .string c, .string d]) (.int .i64 0)).run Tryd.prog w = .ok (.string a) w := by kernel_rfl
theorem index_sign1 (w : World) (a b c d : ByteArray) : (Instr.index 68 (.agg #[.string a, .string b, .string c, .string d]) (.int .i64 1)).run Tryd.prog w = .ok (.string b) w := by kernel_rfl
theorem index_sign2 (w : World) (a b c d : ByteArray) : (Instr.index 68 (.agg #[.string a, .string b, .string c, .string d]) (.int .i64 2)).run Tryd.prog w = .ok (.string c) w := by kernel_rfl
theorem index_sign3 (w : World) (a b c d : ByteArray) : (Instr.index 68 (.agg #[.string a, .string b, .string c, .string d]) (.int .i64 3)).run Tryd.prog w = .ok (.string d) w := by kernel_rfl
set_option maxHeartbeats 4000000 in
theorem kind_ok (w : World) (l : List UInt8) (hG : Sgn w) : Calls Tryd.prog 34 #[.string (tx l)] w (KindPost w (AM.kindR l)) := by
  have c0 : w.cell? ⟨0, 0, none⟩ = some (.string (tx [111])) := hG.cell 0 (by omega)
  have c1 : w.cell? ⟨0, 1, none⟩ = some (.string (tx [105])) := hG.cell 1 (by omega)
  have c2 : w.cell? ⟨0, 2, none⟩ = some (.string (tx [114])) := hG.cell 2 (by omega)
  have c3 : w.cell? ⟨0, 3, none⟩ = some (.string (tx [109])) := hG.cell 3 (by omega)
  clear hG
  have hN : (∀ j, j < 4 → AM.pre (signL.getD j []) l = none) → AM.kindR l = none := kind_none
  have hS : ∀ (k : Nat) (r : List UInt8), k < 4 → AM.pre (signL.getD k []) l = some r → AM.kindR l = some ((k : Int), r) := fun k r hk h => kind_some hk h
  generalize hR : AM.kindR l = R at *
  have HN := Lib.hid hN
  have HS := Lib.hid hS
  have HC0 := Lib.hid (show ∀ p, AM.pre p l = none → Calls Tryd.prog 29 #[.string (tx l), .string (tx p)] w fun e w' => e = .returned (.tuple #[.string (tx l), .bool false]) ∧ w' = w from fun p h => cut_none h w)
  have HC1 := Lib.hid (show ∀ p r, AM.pre p l = some r → Calls Tryd.prog 29 #[.string (tx l), .string (tx p)] w fun e w' => e = .returned (.tuple #[.string (tx r), .bool true]) ∧ w' = w from fun p r h => cut_some h w)
  clear hN hS hR
  have hx0 := fun v => index_sign0 v (tx [111]) (tx [105]) (tx [114]) (tx [109])
  have hx1 := fun v => index_sign1 v (tx [111]) (tx [105]) (tx [114]) (tx [109])
  have hx2 := fun v => index_sign2 v (tx [111]) (tx [105]) (tx [114]) (tx [109])
  have hx3 := fun v => index_sign3 v (tx [111]) (tx [105]) (tx [114]) (tx [109])
  go_enter Tryd.func34, Tryd.ntmps34
  go_wp2
  go_loopw [10] (fun i wr => ∃ k : Nat, k ≤ 4 ∧ i = .int .i64 (k : Int) ∧ wr = w ∧ Hid (∀ j, j < k → AM.pre (signL.getD j []) l = none)) (fun i _ => 4 - (RowKit.intOf i).toNat)
  case atStart => exact ⟨0, Nat.zero_le _, rfl, rfl, Lib.hid (fun j hj => absurd hj (Nat.not_lt_zero _))⟩
  case round =>
    obtain ⟨k, hk, rfl, rfl, hA⟩ := hrel
    have hz : k = 0 ∨ k = 1 ∨ k = 2 ∨ k = 3 ∨ k = 4 := by omega
    clear c0 c1 c2 c3 hk
    rcases hz with rfl | rfl | rfl | rfl | rfl
    · cases h : AM.pre [111] l with
      | none =>
        have HA := Lib.hid (show ∀ j, j < 1 → AM.pre (signL.getD j []) l = none from fun j hj => by
          rcases Nat.lt_or_ge j 0 with h1 | h1
          · exact hA.out j h1
          · obtain rfl : j = 0 := by omega
            exact h)
        have hc := Lib.hid (HC0.out _ h)
        clear hA h
        go_wp2_with fail
        refine hc.out.mono ?_
        rintro e wx ⟨rfl, hwx⟩
        rw [hwx]
        clear hwx wx
        go_wp2_with fail
        go_roundw
        case rel => exact ⟨1, by omega, rfl, by trivial, HA⟩
        case measure => simp [RowKit.intOf]
      | some r =>
        have e := HS.out 0 r (by omega) h
        subst e
        have hc := Lib.hid (HC1.out _ _ h)
        clear hA h
        go_wp2_with fail
        refine hc.out.mono ?_
        rintro e wx ⟨rfl, hwx⟩
        rw [hwx]
        clear hwx wx
        go_wp2
        (try simp only [Exit.inBlock, Exit.then])
        go_ret3
        exact ⟨rfl, Below.refl _ _⟩
    · cases h : AM.pre [105] l with
      | none =>
        have HA := Lib.hid (show ∀ j, j < 2 → AM.pre (signL.getD j []) l = none from fun j hj => by
          rcases Nat.lt_or_ge j 1 with h1 | h1
          · exact hA.out j h1
          · obtain rfl : j = 1 := by omega
            exact h)
        have hc := Lib.hid (HC0.out _ h)
        clear hA h
        go_wp2_with fail
        refine hc.out.mono ?_
        rintro e wx ⟨rfl, hwx⟩
        rw [hwx]
        clear hwx wx
        go_wp2_with fail
        go_roundw
        case rel => exact ⟨2, by omega, rfl, by trivial, HA⟩
        case measure => simp [RowKit.intOf]
      | some r =>
        have e := HS.out 1 r (by omega) h
        subst e
        have hc := Lib.hid (HC1.out _ _ h)
        clear hA h
        go_wp2_with fail
        refine hc.out.mono ?_
        rintro e wx ⟨rfl, hwx⟩
        rw [hwx]
        clear hwx wx
        go_wp2
        (try simp only [Exit.inBlock, Exit.then])
        go_ret3
        exact ⟨rfl, Below.refl _ _⟩
    · cases h : AM.pre [114] l with
      | none =>
        have HA := Lib.hid (show ∀ j, j < 3 → AM.pre (signL.getD j []) l = none from fun j hj => by
          rcases Nat.lt_or_ge j 2 with h1 | h1
          · exact hA.out j h1
          · obtain rfl : j = 2 := by omega
            exact h)
        have hc := Lib.hid (HC0.out _ h)
        clear hA h
        go_wp2_with fail
        refine hc.out.mono ?_
        rintro e wx ⟨rfl, hwx⟩
        rw [hwx]
        clear hwx wx
        go_wp2_with fail
        go_roundw
        case rel => exact ⟨3, by omega, rfl, by trivial, HA⟩
        case measure => simp [RowKit.intOf]
      | some r =>
        have e := HS.out 2 r (by omega) h
        subst e
        have hc := Lib.hid (HC1.out _ _ h)
        clear hA h
        go_wp2_with fail
        refine hc.out.mono ?_
        rintro e wx ⟨rfl, hwx⟩
        rw [hwx]
        clear hwx wx
        go_wp2
        (try simp only [Exit.inBlock, Exit.then])
        go_ret3
        exact ⟨rfl, Below.refl _ _⟩
    · cases h : AM.pre [109] l with
      | none =>
        have HA := Lib.hid (show ∀ j, j < 4 → AM.pre (signL.getD j []) l = none from fun j hj => by
          rcases Nat.lt_or_ge j 3 with h1 | h1
          · exact hA.out j h1
          · obtain rfl : j = 3 := by omega
            exact h)
        have hc := Lib.hid (HC0.out _ h)
        clear hA h
        go_wp2_with fail
        refine hc.out.mono ?_
        rintro e wx ⟨rfl, hwx⟩
        rw [hwx]
        clear hwx wx
        go_wp2_with fail
        go_roundw
        case rel => exact ⟨4, by omega, rfl, by trivial, HA⟩
        case measure => simp [RowKit.intOf]
      | some r =>
        have e := HS.out 3 r (by omega) h
        subst e
        have hc := Lib.hid (HC1.out _ _ h)
        clear hA h
        go_wp2_with fail
        refine hc.out.mono ?_
        rintro e wx ⟨rfl, hwx⟩
        rw [hwx]
        clear hwx wx
        go_wp2
        (try simp only [Exit.inBlock, Exit.then])
        go_ret3
        exact ⟨rfl, Below.refl _ _⟩
    · have e := HN.out hA.out
      subst e
      go_wp2
      (try simp only [Exit.inBlock, Exit.then])
      go_ret3
      exact ⟨rfl, Below.refl _ _⟩
/-! ### the four parts -/

theorem takeNum_ok (w : World) (g : Nat) (s : AM.St) (h : RdS w g s) (hl : (s.getD []).length ≤ 1000000) (hN : Num w) :
    Calls Tryd.prog 17 #[.pointer (some ⟨g, 0, none⟩), .func (.func 18) #[] #[]] w fun e w' => e = .returned (.int .i64 ((AM.numS s).1 : Int)) ∧ RdS w' g (AM.numS s).2 ∧ w.grownBy w' (some g) := by
  have eg : ∀ args w, (callFunc 18 args).run Tryd.prog w = .ok (.enter 18 args) w := enters_of Tryd.func18 (by kernel_rfl) rfl
  cases s with
  | none =>
    have := takeI_ok 18 w g none 0 [] false eg h (num_not (l := []) rfl hl w hN)
    exact this
  | some l =>
    cases hp : JM.num l with
    | none =>
      have := takeI_ok 18 w g (some l) 0 [] false eg h (num_not (l := l) hp hl w hN)
      have e : AM.numS (some l) = (0, none) := by unfold AM.numS; rw [Option.bind_some, hp]
      rw [e]
      exact this
    | some p =>
      obtain ⟨n, r⟩ := p
      have := takeI_ok 18 w g (some l) (n : Int) r true eg h (num_some (l := l) hp hl w hN)
      have e : AM.numS (some l) = (n, some r) := by unfold AM.numS; rw [Option.bind_some, hp]
      rw [e]
      exact this
theorem takeUtm_ok (w : World) (g : Nat) (s : AM.St) (h : RdS w g s) (hl : (s.getD []).length ≤ 1000000) (hN : Num w) :
    Calls Tryd.prog 17 #[.pointer (some ⟨g, 0, none⟩), .func (.func 33) #[] #[]] w fun e w' => e = .returned (.int .i64 ((AM.utmS s).1 : Int)) ∧ RdS w' g (AM.utmS s).2 ∧ w.grownBy w' (some g) := by
  have eg : ∀ args w, (callFunc 33 args).run Tryd.prog w = .ok (.enter 33 args) w := enters_of Tryd.func33 (by kernel_rfl) rfl
  cases s with
  | none =>
    have := takeI_ok 33 w g none 0 [] false eg h (utm_not (l := []) rfl hl w hN)
    exact this
  | some l =>
    cases hp : JM.utm l with
    | none =>
      have := takeI_ok 33 w g (some l) 0 [] false eg h (utm_not (l := l) hp hl w hN)
      have e : AM.utmS (some l) = (0, none) := by unfold AM.utmS; rw [Option.bind_some, hp]
      rw [e]
      exact this
    | some p =>
      obtain ⟨n, r⟩ := p
      have := takeI_ok 33 w g (some l) (n : Int) r true eg h (utm_some (l := l) hp hl w hN)
      have e : AM.utmS (some l) = (n, some r) := by unfold AM.utmS; rw [Option.bind_some, hp]
      rw [e]
      exact this
theorem kind_not {l : List UInt8} (h : AM.kindR l = none) (w : World) (hG : Sgn w) : Calls Tryd.prog 34 #[.string (tx l)] w fun e w' => e = .returned (.tuple #[.int .i64 0, .string (tx []), .bool false]) ∧ Below w.heap.size w w' := by
  have := kind_ok w l hG
  rw [h] at this
  exact this
theorem kind_is {l r : List UInt8} {k : Int} (h : AM.kindR l = some (k, r)) (w : World) (hG : Sgn w) : Calls Tryd.prog 34 #[.string (tx l)] w fun e w' => e = .returned (.tuple #[.int .i64 k, .string (tx r), .bool true]) ∧ Below w.heap.size w w' := by
  have := kind_ok w l hG
  rw [h] at this
  exact this
theorem takeKind_ok (w : World) (g : Nat) (s : AM.St) (h : RdS w g s) (hG : Sgn w) :
    Calls Tryd.prog 17 #[.pointer (some ⟨g, 0, none⟩), .func (.func 34) #[] #[]] w fun e w' => e = .returned (.int .i64 (AM.kindS s).1) ∧ RdS w' g (AM.kindS s).2 ∧ w.grownBy w' (some g) := by
  have eg : ∀ args w, (callFunc 34 args).run Tryd.prog w = .ok (.enter 34 args) w := enters_of Tryd.func34 (by kernel_rfl) rfl
  cases s with
  | none =>
    have := takeI_ok 34 w g none 0 [] false eg h (kind_not (l := []) rfl w hG)
    exact this
  | some l =>
    cases hp : AM.kindR l with
    | none =>
      have := takeI_ok 34 w g (some l) 0 [] false eg h (kind_not (l := l) hp w hG)
      have e : AM.kindS (some l) = (0, none) := by unfold AM.kindS; rw [Option.bind_some, hp]
      rw [e]
      exact this
    | some p =>
      obtain ⟨n, r⟩ := p
      have := takeI_ok 34 w g (some l) n r true eg h (kind_is (l := l) hp w hG)
      have e : AM.kindS (some l) = (n, some r) := by unfold AM.kindS; rw [Option.bind_some, hp]
      rw [e]
      exact this
theorem takeUnq_ok (w : World) (g : Nat) (s : AM.St) (h : RdS w g s) (hl : (s.getD []).length ≤ 1000000) (hF : Fmt w) (hN : Num w) (hU : Utf w) :
    Calls Tryd.prog 35 #[.pointer (some ⟨g, 0, none⟩), .func (.func 36) #[] #[]] w fun e w' => e = .returned (.string (tx (AM.unqS s).1)) ∧ RdS w' g (AM.unqS s).2 ∧ w.grownBy w' (some g) := by
  have eg : ∀ args w, (callFunc 36 args).run Tryd.prog w = .ok (.enter 36 args) w := enters_of Tryd.func36 (by kernel_rfl) rfl
  cases s with
  | none =>
    have := takeT_ok 36 w g none ⟨#[]⟩ [] false eg h (unq_not (l := []) rfl hl w hF hN hU)
    exact this
  | some l =>
    cases hp : JM.unq l with
    | none =>
      have := takeT_ok 36 w g (some l) ⟨#[]⟩ [] false eg h (unq_not (l := l) hp hl w hF hN hU)
      have e : AM.unqS (some l) = ([], none) := by unfold AM.unqS; rw [Option.bind_some, hp]
      rw [e]
      exact this
    | some p =>
      obtain ⟨rs, r⟩ := p
      have := takeT_ok 36 w g (some l) (tx (rs.flatMap JM.enc)) r true eg h (unq_some (l := l) hp hl w hF hN hU)
      have e : AM.unqS (some l) = (rs.flatMap JM.enc, some r) := by unfold AM.unqS; rw [Option.bind_some, hp]
      rw [e]
      exact this
end Go.Proofs.YtciogdhapogolaaDoor
