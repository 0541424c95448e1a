/-
  STakeW, SPutB, SPutC, SPutP, in one text.
-/
import Derived.Test.YtdolapobkhhanaaDoorM15
import Derived.Test.YtdolapobkhhanaaDoorM11
/-
  Layer 11 (state): take.
-/
namespace Go.Proofs.YtdolapobkhhanaaDoor
open Go.RowKit Go.Lib KM
set_option maxRecDepth 100000

theorem wpList_q60 {ops : Array Oper} {rest : List Oper} {o : Oper} {a : Act} {w : World} {c P : Array Value} {Q : Exit → Act → World → Prop} (hPs : P.size = 60) (hone : P.all (·.oneCell') = true) (hg : o.guard = none) (x y : Operand) (ho : o.op = .store 74 x y)
    (g : Nat) (hgz : g = w.heap.size) (hx : a.eval x = .pointer (some ⟨g, 0, none⟩)) (hy : a.eval y = .agg P) (hc : c.size = 60)
    (h : wpList Tryd.prog ops Q rest (a.put o.dst undef) (w.alloc (.cells P 74))) : wpList Tryd.prog ops Q (o :: rest) a (w.alloc (.cells c 74)) := by
  subst hgz
  refine wpList_store_row hg _ x y ho w.heap.size P hx hy 74 c (heap_alloc_last w _) (by rw [size60, hPs]) (by rw [hc, hPs]) hone ?_
  rw [World.setRow_alloc_new]
  exact h
theorem ptr_one' {P : Array Value} {f : Nat → Addr} (hs : P.size = 60) (h : ∀ j, j < 60 → P[j]? = some (.pointer (some (f j)))) : P.all (·.oneCell') = true := Array.all_eq_true.2 fun i hi => by
  have := h i (by omega)
  rw [Array.getElem?_eq_getElem hi, Option.some.injEq] at this
  rw [this]; rfl
/-- The eight flags' pointers. -/
def modeB (p : Nat) : Array Value := #[.pointer (some ⟨p, 88, none⟩), .pointer (some ⟨p, 89, none⟩), .pointer (some ⟨p, 90, none⟩), .pointer (some ⟨p, 91, none⟩), .pointer (some ⟨p, 95, none⟩), .pointer (some ⟨p, 92, none⟩), .pointer (some ⟨p, 93, none⟩), .pointer (some ⟨p, 94, none⟩)]
theorem modeB_at (p k : Nat) (hk : k < 8) : (modeB p)[k]? = some (.pointer (some ⟨p, modeP k, none⟩)) := by
  rcases (by omega : k = 0 ∨ k = 1 ∨ k = 2 ∨ k = 3 ∨ k = 4 ∨ k = 5 ∨ k = 6 ∨ k = 7) with rfl | rfl | rfl | rfl | rfl | rfl | rfl | rfl <;> rfl
theorem takeT_none (l : List Nat) (bad : Bool) (h : (takeSd l bad).1 = none) : takeT l bad = none := by
  unfold takeT
  simp [h]
theorem takeT_eq (l : List Nat) (bad : Bool) (W H top en : Nat) (l1 : List Nat) (b1 : Bool) (m : Nat) (l2 : List Nat) (b2 : Bool) (s : Nat) (l3 : List Nat) (b3 : Bool)
    (e1 : takeSd l bad = (some (W, H, top, en), l1, b1)) (e2 : numOf l1 b1 256 = (m, l2, b2)) (e3 : numOf l2 b2 (2 ^ 60) = (s, l3, b3)) :
    takeT l bad = (takeCs W H 3 l3 b3).bind fun C => (takeLs W H C.2.1 C.2.2).bind fun L => (takeLs W H L.2.1 L.2.2).bind fun O => (takeB O.2.1 O.2.2).map fun B =>
      (⟨W, H, top, en, m, s, C.1, L.1, O.1, B.1, (takeTail B.2.1 B.2.2).1, (takeTail B.2.1 B.2.2).2.1, (takeTail B.2.1 B.2.2).2.2.1⟩, (takeTail B.2.1 B.2.2).2.2.2) := by
  unfold takeT
  simp only [e1, e2, e3, Option.bind_some]
/-- What take leaves. -/
def TkPost (w : World) (g : Nat) (R : Option (Tm × List Nat × Bool)) (e : Ending) (w' : World) : Prop :=
  (R = none ∧ (∃ v, e = .returned (.tuple #[v, .bool false])) ∧ w.grownBy w' (some g)) ∨
  ∃ T p gp op F O BA bc PA pc, R = some T ∧ e = .returned (.tuple #[.pointer (some ⟨p, 0, none⟩), .bool (rightP T.1.p)]) ∧
    MM w w' g p gp op F O (.slice BA T.1.bk.length bc) T.1 (tmAt T.1 gp op (.slice BA T.1.bk.length bc) PA pc) T.2.1 T.2.2 ∧ Row w' w'.heap.size .i64 PA T.1.p.params ∧ ∀ a, PA = some a → w.heap.size ≤ a.block

theorem NextAt.base {w : World} {base base' : Nat} {v : Value} {X : Nat → Prop} {LL : List (List Cel)} (h : NextAt w base v X LL) (hb : base' ≤ base) : NextAt w base' v X LL := by
  obtain ⟨SL, h1, h2, h3⟩ := h
  exact ⟨SL, h1.mono hb, h2.mono (fun k _ hn => ⟨Nat.le_trans hb hn.1, hn.2⟩), h3⟩
theorem MM.flags {w0 w : World} {g p gp op : Nat} {F O : List Nat} {bv : Value} {t : Tm} {f : Nat → Value} {l : List Nat} {bad : Bool} (h : MM w0 w g p gp op F O bv t f l bad) (o : Nat → Nat) (N n : Nat) (ho : ∀ j, j < n → 2 ≤ o j ∧ o j < 108) :
    MM w0 (setFl w p o N n) g p gp op F O bv t (updFl f o N n) l bad := by
  induction n with
  | zero => exact h
  | succ n ih => exact (ih fun j hj => ho j (by omega)).set (ho n (by omega)).2 (ho n (by omega)).1 _

set_option maxHeartbeats 16000000 in
theorem take_ok (w : World) (g : Nat) (l : List Nat) (bad : Bool) (h : Rd w g l bad) (hby : ∀ x ∈ l, x < 256) (hT : Tabs w) (hU : Utf w) (hG : 2 < g) :
    Calls Tryd.prog 12 #[.pointer (some ⟨g, 0, none⟩)] w (TkPost w g (takeT l bad)) := by
  have hgw := h.lt
  obtain ⟨R, hR⟩ : ∃ R, R = takeT l bad := ⟨_, rfl⟩
  rw [← hR]
  obtain ⟨⟨S, l1, b1⟩, e1⟩ : ∃ q, takeSd l bad = q := ⟨_, rfl⟩
  have HSD := Lib.hid (takeSides_ok w g l bad h)
  rw [e1] at HSD
  rcases S with _ | ⟨W, H, top, en⟩
  · have hRn : R = none := hR.trans (takeT_none l bad (by rw [e1]))
    subst hRn
    clear hR e1 h
    go_enter Tryd.func12, Tryd.ntmps12
    go_wp2_with fail
    refine HSD.out.mono ?_
    intro e w1 hpost
    obtain ⟨v, rfl, hg1⟩ : ∃ v, e = .returned (.tuple #[v, .bool false]) ∧ w.grownBy w1 (some g) := by
      rcases hpost with ⟨_, ⟨v, h1⟩, h2⟩ | ⟨d, _, _, _, _, _, hd, _⟩
      · exact ⟨v, h1, h2⟩
      · cases hd
    have HG1 := Lib.hid hg1
    clear hpost hg1 HSD
    go_wp2
    go_ret2
    exact .inl ⟨rfl, ⟨_, rfl⟩, HG1.out⟩
  obtain ⟨o1, o2, o3, _, o5⟩ := takeSd_ok (d := (W, H, top, en)) hby (by rw [e1])
  rw [e1] at o5
  simp only at o1 o2 o3 o5
  obtain ⟨⟨m, l2, b2⟩, e2⟩ : ∃ q, numOf l1 b1 256 = q := ⟨_, rfl⟩
  obtain ⟨⟨s, l3, b3⟩, e3⟩ : ∃ q, numOf l2 b2 (2 ^ 60) = q := ⟨_, rfl⟩
  have hy2 : ∀ x ∈ l2, x < 256 := by have := num_bytes (bad := b1) (L := 256) o5; rwa [e2] at this
  have hy3 : ∀ x ∈ l3, x < 256 := by have := num_bytes (bad := b2) (L := 2 ^ 60) hy2; rwa [e3] at this
  have HRR := Lib.hid (hR.trans (takeT_eq l bad W H top en l1 b1 m l2 b2 s l3 b3 e1 e2 e3))
  have HY3 := Lib.hid hy3
  have E2 := Lib.hid e2
  have E3 := Lib.hid e3
  have HT := Lib.hid hT
  have HU := Lib.hid hU
  clear hR e1 e2 e3 h hby o5 hy2 hy3 hT hU
  have hz := zero60
  obtain ⟨Z, hZ⟩ : ∃ Z, Z = Array.replicate 60 (Value.pointer none) := ⟨_, rfl⟩
  have hZs : Z.size = 60 := by rw [hZ]; simp
  rw [← hZ] at hz
  clear hZ
  go_enter Tryd.func12, Tryd.ntmps12
  go_wp2_with fail
  refine HSD.out.mono ?_
  intro e w1 hpost
  obtain ⟨p, gp, op, F, O, rfl, hN, hr1, hg1⟩ : ∃ p gp op F O, e = .returned (.tuple #[.pointer (some ⟨p, 0, none⟩), .bool true]) ∧ TmN w w1 p gp op F O (.slice none 0 0) none 0 { newT W H with top := top, en := en } ∧ Rd w1 g l1 b1 ∧ w.grownBy w1 (some g) := by
    rcases hpost with ⟨h1, _⟩ | ⟨d, p, gp, op, F, O, hd, h2, h3, h4, h5⟩
    · cases h1
    · simp only [Option.some.injEq] at hd
      subst hd
      exact ⟨p, gp, op, F, O, h2, h3, h4, h5⟩
  have hM1 : MM w w1 g p gp op F O (.slice none 0 0) { newT W H with top := top, en := en } (tmAt { newT W H with top := top, en := en } gp op (.slice none 0 0) none 0) l1 b1 :=
    ⟨hr1, hN.tm.cells, hN.tm.shown, hN.tm.other, NextAt.nil _ _ _, hg1, hgw, hN.newp, hN.newF, hN.newO, hN.tm.apart, hG, tabs_only HT.out hG w1 hg1, rfl, rfl⟩
  have M1 := Lib.hid hM1
  clear hpost hN hr1 hg1 hM1 HSD
  go_wp2_with fail
  refine (modes_ok w1 p).mono ?_
  rintro e w2 ⟨rfl, hb2⟩
  have M2 := Lib.hid (M1.out.below hb2)
  clear hb2 M1
  go_wp2_with fail
  refine (stops_ok w2 p).mono ?_
  rintro e w3 ⟨P, rfl, hPs, hPc, hb3⟩
  have HONE := Lib.hid (ptr_one' hPs hPc)
  have HPC := Lib.hid hPc
  obtain ⟨w4, hw4⟩ : ∃ w4, w4 = (w3.alloc (.cells (modeB p) 72)).alloc (.cells P 74) := ⟨_, rfl⟩
  have W4 := Lib.hid hw4
  have hb4 : Below w3.heap.size w3 w4 := by rw [hw4]; exact ((Below.refl _ _).alloc (Nat.le_refl _) _).alloc (by simp) _
  obtain ⟨mb, hmb⟩ : ∃ mb, mb = w3.heap.size := ⟨_, rfl⟩
  have hz4 : w4.heap.size = mb + 2 := by rw [hw4, hmb]; simp
  have hm4 : w4.heap[mb]? = some (.cells (modeB p) 72 (0, 0)) := by rw [hw4, hmb, heap_alloc_old _ _ (by simp)]; exact heap_alloc_new w3 _
  have hs4 : w4.heap[mb + 1]? = some (.cells P 74 (0, 0)) := by rw [hw4, hmb]; have := heap_alloc_new (w3.alloc (.cells (modeB p) 72)) (.cells P 74); simpa using this
  have M4 := Lib.hid ((M2.out.below hb3).below hb4)
  have HM4 := Lib.hid hm4
  have HS4 := Lib.hid hs4
  have hpm : p < mb := by rw [hmb]; exact (M2.out.below hb3).cells.lt
  have hgm : g < mb := by have := M2.out.np; omega
  unfold modeB at W4
  clear hPc hb3 hw4 hb4 hm4 hs4 M2
  go_upto_region 5 with (refine wpList_q60 hPs HONE.out rfl _ _ rfl _ (by simp) rfl rfl hZs ?_)
  rw [← W4.out, ← hmb]
  have HZ4 := Lib.hid hz4
  clear hmb hPs hZs hz W4 HONE hz4
  have ha8 : Tryd.prog.arrayLen 72 = 8 := by kernel_rfl
  have ha60 : Tryd.prog.arrayLen 74 = 60 := by kernel_rfl
  -- the flags
  have hf1 := takeFlags_ok w4 g l1 b1 M4.out.rd mb 0 8 8 p 108 43 _ modeP (by omega) (by omega) (by omega) (by have := M4.out.np; omega) (by rw [HZ4.out]; omega) M4.out.cells (fun j hj => by unfold modeP; split <;> (try split) <;> omega)
    (fun k hk => by rw [Nat.zero_add, cell_of_row _ _ _ _ _ _ HM4.out]; exact modeB_at p k hk)
  rw [show (2 : Nat) ^ 8 = 256 from rfl, E2.out] at hf1
  have HF1 := Lib.hid hf1
  clear hf1
  go_wp2_with fail
  refine HF1.out.mono ?_
  rintro e w6 ⟨rfl, w5, hr5, hg5, hw6⟩
  have hmb5 : w6.heap[mb + 1]? = some (.cells P 74 (0, 0)) := by
    rw [hw6, setFl_other _ _ _ _ _ _ (by omega)]
    exact (hg5.block (mb + 1) (by rw [HZ4.out]; omega) (by intro e; injection e with e; omega)).trans HS4.out
  have hz6 : mb + 2 ≤ w6.heap.size := by
    rw [hw6, setFl_size]
    have := hg5.size
    rw [HZ4.out] at this
    exact this
  have M6 := Lib.hid (show MM w w6 g p gp op F O (.slice none 0 0) { newT W H with top := top, en := en, m := m } (tmAt { newT W H with top := top, en := en, m := m } gp op (.slice none 0 0) none 0) l2 b2 by
    rw [hw6]
    exact (((M4.out.num hg5 hr5).flags modeP m 8 (fun j hj => by unfold modeP; split <;> (try split) <;> omega)).congr (tm_fl8 _ _ _ _ _ _ m) { newT W H with top := top, en := en, m := m } ⟨rfl, rfl, rfl, rfl, rfl⟩))
  clear hr5 hg5 hw6 HF1 HM4 HS4 HZ4 M4
  have hf2 := takeFlags_ok w6 g l2 b2 M6.out.rd (mb + 1) 0 60 60 p 108 43 _ (fun k => 28 + k) (by omega) (by omega) (by omega) (by have := M6.out.np; omega) (by omega) M6.out.cells (fun j hj => by omega)
    (fun k hk => by rw [Nat.zero_add, cell_of_row _ _ _ _ _ _ hmb5]; exact HPC.out k hk)
  rw [E3.out] at hf2
  have HF2 := Lib.hid hf2
  clear hf2 hmb5 hz6
  go_wp2_with fail
  refine HF2.out.mono ?_
  rintro e w8 ⟨rfl, w7, hr7, hg7, hw8⟩
  have M8 := Lib.hid (show MM w w8 g p gp op F O (.slice none 0 0) { newT W H with top := top, en := en, m := m, s := s } (tmAt { newT W H with top := top, en := en, m := m, s := s } gp op (.slice none 0 0) none 0) l3 b3 by
    rw [hw8]
    exact (((M6.out.num hg7 hr7).flags (fun k => 28 + k) s 60 (fun j hj => by omega)).congr (tm_fl60 _ _ _ _ _ _ s) { newT W H with top := top, en := en, m := m, s := s } ⟨rfl, rfl, rfl, rfl, rfl⟩))
  clear hr7 hg7 hw8 HF2 M6 hpm hgm
  -- the cursors
  have hgp0 : g < p := by have := M8.out.np; omega
  have hCK : CK w8 w8 g p gp W H l3 b3 (tmAt { newT W H with top := top, en := en, m := m, s := s } gp op (.slice none 0 0) none 0) := by
    obtain ⟨hb, hc, L, hG, hF⟩ := M8.out.ga
    refine ⟨M8.out.rd, M8.out.cells, rfl, hG.cell0, hG.cell1, Fr.refl _ _, ⟨hgp0, fun e => M8.out.ap.1 (e ▸ M8.out.gpl.1), fun e => ?_⟩⟩
    have := M8.out.nF gp M8.out.gpl.1
    omega
  obtain ⟨XC, hXC⟩ : ∃ X, takeCs W H 3 l3 b3 = X := ⟨_, rfl⟩
  have hC := takeCursors_ok w8 w8 g p gp W H l3 b3 { newT W H with top := top, en := en, m := m, s := s } op (.slice none 0 0) none 0 o1 o2 rfl hCK
  rw [hXC] at hC
  have HC := Lib.hid hC
  have EC := Lib.hid hXC
  clear hC hXC hCK
  go_wp2_with fail
  refine HC.out.mono ?_
  intro e w9 hpost
  rcases hpost with ⟨hXn, rfl, hfr⟩ | ⟨C, hXs, rfl, hck⟩
  · have HG9 := Lib.hid (M8.out.on' hfr (fun k hk => hk.imp_right (fun e => by rw [e]; exact M8.out.np)))
    have HRn := Lib.hid (show R = none by rw [HRR.out, EC.out, hXn]; rfl)
    clear hXn hfr HC
    go_wp2
    go_ret2
    exact .inl ⟨HRn.out, ⟨_, rfl⟩, HG9.out⟩
  have hC3 := takeCs_back (W := W) (H := H) 3 (by omega) HY3.out (by rw [EC.out]; exact hXs)
  have HYC := Lib.hid (show ∀ x ∈ C.2.1, x < 256 from fun x hx => HY3.out x (by rw [hC3.2.2.2.2]; exact List.mem_append_right _ hx))
  have M9 := Lib.hid (show MM w w9 g p gp op F O (.slice none 0 0) { newT W H with top := top, en := en, m := m, s := s, cs := C.1 } (tmAt { newT W H with top := top, en := en, m := m, s := s, cs := C.1 } gp op (.slice none 0 0) none 0) C.2.1 C.2.2 from
    M8.out.two hck.fr hck.rd hck.cells ⟨rfl, rfl⟩ ⟨rfl, rfl, rfl, rfl, rfl⟩)
  have EC2 := Lib.hid (EC.out.trans hXs)
  clear hXs hck hC3 HC M8 EC
  -- the first screen
  obtain ⟨hb9, hc9, L9, hG9, hF9⟩ := M9.out.ga
  have hSK : SK w9 w9 g gp hb9 hc9 F W H C.2.1 C.2.2 L9 := by
    have hll : L9.map Ln.l = List.replicate H (KM.blanks W zero) := hG9.lines.symm
    refine ⟨M9.out.rd, ?_, ?_, Fr.refl _ _, fun k hk => .inl (by rw [hF9]; exact hk), fun k hk => ?_, M9.out.tabs⟩
    · rw [hll]; exact hG9
    · have := congrArg List.length hll; simpa using this
    · have := M9.out.nF k (by rw [hF9]; exact hk); omega
  obtain ⟨XL, hXL⟩ : ∃ X, takeLs W H C.2.1 C.2.2 = X := ⟨_, rfl⟩
  have hgw9 : g < w9.heap.size := M9.out.rd.lt
  have hL := takeScreen_ok w9 w9 g gp hb9 hc9 F W H C.2.1 C.2.2 L9 o1 o2 (by rw [hF9]; simp [foot]) hG hgw9 hSK HYC.out
  rw [hXL] at hL
  have HL := Lib.hid hL
  have EL := Lib.hid hXL
  have q0 : w9.cell? ⟨p, 0, none⟩ = some (.pointer (some ⟨gp, 0, none⟩)) := M9.out.cells.cell (i := 0) (by omega)
  clear hL hXL hSK hG9 hF9
  go_wp2_with fail
  refine HL.out.mono ?_
  intro e w10 hpost
  rcases hpost with ⟨hXn, rfl, hfr⟩ | ⟨T1, hb1', hc1', L1, hXs, rfl, hsk, hls⟩
  · have HG10 := Lib.hid (M9.out.on' hfr (fun k hk => hk.imp_right (M9.out.nF k)))
    have HRn := Lib.hid (show R = none by rw [HRR.out, EC2.out, Option.bind_some, EL.out, hXn]; rfl)
    clear hXn hfr HL q0
    go_wp2
    go_ret2
    exact .inl ⟨HRn.out, ⟨_, rfl⟩, HG10.out⟩
  have M10 := Lib.hid (show MM w w10 g p gp op (foot gp hb1' L1) O (.slice none 0 0) { newT W H with top := top, en := en, m := m, s := s, cs := C.1, ls := T1.1 } (tmAt { newT W H with top := top, en := en, m := m, s := s, cs := C.1, ls := T1.1 } gp op (.slice none 0 0) none 0) T1.2.1 T1.2.2 by
    have := M9.out.scr1 rfl rfl hsk
    rw [hls] at this
    exact this)
  have HY1 := Lib.hid (show ∀ x ∈ T1.2.1, x < 256 from fun x hx => by
    have := (takeLs_back (W := W) (by omega) H HYC.out (EL.out.trans hXs)).2.2.2
    exact HYC.out x (by rw [this]; exact List.mem_append_right _ hx))
  have EL2 := Lib.hid (EL.out.trans hXs)
  clear hXs hsk hls HL EL M9 q0
  generalize foot gp hb1' L1 = F1 at *
  -- the second screen
  obtain ⟨hbA, hcA, LA, hGA, hFA⟩ := M10.out.gb
  have hSK : SK w10 w10 g op hbA hcA O W H T1.2.1 T1.2.2 LA := by
    have hll : LA.map Ln.l = List.replicate H (KM.blanks W zero) := hGA.lines.symm
    refine ⟨M10.out.rd, ?_, ?_, Fr.refl _ _, fun k hk => .inl (by rw [hFA]; exact hk), fun k hk => ?_, M10.out.tabs⟩
    · rw [hll]; exact hGA
    · have := congrArg List.length hll; simpa using this
    · have := M10.out.nO k (by rw [hFA]; exact hk); omega
  obtain ⟨XO, hXO⟩ : ∃ X, takeLs W H T1.2.1 T1.2.2 = X := ⟨_, rfl⟩
  have hgw10 : g < w10.heap.size := M10.out.rd.lt
  have hO := takeScreen_ok w10 w10 g op hbA hcA O W H T1.2.1 T1.2.2 LA o1 o2 (by rw [hFA]; simp [foot]) hG hgw10 hSK HY1.out
  rw [hXO] at hO
  have HO := Lib.hid hO
  have EO := Lib.hid hXO
  have q1 : w10.cell? ⟨p, 1, none⟩ = some (.pointer (some ⟨op, 0, none⟩)) := M10.out.cells.cell (i := 1) (by omega)
  clear hO hXO hSK hGA hFA
  go_wp2_with fail
  refine HO.out.mono ?_
  intro e w11 hpost
  rcases hpost with ⟨hXn, rfl, hfr⟩ | ⟨T2, hb2', hc2', L2, hXs, rfl, hsk, hls⟩
  · have HG11 := Lib.hid (M10.out.on' hfr (fun k hk => hk.imp_right (M10.out.nO k)))
    have HRn := Lib.hid (show R = none by rw [HRR.out, EC2.out, Option.bind_some, EL2.out, Option.bind_some, EO.out, hXn]; rfl)
    clear hXn hfr HO q1
    go_wp2
    go_ret2
    exact .inl ⟨HRn.out, ⟨_, rfl⟩, HG11.out⟩
  have M11 := Lib.hid (show MM w w11 g p gp op F1 (foot op hb2' L2) (.slice none 0 0) { newT W H with top := top, en := en, m := m, s := s, cs := C.1, ls := T1.1, os := T2.1 } (tmAt { newT W H with top := top, en := en, m := m, s := s, cs := C.1, ls := T1.1, os := T2.1 } gp op (.slice none 0 0) none 0) T2.2.1 T2.2.2 by
    have := M10.out.scr2 rfl rfl hsk
    rw [hls] at this
    exact this)
  have HY2 := Lib.hid (show ∀ x ∈ T2.2.1, x < 256 from fun x hx => by
    have := (takeLs_back (W := W) (by omega) H HY1.out (EO.out.trans hXs)).2.2.2
    exact HY1.out x (by rw [this]; exact List.mem_append_right _ hx))
  have EO2 := Lib.hid (EO.out.trans hXs)
  clear hXs hsk hls HO EO M10 q1
  generalize foot op hb2' L2 = O1 at *
  -- the lines that went out
  obtain ⟨f11, hf11⟩ : ∃ f, f = tmAt { newT W H with top := top, en := en, m := m, s := s, cs := C.1, ls := T1.1, os := T2.1 } gp op (.slice none 0 0) none 0 := ⟨_, rfl⟩
  have hu11 : upd f11 97 (.slice none 0 0) = f11 := upd_same f11 97 (.slice none 0 0) (by rw [hf11]; rfl)
  have hBK : BK w11 w11 g p w11.heap.size T2.2.1 T2.2.2 f11 (.slice none 0 0) [] :=
    ⟨M11.out.rd, by rw [hu11, hf11]; exact M11.out.cells, NextAt.nil _ _ _, Fr.refl _ _, hgp0, M11.out.tabs, Nat.le_refl _⟩
  obtain ⟨XB, hXB⟩ : ∃ X, takeB T2.2.1 T2.2.2 = X := ⟨_, rfl⟩
  have hp0 : p ≠ 2 := by omega
  have hB := takeBack_ok w11 w11 g p w11.heap.size T2.2.1 T2.2.2 f11 hBK HY2.out (Nat.le_refl _) M11.out.rd.lt hG hp0
  rw [hXB] at hB
  have HB := Lib.hid hB
  have EB := Lib.hid hXB
  have HF11 := Lib.hid hf11
  clear hB hXB hBK hu11 hf11 hp0
  go_wp2_with fail
  refine HB.out.mono ?_
  intro e w12 hpost
  rcases hpost with ⟨hXn, rfl, hfr⟩ | ⟨T3, bv, hXs, rfl, hbk⟩
  · have HG12 := Lib.hid (M11.out.on' hfr (fun k hk => hk.imp_right (fun e => by rw [e]; exact M11.out.np)))
    have HRn := Lib.hid (show R = none by rw [HRR.out, EC2.out, Option.bind_some, EL2.out, Option.bind_some, EO2.out, Option.bind_some, EB.out, hXn]; rfl)
    clear hXn hfr HB
    go_wp2
    go_ret2
    exact .inl ⟨HRn.out, ⟨_, rfl⟩, HG12.out⟩
  obtain ⟨BA, bc, hbv, _, _⟩ := hbk.next.lines
  subst hbv
  have hmm := M11.out.two (t' := { newT W H with top := top, en := en, m := m, s := s, cs := C.1, ls := T1.1, os := T2.1 }) hbk.fr hbk.rd hbk.cells (by rw [HF11.out]; exact ⟨rfl, rfl⟩) ⟨rfl, rfl, rfl, rfl, rfl⟩
  have hcg : ∀ i, i < 108 → upd f11 97 (.slice BA T3.1.length bc) i = tmAt { newT W H with top := top, en := en, m := m, s := s, cs := C.1, ls := T1.1, os := T2.1, bk := T3.1 } gp op (.slice BA T3.1.length bc) none 0 i := by
    rw [HF11.out]
    exact tm_back _ _ _ _ _ _ _ _
  have M12 := Lib.hid (show MM w w12 g p gp op F1 O1 (.slice BA T3.1.length bc) { newT W H with top := top, en := en, m := m, s := s, cs := C.1, ls := T1.1, os := T2.1, bk := T3.1 } (tmAt { newT W H with top := top, en := en, m := m, s := s, cs := C.1, ls := T1.1, os := T2.1, bk := T3.1 } gp op (.slice BA T3.1.length bc) none 0) T3.2.1 T3.2.2 from
    ⟨hmm.rd, hmm.cells.congr hcg, hmm.ga, hmm.gb, hbk.next.base M11.out.on.size, hmm.on, hmm.gz, hmm.np, hmm.nF, hmm.nO, hmm.ap, hmm.gl, hmm.tabs, ⟨rfl, rfl⟩⟩)
  have HY3' := Lib.hid (show ∀ x ∈ T3.2.1, x < 256 from fun x hx => by
    have h1 := EB.out.trans hXs
    unfold takeB at h1
    have h2 := (takeBk_back _ (num_bytes (bad := T2.2.2) (L := 21) HY2.out) h1).2.2.2
    exact num_bytes (bad := T2.2.2) (L := 21) HY2.out x (by rw [h2]; exact List.mem_append_right _ hx))
  have EB2 := Lib.hid (EB.out.trans hXs)
  clear hXs hbk hmm hcg HB EB M11 HF11
  -- the texts
  obtain ⟨⟨ti, l5, b5⟩, e5⟩ : ∃ q, textOf T3.2.1 T3.2.2 40 = q := ⟨_, rfl⟩
  obtain ⟨⟨re, l6, b6⟩, e6⟩ : ∃ q, textOf l5 b5 400 = q := ⟨_, rfl⟩
  obtain ⟨⟨ps, l7, b7⟩, e7⟩ : ∃ q, takeP l6 b6 = q := ⟨_, rfl⟩
  have hy5 : ∀ x ∈ l5, x < 256 := by have := (text_bytes (bad := T3.2.2) (M := 40) HY3'.out).2; rwa [e5] at this
  have hy6 : ∀ x ∈ l6, x < 256 := by have := (text_bytes (bad := b5) (M := 400) hy5).2; rwa [e6] at this
  have hpsok : PsOk ps := by have := (takeP_bytes (bad := b6) hy6).1; rwa [e7] at this
  have hRf : R = some (⟨W, H, top, en, m, s, C.1, T1.1, T2.1, T3.1, ti, re, ps⟩, l7, b7) := by
    rw [HRR.out, EC2.out, Option.bind_some, EL2.out, Option.bind_some, EO2.out, Option.bind_some, EB2.out]
    unfold takeTail
    simp only [e5, e6, e7, Option.map_some]
  have N5 := Lib.hid (show Calls Tryd.prog 34 #[.pointer (some ⟨g, 0, none⟩), .int .i64 40] w12 (TextPost w12 g (ti, l5, b5)) by rw [← e5]; exact text_any w12 g T3.2.1 T3.2.2 40 (by omega) M12.out.rd)
  have N6 := Lib.hid (fun (V : World) (hr : Rd V g l5 b5) => (show Calls Tryd.prog 34 #[.pointer (some ⟨g, 0, none⟩), .int .i64 400] V (TextPost V g (re, l6, b6)) by rw [← e6]; exact text_any V g l5 b5 400 (by omega) hr))
  have N7 := Lib.hid (fun (V : World) (hr : Rd V g l6 b6) => (show Calls Tryd.prog 35 #[.pointer (some ⟨g, 0, none⟩)] V (TPPost V g (ps, l7, b7)) by rw [← e7]; exact takeParser_ok V g l6 b6 hr hy6))
  have HRF := Lib.hid hRf
  have HPS := Lib.hid hpsok
  clear e5 e6 e7 hy5 hy6 hpsok hRf EC2 EL2 EO2 EB2 HRR HYC HY1 HY2 HY3' HY3 E2 E3
  go_wp2_with fail
  refine N5.out.mono ?_
  rintro e w13 ⟨rfl, hr, hg⟩
  have M13 := Lib.hid (M12.out.num hg hr)
  clear hr hg M12
  dsimp only
  go_wp2_with fail
  refine (N6.out w13 M13.out.rd).mono ?_
  rintro e w14 ⟨rfl, hr, hg⟩
  have M14 := Lib.hid (M13.out.num hg hr)
  clear hr hg M13
  dsimp only
  have z0 := M14.out.cells.cell (i := 96) (by omega)
  have z1 := M14.out.cells.cell (i := 107) (by omega)
  have z2 := M14.out.cells.frozen 96
  have z3 := M14.out.cells.frozen 107
  have hm15 := ((M14.out.set (i := 96) (by omega) (by omega) (.string (str ti))).set (i := 107) (by omega) (by omega) (.string (str re)))
  obtain ⟨w15, hw15⟩ : ∃ w15, w15 = (w14.setCell ⟨p, 96, none⟩ (.string (str ti))).setCell ⟨p, 107, none⟩ (.string (str re)) := ⟨_, rfl⟩
  rw [← hw15] at hm15
  have M15 := Lib.hid (hm15.congr (tm_texts _ _ _ _ _ _ ti re) { newT W H with top := top, en := en, m := m, s := s, cs := C.1, ls := T1.1, os := T2.1, bk := T3.1, title := ti, reply := re } ⟨rfl, rfl, rfl, rfl, rfl⟩)
  have W15 := Lib.hid hw15
  clear hw15 hm15 M14
  go_upto_region 11 with fail
  rw [← W15.out]
  clear z0 z1 z2 z3
  -- the parser
  go_wp2_with fail
  refine (N7.out w15 M15.out.rd).mono ?_
  rintro e w16 ⟨PA, pc, rfl, hr, hrow, hg, hpa⟩
  have M16 := Lib.hid (M15.out.num hg hr)
  have hsz16 := hg.size
  have HROW := Lib.hid hrow
  have HPA := Lib.hid (fun a ha => Nat.le_trans M15.out.on.size (hpa a ha))
  have HPN := Lib.hid (fun (b off : Nat) (ha : PA = some ⟨b, off, none⟩) => (show p < b from Nat.lt_of_lt_of_le M15.out.cells.lt (hpa _ ha)))
  clear hr hrow hg hpa
  unfold parV
  dsimp only
  obtain ⟨u0, hu0⟩ : ∃ u, u = (nat8 ps.u).getD 0 0 := ⟨_, rfl⟩
  obtain ⟨u1, hu1⟩ : ∃ u, u = (nat8 ps.u).getD 1 0 := ⟨_, rfl⟩
  obtain ⟨u2, hu2⟩ : ∃ u, u = (nat8 ps.u).getD 2 0 := ⟨_, rfl⟩
  rw [← hu0, ← hu1, ← hu2]
  have HU0 := Lib.hid (And.intro hu0 (And.intro hu1 hu2))
  clear hu0 hu1 hu2
  have hp16 := M16.out.cells.lt
  have z98 := M16.out.cells.cell (i := 98) (by omega)
  have y98 := M16.out.cells.frozen 98
  have z99 := M16.out.cells.cell (i := 99) (by omega)
  have y99 := M16.out.cells.frozen 99
  have z100 := M16.out.cells.cell (i := 100) (by omega)
  have y100 := M16.out.cells.frozen 100
  have z101 := M16.out.cells.cell (i := 101) (by omega)
  have y101 := M16.out.cells.frozen 101
  have z102 := M16.out.cells.cell (i := 102) (by omega)
  have y102 := M16.out.cells.frozen 102
  have z103 := M16.out.cells.cell (i := 103) (by omega)
  have y103 := M16.out.cells.frozen 103
  have z104 := M16.out.cells.cell (i := 104) (by omega)
  have y104 := M16.out.cells.frozen 104
  have z105 := M16.out.cells.cell (i := 105) (by omega)
  have y105 := M16.out.cells.frozen 105
  have z106 := M16.out.cells.cell (i := 106) (by omega)
  have y106 := M16.out.cells.frozen 106
  have hm17 := (((((((((M16.out.set (i := 98) (by omega) (by omega) (parAt ps PA pc 0)).set (i := 99) (by omega) (by omega) (parAt ps PA pc 1)).set (i := 100) (by omega) (by omega) (parAt ps PA pc 2)).set (i := 101) (by omega) (by omega) (parAt ps PA pc 3)).set (i := 102) (by omega) (by omega) (parAt ps PA pc 4)).set (i := 103) (by omega) (by omega) (parAt ps PA pc 5)).set (i := 104) (by omega) (by omega) (parAt ps PA pc 6)).set (i := 105) (by omega) (by omega) (parAt ps PA pc 7)).set (i := 106) (by omega) (by omega) (parAt ps PA pc 8))
  obtain ⟨w17, hw17⟩ : ∃ w17, w17 = (((((((((w16.setCell ⟨p, 98, none⟩ (.int .i64 (ps.st : Int))).setCell ⟨p, 99, none⟩ (.int .u8 (u0 : Int))).setCell ⟨p, 100, none⟩ (.int .u8 (u1 : Int))).setCell ⟨p, 101, none⟩ (.int .u8 (u2 : Int))).setCell ⟨p, 102, none⟩ (.int .i64 (ps.u.length : Int))).setCell ⟨p, 103, none⟩ (.string (str ps.marks))).setCell ⟨p, 104, none⟩ (.slice PA ps.params.length pc)).setCell ⟨p, 105, none⟩ (.string (str ps.text))).setCell ⟨p, 106, none⟩ (.int .i64 (ps.wi : Int))) := ⟨_, rfl⟩
  have hm17' := hm17.congr (tm_parser _ _ _ _ _ _ ps PA pc) { newT W H with top := top, en := en, m := m, s := s, cs := C.1, ls := T1.1, os := T2.1, bk := T3.1, title := ti, reply := re, p := ps } ⟨rfl, rfl, rfl, rfl, rfl⟩
  have M17 := Lib.hid (show MM w w17 g p gp op F1 O1 (.slice BA T3.1.length bc) { newT W H with top := top, en := en, m := m, s := s, cs := C.1, ls := T1.1, os := T2.1, bk := T3.1, title := ti, reply := re, p := ps } (tmAt { newT W H with top := top, en := en, m := m, s := s, cs := C.1, ls := T1.1, os := T2.1, bk := T3.1, title := ti, reply := re, p := ps } gp op (.slice BA T3.1.length bc) PA pc) l7 b7 by rw [hw17, HU0.out.1, HU0.out.2.1, HU0.out.2.2]; exact hm17')
  have hk17 : ∀ k, k ≠ p → w17.heap[k]? = w16.heap[k]? := fun k hk => by
    rw [hw17]
    iterate 9 rw [Below.heap_setCell _ _ _ _ (by show k ≠ p; exact hk)]
  have hz17 : w17.heap.size = w16.heap.size := by rw [hw17]; simp [World.setCell]
  have HROW17 := Lib.hid (show Row w17 w17.heap.size .i64 PA ps.params from fun hl => by
    obtain ⟨b, off, e, hb, hc⟩ := HROW.out hl
    have hbp : b ≠ p := by have := HPN.out b off e; omega
    exact ⟨b, off, e, by rw [hz17]; exact hb, fun j hj => (World.cell?_of_block (w := w16) (a := ⟨b, off + j, none⟩) (hk17 b hbp)).trans (hc j hj)⟩)
  have W17 := Lib.hid hw17
  clear hw17 hm17 hm17' hk17 hz17
  go_upto_region 12 with fail
  rw [← W17.out]
  clear z98 z99 z100 z101 z102 z103 z104 z105 z106 y98 y99 y100 y101 y102 y103 y104 y105 y106 M16 HROW
  have x0 : w17.cell? ⟨p, 98, none⟩ = some (.int .i64 (ps.st : Int)) := M17.out.cells.cell (i := 98) (by omega)
  have x1 : w17.cell? ⟨p, 99, none⟩ = some (.int .u8 (u0 : Int)) := (M17.out.cells.cell (i := 99) (by omega)).trans (by rw [HU0.out.1]; rfl)
  have x2 : w17.cell? ⟨p, 100, none⟩ = some (.int .u8 (u1 : Int)) := (M17.out.cells.cell (i := 100) (by omega)).trans (by rw [HU0.out.2.1]; rfl)
  have x3 : w17.cell? ⟨p, 101, none⟩ = some (.int .u8 (u2 : Int)) := (M17.out.cells.cell (i := 101) (by omega)).trans (by rw [HU0.out.2.2]; rfl)
  have x4 : w17.cell? ⟨p, 102, none⟩ = some (.int .i64 (ps.u.length : Int)) := M17.out.cells.cell (i := 102) (by omega)
  have x5 : w17.cell? ⟨p, 103, none⟩ = some (.string (str ps.marks)) := M17.out.cells.cell (i := 103) (by omega)
  have x6 : w17.cell? ⟨p, 104, none⟩ = some (.slice PA ps.params.length pc) := M17.out.cells.cell (i := 104) (by omega)
  have x7 : w17.cell? ⟨p, 105, none⟩ = some (.string (str ps.text)) := M17.out.cells.cell (i := 105) (by omega)
  have x8 : w17.cell? ⟨p, 106, none⟩ = some (.int .i64 (ps.wi : Int)) := M17.out.cells.cell (i := 106) (by omega)
  have hU17 : Utf w17 := HU.out.on (only_below (B := 2) M17.out.on (by omega) (by omega)) (Nat.le_refl 2)
  have hR17 := pright_ok w17 hU17 ps HPS.out PA pc w17.heap.size HROW17.out (Nat.le_refl _)
  unfold parV at hR17
  rw [← HU0.out.1, ← HU0.out.2.1, ← HU0.out.2.2] at hR17
  have HR17 := Lib.hid hR17
  clear hR17 hU17
  obtain ⟨rb, hrb⟩ : ∃ rb, rb = rightP ps := ⟨_, rfl⟩
  rw [← hrb] at HR17
  have HRB := Lib.hid hrb
  clear hrb
  go_wp2_with fail
  refine HR17.out.mono ?_
  rintro e w18 ⟨rfl, hb18⟩
  have M18 := Lib.hid (M17.out.below hb18)
  have HROW18 := Lib.hid ((HROW17.out.below hb18).mono hb18.size)
  clear hb18
  go_wp2
  go_ret2
  refine .inr ⟨_, p, gp, op, F1, O1, BA, bc, PA, pc, HRF.out, ?_, M18.out, HROW18.out, HPA.out⟩
  rw [HRB.out]
  rfl
end Go.Proofs.YtdolapobkhhanaaDoor
/-
  Layer 11 (state): texts, cursors and parsers are put.
-/
namespace Go.Proofs.YtdolapobkhhanaaDoor
open Go.RowKit Go.Lib
set_option maxRecDepth 100000

/-- A row of bytes is in no block of another type. -/
theorem own_ne {w : World} {base k : Nat} {v : Value} {xs : List Nat} {V : Array Value} {T : TypeId} {fr : Nat × Nat} (h : Own w base v xs) (hk : w.heap[k]? = some (.cells V T fr)) (hT : T ≠ 5) : v.ownBlock ≠ some k := fun e => by
  rcases h.2 with ⟨h1, _⟩ | ⟨g, cap, cur, hv, _, hh, _⟩
  · rw [h1] at e; cases e
  · rw [hv] at e
    have : g = k := by simpa [Value.ownBlock] using e
    subst this
    rw [hh] at hk
    injection hk with hk
    injection hk with _ hk _
    exact hT hk.symm
theorem own_at {w : World} {base k : Nat} {v : Value} {xs : List Nat} (h : Own w base v xs) (hk : v.ownBlock = some k) : ∃ cur fr, w.heap[k]? = some (.cells cur 5 fr) := by
  rcases h.2 with ⟨h1, _⟩ | ⟨g, cap, cur, hv, _, hh, _⟩
  · rw [h1] at hk; cases hk
  · rw [hv] at hk
    have : g = k := by simpa [Value.ownBlock] using hk
    subst this
    exact ⟨_, _, hh⟩
theorem grown_trans {a b c : World} {v v1 : Value} (h : Grow a b v v1) (k : b.grownBy c v1.ownBlock) : a.grownBy c v.ownBlock := by
  have hs := h.grown.size
  refine ⟨k.os.trans h.grown.os, k.tape.trans h.grown.tape, k.output.trans h.grown.output, Nat.le_trans hs k.size, fun i hi hne => ?_⟩
  refine (k.block i (by omega) ?_).trans (h.grown.block i hi hne)
  rcases h.place with e | e
  · rw [e]; exact hne
  · intro e'; have := e i e'.symm; omega

set_option maxHeartbeats 1000000 in
theorem putText_g (v : Value) (xs : List Nat) (l : List Nat) (hb : ∀ c ∈ l, c < 256) (w : World) (base : Nat) (hs : l.length ≤ 100000000) (hx : xs.length ≤ 100000000) (hown : Own w base v xs) (hbase : base ≤ w.heap.size) :
    Calls Tryd.prog 48 #[v, .string (str l)] w fun e w' => ∃ v', e = .returned v' ∧ Own w' base v' (xs ++ (VM.enc l.length ++ l)) ∧ w.grownBy w' v.ownBlock := by
  obtain ⟨i0, hi, hz0, hz1, hz2⟩ := info_parts Tryd.info5
  have hsz := str_size l
  have HSB := Lib.hid (show sb (str l) = l by
    unfold sb
    rw [str_list, List.map_map]
    conv => rhs; rw [← List.map_id l]
    exact List.map_congr_left fun b hb' => by simp [UInt8.toNat_ofNat', Nat.mod_eq_of_lt (hb b hb')])
  generalize str l = s at *
  have hlen := VM.enc_len64 (n := s.size) (by omega)
  have HSZ := Lib.hid hsz
  have hs' : s.size ≤ 100000000 := by omega
  clear hsz hb hs
  go_enter Tryd.func48, Tryd.ntmps48
  go_wp2_with fail
  refine (putOne_grow v xs s.size w base (by omega) (by omega) hown hbase).mono ?_
  rintro e w1 ⟨v1, rfl, ho1, hb1⟩
  have hz := hb1.grown.size
  have hxl : (xs ++ VM.enc s.size).length ≤ 100000010 := by rw [List.length_append]; omega
  have HO1 := Lib.hid ho1; have HB1 := Lib.hid hb1; clear ho1 hb1 hown
  go_wp2_with (at_builtin; refine Lib.wpList_append_own_string _ rfl (.tmp 9) (.tmp 10) 22 9 rfl base 5 i0 Tryd.underlying22 Tryd.underlying9 hi hz0 hz1 hz2 v1 _ _ rfl HO1.out s rfl (by unfold maxLen; omega) (by omega) (by omega) ?_; intro v2 w2 ho2 hg2 _; have HO2 := Lib.hid ho2; have HG2 := Lib.hid (grown_trans HB1.out hg2); clear ho2 hg2)
  go_ret
  refine ⟨v2, rfl, ?_, HG2.out⟩
  have h := HO2.out
  rw [strCells_sb, ← nums_append, HSB.out] at h
  rw [HSZ.out] at h
  unfold Own
  rw [← List.append_assoc, List.length_append]
  exact h

theorem run_first (g : Nat) (n : Nat) (h : n ≤ 3) (w : World) : (Instr.sliceAt 36 (.pointer (some ⟨g, 0, none⟩)) none (some (.int .i64 (n : Int))) none).run Tryd.prog w = .ok (.slice (some ⟨g, 0, none⟩) n 3) w := by
  have ha : Tryd.prog.arrayLen 36 = 3 := by kernel_rfl
  have hs : (sizeOf (Tryd.prog.elem 36)).run Tryd.prog w = .ok 1 w := by kernel_rfl
  rw [run_sliceAt_array_h (P := Tryd.prog) w 36 ⟨g, 0, none⟩ (by kernel_rfl) .i64 (n : Int) (by omega) (by rw [ha]; omega), hs, ha]
  simp [Result.andThen, slicedAt, Addr.add]

/-- The bytes of a rune under way, as a text. -/
theorem underWayS_ok (w : World) (u : List UInt8) (hl : u.length ≤ 3) :
    Calls Tryd.prog 63 #[.agg #[.int .u8 ((nat8 u).getD 0 0 : Nat), .int .u8 ((nat8 u).getD 1 0 : Nat), .int .u8 ((nat8 u).getD 2 0 : Nat), .int .i64 (u.length : Int)]] w fun e w' => e = .returned (.string (str (nat8 u))) ∧ Below w.heap.size w w' := by
  have hrow : ∀ (W : World) (g : Nat), W.heap[g]? = some (.cells #[.int .u8 ((nat8 u).getD 0 0 : Nat), .int .u8 ((nat8 u).getD 1 0 : Nat), .int .u8 ((nat8 u).getD 2 0 : Nat), .int .i64 (u.length : Int)] 38 (0, 0)) → Row W W.heap.size .u8 (some ⟨g, 0, none⟩) (nat8 u) := fun W g h _ => by
    refine ⟨g, 0, rfl, (Array.getElem?_eq_some_iff.1 h).1, fun j hj => ?_⟩
    rw [nat8_len] at hj
    simp only [World.cell?, h]
    rcases (by omega : j = 0 ∨ j = 1 ∨ j = 2) with rfl | rfl | rfl <;> rfl
  obtain ⟨W, hW⟩ : ∃ W, W = w.alloc (.cells #[.int .u8 ((nat8 u).getD 0 0 : Nat), .int .u8 ((nat8 u).getD 1 0 : Nat), .int .u8 ((nat8 u).getD 2 0 : Nat), .int .i64 (u.length : Int)] 38) := ⟨_, rfl⟩
  have hr := hrow W w.heap.size (by rw [hW]; exact heap_alloc_new w _)
  have hs := run_string (some ⟨w.heap.size, 0, none⟩) (nat8 u) 3 _ W hr
  rw [nat8_len] at hs
  have hb : Below w.heap.size w W := by rw [hW]; exact (Below.refl _ _).alloc (Nat.le_refl _) _
  have HB := Lib.hid hb
  clear hrow hr hb
  rw [hW] at hs HB
  clear hW
  have ha : Tryd.prog.arrayLen 36 = 3 := by kernel_rfl
  generalize (nat8 u).getD 0 0 = x0 at *
  generalize (nat8 u).getD 1 0 = x1 at *
  generalize (nat8 u).getD 2 0 = x2 at *
  generalize str (nat8 u) = st at *
  generalize u.length = n at *
  have hmin : min (n : Int) 3 = (n : Int) := by omega
  have hmax : max (n : Int) 0 = (n : Int) := by omega
  have hsl := fun W => run_first w.heap.size n hl W
  go_enter Tryd.func63, Tryd.ntmps63
  go_wp2
  go_ret
  exact ⟨rfl, HB.out⟩
end Go.Proofs.YtdolapobkhhanaaDoor
/-
  Layer 11 (state): a cursor is put.
-/
namespace Go.Proofs.YtdolapobkhhanaaDoor
open Go.RowKit Go.Lib KM
set_option maxRecDepth 100000

/-- A cursor as a value. -/
def curV (c : Cur) : Value := .agg #[.int .i64 (c.x : Int), .int .i64 (c.y : Int), .bool c.late, .bool c.sty.bold, .bool c.sty.under, .bool c.sty.turned, .int .i64 c.sty.fore, .int .i64 c.sty.back]
theorem Own.ne_new {w : World} {base : Nat} {v : Value} {xs : List Nat} (h : Own w base v xs) {k : Nat} (hk : w.heap.size ≤ k) : v.ownBlock ≠ some k := fun e => by
  have := (World.ownsRow.lt h k e).2
  omega
theorem one_row (w : World) (k : IntKind) (x : Nat) (t : TypeId) : Row (w.alloc (.cells #[.int k (x : Int)] t)) (w.heap.size + 1) k (some ⟨w.heap.size, 0, none⟩) [x] := row_new w k x t

set_option maxHeartbeats 2000000 in
theorem putCursor_ok (v : Value) (xs : List Nat) (c : Cur) (w : World) (base : Nat) (hx : xs.length ≤ 1000000) (hx9 : c.x < 1000 ∧ c.y < 1000) (hs : sright c.sty = true) (hown : Own w base v xs) (hbase : base ≤ w.heap.size) :
    Calls Tryd.prog 45 #[v, curV c] w fun e w' => ∃ v', e = .returned v' ∧ Own w' base v' (xs ++ encC c) ∧ Below base w w' := by
  obtain ⟨x, y, late, s⟩ := c
  obtain ⟨bo, un, tu, fo, ba⟩ := s
  obtain ⟨hx1, hy1⟩ := hx9
  simp only at hx1 hy1 hs
  have hlx := VM.enc_len64 (n := x) (by omega)
  have hly := VM.enc_len64 (n := y) (by omega)
  have hll := VM.enc_len64 (n := late.toNat) (by cases late <;> decide)
  unfold curV
  dsimp only
  -- the cursor's own block
  obtain ⟨w1, hw1⟩ : ∃ w1, w1 = w.alloc (.cells #[.int .i64 (x : Int), .int .i64 (y : Int), .bool late, .bool bo, .bool un, .bool tu, .int .i64 fo, .int .i64 ba] 32) := ⟨_, rfl⟩
  have hz1 : w1.heap.size = w.heap.size + 1 := by rw [hw1]; simp
  have hp1 : w1.heap[w.heap.size]? = some (.cells #[.int .i64 (x : Int), .int .i64 (y : Int), .bool late, .bool bo, .bool un, .bool tu, .int .i64 fo, .int .i64 ba] 32 (0, 0)) := by rw [hw1]; exact heap_alloc_new w _
  have hb1 : Below base w w1 := by rw [hw1]; exact (Below.refl _ _).alloc hbase _
  have ho1 : Own w1 base v xs := by rw [hw1]; exact hown.alloc _
  -- the numbers
  obtain ⟨w2, hw2⟩ : ∃ w2, w2 = w1.alloc (.cells #[.int .i64 (x : Int), .int .i64 (y : Int)] 3) := ⟨_, rfl⟩
  have hb2 : Below base w1 w2 := by rw [hw2]; exact (Below.refl _ _).alloc (by omega) _
  have ho2 : Own w2 base v xs := by rw [hw2]; exact ho1.alloc _
  have hz2 : w2.heap.size = w1.heap.size + 1 := by rw [hw2]; simp
  have hp2 := (show w2.heap[w.heap.size]? = w1.heap[w.heap.size]? by rw [hw2]; exact heap_alloc_old _ _ (by omega)).trans hp1
  have hr2 : Row w2 (w1.heap.size + 1) .i64 (some ⟨w1.heap.size, 0, none⟩) [x, y] := by rw [hw2]; exact row_new2 w1 .i64 x y _
  have HC := Lib.hid (putNumbers_ok v xs w2 base (by omega) ho2 (by omega) (some ⟨w1.heap.size, 0, none⟩) [x, y] 2 _ hr2 (by omega) (by simp) (by simp; omega) (fun _ ad ha e => by
    injection ha with ha
    subst ha
    exact ho1.ne_new (Nat.le_refl _) e.symm))
  have W1 := Lib.hid hw1
  have W2 := Lib.hid hw2
  have HB2 := Lib.hid (hb1.trans hb2)
  have HP2 := Lib.hid hp2
  have HNB := Lib.hid (own_ne ho2 hp2 (by decide))
  obtain ⟨c0, c1⟩ : w1.cell? ⟨w.heap.size, 0, none⟩ = some (.int .i64 (x : Int)) ∧ w1.cell? ⟨w.heap.size, 1, none⟩ = some (.int .i64 (y : Int)) := by
    constructor <;> (simp only [World.cell?, hp1]; rfl)
  have HO2 := Lib.hid ho2
  clear hw1 hw2 hb1 hb2 hp1 hp2 hr2 ho1 ho2 hown
  go_enter Tryd.func45, Tryd.ntmps45
  go_upto_region 1 with fail
  rw [← W1.out]
  go_wp2_with (rw [← W2.out])
  rw [hz1] at HC
  refine HC.out.mono ?_
  rintro e w3 ⟨v1, rfl, ho3, hg3⟩
  have hp3 := (hg3.grown.block w.heap.size (by omega) (fun e => HNB.out e.symm)).trans HP2.out
  have hz3 := hg3.grown.size
  have HB3 := Lib.hid (HB2.out.trans (hg3.below HO2.out (by omega)))
  have d2 : w3.cell? ⟨w.heap.size, 2, none⟩ = some (.bool late) := by simp only [World.cell?, hp3]; rfl
  obtain ⟨w4, hw4⟩ : ∃ w4, w4 = w3.alloc (.cells #[.pointer (some ⟨w.heap.size, 2, none⟩)] 71) := ⟨_, rfl⟩
  have ho4 : Own w4 base v1 (xs ++ VM.encs [x, y]) := by rw [hw4]; exact ho3.alloc _
  have hz4 : w4.heap.size = w3.heap.size + 1 := by rw [hw4]; simp
  have hb4 : Below base w3 w4 := by rw [hw4]; exact (Below.refl _ _).alloc (by omega) _
  have hp4 := (show w4.heap[w.heap.size]? = w3.heap[w.heap.size]? by rw [hw4]; exact heap_alloc_old _ _ (by omega)).trans hp3
  have HF := Lib.hid (putFlags_ok v1 (xs ++ VM.encs [x, y]) w4 base (by simp [VM.encs]; omega) ho4 (by omega) w3.heap.size 0 1 1 late.toNat (fun _ => ⟨w.heap.size, 2, none⟩) (by omega) (by cases late <;> decide)
    (fun j hj => by
      obtain rfl : j = 0 := by omega
      rw [hw4]
      simp)
    (fun j hj => by
      obtain rfl : j = 0 := by omega
      have : late.toNat.testBit 0 = late := by cases late <;> rfl
      rw [this]
      simp only [World.cell?, hp4]
      rfl))
  have W4 := Lib.hid hw4
  have HP4 := Lib.hid hp4
  have HO4 := Lib.hid ho4
  have HB4 := Lib.hid (HB3.out.trans hb4)
  have HN4 := Lib.hid (own_ne ho4 hp4 (by decide))
  clear hp3 hg3 ho3 hw4 ho4 hb4 hp4 c0 c1
  go_wp2_with (rw [← W4.out])
  refine HF.out.mono ?_
  rintro e w5 ⟨v2, rfl, ho5, hg5⟩
  have hp5 := (hg5.grown.block w.heap.size (by omega) (fun e => HN4.out e.symm)).trans HP4.out
  have hz5 := hg5.grown.size
  have HB5 := Lib.hid (HB4.out.trans (hg5.below HO4.out (by omega)))
  have d3 : w5.cell? ⟨w.heap.size, 3, none⟩ = some (.bool bo) := by simp only [World.cell?, hp5]; rfl
  have d4 : w5.cell? ⟨w.heap.size, 4, none⟩ = some (.bool un) := by simp only [World.cell?, hp5]; rfl
  have d5 : w5.cell? ⟨w.heap.size, 5, none⟩ = some (.bool tu) := by simp only [World.cell?, hp5]; rfl
  have d6 : w5.cell? ⟨w.heap.size, 6, none⟩ = some (.int .i64 fo) := by simp only [World.cell?, hp5]; rfl
  have d7 : w5.cell? ⟨w.heap.size, 7, none⟩ = some (.int .i64 ba) := by simp only [World.cell?, hp5]; rfl
  have HS := Lib.hid (putStyle_ok v2 (xs ++ VM.encs [x, y] ++ VM.enc late.toNat) ⟨bo, un, tu, fo, ba⟩ w5 base hs (by simp [VM.encs]; omega) ho5 (by omega))
  have HO5 := Lib.hid ho5
  clear hp5 hg5 ho5 d2
  go_wp2_with fail
  simp only [styV] at HS
  refine HS.out.mono ?_
  rintro e w6 ⟨v3, rfl, ho6, hg6⟩
  have H6 := Lib.hid ho6
  have HB6 := Lib.hid (HB5.out.trans (hg6.below HO5.out (by omega)))
  clear ho6 hg6
  go_wp2
  go_ret
  refine ⟨v3, rfl, ?_, HB6.out⟩
  have h := H6.out
  unfold encC
  simp only [VM.encs_cons, VM.encs_nil, List.append_nil, List.append_assoc] at h ⊢
  exact h
end Go.Proofs.YtdolapobkhhanaaDoor
/-
  Layer 11 (state): a parser is put.
-/
namespace Go.Proofs.YtdolapobkhhanaaDoor
open Go.RowKit Go.Lib
set_option maxRecDepth 100000

/-- What is carried from step to step: the row of bytes, the parser's own block. -/
structure PPk (w0 w : World) (base pb : Nat) (C : Array Value) (v : Value) (xs : List Nat) : Prop where
  own : Own w base v xs
  blk : w.heap[pb]? = some (.cells C 41 (0, 0))
  below : Below base w0 w
  base : base ≤ w.heap.size
  len : pb < w.heap.size
theorem PPk.ne {w0 w : World} {base pb : Nat} {C : Array Value} {v : Value} {xs : List Nat} (h : PPk w0 w base pb C v xs) : v.ownBlock ≠ some pb := own_ne h.own h.blk (by decide)
theorem PPk.alloc {w0 w : World} {base pb : Nat} {C : Array Value} {v : Value} {xs : List Nat} (h : PPk w0 w base pb C v xs) (o : Obj) : PPk w0 (w.alloc o) base pb C v xs :=
  ⟨h.own.alloc _, (heap_alloc_old _ _ h.len).trans h.blk, h.below.alloc h.base _, by have := h.base; simp; omega, by have := h.len; simp; omega⟩
theorem PPk.belowS {w0 w w' : World} {base pb : Nat} {C : Array Value} {v : Value} {xs : List Nat} (h : PPk w0 w base pb C v xs) (hb : Below w.heap.size w w') : PPk w0 w' base pb C v xs :=
  ⟨h.own.below hb, (hb.block pb h.len).trans h.blk, h.below.trans (hb.mono h.base), Nat.le_trans h.base hb.size, Nat.lt_of_lt_of_le h.len hb.size⟩
theorem PPk.grown {w0 w w' : World} {base pb : Nat} {C : Array Value} {v v' : Value} {xs ys : List Nat} (h : PPk w0 w base pb C v xs) (hg : w.grownBy w' v.ownBlock) (ho : Own w' base v' ys) : PPk w0 w' base pb C v' ys :=
  ⟨ho, (hg.block pb h.len (fun e => h.ne e.symm)).trans h.blk, h.below.trans ((Below.refl base w).grown hg h.base h.own.lt), Nat.le_trans h.base hg.size, Nat.lt_of_lt_of_le h.len hg.size⟩
section
variable {w0 w : World} {base pb : Nat} {v : Value} {xs : List Nat} {st wi x0 x1 x2 n k pc : Nat} {ms ts : ByteArray} {PA : Option Addr}
theorem PPk.cells (h : PPk w0 w base pb #[.int .i64 (st : Int), .int .u8 (x0 : Int), .int .u8 (x1 : Int), .int .u8 (x2 : Int), .int .i64 (n : Int), .string ms, .slice PA k pc, .string ts, .int .i64 (wi : Int)] v xs) :
    w.cell? ⟨pb, 0, none⟩ = some (.int .i64 (st : Int)) ∧ w.cell? ⟨pb, 1, none⟩ = some (.int .u8 (x0 : Int)) ∧ w.cell? ⟨pb, 2, none⟩ = some (.int .u8 (x1 : Int)) ∧ w.cell? ⟨pb, 3, none⟩ = some (.int .u8 (x2 : Int)) ∧
    w.cell? ⟨pb, 4, none⟩ = some (.int .i64 (n : Int)) ∧ w.cell? ⟨pb, 5, none⟩ = some (.string ms) ∧ w.cell? ⟨pb, 6, none⟩ = some (.slice PA k pc) ∧ w.cell? ⟨pb, 7, none⟩ = some (.string ts) ∧ w.cell? ⟨pb, 8, none⟩ = some (.int .i64 (wi : Int)) := by
  have hb := h.blk
  refine ⟨?_, ?_, ?_, ?_, ?_, ?_, ?_, ?_, ?_⟩ <;> (simp only [World.cell?, hb]; rfl)
end

set_option maxHeartbeats 4000000 in
theorem putParser_ok (v : Value) (xs : List Nat) (p : Ps) (hp : PsOk p) (PA : Option Addr) (pc B : Nat) (w : World) (base : Nat) (hr : Row w B .i64 PA p.params) (hB : B ≤ base) (hx : xs.length ≤ 1000000) (hown : Own w base v xs) (hbase : base ≤ w.heap.size) :
    Calls Tryd.prog 49 #[v, parV p PA pc] w fun e w' => ∃ v', e = .returned v' ∧ Own w' base v' (xs ++ encP p) ∧ Below base w w' := by
  obtain ⟨st, wi, u, marks, params, text⟩ := p
  obtain ⟨h1, h2, h3, h4, h5, h6⟩ := hp
  simp only at h1 h2 h3 h4 h5 h6 hr
  unfold parV
  dsimp only
  have hl1 := VM.enc_len64 (n := st) (by omega)
  have hl2 := VM.enc_len64 (n := wi) (by omega)
  have hl3 := VM.enc_len64 (n := u.length) (by omega)
  have hl4 := VM.enc_len64 (n := marks.length) (by omega)
  have hl5 := VM.enc_len64 (n := params.length) (by omega)
  have hl6 := VM.encs_len params fun n hn => by have := h5.2 n hn; omega
  have hu8 : ∀ c ∈ nat8 u, c < 256 := fun c hc => by
    obtain ⟨b, _, rfl⟩ := List.mem_map.1 hc
    exact b.toNat_lt
  have hul : (nat8 u).length = u.length := nat8_len u
  have HUW := Lib.hid (fun W => underWayS_ok W u h3)
  have HR := Lib.hid hr
  have HPN := Lib.hid (fun m hm => Nat.lt_trans (h5.2 m hm) (by omega : 10000 < 9223372036854775808))
  have hpl := h5.1
  obtain ⟨k, hk⟩ : ∃ k, k = params.length := ⟨_, rfl⟩
  obtain ⟨n, hn⟩ : ∃ n, n = u.length := ⟨_, rfl⟩
  obtain ⟨ms, hms⟩ : ∃ s, s = str marks := ⟨_, rfl⟩
  obtain ⟨ts, hts⟩ : ∃ s, s = str text := ⟨_, rfl⟩
  obtain ⟨us, hus⟩ : ∃ s, s = str (nat8 u) := ⟨_, rfl⟩
  have HT1 := Lib.hid (fun (W : World) (v : Value) (ys : List Nat) (hy : ys.length ≤ 2000000) (ho : Own W base v ys) (hb : base ≤ W.heap.size) => putText_g v ys (nat8 u) hu8 W base (by omega) (by omega) ho hb)
  have HT2 := Lib.hid (fun (W : World) (v : Value) (ys : List Nat) (hy : ys.length ≤ 2000000) (ho : Own W base v ys) (hb : base ≤ W.heap.size) => putText_g v ys marks h4.2 W base (by omega) (by omega) ho hb)
  have HT3 := Lib.hid (fun (W : World) (v : Value) (ys : List Nat) (hy : ys.length ≤ 2000000) (ho : Own W base v ys) (hb : base ≤ W.heap.size) => putText_g v ys text h6.2 W base (by omega) (by omega) ho hb)
  rw [← hus] at HT1 HUW
  rw [← hms] at HT2
  rw [← hts] at HT3
  rw [← hms, ← hts, ← hk, ← hn]
  rw [← hn] at HUW
  generalize (nat8 u).getD 0 0 = x0 at *
  generalize (nat8 u).getD 1 0 = x1 at *
  generalize (nat8 u).getD 2 0 = x2 at *
  have HEND := Lib.hid (show xs ++ VM.encs [st, wi] ++ (VM.enc (nat8 u).length ++ nat8 u) ++ (VM.enc marks.length ++ marks) ++ VM.encs [k] ++ VM.encs params ++ (VM.enc text.length ++ text) = xs ++ encP ⟨st, wi, u, marks, params, text⟩ by
    unfold encP
    rw [hk, hul]
    simp only [VM.encs_cons, VM.encs_nil, List.append_nil, List.append_assoc])
  have b1 : (xs ++ VM.encs [st, wi]).length ≤ 1000020 := by simp [VM.encs]; omega
  have b2 : (xs ++ VM.encs [st, wi] ++ (VM.enc (nat8 u).length ++ nat8 u)).length ≤ 1000040 := by simp only [List.length_append, hul] at b1 ⊢; omega
  have b3 : (xs ++ VM.encs [st, wi] ++ (VM.enc (nat8 u).length ++ nat8 u) ++ (VM.enc marks.length ++ marks)).length ≤ 1000100 := by simp only [List.length_append] at b2 ⊢; omega
  have b4 : (xs ++ VM.encs [st, wi] ++ (VM.enc (nat8 u).length ++ nat8 u) ++ (VM.enc marks.length ++ marks) ++ VM.encs [k]).length ≤ 1000110 := by
    have e : VM.encs [k] = VM.enc params.length := by rw [hk]; simp [VM.encs]
    rw [e]
    simp only [List.length_append] at b3 ⊢; omega
  have b5 : (xs ++ VM.encs [st, wi] ++ (VM.enc (nat8 u).length ++ nat8 u) ++ (VM.enc marks.length ++ marks) ++ VM.encs [k] ++ VM.encs params).length ≤ 1000200 := by simp only [List.length_append] at b4 ⊢; omega
  -- the parser's own block, the two numbers
  obtain ⟨pb, hpb⟩ : ∃ pb, pb = w.heap.size := ⟨_, rfl⟩
  obtain ⟨w1, hw1⟩ : ∃ w1, w1 = w.alloc (.cells #[.int .i64 (st : Int), .int .u8 (x0 : Int), .int .u8 (x1 : Int), .int .u8 (x2 : Int), .int .i64 (n : Int), .string ms, .slice PA k pc, .string ts, .int .i64 (wi : Int)] 41) := ⟨_, rfl⟩
  have k1 : PPk w w1 base pb #[.int .i64 (st : Int), .int .u8 (x0 : Int), .int .u8 (x1 : Int), .int .u8 (x2 : Int), .int .i64 (n : Int), .string ms, .slice PA k pc, .string ts, .int .i64 (wi : Int)] v xs := by
    rw [hw1, hpb]
    exact ⟨hown.alloc _, heap_alloc_new w _, (Below.refl _ _).alloc hbase _, by simp; omega, by simp⟩
  have z1 : w1.heap.size = pb + 1 := by rw [hw1, hpb]; simp
  have hv1 : v.ownBlock ≠ some (pb + 1) := fun e => by have := (World.ownsRow.lt k1.own _ e).2; omega
  obtain ⟨w2, hw2⟩ : ∃ w2, w2 = w1.alloc (.cells #[.int .i64 (st : Int), .int .i64 (wi : Int)] 3) := ⟨_, rfl⟩
  have k2 : PPk w w2 base pb #[.int .i64 (st : Int), .int .u8 (x0 : Int), .int .u8 (x1 : Int), .int .u8 (x2 : Int), .int .i64 (n : Int), .string ms, .slice PA k pc, .string ts, .int .i64 (wi : Int)] v xs := by rw [hw2]; exact k1.alloc _
  have hr2 : Row w2 (w1.heap.size + 1) .i64 (some ⟨w1.heap.size, 0, none⟩) [st, wi] := by rw [hw2]; exact row_new2 w1 .i64 st wi _
  rw [z1] at hr2
  have HC1 := Lib.hid (putNumbers_ok v xs w2 base (by omega) k2.own k2.base (some ⟨pb + 1, 0, none⟩) [st, wi] 2 _ hr2 (by rw [hw2]; simp; omega) (by simp) (by simp; omega) (fun _ ad ha e => by
    injection ha with ha
    subst ha
    exact hv1 e.symm))
  obtain ⟨c0, -, -, -, -, -, -, -, c8⟩ := k1.cells
  have W1 := Lib.hid hw1
  have W2 := Lib.hid hw2
  have K2 := Lib.hid k2
  have hk8 : k ≤ 8 := by omega
  have HK := Lib.hid hk
  clear hk hn hul
  clear hw1 hw2 k1 k2 hr2 hown hr hv1 hus hms hts h1 h2 h3 h4 h5 h6 hu8
  go_enter Tryd.func49, Tryd.ntmps49
  go_upto_region 1 with fail
  rw [← hpb, ← W1.out]
  clear hpb
  go_wp2_with (rw [← W2.out])
  refine HC1.out.mono ?_
  rintro e w3 ⟨v1, rfl, ho3, hg3⟩
  have k3 : PPk w w3 base pb #[.int .i64 (st : Int), .int .u8 (x0 : Int), .int .u8 (x1 : Int), .int .u8 (x2 : Int), .int .i64 (n : Int), .string ms, .slice PA k pc, .string ts, .int .i64 (wi : Int)] v1 _ := K2.out.grown hg3.grown ho3
  obtain ⟨-, d1, d2, d3, d4, -, -, -, -⟩ := k3.cells
  have K3 := Lib.hid k3
  clear ho3 hg3 k3 c0 c8
  go_wp2_with fail
  refine (HUW.out w3).mono ?_
  rintro e w4 ⟨rfl, hb4⟩
  have k4 := K3.out.belowS hb4
  have HQ := Lib.hid (HT1.out w4 v1 _ (by omega) k4.own k4.base)
  have K4 := Lib.hid k4
  clear hb4 k4 d1 d2 d3 d4
  go_wp2_with fail
  refine HQ.out.mono ?_
  rintro e w5 ⟨v2, rfl, ho5, hg5⟩
  have k5 : PPk w w5 base pb #[.int .i64 (st : Int), .int .u8 (x0 : Int), .int .u8 (x1 : Int), .int .u8 (x2 : Int), .int .i64 (n : Int), .string ms, .slice PA k pc, .string ts, .int .i64 (wi : Int)] v2 _ := K4.out.grown hg5 ho5
  obtain ⟨-, -, -, -, -, d5, -, -, -⟩ := k5.cells
  have HQ2 := Lib.hid (HT2.out w5 v2 _ (by omega) k5.own k5.base)
  have K5 := Lib.hid k5
  clear ho5 hg5 k5
  go_wp2_with fail
  refine HQ2.out.mono ?_
  rintro e w6 ⟨v3, rfl, ho6, hg6⟩
  have k6 : PPk w w6 base pb #[.int .i64 (st : Int), .int .u8 (x0 : Int), .int .u8 (x1 : Int), .int .u8 (x2 : Int), .int .i64 (n : Int), .string ms, .slice PA k pc, .string ts, .int .i64 (wi : Int)] v3 _ := K5.out.grown hg6 ho6
  obtain ⟨-, -, -, -, -, -, d6, -, -⟩ := k6.cells
  obtain ⟨w7, hw7⟩ : ∃ w7, w7 = w6.alloc (.cells #[.int .i64 (k : Int)] 3) := ⟨_, rfl⟩
  have k7 := k6.alloc (.cells #[.int .i64 (k : Int)] 3)
  rw [← hw7] at k7
  have HC2 := Lib.hid (putNumbers_ok v3 _ w7 base (by omega) k7.own k7.base (some ⟨w6.heap.size, 0, none⟩) [k] 1 (w6.heap.size + 1) (by rw [hw7]; exact row_new w6 .i64 k _) (by rw [hw7]; simp) (by simp) (by simp; omega) (fun _ ad ha e => by
    injection ha with ha
    subst ha
    exact Nat.lt_irrefl _ (World.ownsRow.lt k6.own _ e.symm).2))
  have W7 := Lib.hid hw7
  have K7 := Lib.hid k7
  clear ho6 hg6 k6 k7 hw7 d5
  go_wp2_with (rw [← W7.out])
  refine HC2.out.mono ?_
  rintro e w8 ⟨v4, rfl, ho8, hg8⟩
  have k8 : PPk w w8 base pb #[.int .i64 (st : Int), .int .u8 (x0 : Int), .int .u8 (x1 : Int), .int .u8 (x2 : Int), .int .i64 (n : Int), .string ms, .slice PA k pc, .string ts, .int .i64 (wi : Int)] v4 _ := K7.out.grown hg8.grown ho8
  obtain ⟨-, -, -, -, -, -, e6, -, -⟩ := k8.cells
  have HC3 := Lib.hid (putNumbers_ok v4 _ w8 base (by omega) k8.own k8.base PA params pc B (HR.out.below (k8.below.mono hB)) (by have := k8.base; omega) (by omega) HPN.out (fun hp ad ha e => by
    obtain ⟨b, off, e', hb, _⟩ := HR.out hp
    rw [e'] at ha
    injection ha with ha
    subst ha
    have := (k8.own.lt _ e.symm)
    simp only at this
    omega))
  rw [← HK.out] at HC3
  have K8 := Lib.hid k8
  clear ho8 hg8 k8 d6
  go_wp2_with fail
  refine HC3.out.mono ?_
  rintro e w9 ⟨v5, rfl, ho9, hg9⟩
  have k9 : PPk w w9 base pb #[.int .i64 (st : Int), .int .u8 (x0 : Int), .int .u8 (x1 : Int), .int .u8 (x2 : Int), .int .i64 (n : Int), .string ms, .slice PA k pc, .string ts, .int .i64 (wi : Int)] v5 _ := K8.out.grown hg9.grown ho9
  obtain ⟨-, -, -, -, -, -, -, d7, -⟩ := k9.cells
  have HQ3 := Lib.hid (HT3.out w9 v5 _ (by omega) k9.own k9.base)
  have K9 := Lib.hid k9
  clear ho9 hg9 k9 e6
  go_wp2_with fail
  refine HQ3.out.mono ?_
  rintro e w10 ⟨v6, rfl, ho10, hg10⟩
  have k10 : PPk w w10 base pb #[.int .i64 (st : Int), .int .u8 (x0 : Int), .int .u8 (x1 : Int), .int .u8 (x2 : Int), .int .i64 (n : Int), .string ms, .slice PA k pc, .string ts, .int .i64 (wi : Int)] v6 _ := K9.out.grown hg10 ho10
  have HO := Lib.hid k10.own
  have HB := Lib.hid k10.below
  clear ho10 hg10 k10
  go_wp2
  go_ret
  refine ⟨v6, rfl, ?_, HB.out⟩
  have h := HO.out
  rw [HEND.out] at h
  exact h
end Go.Proofs.YtdolapobkhhanaaDoor
