/-
  Layer 5's laws: feed: bytes one by one; append of runes.
-/
import Derived.Test.YtdolekmifnenhaaDoorULaw
namespace Go.Proofs.YtdolekmifnenhaaDoor
open Go.RowKit Go.Lib

theorem run_append_r (w : World) (base : Nat) (ty : TypeId) (v : Value) (xs : List Nat) (hown : OwnR w base v xs) (A : Option Addr) (l : List Nat) (c B : Nat) (hr : Row w B .i32 A l) (hA : A = none → c = 0)
    (hlen : xs.length + l.length ≤ 1000000000) (hbase : base ≤ w.heap.size) :
    ∃ v' w', (Builtin.append_ #[24, 24] ty #[v, .slice A l.length c]).run Tryd.prog w = .ok v' w' ∧ OwnR w' base v' (xs ++ l) ∧ Grow w w' v v' := by
  obtain ⟨i0, hi, hz0, hz1, hz2⟩ := info_parts Tryd.info21
  rcases A with _ | a
  · have : l = [] := by
      rcases l with _ | ⟨x, l⟩
      · rfl
      · obtain ⟨b, off, h, _⟩ := hr (by simp)
        cases h
    subst this
    obtain rfl := hA rfl
    exact ⟨v, w, run_append_owned_none (P := Tryd.prog) (w := w) base 24 ty 21 i0 1 Tryd.underlying24 hi v xs.length _ hown, by simpa using hown, Grow.refl _ _⟩
  · obtain ⟨v', w', h1, h2, h3, _, h5⟩ := run_append_own_at (P := Tryd.prog) w base 24 ty 21 i0 (.int .i32 0) 1 4 Tryd.underlying24 hi hz0 hz1 hz2 rfl (by decide) v xs.length _ hown a l.length c (nums .i32 l) (by rw [nums_len]; omega)
      (fun j u hu => by
        have hj : j < l.length := by
          rcases Nat.lt_or_ge j l.length with h | h
          · exact h
          · rw [List.getElem?_eq_none (by rw [nums_len]; exact h)] at hu; cases hu
        obtain ⟨b, off, h, _, hc⟩ := hr (by omega)
        injection h with h
        subst h
        have hplain : (⟨b, off, none⟩ : Addr).add j = ⟨b, off + j, none⟩ := by unfold Addr.add; split <;> simp_all
        rw [hplain, hc j hj, ← hu]
        simp [nums, hj])
      (fun u hu => by
        obtain ⟨x, _, rfl⟩ := List.mem_map.1 hu
        rfl)
      (by unfold maxLen; omega) (by omega) hbase
    refine ⟨v', w', h1, ?_, ⟨h3, ?_⟩⟩
    · unfold OwnR
      rw [nums_append, List.length_append]
      exact h2
    · rcases h5 with h5 | h5
      · exact .inl h5
      · exact .inr fun k hk => by rw [h5] at hk; injection hk with hk; omega

/-- append(v, x...), v a row of the call's own, x whatever runes: the walk goes on with some value that holds both. -/
theorem wpList_append_r {w : World} {ops : Array Oper} {rest : List Oper} {o : Oper} {a : Act} {Q : Exit → Act → World → Prop} (hgd : o.guard = none) (s x : Operand)
    (ho : o.op = .call { callee := .builtin .append, args := #[s, x], argTypes := #[24, 24] }) (base : Nat) (v : Value) (xs : List Nat) (hs : a.eval s = v) (hown : OwnR w base v xs)
    (A : Option Addr) (l : List Nat) (n c B : Nat) (hn : n = l.length) (hx : a.eval x = .slice A n c) (hr : Row w B .i32 A l) (hA : A = none → c = 0) (hlen : xs.length + l.length ≤ 1000000000) (hbase : base ≤ w.heap.size)
    (h : ∀ v' w', OwnR w' base v' (xs ++ l) → Grow w w' v v' → wpList Tryd.prog ops Q rest (a.put o.dst v') w') : wpList Tryd.prog ops Q (o :: rest) a w := by
  subst hn
  obtain ⟨v', w', hrun, h2, h3⟩ := run_append_r w base o.type v xs hown A l c B hr hA hlen hbase
  refine wpList_plain hgd fun K hK => ?_
  unfold Oper.wp execOp
  simp only [ho, resolve, invoke, builtin, Sem.run_bind, Sem.run_pure, Result.andThen_ok, List.map_toArray, List.map_cons, List.map_nil, hs, hx, hrun]
  exact hK _ _ (h v' w' h2 h3)

/-- What holds while feed goes through a text: behind k bytes. -/
structure LF (w wr : World) (o : Value) (u : List UInt8) (s : ByteArray) (k : Nat) : Prop where
  own : OwnR wr (w.heap.size + 2) o (UM.feeds u ((bytesOf s).take k)).1
  below : Below w.heap.size w wr
  res : wr.heap[w.heap.size + 1]? = some (.cells #[.int .u8 0, .int .u8 0, .int .u8 0, .int .i64 0] 29)
  dec : ∃ (x y z : Nat) (n : Int), holdV (nat8 (UM.feeds u ((bytesOf s).take k)).2) = decV x y z n ∧ wr.heap[w.heap.size]? = some (.cells #[.int .u8 (x : Int), .int .u8 (y : Int), .int .u8 (z : Int), .int .i64 n] 29)
theorem LF.count {w wr : World} {o : Value} {u : List UInt8} {s : ByteArray} {k : Nat} (_h : LF w wr o u s k) (hs : s.size ≤ 1000) (hu : u.length ≤ 3) : (UM.feeds u ((bytesOf s).take k)).1.length ≤ 1003 := by
  have h1 := UM.feeds_count ((bytesOf s).take k) u
  have h2 : ((bytesOf s).take k).length ≤ s.size := by rw [List.length_take, bytes_len]; omega
  omega

set_option maxRecDepth 100000 in
set_option maxHeartbeats 1000000 in
theorem lfeed_ok (w : World) (hT : Utf w) (u : List UInt8) (hu : UM.full u = false) (s : ByteArray) (hs : s.size ≤ 1000) :
    Calls Tryd.prog 13 #[holdV (nat8 u), .string s] w (RunesPost w (holdV (nat8 (UM.feeds u (bytesOf s)).2)) (UM.feeds u (bytesOf s)).1) := by
  have HT := Lib.hid hT; have HU := Lib.hid hu
  have hu3 := UM.full_long hu
  obtain ⟨a, b, c, m, hv⟩ : ∃ (x y z : Nat) (n : Int), holdV (nat8 u) = decV x y z n := ⟨_, _, _, _, rfl⟩
  have h0 : LF w ((w.alloc (.cells #[.int .u8 (a : Int), .int .u8 (b : Int), .int .u8 (c : Int), .int .i64 m] 29)).alloc (.cells #[.int .u8 0, .int .u8 0, .int .u8 0, .int .i64 0] 29)) (.slice none 0 0) u s 0 := by
    refine ⟨OwnR.nil _ _, ((Below.refl _ _).alloc (Nat.le_refl _) _).alloc (by simp) _, ?_, a, b, c, m, hv, ?_⟩
    · have := (MapKept.heap_alloc (w.alloc (.cells #[.int .u8 (a : Int), .int .u8 (b : Int), .int .u8 (c : Int), .int .i64 m] 29)) (.cells #[.int .u8 0, .int .u8 0, .int .u8 0, .int .i64 0] 29)).1
      simpa using this
    · rw [Below.heap_alloc _ _ _ (by simp)]
      exact (MapKept.heap_alloc w _).1
  rw [hv]
  have H0 := Lib.hid h0
  clear hT h0 hu hv
  unfold decV
  go_enter Tryd.func13, Tryd.ntmps13
  go_wp2
  go_loopw [6, 11] (fun o i wr => ∃ k : Nat, k ≤ s.size ∧ i = .int .i64 (k : Int) ∧ LF w wr o u s k) (fun _ i _ => s.size - (RowKit.intOf i).toNat)
  case atStart => exact ⟨0, Nat.zero_le _, rfl, H0.out⟩
  case round =>
    obtain ⟨k, hk, rfl, hA⟩ := hrel
    have HA := Lib.hid hA
    have hsz := hA.below.size
    have hsz1 : w.heap.size + 1 < wr.heap.size := (Array.getElem?_eq_some_iff.1 hA.res).1
    obtain ⟨x, y, z, n, hd, hblk⟩ := hA.dec
    clear hA
    by_cases hlt : k < s.size
    · have d0 : wr.cell? ⟨w.heap.size, 0, none⟩ = some (.int .u8 (x : Int)) := by simp only [World.cell?, hblk]; rfl
      have d1 : wr.cell? ⟨w.heap.size, 1, none⟩ = some (.int .u8 (y : Int)) := by simp only [World.cell?, hblk]; rfl
      have d2 : wr.cell? ⟨w.heap.size, 2, none⟩ = some (.int .u8 (z : Int)) := by simp only [World.cell?, hblk]; rfl
      have d3 : wr.cell? ⟨w.heap.size, 3, none⟩ = some (.int .i64 n) := by simp only [World.cell?, hblk]; rfl
      have HD := Lib.hid hd; have HBLK := Lib.hid hblk
      clear hd hblk
      go_wp2
      refine wp_region_noPanic ?_
      refine wp_region_held_drew (S := fun _ => True) (by kernel_rfl) trivial (fun hHeld => ?_)
      refine wpAnyH_take (i := 1) (v := ?va1) rfl (by kernel_rfl) (by kernel_rfl) (by kernel_rfl) (fun _ _ _ h => h) (Or.inl ⟨by rfl, ?ha1⟩) (by assumption) ?_
      case ha1 => intro w hSw; (try dsimp only at hSw); go_simp; try with_reducible rfl
      simp only [List.getElem_toArray, List.getElem_cons_succ, List.getElem_cons_zero, Act.put, List.setIfInBounds_toArray, List.set_cons_zero, List.set_cons_succ]
      refine wpAnyH_take (i := 2) (v := ?va2) rfl (by kernel_rfl) (by kernel_rfl) (by kernel_rfl) (fun _ _ _ h => h) (Or.inl ⟨by rfl, ?ha2⟩) (by assumption) ?_
      case ha2 => intro w hSw; (try dsimp only at hSw); go_simp; try with_reducible rfl
      simp only [List.getElem_toArray, List.getElem_cons_succ, List.getElem_cons_zero, Act.put, List.setIfInBounds_toArray, List.set_cons_zero, List.set_cons_succ]
      refine wpAnyH_take (i := 3) (v := ?va3) rfl (by kernel_rfl) (by kernel_rfl) (by kernel_rfl) (fun _ _ _ h => h) (Or.inl ⟨by rfl, ?ha3⟩) (by assumption) ?_
      case ha3 => intro w hSw; (try dsimp only at hSw); go_simp; try with_reducible rfl
      simp only [List.getElem_toArray, List.getElem_cons_succ, List.getElem_cons_zero, Act.put, List.setIfInBounds_toArray, List.set_cons_zero, List.set_cons_succ]
      refine wpAnyH_ready (rs := [0]) (by kernel_rfl) (by simp) ?_
      refine AllReadyH.cons rfl (fun K hK => ?_) AllReadyH.nil
      go_simp
      refine hK.out _ _ ?_ (fun hHeld => ?_)
      · trivial
      clear hK K
      refine wpAnyH_ready (rs := [4]) (by kernel_rfl) (by simp) ?_
      refine AllReadyH.cons rfl (fun K hK => ?_) AllReadyH.nil
      go_simp
      have hdrew : Below wr.heap.size wr wr.drew := (Below.refl _ wr).drew
      have hTr : Utf wr.drew := (HT.out.on HA.out.below HT.out.room).on hdrew (HT.out.on HA.out.below HT.out.room).room
      have hf3 := UM.full_long (UM.feeds_left ((bytesOf s).take k) u HU.out)
      have hcall := feed1_ok wr.drew hTr _ hf3 s[k]
      rw [HD.out] at hcall
      refine hcall.mono ?_
      clear hcall
      rintro e w1 ⟨v', rfl, ho1, hb1⟩
      obtain ⟨x', y', z', n', hd'⟩ : ∃ (x y z : Nat) (n : Int), holdV (nat8 (UM.eat ((UM.feeds u ((bytesOf s).take k)).2 ++ [s[k]])).2) = decV x y z n := ⟨_, _, _, _, rfl⟩
      have hb01 : Below wr.heap.size wr w1 := hdrew.trans hb1
      have hbl1 := (hb01.block w.heap.size (by omega)).trans HBLK.out
      have hre1 := (hb01.block (w.heap.size + 1) (by omega)).trans HA.out.res
      have hb1w : Below w.heap.size w w1 := HA.out.below.trans (hb01.mono hsz)
      have hfs := UM.feeds_snoc u ((bytesOf s).take k) s[k]
      rw [← bytes_take s k hlt] at hfs
      obtain ⟨A1, c1, rfl, _, _, hA1, hr1⟩ := ho1.form
      have hcnt := HA.out.count hs hu3
      have hcn2 := UM.eat_count ((UM.feeds u ((bytesOf s).take k)).2 ++ [s[k]])
      have hown1 := HA.out.own.below hb01
      obtain ⟨w2, hw2⟩ : ∃ w2, w2 = ((((w1.setCell ⟨w.heap.size, 0, none⟩ (.int .u8 (x' : Int))).setCell ⟨w.heap.size, 1, none⟩ (.int .u8 (y' : Int))).setCell ⟨w.heap.size, 2, none⟩ (.int .u8 (z' : Int))).setCell ⟨w.heap.size, 3, none⟩ (.int .i64 n')) := ⟨_, rfl⟩
      have hoth : ∀ k, k ≠ w.heap.size → w2.heap[k]? = w1.heap[k]? := fun k hk => by
        rw [hw2, Below.heap_setCell _ _ _ _ (by simpa using hk), Below.heap_setCell _ _ _ _ (by simpa using hk), Below.heap_setCell _ _ _ _ (by simpa using hk), Below.heap_setCell _ _ _ _ (by simpa using hk)]
      have hdec2 : w2.heap[w.heap.size]? = some (.cells #[.int .u8 (x' : Int), .int .u8 (y' : Int), .int .u8 (z' : Int), .int .i64 n'] 29) := by rw [hw2]; exact dec_set hbl1
      have hb2 : Below w.heap.size w w2 := by rw [hw2]; exact (((hb1w.setCell (by simp) _).setCell (by simp) _).setCell (by simp) _).setCell (by simp) _
      have hs2 : w2.heap.size = w1.heap.size := by rw [hw2]; simp
      have hr2 : Row w2 w1.heap.size .i32 A1 (UM.eat ((UM.feeds u ((bytesOf s).take k)).2 ++ [s[k]])).1 := fun hp => by
        obtain ⟨b, off, e, hb, hc⟩ := hr1 hp
        have hb' : b ≠ w.heap.size := fun e' => by
          have := (ho1.lt b (by rw [e]; rfl)).1
          have h3 : wr.heap.size ≤ b := this
          omega
        exact ⟨b, off, e, hb, fun j hj => (World.cell?_of_block (hoth b hb')).trans (hc j hj)⟩
      have ho2 : OwnR w2 (w.heap.size + 2) _ _ := hown1.keep fun k hk => hoth k (by have := (hown1.lt k hk).1; omega)
      rw [hd']
      have c0 : w1.cell? ⟨w.heap.size, 0, none⟩ = some (.int .u8 (x : Int)) := by simp only [World.cell?, hbl1]; rfl
      have c1 : w1.cell? ⟨w.heap.size, 1, none⟩ = some (.int .u8 (y : Int)) := by simp only [World.cell?, hbl1]; rfl
      have c2 : w1.cell? ⟨w.heap.size, 2, none⟩ = some (.int .u8 (z : Int)) := by simp only [World.cell?, hbl1]; rfl
      have c3 : w1.cell? ⟨w.heap.size, 3, none⟩ = some (.int .i64 n) := by simp only [World.cell?, hbl1]; rfl
      have g0 : w1.frozen? ⟨w.heap.size, 0, none⟩ = false := by simp only [World.frozen?, hbl1]; rfl
      have g1 : w1.frozen? ⟨w.heap.size, 1, none⟩ = false := by simp only [World.frozen?, hbl1]; rfl
      have g2 : w1.frozen? ⟨w.heap.size, 2, none⟩ = false := by simp only [World.frozen?, hbl1]; rfl
      have g3 : w1.frozen? ⟨w.heap.size, 3, none⟩ = false := by simp only [World.frozen?, hbl1]; rfl
      have hre2 := (hoth (w.heap.size + 1) (by omega)).trans hre1
      have HW2 := Lib.hid hw2; have HFS := Lib.hid hfs; have HD2 := Lib.hid hd'; have HR2 := Lib.hid hr2; have HO2 := Lib.hid ho2; have HBL2 := Lib.hid hdec2; have HB2 := Lib.hid hb2; have HRE := Lib.hid hre2; have HA1 := Lib.hid hA1
      have hsw : w.heap.size + 2 ≤ w2.heap.size := by rw [hs2]; have := hb01.size; omega
      have hf3' : (UM.feeds u ((bytesOf s).take k)).2.length ≤ 3 := hf3
      clear hdrew hTr hf3 ho1 hb1 hd' hbl1 hre1 hb1w hfs hr1 hown1 hoth hdec2 hb2 hr2 ho2 hw2 hre2 hb01 hs2 d0 d1 d2 d3 hA1
      unfold decV
      dsimp only
      refine hK.out _ _ ?_ (fun hHeld => ?_)
      · trivial
      clear hK K
      refine wpAnyH_take (i := 5) (v := ?vb5) rfl (by kernel_rfl) (by kernel_rfl) (by kernel_rfl) (fun _ _ _ h => h) (Or.inl ⟨by rfl, ?hb5⟩) (by assumption) ?_
      case hb5 => intro w hSw; (try dsimp only at hSw); go_simp; try with_reducible rfl
      simp only [List.getElem_toArray, List.getElem_cons_succ, List.getElem_cons_zero, Act.put, List.setIfInBounds_toArray, List.set_cons_zero, List.set_cons_succ]
      refine wpAnyH_take (i := 6) (v := ?vb6) rfl (by kernel_rfl) (by kernel_rfl) (by kernel_rfl) (fun _ _ _ h => h) (Or.inl ⟨by rfl, ?hb6⟩) (by assumption) ?_
      case hb6 => intro w hSw; (try dsimp only at hSw); go_simp; try with_reducible rfl
      simp only [List.getElem_toArray, List.getElem_cons_succ, List.getElem_cons_zero, Act.put, List.setIfInBounds_toArray, List.set_cons_zero, List.set_cons_succ]
      refine wpAnyH_take (i := 7) (v := ?vb7) rfl (by kernel_rfl) (by kernel_rfl) (by kernel_rfl) (fun _ _ _ h => h) (Or.inl ⟨by rfl, ?hb7⟩) (by assumption) ?_
      case hb7 => intro w hSw; (try dsimp only at hSw); go_simp; try with_reducible rfl
      simp only [List.getElem_toArray, List.getElem_cons_succ, List.getElem_cons_zero, Act.put, List.setIfInBounds_toArray, List.set_cons_zero, List.set_cons_succ]
      refine wpAnyH_ready (rs := [8]) (by kernel_rfl) (by simp) ?_
      refine AllReadyH.cons rfl (fun K hK => ?_) AllReadyH.nil
      go_simp
      rw [← HW2.out]
      refine hK.out _ _ ?_ (fun hHeld => ?_)
      · trivial
      clear hK K
      refine wpAnyH_take (i := 9) (v := ?vc9) rfl (by kernel_rfl) (by kernel_rfl) (by kernel_rfl) (fun _ _ _ h => h) (Or.inl ⟨by rfl, ?hc9⟩) (by assumption) ?_
      case hc9 => intro w hSw; (try dsimp only at hSw); go_simp; try with_reducible rfl
      simp only [List.getElem_toArray, List.getElem_cons_succ, List.getElem_cons_zero, Act.put, List.setIfInBounds_toArray, List.set_cons_zero, List.set_cons_succ]
      refine wpAnyH_done (by kernel_rfl) ?_ _
      refine NoPanic.normal ?_
      clear hHeld c0 c1 c2 c3 g0 g1 g2 g3
      obtain ⟨E, hE⟩ : ∃ E, E = UM.eat ((UM.feeds u ((bytesOf s).take k)).2 ++ [s[k]]) := ⟨_, rfl⟩
      obtain ⟨F, hF⟩ : ∃ F, F = (UM.feeds u ((bytesOf s).take k)).1 := ⟨_, rfl⟩
      rw [List.length_append, List.length_singleton] at hcn2
      rw [← hE] at hcn2 HR2 HFS HD2 ⊢
      rw [← hF] at HFS HO2 hcnt
      clear hE hF
      go_wp2_with (at_builtin; refine wpList_append_r rfl _ _ rfl (w.heap.size + 2) _ F rfl HO2.out A1 E.1 _ _ _ rfl rfl HR2.out HA1.out (by omega) (by omega) ?_)
      intro v3 w3 ho3 hg3
      have hb3 := HO2.out.grow_below hg3 hsw
      have hL : LF w w3 v3 u s (k + 1) := by
        refine ⟨by rw [HFS.out]; exact ho3, HB2.out.trans (hb3.mono (by omega)), (hb3.block _ (by omega)).trans HRE.out, x', y', z', n', by rw [HFS.out]; exact HD2.out, (hb3.block _ (by omega)).trans HBL2.out⟩
      have HL := Lib.hid hL
      clear ho3 hg3 hb3 hL
      go_wp2
      go_roundw
      case rel => exact ⟨k + 1, by omega, by go_num, HL.out⟩
      case measure => simp [RowKit.intOf]; omega
    · have htk : (bytesOf s).take k = bytesOf s := List.take_of_length_le (by rw [bytes_len]; omega)
      have hown := HA.out.own
      rw [htk] at hd hown
      have hres := HA.out.res
      have d0 : wr.cell? ⟨w.heap.size, 0, none⟩ = some (.int .u8 (x : Int)) := by simp only [World.cell?, hblk]; rfl
      have d1 : wr.cell? ⟨w.heap.size, 1, none⟩ = some (.int .u8 (y : Int)) := by simp only [World.cell?, hblk]; rfl
      have d2 : wr.cell? ⟨w.heap.size, 2, none⟩ = some (.int .u8 (z : Int)) := by simp only [World.cell?, hblk]; rfl
      have d3 : wr.cell? ⟨w.heap.size, 3, none⟩ = some (.int .i64 n) := by simp only [World.cell?, hblk]; rfl
      have c0 : wr.cell? ⟨w.heap.size + 1, 0, none⟩ = some (.int .u8 0) := by simp only [World.cell?, hres]; rfl
      have c1 : wr.cell? ⟨w.heap.size + 1, 1, none⟩ = some (.int .u8 0) := by simp only [World.cell?, hres]; rfl
      have c2 : wr.cell? ⟨w.heap.size + 1, 2, none⟩ = some (.int .u8 0) := by simp only [World.cell?, hres]; rfl
      have c3 : wr.cell? ⟨w.heap.size + 1, 3, none⟩ = some (.int .i64 0) := by simp only [World.cell?, hres]; rfl
      have g0 : wr.frozen? ⟨w.heap.size + 1, 0, none⟩ = false := by simp only [World.frozen?, hres]; rfl
      have g1 : wr.frozen? ⟨w.heap.size + 1, 1, none⟩ = false := by simp only [World.frozen?, hres]; rfl
      have g2 : wr.frozen? ⟨w.heap.size + 1, 2, none⟩ = false := by simp only [World.frozen?, hres]; rfl
      have g3 : wr.frozen? ⟨w.heap.size + 1, 3, none⟩ = false := by simp only [World.frozen?, hres]; rfl
      have HD := Lib.hid hd; have HO := Lib.hid hown
      clear hd hown hres hblk htk
      go_wp2
      refine bodyPost_ret (v := .tuple #[decV x y z n, u6]) (by simp [results, Tryd.results13, go_sem, decV, c0, c1, c2, c3]) rfl ⟨u6, by rw [HD.out], ?_, ?_⟩
      · refine (HO.out.mono (by omega)).keep fun k hk => ?_
        have := (HO.out.lt k hk).1
        rw [Below.heap_setCell _ _ _ _ (by simp; omega), Below.heap_setCell _ _ _ _ (by simp; omega), Below.heap_setCell _ _ _ _ (by simp; omega), Below.heap_setCell _ _ _ _ (by simp; omega)]
      · exact (((HA.out.below.setCell (by simp) _).setCell (by simp) _).setCell (by simp) _).setCell (by simp) _
end Go.Proofs.YtdolekmifnenhaaDoor
