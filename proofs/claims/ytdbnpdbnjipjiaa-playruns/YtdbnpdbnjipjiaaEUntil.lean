/-
  Layer 12 (event): Until, by the library's binary search; the reference's Until.
-/
import Derived.Test.YtdbnpdbnjipjiaaEWd
import Derived.Shelf.Abstract
namespace Go.Proofs.Ytdbnpdbnjipjiaa
open Go.RowKit Go.Lib EM
set_option maxRecDepth 100000

/-- How many are no later, where all ahead of place r are, and none from there on is. -/
theorem upTo_of (l : List Ev) (t : Int) (r : Nat) (hr : r ≤ l.length) (h1 : ∀ i (hi : i < l.length), i < r → l[i].t ≤ t) (h2 : ∀ i (hi : i < l.length), r ≤ i → t < l[i].t) : upTo l t = r := by
  have e1 : (l.take r).countP (fun e => decide (e.t ≤ t)) = r := by
    have : (l.take r).countP (fun e => decide (e.t ≤ t)) = (l.take r).length := by
      rw [List.countP_eq_length]
      intro e he
      obtain ⟨i, hi, rfl⟩ := List.mem_iff_getElem.1 he
      rw [List.length_take] at hi
      simpa using h1 i (by omega) (by omega)
    rw [this, List.length_take]; omega
  have e2 : (l.drop r).countP (fun e => decide (e.t ≤ t)) = 0 := by
    rw [List.countP_eq_zero]
    intro e he
    obtain ⟨i, hi, rfl⟩ := List.mem_iff_getElem.1 he
    rw [List.length_drop] at hi
    have := h2 (r + i) (by omega) (by omega)
    simp only [List.getElem_drop, decide_eq_true_eq]
    omega
  unfold upTo
  conv => lhs; rw [← List.take_append_drop r l]
  rw [List.countP_append, e1, e2]
  omega

/-- The library's Search, of a function that makes memory at most. -/
theorem search_ok (g : Nat) (cb : Array Value) (n : Nat) (p : Nat → Bool) (w : World) (eg : ∀ args w, (callFunc g args).run Try.prog w = .ok (.enter g args) w) (hn : n ≤ 1000000)
    (hf : ∀ v, Below w.heap.size w v → ∀ i, i < n → Calls Try.prog g (#[.int .i64 (i : Int)] ++ cb) v fun e w' => e = .returned (.bool (p i)) ∧ Below v.heap.size v w')
    (hmono : ∀ a b, a ≤ b → b < n → p a = true → p b = true) :
    Calls Try.prog 38 #[.int .i64 (n : Int), .func (.func g) #[] cb] w fun e w' => ∃ r : Nat, e = .returned (.int .i64 (r : Int)) ∧ Below w.heap.size w w' ∧ r ≤ n ∧ (∀ t, t < r → p t = false) ∧ (∀ t, r ≤ t → t < n → p t = true) := by
  have HF := Lib.hid hf
  have HM := Lib.hid hmono
  clear hf hmono
  go_enter Try.func38, Try.ntmps38
  go_wp2
  go_loopw [5, 6] (fun a b wr => ∃ lo hi : Nat, a = .int .i64 (lo : Int) ∧ b = .int .i64 (hi : Int) ∧ lo ≤ hi ∧ hi ≤ n ∧ Below w.heap.size w wr ∧ Hid ((∀ t, t < lo → p t = false) ∧ (∀ t, hi ≤ t → t < n → p t = true))) (fun a b _ => (RowKit.intOf b).toNat - (RowKit.intOf a).toNat)
  case atStart => exact ⟨0, n, rfl, rfl, Nat.zero_le _, Nat.le_refl _, Below.refl _ _, Lib.hid ⟨fun t ht => absurd ht (Nat.not_lt_zero _), fun t h1 h2 => by omega⟩⟩
  case round =>
    obtain ⟨lo, hi, rfl, rfl, hlh, hhn, hb, I⟩ := hrel
    have HB := Lib.hid hb
    clear hb
    by_cases hlt : lo < hi
    · have g1 : decide ((lo : Int) < (hi : Int)) = true := by simp; omega
      have g2 : decide (lo < hi) = true := by simp; omega
      obtain ⟨m, hm⟩ : ∃ m : Nat, m = (lo + hi) / 2 := ⟨_, rfl⟩
      have HC := Lib.hid (HF.out wr HB.out m (by omega))
      have hmi : ((lo : Int) + (hi : Int)) / 2 = (m : Int) := by omega
      have hm1 : lo ≤ m ∧ m < hi := by omega
      have HMI := Lib.hid hm
      clear hm
      generalize hp : p m = pm at HC
      have HPM := Lib.hid hp
      clear hp
      cases pm with
      | false =>
        go_wp2_with fail
        refine HC.out.mono ?_
        rintro e w1 ⟨rfl, hb1⟩
        have HB1 := Lib.hid (below_next HB.out hb1)
        clear hb1
        go_wp2_with fail
        go_roundw
        case rel =>
          refine ⟨m + 1, hi, by simp, rfl, by omega, hhn, HB1.out, Lib.hid ⟨fun t ht => ?_, I.out.2⟩⟩
          rcases h : p t with _ | _
          · rfl
          · have := HM.out t m (by omega) (by omega) h
            rw [HPM.out] at this
            cases this
        case measure => simp [RowKit.intOf]; omega
      | true =>
        go_wp2_with fail
        refine HC.out.mono ?_
        rintro e w1 ⟨rfl, hb1⟩
        have HB1 := Lib.hid (below_next HB.out hb1)
        clear hb1
        go_wp2_with fail
        go_roundw
        case rel => exact ⟨lo, m, rfl, rfl, by omega, by omega, HB1.out, Lib.hid ⟨I.out.1, fun t h1 h2 => HM.out m t h1 h2 HPM.out⟩⟩
        case measure => simp [RowKit.intOf]; omega
    · have g1 : decide ((lo : Int) < (hi : Int)) = false := by simp; omega
      have g2 : decide (lo < hi) = false := by simp; omega
      obtain rfl : lo = hi := by omega
      go_wp2_with fail
      go_ret
      exact ⟨lo, rfl, HB.out, hhn, I.out.1, I.out.2⟩

/-- The function that Until hands on. -/
theorem later_ok (w : World) (ba bx b off n c : Nat) (t y : Int) (i : Nat) (hi : i < n) (ha : w.cell? ⟨ba, 0, none⟩ = some (.slice (some ⟨b, off, none⟩) n c)) (hx : w.cell? ⟨bx, 0, none⟩ = some (.int .i64 t))
    (hc : w.cell? ⟨b, off + i * 5, none⟩ = some (.int .i64 y)) :
    Calls Try.prog 39 (#[.int .i64 (i : Int)] ++ #[.pointer (some ⟨ba, 0, none⟩), .pointer (some ⟨bx, 0, none⟩)]) w fun e w' => e = .returned (.bool (decide (t < y))) ∧ Below w.heap.size w w' := by
  have g1 : decide ((i : Int) < (n : Int)) = true := by simp; omega
  generalize hd : decide (t < y) = d
  go_enter Try.func39, Try.ntmps39
  go_wp2_with fail
  go_quiet (fail)
  go_wp2_with fail
  go_ret
  exact ⟨rfl, below_drewN (Below.refl _ _) _⟩

theorem until_ok (w : World) (l : List Ev) (A : Option Addr) (c B : Nat) (t : Int) (hr : evE.Row w B A l) (hB : B ≤ w.heap.size) (hl : l.length ≤ 1000) (hrise : ∀ i (hi : i < l.length) j (hj : j < l.length), i ≤ j → l[i].t ≤ l[j].t) :
    Calls Try.prog 30 #[.slice A l.length c, .int .i64 t] w fun e w' => e = .returned (.int .i64 (upTo l t : Nat)) ∧ Below w.heap.size w w' := by
  obtain ⟨w1, hw1⟩ : ∃ w1, w1 = w.alloc (.cells #[.slice A l.length c] 22) := ⟨_, rfl⟩
  obtain ⟨w2, hw2⟩ : ∃ w2, w2 = w1.alloc (.cells #[.int .i64 t] 3) := ⟨_, rfl⟩
  have hb1 : Below w.heap.size w w1 := by rw [hw1]; exact (Below.refl _ _).alloc (Nat.le_refl _) _
  have hz1 : w1.heap.size = w.heap.size + 1 := by rw [hw1]; simp
  have hb2 : Below w1.heap.size w1 w2 := by rw [hw2]; exact (Below.refl _ _).alloc (Nat.le_refl _) _
  have hz2 : w2.heap.size = w1.heap.size + 1 := by rw [hw2]; simp
  have ca : w2.cell? ⟨w.heap.size, 0, none⟩ = some (.slice A l.length c) := (hb2.cell (p := ⟨w.heap.size, 0, none⟩) (by simp; omega)).trans (by rw [hw1, cell_of_row _ _ 0 _ _ _ (heap_alloc_new w _)]; rfl)
  have cx : w2.cell? ⟨w.heap.size + 1, 0, none⟩ = some (.int .i64 t) := by rw [← hz1, hw2, cell_of_row _ _ 0 _ _ _ (heap_alloc_new w1 _)]; rfl
  have hb02 : Below w.heap.size w w2 := below_next hb1 hb2
  have hr2 := hr.below (hb02.mono hB)
  have eg : ∀ args w, (callFunc 39 args).run Try.prog w = .ok (.enter 39 args) w := enters_of Try.func39 (by kernel_rfl) rfl
  have HS := Lib.hid (search_ok 39 #[.pointer (some ⟨w.heap.size, 0, none⟩), .pointer (some ⟨w.heap.size + 1, 0, none⟩)] l.length (fun i => decide (t < (l.getD i zero).t)) w2 eg (by omega)
    (fun v hv i hi => by
      obtain ⟨b, off, rfl, hbB, c0, -⟩ := ev_at hr2 hi
      have hg : l.getD i zero = l[i] := by simp [hi]
      rw [hg]
      exact later_ok v w.heap.size (w.heap.size + 1) b off l.length c t l[i].t i hi ((hv.cell (p := ⟨w.heap.size, 0, none⟩) (by simp; omega)).trans ca) ((hv.cell (p := ⟨w.heap.size + 1, 0, none⟩) (by simp; omega)).trans cx) ((hv.cell (p := ⟨b, off + i * 5, none⟩) (by simp; omega)).trans c0))
    (fun a b hab hb h => by
      have h1 := hrise a (by omega) b hb hab
      rw [decide_eq_true_eq] at h ⊢
      simp only [List.getD_eq_getElem?_getD, List.getElem?_eq_getElem hb, List.getElem?_eq_getElem (show a < l.length by omega), Option.getD_some] at h ⊢
      omega))
  have HB := Lib.hid hb02
  have HCA := Lib.hid ca
  have W1 := Lib.hid hw1
  have W2 := Lib.hid hw2
  clear hr hr2 ca cx hb1 hb2 hw1 hw2 hz1 hz2 hb02 eg
  go_enter Try.func30, Try.ntmps30
  go_upto_region 1 with fail
  rw [← W1.out, ← W2.out]
  have ca := HCA.out
  go_wp2_with fail
  refine HS.out.mono ?_
  rintro e w3 ⟨r, rfl, hb3, hr1, hr2, hr3⟩
  have HB3 := Lib.hid (below_next HB.out hb3)
  have hu : upTo l t = r := upTo_of l t r hr1 (fun i hi h => by
      have := hr2 i h
      simp only [List.getD_eq_getElem?_getD, List.getElem?_eq_getElem hi, Option.getD_some, decide_eq_false_iff_not] at this
      omega) (fun i hi h => by
      have := hr3 i h hi
      simpa only [List.getD_eq_getElem?_getD, List.getElem?_eq_getElem hi, Option.getD_some, decide_eq_true_eq] using this)
  have HU := Lib.hid hu
  clear hr1 hr2 hr3 hb3 hu ca
  go_wp2_with fail
  go_ret
  exact ⟨by rw [HU.out]; rfl, HB3.out⟩

theorem upTo_succ (l : List Ev) (t : Int) (k : Nat) (h : k < l.length) : upTo (l.take (k + 1)) t = upTo (l.take k) t + (if l[k].t ≤ t then 1 else 0) := by
  unfold upTo
  rw [List.take_succ_eq_append_getElem h, List.countP_append]
  congr 1
  simp only [List.countP_cons, List.countP_nil, decide_eq_true_eq]
  omega
theorem upTo_le (l : List Ev) (t : Int) : upTo l t ≤ l.length := List.countP_le_length

theorem runtil_ok (w : World) (l : List Ev) (A : Option Addr) (c B : Nat) (t : Int) (hr : evE.Row w B A l) (hB : B ≤ w.heap.size) (hl : l.length ≤ 1000) :
    Calls Try.prog 25 #[.slice A l.length c, .int .i64 t] w fun e w' => e = .returned (.int .i64 (upTo l t : Nat)) ∧ Below w.heap.size w w' := by
  have HR := Lib.hid hr
  clear hr
  go_enter Try.func25, Try.ntmps25
  go_wp2
  go_loopw [5, 6] (fun n i wr => ∃ k q : Nat, k ≤ l.length ∧ i = .int .i64 (k : Int) ∧ n = .int .i64 (q : Int) ∧ q = upTo (l.take k) t ∧ q ≤ 1000 ∧ Below w.heap.size w wr) (fun _ i _ => l.length - (RowKit.intOf i).toNat)
  case atStart => exact ⟨0, 0, Nat.zero_le _, rfl, rfl, rfl, Nat.zero_le _, Below.refl _ _⟩
  case round =>
    obtain ⟨k, q, hk, rfl, rfl, hq, hq1, hb⟩ := hrel
    have HB := Lib.hid hb
    have HQ := Lib.hid hq
    clear hb hq
    by_cases hlt : k < l.length
    · have g1 : decide ((k : Int) < (l.length : Int)) = true := by simp; omega
      have gn : decide (k < l.length) = true := by simp; omega
      obtain ⟨b, off, rfl, hbl, c0, c1, c2, c3, c4⟩ := ev_at (HR.out.below (HB.out.mono hB)) hlt
      have HS := Lib.hid (upTo_succ l t k hlt)
      have HLE := Lib.hid (upTo_le (l.take (k + 1)) t)
      generalize l[k] = y at *
      obtain ⟨yt, yk, yd, yx, yz⟩ := y
      simp only at c0 HS
      clear c1 c2 c3 c4
      by_cases hyt : yt ≤ t
      · have g2 : decide (yt ≤ t) = true := by simpa
        have HN := Lib.hid (show q + 1 = upTo (l.take (k + 1)) t by rw [HS.out, if_pos hyt, HQ.out])
        have hq2 : q + 1 ≤ 1000 := by have := HLE.out; have := HN.out; rw [List.length_take] at *; omega
        clear hyt
        go_wp2_with fail
        go_roundw
        case rel => exact ⟨k + 1, q + 1, by omega, by simp, by simp, HN.out, hq2, HB.out⟩
        case measure => simp [RowKit.intOf]; omega
      · have g2 : decide (yt ≤ t) = false := by simpa using hyt
        have HN := Lib.hid (show q = upTo (l.take (k + 1)) t by rw [HS.out, if_neg hyt, HQ.out, Nat.add_zero])
        clear hyt
        go_wp2_with fail
        go_roundw
        case rel => exact ⟨k + 1, q, by omega, by simp, rfl, HN.out, hq1, HB.out⟩
        case measure => simp [RowKit.intOf]; omega
    · have g1 : decide ((k : Int) < (l.length : Int)) = false := by simp; omega
      have gn : decide (k < l.length) = false := by simp; omega
      have HE := Lib.hid (show q = upTo l t by rw [HQ.out, List.take_of_length_le (by omega)])
      go_wp2_with fail
      go_ret
      exact ⟨by rw [← HE.out]; rfl, HB.out⟩
end Go.Proofs.Ytdbnpdbnjipjiaa
