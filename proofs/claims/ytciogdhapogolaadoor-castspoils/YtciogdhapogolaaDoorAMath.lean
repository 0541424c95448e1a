/-
  Plain mathematics of layer 17 (cast): the lines that are written, what a text tells, and that both are one another's inverse. No program, no walk.
-/
import Derived.Test.YtciogdhapogolaaDoorJMath
import Derived.Test.YtciogdhapogolaaDoorJTimeM
import Derived.Test.YtciogdhapogolaaDoorEMath
import Derived.Lib.ItoaLen
namespace Go.Proofs.YtciogdhapogolaaDoor.AM
open Go.Lib

/-! ### what is written -/
def signB (k : Int) : UInt8 := if k = 1 then 105 else if k = 2 then 114 else if k = 3 then 109 else 111
/-- A size as a text. -/
def sizeB (w h : Nat) : List UInt8 := decDigits w ++ 120 :: decDigits h
def textB (e : EM.Ev) : List UInt8 := if e.k = 2 then sizeB e.w.toNat e.h.toNat else e.d.data.toList
def lineB (e : EM.Ev) : List UInt8 := [91] ++ (JM.timeL e.t.toNat ++ ([44, 32, 34] ++ ([signB e.k] ++ ([34, 44, 32] ++ (JM.quote (textB e) ++ [93, 10])))))
def pA : List UInt8 := [123, 34, 118, 101, 114, 115, 105, 111, 110, 34, 58, 32, 50, 44, 32, 34, 119, 105, 100, 116, 104, 34, 58, 32]
def pB : List UInt8 := [44, 32, 34, 104, 101, 105, 103, 104, 116, 34, 58, 32]
def headB (w h : Nat) : List UInt8 := pA ++ (decDigits w ++ (pB ++ (decDigits h ++ [125, 10])))
def castB (w h : Nat) (l : List EM.Ev) : List UInt8 := headB w h ++ l.flatMap lineB

/-- Are an event's texts UTF-8? -/
def utf (e : EM.Ev) : Prop := JM.whole e.d.data.toList = e.d.data.toList

/-! ### what is read -/
/-- What is behind a beginning. -/
def pre (p l : List UInt8) : Option (List UInt8) := if p <+: l then some (l.drop p.length) else none
theorem pre_app (p r : List UInt8) : pre p (p ++ r) = some r := by
  unfold pre
  rw [if_pos (List.prefix_append p r), List.drop_left]
theorem pre_back {p l r : List UInt8} (h : pre p l = some r) : l = p ++ r := by
  unfold pre at h
  split at h
  · rename_i hp
    obtain ⟨t, rfl⟩ := hp
    rw [List.drop_left] at h
    cases h
    rfl
  · cases h
def signK (b : UInt8) : Option Int := if b = 111 then some 0 else if b = 105 then some 1 else if b = 114 then some 2 else if b = 109 then some 3 else none
def kindR : List UInt8 → Option (Int × List UInt8)
  | [] => none
  | b :: t => (signK b).map fun k => (k, t)
def sizeR (l : List UInt8) : Option (Nat × Nat) :=
  (JM.num l).bind fun p => (pre [120] p.2).bind fun r => (JM.num r).bind fun q => if q.2 = [] then some (p.1, q.1) else none
def bytesA (l : List UInt8) : ByteArray := ⟨l.toArray⟩
def evR (t : Nat) (k : Int) (x : List UInt8) : Option EM.Ev :=
  if k = 2 then (sizeR x).map fun p => ⟨t, 2, ByteArray.empty, p.1, p.2⟩ else some ⟨t, k, bytesA x, 0, 0⟩
def lineR (l : List UInt8) : Option (EM.Ev × List UInt8) :=
  (pre [91] l).bind fun l1 => (JM.utm l1).bind fun p => (pre [44, 32, 34] p.2).bind fun l2 => (kindR l2).bind fun q =>
  (pre [34, 44, 32] q.2).bind fun l3 => (JM.unq l3).bind fun u => (pre [93, 10] u.2).bind fun l4 =>
  (evR p.1 q.1 (u.1.flatMap JM.enc)).map fun e => (e, l4)
def headR (l : List UInt8) : Option (Nat × Nat × List UInt8) :=
  (pre pA l).bind fun l1 => (JM.num l1).bind fun p => (pre pB p.2).bind fun l2 => (JM.num l2).bind fun q => (pre [125, 10] q.2).map fun l3 => (p.1, q.1, l3)
def linesR : Nat → List UInt8 → Option (List EM.Ev)
  | 0, l => if l = [] then some [] else none
  | n + 1, l => if l = [] then some [] else (lineR l).bind fun p => (linesR n p.2).map fun r => p.1 :: r
def imp (s : List UInt8) : Option (Nat × Nat × List EM.Ev) :=
  (headR s).bind fun p => (linesR p.2.2.length p.2.2).bind fun l => if EM.listB 0 l then some (p.1, p.2.1, l) else none

/-! ### numbers -/
theorem num_dec (n : Nat) (hn : n < 9223372036854775808) (t : List UInt8) (ht : t = [] ∨ ∃ c r, t = c :: r ∧ JM.isD c = false) : JM.num (decDigits n ++ t) = some (n, t) := by
  have hQ := JM.dec_all n
  have hv := JM.dec_vl n
  have hne := JM.dec_ne n
  have hhd := JM.dec_head n
  have hsm : n < 10 → (decDigits n).length = 1 := fun h => by rw [JM.dec_small h]; rfl
  generalize decDigits n = D at *
  have hl1 : 0 < D.length := List.length_pos_iff.2 hne
  have hnd : JM.nd (D ++ t) = D.length := by
    rcases ht with rfl | ⟨c, r, rfl, hc⟩
    · have h1 := JM.nd_ge hQ []
      have h2 := JM.nd_le (D ++ [])
      rw [List.append_nil] at h1 h2 ⊢
      omega
    · exact JM.nd_append hQ c r hc
  have hno : ¬ (1 < D.length ∧ (D ++ t).getD 0 0 = 48) := by
    rintro ⟨h1, h2⟩
    by_cases h3 : n < 10
    · have := hsm h3; omega
    · refine hhd h3 ?_
      rw [← h2]
      cases D with
      | nil => exact absurd rfl hne
      | cons x r => rfl
  unfold JM.num
  rw [hnd, if_neg (by omega), if_neg hno, List.take_left' rfl, List.drop_left' rfl, hv, if_pos hn]
theorem dec_byte (n : Nat) : ∀ b ∈ decDigits n, b.toNat < 128 := by
  intro b hb
  have := (JM.isD_iff b).1 (JM.dec_all n b hb)
  omega

/-! ### sizes -/
theorem runes_ascii (l : List UInt8) (h : ∀ b ∈ l, b.toNat < 128) : JM.whole l = l := by
  induction l with
  | nil => rfl
  | cons b l ih =>
    have hb := h b (by simp)
    have e : JM.enc b.toNat = [b] := by rw [JM.enc_one hb]; simp
    have e2 : b :: l = JM.enc b.toNat ++ l := by rw [e]; rfl
    have := ih (fun x hx => h x (by simp [hx]))
    unfold JM.whole at this ⊢
    rw [e2, JM.runes_enc (.inl (by omega)), List.flatMap_cons, this]
theorem size_whole (w h : Nat) : JM.whole (sizeB w h) = sizeB w h := by
  refine runes_ascii _ ?_
  intro b hb
  unfold sizeB at hb
  rcases List.mem_append.1 hb with hb | hb
  · exact dec_byte _ b hb
  · rcases List.mem_cons.1 hb with rfl | hb
    · decide
    · exact dec_byte _ b hb
theorem size_dec (w h : Nat) (hw : w < 9223372036854775808) (hh : h < 9223372036854775808) : sizeR (sizeB w h) = some (w, h) := by
  unfold sizeR sizeB
  rw [num_dec w hw _ (.inr ⟨120, _, rfl, by decide⟩), Option.bind_some]
  have e := pre_app [120] (decDigits h)
  rw [List.singleton_append] at e
  dsimp only
  rw [e, Option.bind_some]
  have e2 := num_dec h hh [] (.inl rfl)
  rw [List.append_nil] at e2
  rw [e2, Option.bind_some]
  simp
theorem size_back {l : List UInt8} {w h : Nat} (e : sizeR l = some (w, h)) : l = sizeB w h ∧ w < 9223372036854775808 ∧ h < 9223372036854775808 := by
  unfold sizeR at e
  obtain ⟨p, h1, e⟩ := Option.bind_eq_some_iff.1 e
  obtain ⟨r, h2, e⟩ := Option.bind_eq_some_iff.1 e
  obtain ⟨q, h3, e⟩ := Option.bind_eq_some_iff.1 e
  obtain ⟨p1, p2⟩ := p
  obtain ⟨q1, q2⟩ := q
  dsimp only at h1 h2 h3 e
  split at e
  · rename_i hq
    cases e
    subst hq
    have b1 := JM.num_back h1
    have b2 := pre_back h2
    have b3 := JM.num_back h3
    rw [List.append_nil] at b3
    refine ⟨?_, JM.num_lt h1, JM.num_lt h3⟩
    rw [← b1, b2, ← b3]
    rfl
  · cases e

/-! ### lines -/
theorem sign_kind (k : Int) (h0 : 0 ≤ k) (h3 : k ≤ 3) : signK (signB k) = some k := by
  have : k = 0 ∨ k = 1 ∨ k = 2 ∨ k = 3 := by omega
  rcases this with rfl | rfl | rfl | rfl <;> rfl
theorem kind_sign {b : UInt8} {k : Int} (h : signK b = some k) : signB k = b ∧ 0 ≤ k ∧ k ≤ 3 := by
  unfold signK at h
  split at h
  · rename_i e; cases h; subst e; decide
  · split at h
    · rename_i e; cases h; subst e; decide
    · split at h
      · rename_i e; cases h; subst e; decide
      · split at h
        · rename_i e; cases h; subst e; decide
        · cases h
theorem bytesA_list (l : List UInt8) : (bytesA l).data.toList = l := rfl
theorem bytesA_of (d : ByteArray) : bytesA d.data.toList = d := by
  unfold bytesA
  rfl
theorem text_whole {e : EM.Ev} (hu : utf e) : JM.whole (textB e) = textB e := by
  unfold textB
  split
  · exact size_whole _ _
  · exact hu
theorem line_read (e : EM.Ev) (hr : EM.right e = true) (hu : utf e) (more : List UInt8) : lineR (lineB e ++ more) = some (e, more) := by
  have hw := text_whole hu
  obtain ⟨h1, h2, h3, h4, h5, h6, h7, h8, h9, h10, h11⟩ := EM.right_parts hr
  unfold lineR lineB
  simp only [List.append_assoc]
  rw [pre_app, Option.bind_some, JM.utm_time _ (by omega), Option.bind_some]
  dsimp only
  rw [pre_app, Option.bind_some]
  have ek : kindR ([signB e.k] ++ ([34, 44, 32] ++ (JM.quote (textB e) ++ ([93, 10] ++ more)))) = some (e.k, [34, 44, 32] ++ (JM.quote (textB e) ++ ([93, 10] ++ more))) := by
    unfold kindR
    rw [List.singleton_append]
    dsimp only
    rw [sign_kind _ h3 h4]
    rfl
  rw [ek, Option.bind_some]
  dsimp only
  rw [pre_app, Option.bind_some, JM.unq_quote, Option.bind_some]
  dsimp only
  rw [pre_app, Option.bind_some]
  have hw2 : (JM.runes (textB e)).flatMap JM.enc = textB e := hw
  rw [hw2]
  have hv : evR e.t.toNat e.k (textB e) = some e := by
    unfold evR textB
    by_cases hk : e.k = 2
    · rw [if_pos hk, if_pos hk, size_dec _ _ (by omega) (by omega)]
      have hd := h10 hk
      obtain ⟨t, k, d, w, h⟩ := e
      simp only at *
      subst hk hd
      simp only [Option.map_some]
      rw [Int.toNat_of_nonneg h1, Int.toNat_of_nonneg h5, Int.toNat_of_nonneg h7]
    · rw [if_neg hk, if_neg hk, bytesA_of]
      obtain ⟨hw0, hh0⟩ := h11 hk
      obtain ⟨t, k, d, w, h⟩ := e
      simp only at *
      subst hw0 hh0
      rw [Int.toNat_of_nonneg h1]
  rw [hv]
  rfl
theorem line_back {l more : List UInt8} {e : EM.Ev} (h : lineR l = some (e, more)) : l = lineB e ++ more ∧ utf e := by
  unfold lineR at h
  obtain ⟨l1, h1, h⟩ := Option.bind_eq_some_iff.1 h
  obtain ⟨⟨t, r2⟩, h2, h⟩ := Option.bind_eq_some_iff.1 h
  obtain ⟨l3, h3, h⟩ := Option.bind_eq_some_iff.1 h
  obtain ⟨⟨k, r4⟩, h4, h⟩ := Option.bind_eq_some_iff.1 h
  obtain ⟨l5, h5, h⟩ := Option.bind_eq_some_iff.1 h
  obtain ⟨⟨rs, r6⟩, h6, h⟩ := Option.bind_eq_some_iff.1 h
  obtain ⟨l7, h7, h⟩ := Option.bind_eq_some_iff.1 h
  obtain ⟨e', h8, h⟩ := Option.map_eq_some_iff.1 h
  cases h
  dsimp only at *
  have b1 := pre_back h1
  have b2 := (JM.utm_back h2).1
  have b3 := pre_back h3
  have b5 := pre_back h5
  obtain ⟨g6, b6⟩ := JM.unq_sound h6
  have b7 := pre_back h7
  have b4 : l3 = [signB k] ++ r4 := by
    unfold kindR at h4
    cases l3 with
    | nil => cases h4
    | cons b t =>
      obtain ⟨k', hk, h4⟩ := Option.map_eq_some_iff.1 h4
      cases h4
      rw [(kind_sign hk).1]
      rfl
  have hx : textB e = rs.flatMap JM.enc ∧ e.t = t ∧ e.k = k ∧ utf e := by
    unfold evR at h8
    split at h8
    · rename_i hk
      obtain ⟨⟨w, h⟩, h9, h8⟩ := Option.map_eq_some_iff.1 h8
      cases h8
      refine ⟨?_, rfl, hk.symm, rfl⟩
      rw [(size_back h9).1]
      unfold textB
      rw [if_pos rfl]
      rfl
    · rename_i hk
      cases h8
      refine ⟨?_, rfl, rfl, ?_⟩
      · unfold textB
        rw [if_neg hk]
        exact bytesA_list _
      · unfold utf
        dsimp only
        rw [bytesA_list]
        unfold JM.whole
        rw [JM.runes_flat _ g6]
  obtain ⟨x1, x2, x3, x4⟩ := hx
  refine ⟨?_, x4⟩
  unfold lineB
  rw [x1, x2, x3, b1, ← b2, b3, b4, b5, ← b6, b7, Int.toNat_natCast]
  simp only [List.append_assoc]
theorem line_pos (e : EM.Ev) : 0 < (lineB e).length := by
  unfold lineB
  rw [List.length_append]
  simp
  omega

theorem lines_read (l : List EM.Ev) (hr : ∀ e ∈ l, EM.right e = true) (hu : ∀ e ∈ l, utf e) : ∀ n, (l.flatMap lineB).length ≤ n → linesR n (l.flatMap lineB) = some l := by
  induction l with
  | nil =>
    intro n _
    cases n <;> simp [linesR]
  | cons e l ih =>
    intro n hn
    have hp := line_pos e
    rw [List.flatMap_cons, List.length_append] at hn
    obtain ⟨m, rfl⟩ : ∃ m, n = m + 1 := ⟨n - 1, by omega⟩
    have hne : lineB e ++ l.flatMap lineB ≠ [] := fun c => by
      have := congrArg List.length c
      rw [List.length_append, List.length_nil] at this
      omega
    unfold linesR
    rw [List.flatMap_cons, if_neg hne, line_read e (hr e (by simp)) (hu e (by simp)), Option.bind_some]
    dsimp only
    rw [ih (fun x hx => hr x (by simp [hx])) (fun x hx => hu x (by simp [hx])) m (by omega)]
    rfl
theorem lines_back : ∀ (n : Nat) (s : List UInt8) (l : List EM.Ev), linesR n s = some l → s = l.flatMap lineB ∧ ∀ e ∈ l, utf e := by
  intro n
  induction n with
  | zero =>
    intro s l h
    unfold linesR at h
    split at h
    · rename_i hs; cases h; exact ⟨hs, by simp⟩
    · cases h
  | succ n ih =>
    intro s l h
    unfold linesR at h
    split at h
    · rename_i hs; cases h; exact ⟨hs, by simp⟩
    · obtain ⟨⟨e, r⟩, h1, h⟩ := Option.bind_eq_some_iff.1 h
      obtain ⟨l', h2, h⟩ := Option.map_eq_some_iff.1 h
      cases h
      obtain ⟨a1, a2⟩ := line_back h1
      obtain ⟨b1, b2⟩ := ih _ _ h2
      dsimp only at *
      refine ⟨by rw [List.flatMap_cons, ← b1]; exact a1, ?_⟩
      intro x hx
      rcases List.mem_cons.1 hx with rfl | hx
      · exact a2
      · exact b2 x hx

/-! ### the whole -/
theorem listB_right {f : Int} {l : List EM.Ev} (h : EM.listB f l = true) : ∀ e ∈ l, EM.right e = true := by
  induction l generalizing f with
  | nil => simp
  | cons e l ih =>
    simp only [EM.listB, Bool.and_eq_true] at h
    intro x hx
    rcases List.mem_cons.1 hx with rfl | hx
    · exact h.1.1
    · exact ih h.2 x hx
theorem head_read (w h : Nat) (hw : w < 9223372036854775808) (hh : h < 9223372036854775808) (more : List UInt8) : headR (headB w h ++ more) = some (w, h, more) := by
  unfold headR headB
  simp only [List.append_assoc]
  rw [pre_app, Option.bind_some, num_dec w hw (pB ++ (decDigits h ++ ([125, 10] ++ more))) (.inr ⟨44, _, rfl, by decide⟩), Option.bind_some]
  dsimp only
  rw [pre_app, Option.bind_some, num_dec h hh ([125, 10] ++ more) (.inr ⟨125, _, rfl, by decide⟩), Option.bind_some]
  dsimp only
  rw [pre_app]
  rfl
theorem head_back {l more : List UInt8} {w h : Nat} (e : headR l = some (w, h, more)) : l = headB w h ++ more ∧ w < 9223372036854775808 ∧ h < 9223372036854775808 := by
  unfold headR at e
  obtain ⟨l1, h1, e⟩ := Option.bind_eq_some_iff.1 e
  obtain ⟨⟨p1, p2⟩, h2, e⟩ := Option.bind_eq_some_iff.1 e
  obtain ⟨l2, h3, e⟩ := Option.bind_eq_some_iff.1 e
  obtain ⟨⟨q1, q2⟩, h4, e⟩ := Option.bind_eq_some_iff.1 e
  obtain ⟨l3, h5, e⟩ := Option.map_eq_some_iff.1 e
  cases e
  dsimp only at *
  refine ⟨?_, JM.num_lt h2, JM.num_lt h4⟩
  unfold headB
  rw [pre_back h1, ← JM.num_back h2, pre_back h3, ← JM.num_back h4, pre_back h5]
  simp only [List.append_assoc]
/-- What is written comes back. -/
theorem imp_cast (w h : Nat) (hw : w < 9223372036854775808) (hh : h < 9223372036854775808) (l : List EM.Ev) (hl : EM.listB 0 l = true) (hu : ∀ e ∈ l, utf e) : imp (castB w h l) = some (w, h, l) := by
  unfold imp castB
  rw [head_read w h hw hh, Option.bind_some]
  dsimp only
  rw [lines_read l (listB_right hl) hu _ (Nat.le_refl _), Option.bind_some, if_pos hl]
/-- What is told is what is written. -/
theorem imp_back {s : List UInt8} {w h : Nat} {l : List EM.Ev} (e : imp s = some (w, h, l)) : castB w h l = s ∧ EM.listB 0 l = true ∧ (∀ e ∈ l, utf e) ∧ w < 9223372036854775808 ∧ h < 9223372036854775808 := by
  unfold imp at e
  obtain ⟨⟨w', h', r⟩, h1, e⟩ := Option.bind_eq_some_iff.1 e
  obtain ⟨l', h2, e⟩ := Option.bind_eq_some_iff.1 e
  dsimp only at *
  split at e
  · rename_i hl
    cases e
    obtain ⟨a1, a2, a3⟩ := head_back h1
    obtain ⟨b1, b2⟩ := lines_back _ _ _ h2
    exact ⟨by rw [a1]; unfold castB; rw [← b1], hl, b2, a2, a3⟩
  · cases e
theorem imp_of_cast {s : List UInt8} (h : imp s = none) (w h' : Nat) (hw : w < 9223372036854775808) (hh : h' < 9223372036854775808) (l : List EM.Ev) (hl : EM.listB 0 l = true) (hu : ∀ e ∈ l, utf e) : castB w h' l ≠ s := by
  intro c
  rw [← c, imp_cast w h' hw hh l hl hu] at h
  cases h

/-! ### line feeds -/
/-- How many line feeds. -/
def lf (l : List UInt8) : Nat := (l.filter (· = 10)).length
theorem lf_append (a b : List UInt8) : lf (a ++ b) = lf a + lf b := by
  unfold lf
  rw [List.filter_append, List.length_append]
theorem lf_none {l : List UInt8} (h : ∀ b ∈ l, 11 ≤ b.toNat) : lf l = 0 := by
  unfold lf
  rw [List.filter_eq_nil_iff.2]
  · rfl
  · intro b hb c
    have := h b hb
    simp at c
    subst c
    simp at this
theorem dec_high (n : Nat) : ∀ b ∈ decDigits n, 11 ≤ b.toNat := by
  intro b hb
  have := (JM.isD_iff b).1 (JM.dec_all n b hb)
  omega
theorem quote_high (l : List UInt8) : ∀ b ∈ JM.quote l, 11 ≤ b.toNat := by
  intro b hb
  unfold JM.quote at hb
  rcases List.mem_cons.1 hb with rfl | hb
  · decide
  · rcases List.mem_append.1 hb with hb | hb
    · obtain ⟨r, _, hr⟩ := List.mem_flatMap.1 hb
      have := (JM.wr_byte r b hr).1
      omega
    · simp at hb; subst hb; decide
theorem time_high (n : Nat) : ∀ b ∈ JM.timeL n, 11 ≤ b.toNat := by
  intro b hb
  unfold JM.timeL at hb
  rcases List.mem_append.1 hb with hb | hb
  · rcases List.mem_append.1 hb with hb | hb
    · exact dec_high _ b hb
    · simp at hb; subst hb; decide
  · exact dec_high _ b (List.mem_of_mem_drop hb)
theorem sign_high (k : Int) : 11 ≤ (signB k).toNat := by
  unfold signB
  repeat' split
  all_goals decide
theorem lf_line (e : EM.Ev) : lf (lineB e) = 1 := by
  unfold lineB
  simp only [lf_append]
  rw [lf_none (time_high _), lf_none (quote_high _), lf_none (l := [signB e.k]) (by intro b hb; simp at hb; subst hb; exact sign_high _)]
  rfl
theorem lf_head (w h : Nat) : lf (headB w h) = 1 := by
  unfold headB
  simp only [lf_append]
  rw [lf_none (dec_high _), lf_none (dec_high _)]
  rfl
theorem lf_cast (w h : Nat) (l : List EM.Ev) : lf (castB w h l) = l.length + 1 := by
  unfold castB
  rw [lf_append, lf_head]
  have : lf (l.flatMap lineB) = l.length := by
    induction l with
    | nil => rfl
    | cons e l ih => rw [List.flatMap_cons, lf_append, lf_line, ih, List.length_cons]; omega
  omega
/-- The last byte is a line feed. -/
theorem last_cast (w h : Nat) (l : List EM.Ev) : ∃ r, castB w h l = r ++ [10] := by
  unfold castB
  rcases List.eq_nil_or_concat l with rfl | ⟨a, b, rfl⟩
  · refine ⟨pA ++ (decDigits w ++ (pB ++ (decDigits h ++ [125]))), ?_⟩
    unfold headB
    simp
  · refine ⟨headB w h ++ (a.flatMap lineB ++ ([91] ++ (JM.timeL b.t.toNat ++ ([44, 32, 34] ++ ([signB b.k] ++ ([34, 44, 32] ++ (JM.quote (textB b) ++ [93]))))))), ?_⟩
    rw [List.concat_eq_append, List.flatMap_append, List.flatMap_cons, List.flatMap_nil, List.append_nil]
    unfold lineB
    simp only [List.append_assoc]
    rfl

/-! ### how long -/
theorem dec_len (n : Nat) (h : n < 18446744073709551616) : (decDigits n).length ≤ 20 := by
  rw [decDigits_length]
  exact nDigits_le20 n h
theorem time_len (n : Nat) (h : n < 18446744073709551616) : (JM.timeL n).length ≤ 27 := by
  have h1 := dec_len (n / 1000000) (by omega)
  obtain ⟨h2, _, _⟩ := JM.six (n % 1000000) (by omega)
  unfold JM.timeL
  rw [List.length_append, List.length_append, h2, List.length_singleton]
  omega
theorem line_len (e : EM.Ev) (hr : EM.right e = true) : (lineB e).length ≤ 2600 := by
  obtain ⟨h1, h2, h3, h4, h5, h6, h7, h8, h9, _⟩ := EM.right_parts hr
  have a := time_len e.t.toNat (by omega)
  have b := JM.quote_len (textB e)
  have c : (textB e).length ≤ 400 := by
    unfold textB
    split
    · have x := dec_len e.w.toNat (by omega)
      have y := dec_len e.h.toNat (by omega)
      unfold sizeB
      rw [List.length_append, List.length_cons]
      omega
    · rw [Array.length_toList]
      exact h9
  unfold lineB
  simp only [List.length_append, List.length_cons, List.length_nil]
  omega
theorem lines_len (l : List EM.Ev) (hr : ∀ e ∈ l, EM.right e = true) : (l.flatMap lineB).length ≤ 2600 * l.length := by
  induction l with
  | nil => simp
  | cons e l ih =>
    have h1 := line_len e (hr e (by simp))
    have h2 := ih (fun x hx => hr x (by simp [hx]))
    rw [List.flatMap_cons, List.length_append, List.length_cons]
    omega
theorem lines_ge (l : List EM.Ev) : l.length ≤ (l.flatMap lineB).length := by
  induction l with
  | nil => simp
  | cons e l ih =>
    have := line_pos e
    rw [List.flatMap_cons, List.length_append, List.length_cons]
    omega
theorem cast_ge (x y : Nat) (l : List EM.Ev) : l.length ≤ (castB x y l).length := by
  have := lines_ge l
  unfold castB
  rw [List.length_append]
  omega
end Go.Proofs.YtciogdhapogolaaDoor.AM
