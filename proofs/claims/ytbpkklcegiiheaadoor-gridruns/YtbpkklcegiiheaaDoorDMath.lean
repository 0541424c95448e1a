/-
  Layer 9 (grid): grids and what is done with them, by the chapter's words. No program.
-/
import Derived.Test.YtbpkklcegiiheaaDoorKMath
namespace Go.Proofs.YtbpkklcegiiheaaDoor.KM

/-- A blank cell of a style; so many. -/
def blankS (s : Sty) : Cel := ⟨32, ⟨false, false, false, 0, s.back⟩⟩
def blanks (n : Nat) (s : Sty) : List Cel := List.replicate n (blankS s)
/-- A style that is right: itself; else the zero one. -/
def stame (s : Sty) : Sty := if sright s = true then s else zero
theorem stame_right (s : Sty) : sright (stame s) = true := by
  unfold stame; split
  · assumption
  · rfl
theorem blanks_len (n : Nat) (s : Sty) : (blanks n s).length = n := by simp [blanks]
theorem blanks_mem {n : Nat} {s : Sty} {c : Cel} (h : c ∈ blanks n s) : c = blankS s := (List.mem_replicate.1 h).2
theorem blankS_tame {s : Sty} (h : sright s = true) : tame (blankS s) := by
  rw [sright_iff] at h
  refine ⟨?_, .inr right32⟩
  rw [sright_iff]
  simp only [blankS]
  omega
theorem blanks_tame {n : Nat} {s : Sty} (h : sright s = true) : ∀ c ∈ blanks n s, tame c := fun c hc => by rw [blanks_mem hc]; exact blankS_tame h
theorem blanks_at {n : Nat} {s : Sty} {j : Nat} (h : j < n) : (blanks n s)[j]? = some (blankS s) := by simp [blanks, h]

/-! ### mending beside blanks -/
theorem halves_blank (c : Cel) (s : Sty) : halves c (blankS s) = false := by
  rw [← Bool.not_eq_true, halves_iff]
  intro h
  have h2 := h.2.1
  simp [blankS] at h2
theorem alone_blank (p : Option Cel) (s : Sty) (n : Option Cel) : aloneN p (blankS s) n = false := by
  unfold aloneN
  rw [if_neg (by simp [blankS]), if_neg (by simp [blankS, wide32])]
theorem fix_blank (p : Option Cel) (s : Sty) (n : Option Cel) : fixN p (blankS s) n = blankS s := by
  unfold fixN
  rw [alone_blank]
  simp
theorem mendP_blanks (p : Option Cel) (n : Nat) (s : Sty) : mendP p (blanks n s) = blanks n s := by
  induction n generalizing p with
  | zero => rfl
  | succ n ih =>
    show fixN p (blankS s) _ :: mendP _ (blanks n s) = _
    rw [fix_blank, ih]
    rfl
theorem fix_next_blank (p : Option Cel) (c : Cel) (s : Sty) : fixN p c (some (blankS s)) = fixN p c none := by
  have : aloneN p c (some (blankS s)) = aloneN p c none := by
    unfold aloneN
    simp [halves_blank]
  unfold fixN
  rw [this]
theorem mendP_append_blanks (p : Option Cel) (l : List Cel) (n : Nat) (s : Sty) : mendP p (l ++ blanks n s) = mendP p l ++ blanks n s := by
  induction l generalizing p with
  | nil => exact mendP_blanks p n s
  | cons c r ih =>
    rw [List.cons_append, mendP, mendP, ih, List.cons_append]
    congr 1
    cases r with
    | cons d r => rfl
    | nil =>
      cases n with
      | zero => rfl
      | succ n => exact fix_next_blank p c s
theorem mend_append_blanks (l : List Cel) (n : Nat) (s : Sty) : mend (l ++ blanks n s) = mend l ++ blanks n s := mendP_append_blanks none l n s
theorem mend_blanks (n : Nat) (s : Sty) : mend (blanks n s) = blanks n s := mendP_blanks none n s
theorem whole_blanks (n : Nat) : whole (blanks n zero) = true := (whole_iff _ (blanks_tame rfl)).2 (mend_blanks n zero)

/-! ### a grid -/
structure Gr where
  w : Nat
  h : Nat
  ls : List (List Cel)
/-- A line of w cells that is whole. -/
structure LineOk (w : Nat) (l : List Cel) : Prop where
  len : l.length = w
  whole : whole l = true
  tame : ∀ c ∈ l, tame c
structure Gr.Ok (g : Gr) : Prop where
  w1 : 1 ≤ g.w
  w2 : g.w ≤ 60
  h1 : 1 ≤ g.h
  h2 : g.h ≤ 60
  len : g.ls.length = g.h
  row : ∀ l ∈ g.ls, LineOk g.w l
theorem LineOk.mend {w : Nat} {l : List Cel} (h : LineOk w l) : KM.mend l = l := (whole_iff l h.tame).1 h.whole
theorem LineOk.of {w : Nat} {l : List Cel} (hl : l.length = w) (h : ∀ c ∈ l, KM.tame c) : LineOk w (KM.mend l) := ⟨by rw [mend_len, hl], mend_whole l h, mend_tame l h⟩
theorem lineOk_blanks (w : Nat) (s : Sty) (h : sright s = true) : LineOk w (blanks w s) := by
  have := LineOk.of (blanks_len w s) (blanks_tame h)
  rwa [mend_blanks] at this

/-- The nearest number from a up to b. -/
def nr (n a b : Int) : Int := max a (min n b)
theorem nr_in {n a b : Int} (h : a ≤ b) : a ≤ nr n a b ∧ nr n a b ≤ b := by unfold nr; omega
/-- .. as the law has it. -/
theorem within_nr {n a b : Int} (h : a ≤ b) : min (max n a) b = nr n a b := by unfold nr; omega

/-- A new grid. -/
def gnew (w h : Int) : Gr := ⟨(nr w 1 60).toNat, (nr h 1 60).toNat, List.replicate (nr h 1 60).toNat (blanks (nr w 1 60).toNat zero)⟩
theorem gnew_ok (w h : Int) : (gnew w h).Ok := by
  have h1 := nr_in (n := w) (a := 1) (b := 60) (by omega)
  have h2 := nr_in (n := h) (a := 1) (b := 60) (by omega)
  refine ⟨by simp only [gnew]; omega, by simp only [gnew]; omega, by simp only [gnew]; omega, by simp only [gnew]; omega, by simp [gnew], fun l hl => ?_⟩
  rw [(List.mem_replicate.1 hl).2]
  exact lineOk_blanks _ _ rfl

/-- Is a place there? -/
def Gr.there (g : Gr) (x y : Int) : Bool := decide (0 ≤ x) && decide (x < g.w) && decide (0 ≤ y) && decide (y < g.h)
theorem Gr.there_iff (g : Gr) (x y : Int) : g.there x y = true ↔ (0 ≤ x ∧ x < g.w) ∧ (0 ≤ y ∧ y < g.h) := by
  simp [Gr.there, and_assoc]
/-- A line changed. -/
def Gr.setL (g : Gr) (y : Nat) (l : List Cel) : Gr := ⟨g.w, g.h, g.ls.set y l⟩
theorem Gr.Ok.setL {g : Gr} (h : g.Ok) (y : Nat) {l : List Cel} (hl : LineOk g.w l) : (g.setL y l).Ok := by
  refine ⟨h.w1, h.w2, h.h1, h.h2, by simp [Gr.setL, h.len], fun x hx => ?_⟩
  rcases List.mem_or_eq_of_mem_set hx with hx | rfl
  · exact h.row x hx
  · exact hl
/-- A grid's line; none where there is none. -/
def Gr.line (g : Gr) (y : Nat) : List Cel := g.ls.getD y []
theorem Gr.Ok.line {g : Gr} (h : g.Ok) {y : Nat} (hy : y < g.h) : LineOk g.w (g.line y) := by
  have hl : y < g.ls.length := by rw [h.len]; exact hy
  have : g.line y = g.ls[y] := by simp [Gr.line, hl]
  rw [this]
  exact h.row _ (List.getElem_mem _)

/-! ### lines changed -/
def putC (l : List Cel) (x : Nat) (c : Cel) : List Cel := if GM.wide c.rune = true ∧ x + 1 < l.length then (l.set x c).set (x + 1) ⟨0, c.sty⟩ else l.set x c
def clearC (l : List Cel) (a b : Nat) (s : Sty) : List Cel := l.take a ++ blanks (b - a) s ++ l.drop b
def openC (l : List Cel) (x n : Nat) (s : Sty) : List Cel := l.take x ++ blanks n s ++ (l.drop x).take (l.length - n - x)
def shutC (l : List Cel) (x n : Nat) (s : Sty) : List Cel := l.take x ++ l.drop (x + n) ++ blanks n s
/-- A line of so many cells. -/
def fitL (l : List Cel) (w : Nat) : List Cel := mend (l.take w) ++ blanks (w - l.length) zero

theorem putC_len (l : List Cel) (x : Nat) (c : Cel) : (putC l x c).length = l.length := by unfold putC; split <;> simp
theorem clearC_len (l : List Cel) (a b : Nat) (s : Sty) (h1 : a ≤ b) (h2 : b ≤ l.length) : (clearC l a b s).length = l.length := by simp [clearC, blanks_len]; omega
theorem openC_len (l : List Cel) (x n : Nat) (s : Sty) (h : x + n ≤ l.length) : (openC l x n s).length = l.length := by simp [openC, blanks_len]; omega
theorem shutC_len (l : List Cel) (x n : Nat) (s : Sty) (h : x + n ≤ l.length) : (shutC l x n s).length = l.length := by simp [shutC, blanks_len]; omega
theorem fitL_len (l : List Cel) (w : Nat) : (fitL l w).length = w := by simp [fitL, blanks_len, mend_len]; omega
theorem fitL_eq (l : List Cel) (w : Nat) : fitL l w = mend (l.take w ++ blanks (w - l.length) zero) := by rw [mend_append_blanks]; rfl
theorem fitL_blanks (n w : Nat) : fitL (blanks n zero) w = blanks w zero := by
  rw [fitL_eq]
  have : (blanks n zero).take w ++ blanks (w - (blanks n zero).length) zero = blanks w zero := by
    simp only [blanks, List.take_replicate, List.length_replicate, List.replicate_append_replicate]
    congr 1; omega
  rw [this, mend_blanks]
theorem tame_rest {c : Cel} (h : sright c.sty = true) : tame ⟨0, c.sty⟩ := ⟨h, .inl rfl⟩
theorem putC_tame {l : List Cel} (x : Nat) {c : Cel} (h : ∀ c ∈ l, tame c) (hc : cright c = true) : ∀ d ∈ putC l x c, tame d := by
  unfold cright at hc
  rw [Bool.and_eq_true] at hc
  have h1 : tame c := ⟨hc.2, .inr hc.1⟩
  have hs : ∀ d ∈ l.set x c, tame d := fun d hd => by
    rcases List.mem_or_eq_of_mem_set hd with hd | rfl
    · exact h d hd
    · exact h1
  intro d hd
  unfold putC at hd
  split at hd
  · rcases List.mem_or_eq_of_mem_set hd with hd | rfl
    · exact hs d hd
    · exact tame_rest hc.2
  · exact hs d hd
theorem clearC_tame {l : List Cel} (a b : Nat) {s : Sty} (h : ∀ c ∈ l, tame c) (hs : sright s = true) : ∀ d ∈ clearC l a b s, tame d := by
  intro d hd
  simp only [clearC, List.mem_append] at hd
  rcases hd with (hd | hd) | hd
  · exact h d (List.mem_of_mem_take hd)
  · exact blanks_tame hs d hd
  · exact h d (List.mem_of_mem_drop hd)
theorem openC_tame {l : List Cel} (x n : Nat) {s : Sty} (h : ∀ c ∈ l, tame c) (hs : sright s = true) : ∀ d ∈ openC l x n s, tame d := by
  intro d hd
  simp only [openC, List.mem_append] at hd
  rcases hd with (hd | hd) | hd
  · exact h d (List.mem_of_mem_take hd)
  · exact blanks_tame hs d hd
  · exact h d (List.mem_of_mem_drop (List.mem_of_mem_take hd))
theorem shutC_tame {l : List Cel} (x n : Nat) {s : Sty} (h : ∀ c ∈ l, tame c) (hs : sright s = true) : ∀ d ∈ shutC l x n s, tame d := by
  intro d hd
  simp only [shutC, List.mem_append] at hd
  rcases hd with (hd | hd) | hd
  · exact h d (List.mem_of_mem_take hd)
  · exact h d (List.mem_of_mem_drop hd)
  · exact blanks_tame hs d hd
theorem fitL_ok {l : List Cel} (w : Nat) (h : ∀ c ∈ l, tame c) : LineOk w (fitL l w) := by
  rw [fitL_eq]
  refine LineOk.of ?_ ?_
  · have := fitL_len l w
    rw [fitL_eq, mend_len] at this
    exact this
  · intro c hc
    rcases List.mem_append.1 hc with hc | hc
    · exact h c (List.mem_of_mem_take hc)
    · exact blanks_tame rfl c hc

/-! ### what is done with a grid -/
def gput (g : Gr) (x y : Int) (c : Cel) : Gr := if (g.there x y && cright c) = true then g.setL y.toNat (mend (putC (g.line y.toNat) x.toNat c)) else g
def gclear (g : Gr) (y a b : Int) (s : Sty) : Gr := if g.there 0 y = true ∧ max a 0 < min b g.w then g.setL y.toNat (mend (clearC (g.line y.toNat) (max a 0).toNat (min b g.w).toNat s)) else g
def gopen (g : Gr) (x y n : Int) (s : Sty) : Gr := if g.there x y = true then g.setL y.toNat (mend (openC (g.line y.toNat) x.toNat (nr n 0 (g.w - x)).toNat s)) else g
def gshut (g : Gr) (x y n : Int) (s : Sty) : Gr := if g.there x y = true then g.setL y.toNat (mend (shutC (g.line y.toNat) x.toNat (nr n 0 (g.w - x)).toNat s)) else g
/-- The lines of a part: from which, as many, how many of them go. -/
def Gr.top (_g : Gr) (a : Int) : Nat := (max a 0).toNat
def Gr.end_ (g : Gr) (b : Int) : Nat := (min b g.h).toNat
def upL (l : List (List Cel)) (w t e n : Nat) (s : Sty) : List (List Cel) := l.take t ++ ((l.drop (t + n)).take (e - t - n) ++ List.replicate n (blanks w s)) ++ l.drop e
def downL (l : List (List Cel)) (w t e n : Nat) (s : Sty) : List (List Cel) := l.take t ++ (List.replicate n (blanks w s) ++ (l.drop t).take (e - t - n)) ++ l.drop e
def gup (g : Gr) (a b n : Int) (s : Sty) : Gr × List (List Cel) :=
  if max a 0 < min b g.h then (⟨g.w, g.h, upL g.ls g.w (max a 0).toNat (min b g.h).toNat (nr n 0 (min b g.h - max a 0)).toNat s⟩, (g.ls.drop (max a 0).toNat).take (nr n 0 (min b g.h - max a 0)).toNat) else (g, [])
def gdown (g : Gr) (a b n : Int) (s : Sty) : Gr :=
  if max a 0 < min b g.h then ⟨g.w, g.h, downL g.ls g.w (max a 0).toNat (min b g.h).toNat (nr n 0 (min b g.h - max a 0)).toNat s⟩ else g
/-- Lines, each so wide, so many. -/
def fitG (l : List (List Cel)) (w h : Nat) : List (List Cel) := (l.take h).map (fun x => fitL x w) ++ List.replicate (h - l.length) (blanks w zero)
def gresize (g : Gr) (w h n : Int) : Gr × List (List Cel) :=
  (⟨(nr w 1 60).toNat, (nr h 1 60).toNat, fitG (gup g 0 g.h n zero).1.ls (nr w 1 60).toNat (nr h 1 60).toNat⟩, (gup g 0 g.h n zero).2)

theorem gput_ok {g : Gr} (h : g.Ok) (x y : Int) (c : Cel) : (gput g x y c).Ok := by
  unfold gput; split
  · rename_i hh
    rw [Bool.and_eq_true, Gr.there_iff] at hh
    have hl := h.line (y := y.toNat) (by omega)
    exact h.setL _ (LineOk.of (by rw [putC_len, hl.len]) (putC_tame _ hl.tame hh.2))
  · exact h
theorem gclear_ok {g : Gr} (h : g.Ok) (y a b : Int) {s : Sty} (hs : sright s = true) : (gclear g y a b s).Ok := by
  unfold gclear; split
  · rename_i hh
    rw [Gr.there_iff] at hh
    have hl := h.line (y := y.toNat) (by omega)
    exact h.setL _ (LineOk.of (by rw [clearC_len _ _ _ _ (by omega) (by rw [hl.len]; omega), hl.len]) (clearC_tame _ _ hl.tame hs))
  · exact h
theorem gopen_ok {g : Gr} (h : g.Ok) (x y n : Int) {s : Sty} (hs : sright s = true) : (gopen g x y n s).Ok := by
  unfold gopen; split
  · rename_i hh
    rw [Gr.there_iff] at hh
    have hl := h.line (y := y.toNat) (by omega)
    have := nr_in (n := n) (a := 0) (b := g.w - x) (by omega)
    exact h.setL _ (LineOk.of (by rw [openC_len _ _ _ _ (by rw [hl.len]; omega), hl.len]) (openC_tame _ _ hl.tame hs))
  · exact h
theorem gshut_ok {g : Gr} (h : g.Ok) (x y n : Int) {s : Sty} (hs : sright s = true) : (gshut g x y n s).Ok := by
  unfold gshut; split
  · rename_i hh
    rw [Gr.there_iff] at hh
    have hl := h.line (y := y.toNat) (by omega)
    have := nr_in (n := n) (a := 0) (b := g.w - x) (by omega)
    exact h.setL _ (LineOk.of (by rw [shutC_len _ _ _ _ (by rw [hl.len]; omega), hl.len]) (shutC_tame _ _ hl.tame hs))
  · exact h
theorem upL_len (l : List (List Cel)) (w t e n : Nat) (s : Sty) (h1 : t + n ≤ e) (h2 : e ≤ l.length) : (upL l w t e n s).length = l.length := by simp [upL]; omega
theorem downL_len (l : List (List Cel)) (w t e n : Nat) (s : Sty) (h1 : t + n ≤ e) (h2 : e ≤ l.length) : (downL l w t e n s).length = l.length := by simp [downL]; omega
theorem upL_mem {l : List (List Cel)} {w t e n : Nat} {s : Sty} {x : List Cel} (h : x ∈ upL l w t e n s) : x ∈ l ∨ x = blanks w s := by
  simp only [upL, List.mem_append] at h
  rcases h with (h | h | h) | h
  · exact .inl (List.mem_of_mem_take h)
  · exact .inl (List.mem_of_mem_drop (List.mem_of_mem_take h))
  · exact .inr (List.mem_replicate.1 h).2
  · exact .inl (List.mem_of_mem_drop h)
theorem downL_mem {l : List (List Cel)} {w t e n : Nat} {s : Sty} {x : List Cel} (h : x ∈ downL l w t e n s) : x ∈ l ∨ x = blanks w s := by
  simp only [downL, List.mem_append] at h
  rcases h with (h | h | h) | h
  · exact .inl (List.mem_of_mem_take h)
  · exact .inr (List.mem_replicate.1 h).2
  · exact .inl (List.mem_of_mem_drop (List.mem_of_mem_take h))
  · exact .inl (List.mem_of_mem_drop h)
theorem gup_ok {g : Gr} (h : g.Ok) (a b n : Int) {s : Sty} (hs : sright s = true) : (gup g a b n s).1.Ok ∧ ∀ l ∈ (gup g a b n s).2, LineOk g.w l := by
  unfold gup; split
  · rename_i hh
    have hn := nr_in (n := n) (a := 0) (b := min b g.h - max a 0) (by omega)
    refine ⟨⟨h.w1, h.w2, h.h1, h.h2, (upL_len _ _ _ _ _ _ (by omega) (by rw [h.len]; omega)).trans h.len, fun l hl => ?_⟩, fun l hl => h.row l (List.mem_of_mem_drop (List.mem_of_mem_take hl))⟩
    rcases upL_mem hl with hl | rfl
    · exact h.row l hl
    · exact lineOk_blanks _ _ hs
  · exact ⟨h, fun l hl => by cases hl⟩
theorem gdown_ok {g : Gr} (h : g.Ok) (a b n : Int) {s : Sty} (hs : sright s = true) : (gdown g a b n s).Ok := by
  unfold gdown; split
  · rename_i hh
    have hn := nr_in (n := n) (a := 0) (b := min b g.h - max a 0) (by omega)
    refine ⟨h.w1, h.w2, h.h1, h.h2, (downL_len _ _ _ _ _ _ (by omega) (by rw [h.len]; omega)).trans h.len, fun l hl => ?_⟩
    rcases downL_mem hl with hl | rfl
    · exact h.row l hl
    · exact lineOk_blanks _ _ hs
  · exact h
theorem gup_w {g : Gr} (a b n : Int) (s : Sty) : (gup g a b n s).1.w = g.w ∧ (gup g a b n s).1.h = g.h := by unfold gup; split <;> exact ⟨rfl, rfl⟩
theorem gresize_ok {g : Gr} (h : g.Ok) (w v n : Int) : (gresize g w v n).1.Ok ∧ ∀ l ∈ (gresize g w v n).2, LineOk g.w l := by
  have h1 := nr_in (n := w) (a := 1) (b := 60) (by omega)
  have h2 := nr_in (n := v) (a := 1) (b := 60) (by omega)
  obtain ⟨ho, hl⟩ := gup_ok h 0 g.h n (s := zero) rfl
  refine ⟨⟨by simp only [gresize]; omega, by simp only [gresize]; omega, by simp only [gresize]; omega, by simp only [gresize]; omega, ?_, fun l hx => ?_⟩, hl⟩
  · simp only [gresize, fitG, List.length_append, List.length_map, List.length_take, List.length_replicate]
    omega
  · simp only [gresize, fitG, List.mem_append] at hx
    rcases hx with hx | hx
    · obtain ⟨x, hm, rfl⟩ := List.mem_map.1 hx
      exact fitL_ok _ (ho.row x (List.mem_of_mem_take hm)).tame
    · rw [(List.mem_replicate.1 hx).2]
      exact lineOk_blanks _ _ rfl

/-- A deed. -/
structure De where
  kind : Int
  a : Int
  b : Int
  c : Int
  cel : Cel
def De.k (d : De) : Nat := (d.kind % 65536 % 7).toNat
theorem De.k_lt (d : De) : d.k < 7 := by unfold De.k; omega
/-- A deed done: the grid behind it, and what goes out. -/
def gdo (g : Gr) (d : De) : Gr × List (List Cel) :=
  if d.k = 0 then (gput g d.a d.b d.cel, [])
  else if d.k = 1 then (gclear g d.a d.b d.c (stame d.cel.sty), [])
  else if d.k = 2 then gup g d.a d.b d.c (stame d.cel.sty)
  else if d.k = 3 then (gdown g d.a d.b d.c (stame d.cel.sty), [])
  else if d.k = 4 then (gopen g d.a d.b d.c (stame d.cel.sty), [])
  else if d.k = 5 then (gshut g d.a d.b d.c (stame d.cel.sty), [])
  else gresize g d.a d.b d.c
theorem gdo_ok {g : Gr} (h : g.Ok) (d : De) : (gdo g d).1.Ok ∧ ∀ l ∈ (gdo g d).2, LineOk g.w l := by
  have hs := stame_right d.cel.sty
  unfold gdo
  split
  · exact ⟨gput_ok h _ _ _, fun l hl => by cases hl⟩
  split
  · exact ⟨gclear_ok h _ _ _ hs, fun l hl => by cases hl⟩
  split
  · exact gup_ok h _ _ _ hs
  split
  · exact ⟨gdown_ok h _ _ _ hs, fun l hl => by cases hl⟩
  split
  · exact ⟨gopen_ok h _ _ _ hs, fun l hl => by cases hl⟩
  split
  · exact ⟨gshut_ok h _ _ _ hs, fun l hl => by cases hl⟩
  · exact gresize_ok h _ _ _
end Go.Proofs.YtbpkklcegiiheaaDoor.KM
