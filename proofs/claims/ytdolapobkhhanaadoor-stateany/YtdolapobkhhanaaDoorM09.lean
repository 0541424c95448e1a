/-
  DMath, DRep, DCat, DGrid, in one text.
-/
import Derived.Test.YtdolapobkhhanaaDoorM01
import Derived.Test.YtdolapobkhhanaaDoorM08
import Derived.Deep.RegionHeld3
/-
  Layer 9 (grid): grids and what is done with them, by the chapter's words. No program.
-/
namespace Go.Proofs.YtdolapobkhhanaaDoor.KM

/-- A blank cell of a style; so many. -/
def blankS (s : Sty) : Cel := ⟨32, ⟨false, false, false, 0, s.back⟩⟩
def blanks (n : Nat) (s : Sty) : List Cel := List.replicate n (blankS s)
/-- A style that is right: itself; else the zero one. -/
def stame (s : Sty) : Sty := if sright s = true then s else zero
theorem stame_right (s : Sty) : sright (stame s) = true := by
  unfold stame; split
  · assumption
  · rfl
theorem blanks_len (n : Nat) (s : Sty) : (blanks n s).length = n := by simp [blanks]
theorem blanks_mem {n : Nat} {s : Sty} {c : Cel} (h : c ∈ blanks n s) : c = blankS s := (List.mem_replicate.1 h).2
theorem blankS_tame {s : Sty} (h : sright s = true) : tame (blankS s) := by
  rw [sright_iff] at h
  refine ⟨?_, .inr right32⟩
  rw [sright_iff]
  simp only [blankS]
  omega
theorem blanks_tame {n : Nat} {s : Sty} (h : sright s = true) : ∀ c ∈ blanks n s, tame c := fun c hc => by rw [blanks_mem hc]; exact blankS_tame h
theorem blanks_at {n : Nat} {s : Sty} {j : Nat} (h : j < n) : (blanks n s)[j]? = some (blankS s) := by simp [blanks, h]

/-! ### mending beside blanks -/
theorem halves_blank (c : Cel) (s : Sty) : halves c (blankS s) = false := by
  rw [← Bool.not_eq_true, halves_iff]
  intro h
  have h2 := h.2.1
  simp [blankS] at h2
theorem alone_blank (p : Option Cel) (s : Sty) (n : Option Cel) : aloneN p (blankS s) n = false := by
  unfold aloneN
  rw [if_neg (by simp [blankS]), if_neg (by simp [blankS, wide32])]
theorem fix_blank (p : Option Cel) (s : Sty) (n : Option Cel) : fixN p (blankS s) n = blankS s := by
  unfold fixN
  rw [alone_blank]
  simp
theorem mendP_blanks (p : Option Cel) (n : Nat) (s : Sty) : mendP p (blanks n s) = blanks n s := by
  induction n generalizing p with
  | zero => rfl
  | succ n ih =>
    show fixN p (blankS s) _ :: mendP _ (blanks n s) = _
    rw [fix_blank, ih]
    rfl
theorem fix_next_blank (p : Option Cel) (c : Cel) (s : Sty) : fixN p c (some (blankS s)) = fixN p c none := by
  have : aloneN p c (some (blankS s)) = aloneN p c none := by
    unfold aloneN
    simp [halves_blank]
  unfold fixN
  rw [this]
theorem mendP_append_blanks (p : Option Cel) (l : List Cel) (n : Nat) (s : Sty) : mendP p (l ++ blanks n s) = mendP p l ++ blanks n s := by
  induction l generalizing p with
  | nil => exact mendP_blanks p n s
  | cons c r ih =>
    rw [List.cons_append, mendP, mendP, ih, List.cons_append]
    congr 1
    cases r with
    | cons d r => rfl
    | nil =>
      cases n with
      | zero => rfl
      | succ n => exact fix_next_blank p c s
theorem mend_append_blanks (l : List Cel) (n : Nat) (s : Sty) : mend (l ++ blanks n s) = mend l ++ blanks n s := mendP_append_blanks none l n s
theorem mend_blanks (n : Nat) (s : Sty) : mend (blanks n s) = blanks n s := mendP_blanks none n s
theorem whole_blanks (n : Nat) : whole (blanks n zero) = true := (whole_iff _ (blanks_tame rfl)).2 (mend_blanks n zero)

/-! ### a grid -/
structure Gr where
  w : Nat
  h : Nat
  ls : List (List Cel)
/-- A line of w cells that is whole. -/
structure LineOk (w : Nat) (l : List Cel) : Prop where
  len : l.length = w
  whole : whole l = true
  tame : ∀ c ∈ l, tame c
structure Gr.Ok (g : Gr) : Prop where
  w1 : 1 ≤ g.w
  w2 : g.w ≤ 60
  h1 : 1 ≤ g.h
  h2 : g.h ≤ 60
  len : g.ls.length = g.h
  row : ∀ l ∈ g.ls, LineOk g.w l
theorem LineOk.mend {w : Nat} {l : List Cel} (h : LineOk w l) : KM.mend l = l := (whole_iff l h.tame).1 h.whole
theorem LineOk.of {w : Nat} {l : List Cel} (hl : l.length = w) (h : ∀ c ∈ l, KM.tame c) : LineOk w (KM.mend l) := ⟨by rw [mend_len, hl], mend_whole l h, mend_tame l h⟩
theorem lineOk_blanks (w : Nat) (s : Sty) (h : sright s = true) : LineOk w (blanks w s) := by
  have := LineOk.of (blanks_len w s) (blanks_tame h)
  rwa [mend_blanks] at this

/-- The nearest number from a up to b. -/
def nr (n a b : Int) : Int := max a (min n b)
theorem nr_in {n a b : Int} (h : a ≤ b) : a ≤ nr n a b ∧ nr n a b ≤ b := by unfold nr; omega
/-- .. as the law has it. -/
theorem within_nr {n a b : Int} (h : a ≤ b) : min (max n a) b = nr n a b := by unfold nr; omega

/-- A new grid. -/
def gnew (w h : Int) : Gr := ⟨(nr w 1 60).toNat, (nr h 1 60).toNat, List.replicate (nr h 1 60).toNat (blanks (nr w 1 60).toNat zero)⟩
theorem gnew_ok (w h : Int) : (gnew w h).Ok := by
  have h1 := nr_in (n := w) (a := 1) (b := 60) (by omega)
  have h2 := nr_in (n := h) (a := 1) (b := 60) (by omega)
  refine ⟨by simp only [gnew]; omega, by simp only [gnew]; omega, by simp only [gnew]; omega, by simp only [gnew]; omega, by simp [gnew], fun l hl => ?_⟩
  rw [(List.mem_replicate.1 hl).2]
  exact lineOk_blanks _ _ rfl

/-- Is a place there? -/
def Gr.there (g : Gr) (x y : Int) : Bool := decide (0 ≤ x) && decide (x < g.w) && decide (0 ≤ y) && decide (y < g.h)
theorem Gr.there_iff (g : Gr) (x y : Int) : g.there x y = true ↔ (0 ≤ x ∧ x < g.w) ∧ (0 ≤ y ∧ y < g.h) := by
  simp [Gr.there, and_assoc]
/-- A line changed. -/
def Gr.setL (g : Gr) (y : Nat) (l : List Cel) : Gr := ⟨g.w, g.h, g.ls.set y l⟩
theorem Gr.Ok.setL {g : Gr} (h : g.Ok) (y : Nat) {l : List Cel} (hl : LineOk g.w l) : (g.setL y l).Ok := by
  refine ⟨h.w1, h.w2, h.h1, h.h2, by simp [Gr.setL, h.len], fun x hx => ?_⟩
  rcases List.mem_or_eq_of_mem_set hx with hx | rfl
  · exact h.row x hx
  · exact hl
/-- A grid's line; none where there is none. -/
def Gr.line (g : Gr) (y : Nat) : List Cel := g.ls.getD y []
theorem Gr.Ok.line {g : Gr} (h : g.Ok) {y : Nat} (hy : y < g.h) : LineOk g.w (g.line y) := by
  have hl : y < g.ls.length := by rw [h.len]; exact hy
  have : g.line y = g.ls[y] := by simp [Gr.line, hl]
  rw [this]
  exact h.row _ (List.getElem_mem _)

/-! ### lines changed -/
def putC (l : List Cel) (x : Nat) (c : Cel) : List Cel := if GM.wide c.rune = true ∧ x + 1 < l.length then (l.set x c).set (x + 1) ⟨0, c.sty⟩ else l.set x c
def clearC (l : List Cel) (a b : Nat) (s : Sty) : List Cel := l.take a ++ blanks (b - a) s ++ l.drop b
def openC (l : List Cel) (x n : Nat) (s : Sty) : List Cel := l.take x ++ blanks n s ++ (l.drop x).take (l.length - n - x)
def shutC (l : List Cel) (x n : Nat) (s : Sty) : List Cel := l.take x ++ l.drop (x + n) ++ blanks n s
/-- A line of so many cells. -/
def fitL (l : List Cel) (w : Nat) : List Cel := mend (l.take w) ++ blanks (w - l.length) zero

theorem putC_len (l : List Cel) (x : Nat) (c : Cel) : (putC l x c).length = l.length := by unfold putC; split <;> simp
theorem clearC_len (l : List Cel) (a b : Nat) (s : Sty) (h1 : a ≤ b) (h2 : b ≤ l.length) : (clearC l a b s).length = l.length := by simp [clearC, blanks_len]; omega
theorem openC_len (l : List Cel) (x n : Nat) (s : Sty) (h : x + n ≤ l.length) : (openC l x n s).length = l.length := by simp [openC, blanks_len]; omega
theorem shutC_len (l : List Cel) (x n : Nat) (s : Sty) (h : x + n ≤ l.length) : (shutC l x n s).length = l.length := by simp [shutC, blanks_len]; omega
theorem fitL_len (l : List Cel) (w : Nat) : (fitL l w).length = w := by simp [fitL, blanks_len, mend_len]; omega
theorem fitL_eq (l : List Cel) (w : Nat) : fitL l w = mend (l.take w ++ blanks (w - l.length) zero) := by rw [mend_append_blanks]; rfl
theorem fitL_blanks (n w : Nat) : fitL (blanks n zero) w = blanks w zero := by
  rw [fitL_eq]
  have : (blanks n zero).take w ++ blanks (w - (blanks n zero).length) zero = blanks w zero := by
    simp only [blanks, List.take_replicate, List.length_replicate, List.replicate_append_replicate]
    congr 1; omega
  rw [this, mend_blanks]
theorem tame_rest {c : Cel} (h : sright c.sty = true) : tame ⟨0, c.sty⟩ := ⟨h, .inl rfl⟩
theorem putC_tame {l : List Cel} (x : Nat) {c : Cel} (h : ∀ c ∈ l, tame c) (hc : cright c = true) : ∀ d ∈ putC l x c, tame d := by
  unfold cright at hc
  rw [Bool.and_eq_true] at hc
  have h1 : tame c := ⟨hc.2, .inr hc.1⟩
  have hs : ∀ d ∈ l.set x c, tame d := fun d hd => by
    rcases List.mem_or_eq_of_mem_set hd with hd | rfl
    · exact h d hd
    · exact h1
  intro d hd
  unfold putC at hd
  split at hd
  · rcases List.mem_or_eq_of_mem_set hd with hd | rfl
    · exact hs d hd
    · exact tame_rest hc.2
  · exact hs d hd
theorem clearC_tame {l : List Cel} (a b : Nat) {s : Sty} (h : ∀ c ∈ l, tame c) (hs : sright s = true) : ∀ d ∈ clearC l a b s, tame d := by
  intro d hd
  simp only [clearC, List.mem_append] at hd
  rcases hd with (hd | hd) | hd
  · exact h d (List.mem_of_mem_take hd)
  · exact blanks_tame hs d hd
  · exact h d (List.mem_of_mem_drop hd)
theorem openC_tame {l : List Cel} (x n : Nat) {s : Sty} (h : ∀ c ∈ l, tame c) (hs : sright s = true) : ∀ d ∈ openC l x n s, tame d := by
  intro d hd
  simp only [openC, List.mem_append] at hd
  rcases hd with (hd | hd) | hd
  · exact h d (List.mem_of_mem_take hd)
  · exact blanks_tame hs d hd
  · exact h d (List.mem_of_mem_drop (List.mem_of_mem_take hd))
theorem shutC_tame {l : List Cel} (x n : Nat) {s : Sty} (h : ∀ c ∈ l, tame c) (hs : sright s = true) : ∀ d ∈ shutC l x n s, tame d := by
  intro d hd
  simp only [shutC, List.mem_append] at hd
  rcases hd with (hd | hd) | hd
  · exact h d (List.mem_of_mem_take hd)
  · exact h d (List.mem_of_mem_drop hd)
  · exact blanks_tame hs d hd
theorem fitL_ok {l : List Cel} (w : Nat) (h : ∀ c ∈ l, tame c) : LineOk w (fitL l w) := by
  rw [fitL_eq]
  refine LineOk.of ?_ ?_
  · have := fitL_len l w
    rw [fitL_eq, mend_len] at this
    exact this
  · intro c hc
    rcases List.mem_append.1 hc with hc | hc
    · exact h c (List.mem_of_mem_take hc)
    · exact blanks_tame rfl c hc

/-! ### what is done with a grid -/
def gput (g : Gr) (x y : Int) (c : Cel) : Gr := if (g.there x y && cright c) = true then g.setL y.toNat (mend (putC (g.line y.toNat) x.toNat c)) else g
def gclear (g : Gr) (y a b : Int) (s : Sty) : Gr := if g.there 0 y = true ∧ max a 0 < min b g.w then g.setL y.toNat (mend (clearC (g.line y.toNat) (max a 0).toNat (min b g.w).toNat s)) else g
def gopen (g : Gr) (x y n : Int) (s : Sty) : Gr := if g.there x y = true then g.setL y.toNat (mend (openC (g.line y.toNat) x.toNat (nr n 0 (g.w - x)).toNat s)) else g
def gshut (g : Gr) (x y n : Int) (s : Sty) : Gr := if g.there x y = true then g.setL y.toNat (mend (shutC (g.line y.toNat) x.toNat (nr n 0 (g.w - x)).toNat s)) else g
/-- The lines of a part: from which, as many, how many of them go. -/
def Gr.top (_g : Gr) (a : Int) : Nat := (max a 0).toNat
def Gr.end_ (g : Gr) (b : Int) : Nat := (min b g.h).toNat
def upL (l : List (List Cel)) (w t e n : Nat) (s : Sty) : List (List Cel) := l.take t ++ ((l.drop (t + n)).take (e - t - n) ++ List.replicate n (blanks w s)) ++ l.drop e
def downL (l : List (List Cel)) (w t e n : Nat) (s : Sty) : List (List Cel) := l.take t ++ (List.replicate n (blanks w s) ++ (l.drop t).take (e - t - n)) ++ l.drop e
def gup (g : Gr) (a b n : Int) (s : Sty) : Gr × List (List Cel) :=
  if max a 0 < min b g.h then (⟨g.w, g.h, upL g.ls g.w (max a 0).toNat (min b g.h).toNat (nr n 0 (min b g.h - max a 0)).toNat s⟩, (g.ls.drop (max a 0).toNat).take (nr n 0 (min b g.h - max a 0)).toNat) else (g, [])
def gdown (g : Gr) (a b n : Int) (s : Sty) : Gr :=
  if max a 0 < min b g.h then ⟨g.w, g.h, downL g.ls g.w (max a 0).toNat (min b g.h).toNat (nr n 0 (min b g.h - max a 0)).toNat s⟩ else g
/-- Lines, each so wide, so many. -/
def fitG (l : List (List Cel)) (w h : Nat) : List (List Cel) := (l.take h).map (fun x => fitL x w) ++ List.replicate (h - l.length) (blanks w zero)
def gresize (g : Gr) (w h n : Int) : Gr × List (List Cel) :=
  (⟨(nr w 1 60).toNat, (nr h 1 60).toNat, fitG (gup g 0 g.h n zero).1.ls (nr w 1 60).toNat (nr h 1 60).toNat⟩, (gup g 0 g.h n zero).2)

theorem gput_ok {g : Gr} (h : g.Ok) (x y : Int) (c : Cel) : (gput g x y c).Ok := by
  unfold gput; split
  · rename_i hh
    rw [Bool.and_eq_true, Gr.there_iff] at hh
    have hl := h.line (y := y.toNat) (by omega)
    exact h.setL _ (LineOk.of (by rw [putC_len, hl.len]) (putC_tame _ hl.tame hh.2))
  · exact h
theorem gclear_ok {g : Gr} (h : g.Ok) (y a b : Int) {s : Sty} (hs : sright s = true) : (gclear g y a b s).Ok := by
  unfold gclear; split
  · rename_i hh
    rw [Gr.there_iff] at hh
    have hl := h.line (y := y.toNat) (by omega)
    exact h.setL _ (LineOk.of (by rw [clearC_len _ _ _ _ (by omega) (by rw [hl.len]; omega), hl.len]) (clearC_tame _ _ hl.tame hs))
  · exact h
theorem gopen_ok {g : Gr} (h : g.Ok) (x y n : Int) {s : Sty} (hs : sright s = true) : (gopen g x y n s).Ok := by
  unfold gopen; split
  · rename_i hh
    rw [Gr.there_iff] at hh
    have hl := h.line (y := y.toNat) (by omega)
    have := nr_in (n := n) (a := 0) (b := g.w - x) (by omega)
    exact h.setL _ (LineOk.of (by rw [openC_len _ _ _ _ (by rw [hl.len]; omega), hl.len]) (openC_tame _ _ hl.tame hs))
  · exact h
theorem gshut_ok {g : Gr} (h : g.Ok) (x y n : Int) {s : Sty} (hs : sright s = true) : (gshut g x y n s).Ok := by
  unfold gshut; split
  · rename_i hh
    rw [Gr.there_iff] at hh
    have hl := h.line (y := y.toNat) (by omega)
    have := nr_in (n := n) (a := 0) (b := g.w - x) (by omega)
    exact h.setL _ (LineOk.of (by rw [shutC_len _ _ _ _ (by rw [hl.len]; omega), hl.len]) (shutC_tame _ _ hl.tame hs))
  · exact h
theorem upL_len (l : List (List Cel)) (w t e n : Nat) (s : Sty) (h1 : t + n ≤ e) (h2 : e ≤ l.length) : (upL l w t e n s).length = l.length := by simp [upL]; omega
theorem downL_len (l : List (List Cel)) (w t e n : Nat) (s : Sty) (h1 : t + n ≤ e) (h2 : e ≤ l.length) : (downL l w t e n s).length = l.length := by simp [downL]; omega
theorem upL_mem {l : List (List Cel)} {w t e n : Nat} {s : Sty} {x : List Cel} (h : x ∈ upL l w t e n s) : x ∈ l ∨ x = blanks w s := by
  simp only [upL, List.mem_append] at h
  rcases h with (h | h | h) | h
  · exact .inl (List.mem_of_mem_take h)
  · exact .inl (List.mem_of_mem_drop (List.mem_of_mem_take h))
  · exact .inr (List.mem_replicate.1 h).2
  · exact .inl (List.mem_of_mem_drop h)
theorem downL_mem {l : List (List Cel)} {w t e n : Nat} {s : Sty} {x : List Cel} (h : x ∈ downL l w t e n s) : x ∈ l ∨ x = blanks w s := by
  simp only [downL, List.mem_append] at h
  rcases h with (h | h | h) | h
  · exact .inl (List.mem_of_mem_take h)
  · exact .inr (List.mem_replicate.1 h).2
  · exact .inl (List.mem_of_mem_drop (List.mem_of_mem_take h))
  · exact .inl (List.mem_of_mem_drop h)
theorem gup_ok {g : Gr} (h : g.Ok) (a b n : Int) {s : Sty} (hs : sright s = true) : (gup g a b n s).1.Ok ∧ ∀ l ∈ (gup g a b n s).2, LineOk g.w l := by
  unfold gup; split
  · rename_i hh
    have hn := nr_in (n := n) (a := 0) (b := min b g.h - max a 0) (by omega)
    refine ⟨⟨h.w1, h.w2, h.h1, h.h2, (upL_len _ _ _ _ _ _ (by omega) (by rw [h.len]; omega)).trans h.len, fun l hl => ?_⟩, fun l hl => h.row l (List.mem_of_mem_drop (List.mem_of_mem_take hl))⟩
    rcases upL_mem hl with hl | rfl
    · exact h.row l hl
    · exact lineOk_blanks _ _ hs
  · exact ⟨h, fun l hl => by cases hl⟩
theorem gdown_ok {g : Gr} (h : g.Ok) (a b n : Int) {s : Sty} (hs : sright s = true) : (gdown g a b n s).Ok := by
  unfold gdown; split
  · rename_i hh
    have hn := nr_in (n := n) (a := 0) (b := min b g.h - max a 0) (by omega)
    refine ⟨h.w1, h.w2, h.h1, h.h2, (downL_len _ _ _ _ _ _ (by omega) (by rw [h.len]; omega)).trans h.len, fun l hl => ?_⟩
    rcases downL_mem hl with hl | rfl
    · exact h.row l hl
    · exact lineOk_blanks _ _ hs
  · exact h
theorem gup_w {g : Gr} (a b n : Int) (s : Sty) : (gup g a b n s).1.w = g.w ∧ (gup g a b n s).1.h = g.h := by unfold gup; split <;> exact ⟨rfl, rfl⟩
theorem gresize_ok {g : Gr} (h : g.Ok) (w v n : Int) : (gresize g w v n).1.Ok ∧ ∀ l ∈ (gresize g w v n).2, LineOk g.w l := by
  have h1 := nr_in (n := w) (a := 1) (b := 60) (by omega)
  have h2 := nr_in (n := v) (a := 1) (b := 60) (by omega)
  obtain ⟨ho, hl⟩ := gup_ok h 0 g.h n (s := zero) rfl
  refine ⟨⟨by simp only [gresize]; omega, by simp only [gresize]; omega, by simp only [gresize]; omega, by simp only [gresize]; omega, ?_, fun l hx => ?_⟩, hl⟩
  · simp only [gresize, fitG, List.length_append, List.length_map, List.length_take, List.length_replicate]
    omega
  · simp only [gresize, fitG, List.mem_append] at hx
    rcases hx with hx | hx
    · obtain ⟨x, hm, rfl⟩ := List.mem_map.1 hx
      exact fitL_ok _ (ho.row x (List.mem_of_mem_take hm)).tame
    · rw [(List.mem_replicate.1 hx).2]
      exact lineOk_blanks _ _ rfl

/-- A deed. -/
structure De where
  kind : Int
  a : Int
  b : Int
  c : Int
  cel : Cel
def De.k (d : De) : Nat := (d.kind % 65536 % 7).toNat
theorem De.k_lt (d : De) : d.k < 7 := by unfold De.k; omega
/-- A deed done: the grid behind it, and what goes out. -/
def gdo (g : Gr) (d : De) : Gr × List (List Cel) :=
  if d.k = 0 then (gput g d.a d.b d.cel, [])
  else if d.k = 1 then (gclear g d.a d.b d.c (stame d.cel.sty), [])
  else if d.k = 2 then gup g d.a d.b d.c (stame d.cel.sty)
  else if d.k = 3 then (gdown g d.a d.b d.c (stame d.cel.sty), [])
  else if d.k = 4 then (gopen g d.a d.b d.c (stame d.cel.sty), [])
  else if d.k = 5 then (gshut g d.a d.b d.c (stame d.cel.sty), [])
  else gresize g d.a d.b d.c
theorem gdo_ok {g : Gr} (h : g.Ok) (d : De) : (gdo g d).1.Ok ∧ ∀ l ∈ (gdo g d).2, LineOk g.w l := by
  have hs := stame_right d.cel.sty
  unfold gdo
  split
  · exact ⟨gput_ok h _ _ _, fun l hl => by cases hl⟩
  split
  · exact ⟨gclear_ok h _ _ _ hs, fun l hl => by cases hl⟩
  split
  · exact gup_ok h _ _ _ hs
  split
  · exact ⟨gdown_ok h _ _ _ hs, fun l hl => by cases hl⟩
  split
  · exact ⟨gopen_ok h _ _ _ hs, fun l hl => by cases hl⟩
  split
  · exact ⟨gshut_ok h _ _ _ hs, fun l hl => by cases hl⟩
  · exact gresize_ok h _ _ _
end Go.Proofs.YtdolapobkhhanaaDoor.KM
/-
  Rows cut; math/bits.Mul of 1 and a number; slices.Repeat of one cell; the grid's blanks.
-/
namespace Go.Proofs.YtdolapobkhhanaaDoor
open Go.RowKit Go.Lib KM

section
variable {α : Type} (E : El α) {w : World}
/-- Where a cut begins. -/
def El.cutA (A : Option Addr) (c k : Nat) : Option Addr := if c = k then A else A.map (·.add (k * E.s))
theorem El.cutA_some (b o c k : Nat) (h : c ≠ k) : E.cutA (some ⟨b, o, none⟩) c k = some ⟨b, o + k * E.s, none⟩ := by
  unfold El.cutA
  rw [if_neg h]
  simp only [Option.map_some, Option.some.injEq]
  unfold Addr.add; split <;> simp_all
theorem El.elem_eq : Tryd.prog.elem E.sl = E.ty := by
  unfold Program.elem
  rw [E.und]
theorem El.und' : Tryd.prog.underlying E.sl = some (.slice (Tryd.prog.elem E.sl)) := by rw [E.elem_eq]; exact E.und
theorem El.sizeOf_run (w : World) : (sizeOf (Tryd.prog.elem E.sl)).run Tryd.prog w = .ok E.s w := by
  obtain ⟨i, hi, hs, _, _⟩ := E.size_of
  rw [E.elem_eq]
  simp [sizeOf, typeInfo, hi, hs]
theorem El.run_cut (A : Option Addr) (n c k : Nat) (w : World) (h : k ≤ n) : (Instr.slice E.sl (.slice A n c) (some (.int .i64 (k : Int))) none none).run Tryd.prog w = .ok (.slice (E.cutA A c k) (n - k) (c - k)) w := by
  rw [run_slice_l (P := Tryd.prog) (w := w) (t := E.sl) (a := A) (len := n) (cap := c) E.und' .i64 (k : Int) (by omega) (by omega), E.sizeOf_run]
  simp [Result.andThen, sliced, El.cutA]
theorem El.run_head (A : Option Addr) (n c k : Nat) (w : World) (h : k ≤ c) : (Instr.slice E.sl (.slice A n c) none (some (.int .i64 (k : Int))) none).run Tryd.prog w = .ok (.slice A k c) w := by
  rw [run_slice_h (P := Tryd.prog) (w := w) (t := E.sl) (a := A) (len := n) (cap := c) E.und' .i64 (k : Int) (by omega) (by omega), E.sizeOf_run]
  have e : A.map (fun a => a.add 0) = A := by cases A <;> simp [Addr.add]
  simp [Result.andThen, sliced, e]
theorem El.run_mid (A : Option Addr) (n c k j : Nat) (w : World) (h : k ≤ j) (hj : j ≤ c) : (Instr.slice E.sl (.slice A n c) (some (.int .i64 (k : Int))) (some (.int .i64 (j : Int))) none).run Tryd.prog w = .ok (.slice (E.cutA A c k) (j - k) (c - k)) w := by
  rw [run_slice_lh (P := Tryd.prog) (w := w) (t := E.sl) (a := A) (len := n) (cap := c) E.und' .i64 .i64 (k : Int) (j : Int) (by omega) (by omega) (by omega), E.sizeOf_run]
  simp [Result.andThen, sliced, El.cutA]
theorem El.run_three (A : Option Addr) (n c k : Nat) (w : World) (h : k ≤ c) : (Instr.slice E.sl (.slice A n c) none (some (.int .i64 (k : Int))) (some (.int .i64 (k : Int)))).run Tryd.prog w = .ok (.slice A k k) w := by
  rw [run_slice_hm (P := Tryd.prog) (w := w) (t := E.sl) (a := A) (len := n) (cap := c) E.und' .i64 .i64 (k : Int) (k : Int) (by omega) (by omega) (by omega), E.sizeOf_run]
  have e : A.map (fun a => a.add 0) = A := by cases A <;> simp [Addr.add]
  simp [Result.andThen, sliced, e]
variable {E}
theorem El.Row.cut {B c k : Nat} {A : Option Addr} {L : List α} (h : E.Row w B A L) (hk : k ≤ L.length) (hc : L.length ≤ c) : E.Row w B (E.cutA A c k) (L.drop k) := fun hp => by
  rw [List.length_drop] at hp
  obtain ⟨b, off, rfl, hb, hcell⟩ := h (by omega)
  refine ⟨b, off + k * E.s, E.cutA_some b off c k (by omega), hb, fun j hj => ?_⟩
  rw [List.length_drop] at hj
  have hm : k * E.s + (L.length - k) * E.s = L.length * E.s := by rw [← Nat.add_mul]; congr 1; omega
  rw [Nat.add_assoc, hcell _ (by omega), E.cells_drop, List.getElem?_drop]
theorem El.Row.mid {B c k j : Nat} {A : Option Addr} {L : List α} (h : E.Row w B A L) (hk : k ≤ j) (hj : j ≤ L.length) (hc : L.length ≤ c) : E.Row w B (E.cutA A c k) ((L.drop k).take (j - k)) := (h.cut (by omega) hc).take _
/-- copy into a row of the call's own, from element o of it on. -/
theorem El.copy_own {base c0 : Nat} {v : Value} {L : List α} (h : E.Own w base v L) {g : Nat} (hv : v = .slice (some ⟨g, 0, none⟩) L.length c0) (ty : TypeId) (D : Option Addr) (dLen dCap : Nat) (A : Option Addr) (M : List α) (n c B o k : Nat) (hr : E.Row w B A M) (hn : n = M.length)
    (hk : k = min M.length dLen) (hD : 0 < k → D = some ⟨g, o * E.s, none⟩) (ho : o + k ≤ L.length) :
    ∃ w', (Builtin.copy_ #[E.sl, E.sl] ty #[.slice D dLen dCap, .slice A n c]).run Tryd.prog w = .ok (.int .i64 (k : Int)) w' ∧ E.Own w' base v (L.take o ++ M.take k ++ L.drop (o + k)) ∧ Fr (· = g) w w' ∧ w'.heap.size = w.heap.size := by
  obtain ⟨cur, hg, hcs, hcl, _⟩ := h.block hv
  have hml : (M.take k).length = k := by rw [List.length_take]; omega
  have hfit : o * E.s + k * E.s ≤ cur.size := by
    rw [hcs, ← Nat.add_mul]
    exact Nat.mul_le_mul_right _ (by omega)
  refine ⟨_, E.run_copy w ty D dLen dCap A M n c B hr hn g (o * E.s) k cur E.ty hg hk hD hfit, ?_, Fr.setRow _ rfl, by simp [World.setRow]⟩
  have := h.splice hv hg (M.take k) o (by omega)
  rw [hml] at this
  exact this
end

section
variable {w : World} {base c0 : Nat} {v : Value} {A : Option Addr}
theorem copyC {L : List Cel} (h : celE.Own w base v L) {g : Nat} (hv : v = .slice (some ⟨g, 0, none⟩) L.length c0) (ty : TypeId) (D : Option Addr) (dLen dCap : Nat) (A : Option Addr) (M : List Cel) (n c B o k : Nat) (hr : celE.Row w B A M) (hn : n = M.length)
    (hk : k = min M.length dLen) (hD : 0 < k → D = some ⟨g, o * 6, none⟩) (ho : o + k ≤ L.length) :
    ∃ w', (Builtin.copy_ #[48, 48] ty #[.slice D dLen dCap, .slice A n c]).run Tryd.prog w = .ok (.int .i64 (k : Int)) w' ∧ celE.Own w' base v (L.take o ++ M.take k ++ L.drop (o + k)) ∧ Fr (· = g) w w' ∧ w'.heap.size = w.heap.size :=
  El.copy_own h hv ty D dLen dCap A M n c B o k hr hn hk hD ho
theorem copyL {L : List Sl} (h : linE.Own w base v L) {g : Nat} (hv : v = .slice (some ⟨g, 0, none⟩) L.length c0) (ty : TypeId) (D : Option Addr) (dLen dCap : Nat) (A : Option Addr) (M : List Sl) (n c B o k : Nat) (hr : linE.Row w B A M) (hn : n = M.length)
    (hk : k = min M.length dLen) (hD : 0 < k → D = some ⟨g, o, none⟩) (ho : o + k ≤ L.length) :
    ∃ w', (Builtin.copy_ #[35, 35] ty #[.slice D dLen dCap, .slice A n c]).run Tryd.prog w = .ok (.int .i64 (k : Int)) w' ∧ linE.Own w' base v (L.take o ++ M.take k ++ L.drop (o + k)) ∧ Fr (· = g) w w' ∧ w'.heap.size = w.heap.size :=
  El.copy_own h hv ty D dLen dCap A M n c B o k hr hn hk (fun h => by rw [hD h]; simp [linE]) ho
theorem cutC (A : Option Addr) (n c k : Nat) (w : World) (h : k ≤ n) : (Instr.slice 48 (.slice A n c) (some (.int .i64 (k : Int))) none none).run Tryd.prog w = .ok (.slice (celE.cutA A c k) (n - k) (c - k)) w := celE.run_cut A n c k w h
theorem headC (A : Option Addr) (n c k : Nat) (w : World) (h : k ≤ c) : (Instr.slice 48 (.slice A n c) none (some (.int .i64 (k : Int))) none).run Tryd.prog w = .ok (.slice A k c) w := celE.run_head A n c k w h
theorem midC (A : Option Addr) (n c k j : Nat) (w : World) (h : k ≤ j) (hj : j ≤ c) : (Instr.slice 48 (.slice A n c) (some (.int .i64 (k : Int))) (some (.int .i64 (j : Int))) none).run Tryd.prog w = .ok (.slice (celE.cutA A c k) (j - k) (c - k)) w := celE.run_mid A n c k j w h hj
theorem cutL (A : Option Addr) (n c k : Nat) (w : World) (h : k ≤ n) : (Instr.slice 35 (.slice A n c) (some (.int .i64 (k : Int))) none none).run Tryd.prog w = .ok (.slice (linE.cutA A c k) (n - k) (c - k)) w := linE.run_cut A n c k w h
theorem headL (A : Option Addr) (n c k : Nat) (w : World) (h : k ≤ c) : (Instr.slice 35 (.slice A n c) none (some (.int .i64 (k : Int))) none).run Tryd.prog w = .ok (.slice A k c) w := linE.run_head A n c k w h
theorem midL (A : Option Addr) (n c k j : Nat) (w : World) (h : k ≤ j) (hj : j ≤ c) : (Instr.slice 35 (.slice A n c) (some (.int .i64 (k : Int))) (some (.int .i64 (j : Int))) none).run Tryd.prog w = .ok (.slice (linE.cutA A c k) (j - k) (c - k)) w := linE.run_mid A n c k j w h hj
theorem threeL (A : Option Addr) (n c k : Nat) (w : World) (h : k ≤ c) : (Instr.slice 35 (.slice A n c) none (some (.int .i64 (k : Int))) (some (.int .i64 (k : Int)))).run Tryd.prog w = .ok (.slice A k k) w := linE.run_three A n c k w h
end

/-! ### math/bits.Mul -/
theorem u64_and32 (n : Nat) (h : n < 4294967296) : bits .and .u64 (n : Int) 4294967295 = (n : Int) := by
  have h127 : (BitVec.ofInt 64 4294967295).toNat = 2 ^ 32 - 1 := by decide
  have key : (BitVec.ofInt 64 (n : Int) &&& BitVec.ofInt 64 4294967295).toNat = n := by
    rw [BitVec.toNat_and, BitVec.toNat_ofInt, h127, Nat.and_two_pow_sub_one_eq_mod]
    omega
  show IntKind.u64.wrap ((BitVec.ofInt 64 (n : Int) &&& BitVec.ofInt 64 4294967295).toNat : Nat) = n
  rw [key, IntKind.wrap_u64]
  omega
set_option maxRecDepth 100000 in
set_option maxHeartbeats 1000000 in
theorem mul64_ok (w : World) (n : Nat) (hn : n ≤ 1000000) : Calls Tryd.prog 78 #[.int .u64 1, .int .u64 (n : Int)] w fun e w' => e = .returned (.tuple #[.int .u64 0, .int .u64 (n : Int)]) ∧ w' = w := by
  have h1 := u64_and32 n (by omega)
  have h0 : bits .and .u64 1 4294967295 = 1 := by decide
  have h00 : bits .and .u64 0 4294967295 = 0 := by decide
  have hd : (n : Int) / 4294967296 = 0 := by omega
  have hw : IntKind.u64.wrap 0 = 0 := by decide
  go_enter Tryd.func78, Tryd.ntmps78
  go_wp2
  go_ret2
  exact ⟨rfl, rfl⟩
set_option maxRecDepth 100000 in
set_option maxHeartbeats 1000000 in
theorem mul_ok (w : World) (n : Nat) (hn : n ≤ 1000000) : Calls Tryd.prog 76 #[.int .u64 1, .int .u64 (n : Int)] w fun e w' => e = .returned (.tuple #[.int .u64 0, .int .u64 (n : Int)]) ∧ w' = w := by
  have HM := Lib.hid (fun w => mul64_ok w n hn)
  go_enter Tryd.func76, Tryd.ntmps76
  go_wp2_with fail
  refine (HM.out w).mono ?_
  rintro e w1 ⟨rfl, rfl⟩
  go_wp2_with fail
  go_ret2
  exact ⟨rfl, rfl⟩

set_option maxRecDepth 100000 in
set_option maxHeartbeats 1000000 in
/-- slices.Repeat of one cell. -/
theorem repeat_ok (w : World) (x : Cel) (A : Option Addr) (c B : Nat) (hr : celE.Row w B A [x]) (hB : B ≤ w.heap.size) (n : Nat) (hn : n ≤ 1000) :
    Calls Tryd.prog 72 #[.slice A 1 c, .int .i64 (n : Int)] w (CelsPost w (List.replicate n x)) := by
  have HM := Lib.hid (fun w => mul_ok w n (by omega))
  obtain ⟨mk, hmk0⟩ : ∃ mk, mk = madeCells celE.z.cells (n * celE.s) := ⟨_, rfl⟩
  have hmk : ∀ w, (Instr.makeSlice 48 (.int .i64 (n : Int)) (.int .i64 (n : Int))).run Tryd.prog w = .ok (.slice (some ⟨w.heap.size, 0, none⟩) n n) (w.alloc (.cells mk 63)) := fun w => by
    rw [hmk0]; exact celE.run_made w n (by omega) (by decide)
  have hown := celE.own_made w w.heap.size n ⟨0, zero⟩ rfl (Nat.le_refl _) (by unfold maxLen; omega)
  rw [← hmk0] at hown
  have HR := Lib.hid hr
  have HOWN := Lib.hid (show celE.Own (w.alloc (.cells mk 63)) w.heap.size (.slice (some ⟨w.heap.size, 0, none⟩) n n) (List.replicate n ⟨0, zero⟩) from hown)
  have hbl : Below w.heap.size w (w.alloc (.cells mk 63)) := (Below.refl _ _).alloc (Nat.le_refl _) _
  have HBL := Lib.hid hbl
  clear hr hmk0 hown hbl
  go_enter Tryd.func72, Tryd.ntmps72
  go_wp2_with fail
  refine (HM.out w).mono ?_
  rintro e w1 ⟨rfl, hw1⟩
  rw [hw1]
  clear hw1 w1
  obtain ⟨w2, hw2⟩ : ∃ w2, w2 = w.alloc (.cells mk 63) := ⟨_, rfl⟩
  rw [← hw2] at HOWN HBL
  have HW2 := Lib.hid hw2
  clear hw2
  go_upto_region 7 with fail
  rw [← HW2.out]
  obtain ⟨w3, hrun, ho3, hf3, hz3⟩ := copyC HOWN.out (by rw [List.length_replicate]) 3 (some ⟨w.heap.size, 0, none⟩) n n A [x] 1 c B 0 (min 1 n) (HR.out.below (HBL.out.mono hB)) rfl rfl (fun _ => by simp) (by simp; omega)
  have hb3 : Below w.heap.size w w3 := HBL.out.trans (hf3.below HBL.out.size (fun k e => by omega))
  have hrep : (List.replicate n (⟨0, zero⟩ : Cel)).take 0 ++ [x].take (min 1 n) ++ (List.replicate n (⟨0, zero⟩ : Cel)).drop (0 + min 1 n) = List.replicate (min 1 n) x ++ List.replicate (n - min 1 n) ⟨0, zero⟩ := by
    rcases Nat.eq_zero_or_pos n with h | h
    · subst h; simp
    · rw [Nat.min_eq_left (by omega)]; simp
  rw [hrep] at ho3
  have HO3 := Lib.hid ho3
  have HB3 := Lib.hid hb3
  have hz2 := HBL.out.size
  obtain ⟨m, hm⟩ : ∃ m, m = min 1 n := ⟨_, rfl⟩
  rw [← hm] at HO3 hrun
  have hmn : m ≤ n := by omega
  have hm1 : 0 < n → 0 < m := by omega
  clear ho3 hf3 hb3 hrep hm
  go_wp2_with fail
  go_loopw [8] (fun i wr => ∃ k : Nat, k ≤ n ∧ (0 < n → 0 < k) ∧ i = .int .i64 (k : Int) ∧ Below w.heap.size w wr ∧ celE.Own wr w.heap.size (.slice (some ⟨w.heap.size, 0, none⟩) n n) (List.replicate k x ++ List.replicate (n - k) ⟨0, zero⟩)) (fun i _ => n - (RowKit.intOf i).toNat)
  case atStart => exact ⟨m, hmn, hm1, rfl, HB3.out, HO3.out⟩
  case round =>
    obtain ⟨k, hk, hk0, rfl, hb, ho⟩ := hrel
    have HB := Lib.hid hb
    have HO := Lib.hid ho
    clear hb ho
    by_cases hlt : k < n
    · have g1 : decide ((k : Int) < (n : Int)) = true := by simp; omega
      have gn : decide (k < n) = true := by simp; omega
      have hkp : 0 < k := hk0 (by omega)
      have hlen : (List.replicate k x ++ List.replicate (n - k) (⟨0, zero⟩ : Cel)).length = n := by simp; omega
      have hod := HO.out.below (w' := wr.drew) ((Below.refl _ wr).drew)
      have hrow : celE.Row wr.drew wr.drew.heap.size (some ⟨w.heap.size, 0, none⟩) (List.replicate k x) := by
        have h1 : celE.Own wr.drew w.heap.size (.slice (some ⟨w.heap.size, 0, none⟩) (List.replicate k x ++ List.replicate (n - k) (⟨0, zero⟩ : Cel)).length n) (List.replicate k x ++ List.replicate (n - k) ⟨0, zero⟩) := by rw [hlen]; exact hod
        have h2 := (El.Row.of_own h1).take k
        rwa [List.take_left' (by simp)] at h2
      have hcut : ∀ V, (Instr.slice 48 (.slice (some ⟨w.heap.size, 0, none⟩) n n) (some (.int .i64 (k : Int))) none none).run Tryd.prog V = .ok (.slice (some ⟨w.heap.size, k * 6, none⟩) (n - k) (n - k)) V := fun V => by
        rw [cutC _ _ _ _ V (by omega), celE.cutA_some _ _ _ _ (by omega), Nat.zero_add]; rfl
      have hhd : ∀ V, (Instr.slice 48 (.slice (some ⟨w.heap.size, 0, none⟩) n n) none (some (.int .i64 (k : Int))) none).run Tryd.prog V = .ok (.slice (some ⟨w.heap.size, 0, none⟩) k n) V := fun V => headC _ _ _ _ V (by omega)
      obtain ⟨w4, hrun4, ho4, hf4, hz4⟩ := copyC hod (by rw [hlen]) 3 (some ⟨w.heap.size, k * 6, none⟩) (n - k) (n - k) (some ⟨w.heap.size, 0, none⟩) (List.replicate k x) k n _ k (min k (n - k)) hrow (by simp) (by simp) (fun _ => rfl) (by rw [hlen]; omega)
      obtain ⟨q, hq⟩ : ∃ q, q = min k (n - k) := ⟨_, rfl⟩
      rw [← hq] at hrun4 ho4
      have hq1 : 0 < q ∧ k + q ≤ n ∧ q ≤ k := by omega
      have hrep : (List.replicate k x ++ List.replicate (n - k) (⟨0, zero⟩ : Cel)).take k ++ (List.replicate k x).take q ++ (List.replicate k x ++ List.replicate (n - k) (⟨0, zero⟩ : Cel)).drop (k + q) = List.replicate (k + q) x ++ List.replicate (n - (k + q)) ⟨0, zero⟩ := by
        rw [List.take_left' (by simp), List.take_replicate, Nat.min_eq_left hq1.2.2, List.replicate_append_replicate, List.drop_append, List.drop_eq_nil_of_le (by simp), List.nil_append, List.length_replicate, List.drop_replicate]
        congr 2; omega
      rw [hrep] at ho4
      have HO4 := Lib.hid ho4
      have HB4 := Lib.hid (HB.out.trans ((Below.refl w.heap.size wr).drew.trans (hf4.below HB.out.size (fun k e => by omega))))
      have hwr : IntKind.i64.wrap ((k : Int) + (q : Int)) = (k : Int) + (q : Int) := by rw [IntKind.wrap_i64]; omega
      clear hod hrow hrep ho4 hf4 hq hlen
      go_wp2_with fail
      refine wp_region_noPanic ?_
      refine wp_region_held_drew (S := fun _ => True) (by kernel_rfl) trivial (fun hHeld => ?_)
      refine wpAnyH_take (i := 0) (v := ?va0) rfl (by kernel_rfl) (by kernel_rfl) (by kernel_rfl) (fun _ _ _ h => h) (Or.inl ⟨by rfl, ?ha0⟩) (by assumption) ?_
      case ha0 => intro w hSw; (try dsimp only at hSw); go_simp; try with_reducible rfl
      simp only [List.getElem_toArray, List.getElem_cons_zero, Act.put, List.setIfInBounds_toArray, List.set_cons_zero, List.set_cons_succ]
      refine wpAnyH_take (i := 1) (v := ?va1) rfl (by kernel_rfl) (by kernel_rfl) (by kernel_rfl) (fun _ _ _ h => h) (Or.inl ⟨by rfl, ?ha1⟩) (by assumption) ?_
      case ha1 => intro w hSw; (try dsimp only at hSw); go_simp; try with_reducible rfl
      simp only [List.getElem_toArray, List.getElem_cons_succ, List.getElem_cons_zero, Act.put, List.setIfInBounds_toArray, List.set_cons_zero, List.set_cons_succ]
      refine wpAnyH_take (i := 2) (v := ?va2) rfl (by kernel_rfl) (by kernel_rfl) (by kernel_rfl) (fun _ _ _ h => h) (Or.inl ⟨by rfl, ?ha2⟩) (by assumption) ?_
      case ha2 => intro w hSw; (try dsimp only at hSw); go_simp; try with_reducible rfl
      simp only [List.getElem_toArray, List.getElem_cons_succ, List.getElem_cons_zero, Act.put, List.setIfInBounds_toArray, List.set_cons_zero, List.set_cons_succ]
      refine wpAnyH_take (i := 3) (v := ?va3) rfl (by kernel_rfl) (by kernel_rfl) (by kernel_rfl) (fun _ _ _ h => h) (Or.inl ⟨by rfl, ?ha3⟩) (by assumption) ?_
      case ha3 => intro w hSw; (try dsimp only at hSw); go_simp; try with_reducible rfl
      simp only [List.getElem_toArray, List.getElem_cons_succ, List.getElem_cons_zero, Act.put, List.setIfInBounds_toArray, List.set_cons_zero, List.set_cons_succ]
      refine wpAnyH_take (i := 4) (v := ?va4) rfl (by kernel_rfl) (by kernel_rfl) (by kernel_rfl) (fun _ _ _ h => h) (Or.inl ⟨by rfl, ?ha4⟩) (by assumption) ?_
      case ha4 => intro w hSw; (try dsimp only at hSw); go_simp; try with_reducible rfl
      simp only [List.getElem_toArray, List.getElem_cons_succ, List.getElem_cons_zero, Act.put, List.setIfInBounds_toArray, List.set_cons_zero, List.set_cons_succ]
      refine wpAnyH_take (i := 5) (v := ?va5) rfl (by kernel_rfl) (by kernel_rfl) (by kernel_rfl) (fun _ _ _ h => h) (Or.inl ⟨by rfl, ?ha5⟩) (by assumption) ?_
      case ha5 => intro w hSw; (try dsimp only at hSw); go_simp; try with_reducible rfl
      simp only [List.getElem_toArray, List.getElem_cons_succ, List.getElem_cons_zero, Act.put, List.setIfInBounds_toArray, List.set_cons_zero, List.set_cons_succ]
      refine wpAnyH_take (i := 6) (v := ?va6) rfl (by kernel_rfl) (by kernel_rfl) (by kernel_rfl) (fun _ _ _ h => h) (Or.inl ⟨by rfl, ?ha6⟩) (by assumption) ?_
      case ha6 => intro w hSw; (try dsimp only at hSw); go_simp; try with_reducible rfl
      simp only [List.getElem_toArray, List.getElem_cons_succ, List.getElem_cons_zero, Act.put, List.setIfInBounds_toArray, List.set_cons_zero, List.set_cons_succ]
      refine wpAnyH_ready (rs := [7]) (by kernel_rfl) (by simp) ?_
      refine AllReadyH.cons rfl (fun K hK => ?_) AllReadyH.nil
      go_simp
      refine hK.out _ _ ?_ (fun hHeld => ?_)
      · trivial
      clear hK K
      refine wpAnyH_take (i := 8) (v := ?vb8) rfl (by kernel_rfl) (by kernel_rfl) (by kernel_rfl) (fun _ _ _ h => h) (Or.inl ⟨by rfl, ?hb8⟩) (by assumption) ?_
      case hb8 => intro w hSw; (try dsimp only at hSw); go_simp; try with_reducible rfl
      simp only [List.getElem_toArray, List.getElem_cons_succ, List.getElem_cons_zero, Act.put, List.setIfInBounds_toArray, List.set_cons_zero, List.set_cons_succ]
      refine wpAnyH_take (i := 9) (v := ?vb9) rfl (by kernel_rfl) (by kernel_rfl) (by kernel_rfl) (fun _ _ _ h => h) (Or.inl ⟨by rfl, ?hb9⟩) (by assumption) ?_
      case hb9 => intro w hSw; (try dsimp only at hSw); go_simp; try with_reducible rfl
      simp only [List.getElem_toArray, List.getElem_cons_succ, List.getElem_cons_zero, Act.put, List.setIfInBounds_toArray, List.set_cons_zero, List.set_cons_succ]
      refine wpAnyH_done (by kernel_rfl) ?_ _
      refine NoPanic.normal ?_
      clear hHeld
      go_wp2
      go_roundw
      case rel => exact ⟨k + q, by omega, by omega, by simp, HB4.out, HO4.out⟩
      case measure => simp [RowKit.intOf]; omega
    · have g1 : decide ((k : Int) < (n : Int)) = false := by simp; omega
      have gn : decide (k < n) = false := by simp; omega
      obtain rfl : k = n := by omega
      have ho := HO.out
      simp only [Nat.sub_self, List.replicate_zero, List.append_nil] at ho
      have HO5 := Lib.hid ho
      clear ho
      go_wp2_with fail
      go_ret
      exact ⟨_, rfl, HO5.out, HB.out⟩

set_option maxRecDepth 100000 in
set_option maxHeartbeats 1000000 in
/-- The grid's blanks. -/
theorem blanks_ok (w : World) (n : Nat) (hn : n ≤ 1000) (s : Sty) : Calls Tryd.prog 64 #[.int .i64 (n : Int), styV s] w (CelsPost w (KM.blanks n s)) := by
  obtain ⟨b, u, t, f, k⟩ := s
  have HBL := Lib.hid (fun v => blank_ok v ⟨b, u, t, f, k⟩)
  have HREP := Lib.hid (fun (v : World) => repeat_ok (v.alloc (.cells #[.int .i32 32, .bool false, .bool false, .bool false, .int .i64 0, .int .i64 k] 63)) (blankS ⟨b, u, t, f, k⟩) (some ⟨v.heap.size, 0, none⟩) 1 (v.heap.size + 1) (celE.row_new v (blankS ⟨b, u, t, f, k⟩) _ _ rfl) (by simp) n hn)
  simp only [styV, celV] at HBL ⊢
  go_enter Tryd.func64, Tryd.ntmps64
  go_wp2_with fail
  refine (HBL.out _).mono ?_
  rintro e w1 ⟨rfl, hb1⟩
  have HB1 := Lib.hid (below_next ((Below.refl w.heap.size w).alloc (Nat.le_refl _) _) hb1)
  clear hb1
  go_wp2_with fail
  refine (HREP.out w1).mono ?_
  rintro e w2 ⟨v2, rfl, ho2, hb2⟩
  have hz := HB1.out.size
  have HB2 := Lib.hid (below_next (HB1.out.alloc hz _) hb2)
  have HO2 := Lib.hid (ho2.mono (show w.heap.size ≤ _ by simp; omega))
  clear ho2 hb2
  go_wp2_with fail
  go_ret
  exact ⟨v2, rfl, HO2.out, HB2.out⟩
end Go.Proofs.YtdolapobkhhanaaDoor
/-
  slices.Grow of nil and slices.Concat: of lines of cells, and of slices of lines.
-/
namespace Go.Proofs.YtdolapobkhhanaaDoor
open Go.RowKit Go.Lib KM

/-- A slice value at A of as many slices as LL has reads as LL, and all of it lies below block B. -/
def El.Rows {α : Type} (E : El α) (w : World) (B : Nat) (A : Option Addr) (LL : List (List α)) : Prop :=
  0 < LL.length → ∃ b off, A = some ⟨b, off, none⟩ ∧ b < B ∧ ∀ j (hj : j < LL.length), ∃ A' c', w.cell? ⟨b, off + j, none⟩ = some (.slice A' LL[j].length c') ∧ E.Row w B A' LL[j] ∧ (A' = none → c' = 0)
section
variable {α : Type} {E : El α} {w w' : World} {B : Nat} {A : Option Addr} {LL : List (List α)}
theorem El.Rows.below (h : E.Rows w B A LL) (hb : Below B w w') : E.Rows w' B A LL := fun hp => by
  obtain ⟨b, off, e, hlt, hc⟩ := h hp
  refine ⟨b, off, e, hlt, fun j hj => ?_⟩
  obtain ⟨A', c', h1, h2, h3⟩ := hc j hj
  exact ⟨A', c', (hb.cell (p := ⟨b, off + j, none⟩) hlt).trans h1, h2.below hb, h3⟩
theorem El.Rows.mono {B' : Nat} (h : E.Rows w B A LL) (hB : B ≤ B') : E.Rows w B' A LL := fun hp => by
  obtain ⟨b, off, e, hlt, hc⟩ := h hp
  refine ⟨b, off, e, by omega, fun j hj => ?_⟩
  obtain ⟨A', c', h1, h2, h3⟩ := hc j hj
  exact ⟨A', c', h1, h2.mono hB, h3⟩
/-- How many elements they have together. -/
def sizes (LL : List (List α)) : Nat := (LL.map List.length).sum
theorem sizes_take (LL : List (List α)) (k : Nat) (hk : k < LL.length) : sizes (LL.take (k + 1)) = sizes (LL.take k) + LL[k].length := by
  unfold sizes
  rw [List.take_succ_eq_append_getElem hk, List.map_append, List.sum_append]
  simp
theorem sizes_le (LL : List (List α)) (k : Nat) : sizes (LL.take k) ≤ sizes LL := by
  conv => rhs; rw [← List.take_append_drop k LL]
  unfold sizes
  rw [List.map_append, List.sum_append]
  omega
theorem flatten_len (LL : List (List α)) : LL.flatten.length = sizes LL := by unfold sizes; rw [List.length_flatten]
theorem flatten_take (LL : List (List α)) (k : Nat) (hk : k < LL.length) : (LL.take (k + 1)).flatten = (LL.take k).flatten ++ LL[k] := by
  rw [List.take_succ_eq_append_getElem hk, List.flatten_append]
  simp
/-- A row made by append of zeros onto nil, cut to none of them. -/
theorem El.own_zeros (E : El α) (w : World) (base n : Nat) (hn : n ≤ 100000) (hbase : base ≤ w.heap.size) :
    E.Own (w.drew.alloc (.cells (Builtin.zeroCells E.z.cells n ++ Builtin.zeroCells E.z.cells (grownCap w n 0 E.ty - n)) E.ty)) base (.slice (some ⟨w.heap.size, 0, none⟩) 0 (grownCap w n 0 E.ty)) [] := by
  have h1 := grownCap_ge w n 0 E.ty
  have h2 := grownCap_le_maxLen w n 0 E.ty (by unfold maxLen; omega)
  refine ⟨by rw [E.cells_len], .inr ⟨w.heap.size, _, _, rfl, hbase, heap_alloc_new w.drew _, Nat.zero_le _, h2, ?_, by simp [El.cells]⟩⟩
  simp only [Array.size_append, size_zeroCells, E.zs]
  rw [← Nat.add_mul]
  congr 1; omega
theorem El.run_zeros (E : El α) (w : World) (ty : TypeId) (n : Nat) (h0 : 0 < n) (hn : n ≤ 100000) (hb : E.bytes ≤ 1000) :
    (Builtin.append_ #[E.sl, 3] ty #[.slice none 0 0, .int .i64 (n : Int)]).run Tryd.prog w = .ok (.slice (some ⟨w.heap.size, 0, none⟩) n (grownCap w n 0 E.ty)) (w.drew.alloc (.cells (Builtin.zeroCells E.z.cells n ++ Builtin.zeroCells E.z.cells (grownCap w n 0 E.ty - n)) E.ty)) := by
  obtain ⟨i, hi, hs, hz, hby⟩ := E.size_of
  have h1 : n * i.bytes ≤ 100000 * 1000 := by rw [hby]; exact Nat.mul_le_mul hn hb
  exact run_append_nil_zeros w E.sl 3 ty E.ty i E.z .i64 .i64 E.und Tryd.underlying3 hi hz n h0 (by rw [hs]; exact E.pos) (by omega) (by omega)
end

/-! ### of cells -/
/-! ### of lines -/
end Go.Proofs.YtdolapobkhhanaaDoor
/-
  A grid in memory: its struct, its lines' headers, its lines, each in a row of its own; lines that are read.
-/
namespace Go.Proofs.YtdolapobkhhanaaDoor
open Go.RowKit Go.Lib KM

/-- A grid's line in memory: its block, its capacity, its cells. -/
structure Ln where
  b : Nat
  c : Nat
  l : List Cel
def Ln.s (x : Ln) : Sl := ⟨some ⟨x.b, 0, none⟩, x.l.length, x.c⟩
theorem Ln.own (x : Ln) : x.s.v.ownBlock = some x.b := rfl
/-- All blocks of a grid. -/
def foot (p hb : Nat) (L : List Ln) : List Nat := p :: hb :: L.map Ln.b

structure GridB (w : World) (p hb hc : Nat) (L : List Ln) (g : Gr) : Prop where
  cells : w.heap[p]? = some (.cells #[.int .i64 (g.w : Int), .int .i64 (g.h : Int), .slice (some ⟨hb, 0, none⟩) L.length hc] 45 (0, 0))
  head : linE.Own w 0 (.slice (some ⟨hb, 0, none⟩) L.length hc) (L.map Ln.s)
  rows : ∀ x ∈ L, celE.Own w 0 x.s.v x.l
  lines : g.ls = L.map Ln.l
  nodup : (foot p hb L).Nodup

/-- A grid at p, all of whose blocks are F. -/
def GridAt (w : World) (F : List Nat) (p : Nat) (g : Gr) : Prop := ∃ hb hc L, GridB w p hb hc L g ∧ F = foot p hb L

section
variable {w w' : World} {p hb hc : Nat} {L : List Ln} {g : Gr} {F : List Nat}
theorem GridB.lt (h : GridB w p hb hc L g) : ∀ k ∈ foot p hb L, k < w.heap.size := by
  intro k hk
  rcases List.mem_cons.1 hk with rfl | hk
  · exact (Array.getElem?_eq_some_iff.1 h.cells).1
  rcases List.mem_cons.1 hk with rfl | hk
  · exact (h.head.lt k rfl).2
  · obtain ⟨x, hx, rfl⟩ := List.mem_map.1 hk
    exact ((h.rows x hx).lt x.b rfl).2
theorem GridB.keep (h : GridB w p hb hc L g) (hk : ∀ k ∈ foot p hb L, w'.heap[k]? = w.heap[k]?) : GridB w' p hb hc L g :=
  { h with
    cells := (hk p (by simp [foot])).trans h.cells
    head := h.head.keep fun k e => by cases e; exact hk hb (by simp [foot])
    rows := fun x hx => (h.rows x hx).keep fun k e => by cases e; exact hk x.b (by simp only [foot, List.mem_cons, List.mem_map]; exact .inr (.inr ⟨x, hx, rfl⟩)) }
theorem GridAt.lt (h : GridAt w F p g) : ∀ k ∈ F, k < w.heap.size := by
  obtain ⟨hb, hc, L, h, rfl⟩ := h
  exact h.lt
theorem GridAt.keep (h : GridAt w F p g) (hk : ∀ k ∈ F, w'.heap[k]? = w.heap[k]?) : GridAt w' F p g := by
  obtain ⟨hb, hc, L, h, rfl⟩ := h
  exact ⟨hb, hc, L, h.keep hk, rfl⟩
theorem GridAt.below (h : GridAt w F p g) (hb : Below w.heap.size w w') : GridAt w' F p g := h.keep fun k hk => hb.block k (h.lt k hk)
theorem GridB.below (h : GridB w p hb hc L g) (hbl : Below w.heap.size w w') : GridB w' p hb hc L g := h.keep fun k hk => hbl.block k (h.lt k hk)
theorem GridAt.fr {F' : List Nat} (h : GridAt w F p g) (hf : Fr (· ∈ F') w w') (hd : ∀ k ∈ F, k ∉ F') : GridAt w' F p g := h.keep fun k hk => hf.block k (h.lt k hk) (hd k hk)
theorem GridAt.p_mem (h : GridAt w F p g) : p ∈ F := by
  obtain ⟨hb, hc, L, h, rfl⟩ := h
  simp [foot]
theorem GridB.cell0 (h : GridB w p hb hc L g) : w.cell? ⟨p, 0, none⟩ = some (.int .i64 (g.w : Int)) := by simp [World.cell?, h.cells]
theorem GridB.cell1 (h : GridB w p hb hc L g) : w.cell? ⟨p, 1, none⟩ = some (.int .i64 (g.h : Int)) := by simp [World.cell?, h.cells]
theorem GridB.cell2 (h : GridB w p hb hc L g) : w.cell? ⟨p, 2, none⟩ = some (.slice (some ⟨hb, 0, none⟩) L.length hc) := by simp [World.cell?, h.cells]
theorem GridB.frozen (h : GridB w p hb hc L g) (i : Nat) : w.frozen? ⟨p, i, none⟩ = false := by simp [World.frozen?, h.cells]
theorem GridB.len (h : GridB w p hb hc L g) : L.length = g.ls.length := by rw [h.lines, List.length_map]
theorem GridB.line_at (h : GridB w p hb hc L g) {y : Nat} (hy : y < L.length) : L[y].l = g.line y := by
  unfold Gr.line
  rw [h.lines]
  simp [hy]
theorem GridB.hcell (h : GridB w p hb hc L g) {y : Nat} (hy : y < L.length) : w.cell? ⟨hb, y, none⟩ = some L[y].s.v := by
  have hh : linE.Own w 0 (.slice (some ⟨hb, 0, none⟩) (L.map Ln.s).length hc) (L.map Ln.s) := by rw [List.length_map]; exact h.head
  obtain ⟨b, off, e, _, hcell⟩ := (El.Row.of_own hh).at_ (i := y) (by simpa using hy)
  simp only [Option.some.injEq, Addr.mk.injEq, and_true] at e
  obtain ⟨rfl, rfl⟩ := e
  have := hcell 0 (by decide)
  simpa [linE] using this
theorem GridB.hfrozen (h : GridB w p hb hc L g) (j : Nat) : w.frozen? ⟨hb, j, none⟩ = false := by
  have hh : linE.Own w 0 (.slice (some ⟨hb, 0, none⟩) (L.map Ln.s).length hc) (L.map Ln.s) := by rw [List.length_map]; exact h.head
  obtain ⟨cur, hg, _⟩ := hh.block rfl
  simp [World.frozen?, hg]
theorem GridB.row (h : GridB w p hb hc L g) {y : Nat} (hy : y < L.length) : celE.Own w 0 L[y].s.v L[y].l := h.rows _ (List.getElem_mem _)
theorem GridB.ne_hb (h : GridB w p hb hc L g) : p ≠ hb := fun e => by have := h.nodup; simp [foot, e] at this
theorem GridB.row_ne (h : GridB w p hb hc L g) {x : Ln} (hx : x ∈ L) : x.b ≠ p ∧ x.b ≠ hb := by
  have hn := h.nodup
  simp only [foot, List.nodup_cons, List.mem_cons, List.mem_map, not_or, not_exists, not_and] at hn
  exact ⟨hn.1.2 x hx, hn.2.1 x hx⟩
theorem GridB.row_apart (h : GridB w p hb hc L g) {i j : Nat} (hi : i < L.length) (hj : j < L.length) (hne : i ≠ j) : L[i].b ≠ L[j].b := by
  have hn := h.nodup
  simp only [foot, List.nodup_cons] at hn
  have hp := List.pairwise_iff_getElem.1 hn.2.2
  rcases Nat.lt_or_gt_of_ne hne with hlt | hlt
  · have := hp i j (by simpa using hi) (by simpa using hj) hlt
    simpa using this
  · have := hp j i (by simpa using hj) (by simpa using hi) hlt
    intro e
    simp [e] at this
end

/-! ### lines that are read -/
def LinesAt (w : World) (N : Nat → Prop) (A : Option Addr) (LL : List (List Cel)) : Prop :=
  0 < LL.length → ∃ b off, A = some ⟨b, off, none⟩ ∧ b < w.heap.size ∧ N b ∧ ∀ j (hj : j < LL.length), ∃ A' c', w.cell? ⟨b, off + j, none⟩ = some (.slice A' LL[j].length c') ∧ celE.Row w w.heap.size A' LL[j] ∧ (0 < LL[j].length → ∀ a, A' = some a → N a.block) ∧ (A' = none → c' = 0)
section
variable {w w' : World} {N N' : Nat → Prop} {A : Option Addr} {LL : List (List Cel)}
theorem row_keep {A : Option Addr} {l : List Cel} (h : celE.Row w w.heap.size A l) (hn : 0 < l.length → ∀ a, A = some a → N a.block) (hk : ∀ k, k < w.heap.size → N k → w'.heap[k]? = w.heap[k]?) (hs : w.heap.size ≤ w'.heap.size) : celE.Row w' w'.heap.size A l := fun hp => by
  obtain ⟨b, off, e, hb, hc⟩ := h hp
  refine ⟨b, off, e, by omega, fun j hj => ?_⟩
  exact (World.cell?_of_block (w := w) (a := ⟨b, off + j, none⟩) (hk b hb (hn hp _ e))).trans (hc j hj)
theorem LinesAt.keep (h : LinesAt w N A LL) (hk : ∀ k, k < w.heap.size → N k → w'.heap[k]? = w.heap[k]?) (hs : w.heap.size ≤ w'.heap.size) : LinesAt w' N A LL := fun hp => by
  obtain ⟨b, off, e, hb, hn, hc⟩ := h hp
  refine ⟨b, off, e, by omega, hn, fun j hj => ?_⟩
  obtain ⟨A', c', h1, h2, h3, h4⟩ := hc j hj
  exact ⟨A', c', (World.cell?_of_block (w := w) (a := ⟨b, off + j, none⟩) (hk b hb hn)).trans h1, row_keep h2 h3 hk hs, h3, h4⟩
theorem LinesAt.below (h : LinesAt w N A LL) (hb : Below w.heap.size w w') : LinesAt w' N A LL := h.keep (fun k hk _ => hb.block k hk) hb.size
theorem LinesAt.fr {F : List Nat} (h : LinesAt w N A LL) (hf : Fr (· ∈ F) w w') (hd : ∀ k, k < w.heap.size → N k → k ∉ F) : LinesAt w' N A LL := h.keep (fun k hk hn => hf.block k hk (hd k hk hn)) hf.size
theorem LinesAt.mono (h : LinesAt w N A LL) (hn : ∀ k, k < w.heap.size → N k → N' k) : LinesAt w N' A LL := fun hp => by
  obtain ⟨b, off, e, hb, hnb, hc⟩ := h hp
  refine ⟨b, off, e, hb, hn b hb hnb, fun j hj => ?_⟩
  obtain ⟨A', c', h1, h2, h3, h4⟩ := hc j hj
  refine ⟨A', c', h1, h2, fun hl a ha => ?_, h4⟩
  obtain ⟨b', off', e', hb', _⟩ := h2 hl
  rw [e'] at ha
  injection ha with ha
  subst ha
  exact hn _ hb' (h3 hl _ e')
theorem LinesAt.rows (h : LinesAt w N A LL) : celE.Rows w w.heap.size A LL := fun hp => by
  obtain ⟨b, off, e, hb, _, hc⟩ := h hp
  refine ⟨b, off, e, hb, fun j hj => ?_⟩
  obtain ⟨A', c', h1, h2, _, h4⟩ := hc j hj
  exact ⟨A', c', h1, h2, h4⟩
theorem LinesAt.nil : LinesAt w N A [] := fun h => absurd h (by simp)
end

section
variable {w w' : World} {p hb hc : Nat} {L : List Ln} {g : Gr} {F : List Nat}
theorem row_of_own {base : Nat} {x : Ln} (h : celE.Own w base x.s.v x.l) : celE.Row w w.heap.size (some ⟨x.b, 0, none⟩) x.l := El.Row.of_own (c := x.c) h
theorem GridB.linesAt (h : GridB w p hb hc L g) : LinesAt w (· ∈ foot p hb L) (some ⟨hb, 0, none⟩) g.ls := fun _ => by
  refine ⟨hb, 0, rfl, h.lt hb (by simp [foot]), by simp [foot], fun j hj => ?_⟩
  have hj' : j < L.length := by rw [h.len]; exact hj
  have e : g.ls[j] = L[j].l := by simp [h.lines]
  rw [e]
  refine ⟨some ⟨L[j].b, 0, none⟩, L[j].c, by rw [Nat.zero_add]; exact h.hcell hj', row_of_own (h.row hj'), fun _ a ha => ?_, by simp⟩
  injection ha with ha
  subst ha
  simp only [foot, List.mem_cons, List.mem_map]
  exact .inr (.inr ⟨L[j], List.getElem_mem _, rfl⟩)
end
end Go.Proofs.YtdolapobkhhanaaDoor
