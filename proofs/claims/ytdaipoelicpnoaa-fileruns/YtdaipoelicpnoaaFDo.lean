/-
  Layer 4's laws: do: one call on a store.
-/
import Derived.Test.YtdaipoelicpnoaaFKeeps
import Derived.Test.YtdaipoelicpnoaaFSync
import Derived.Test.YtdaipoelicpnoaaFAppend
import Derived.Test.YtdaipoelicpnoaaFRename
import Derived.Test.YtdaipoelicpnoaaFCut
import Derived.Test.YtdaipoelicpnoaaFNew
namespace Go.Proofs.Ytdaipoelicpnoaa
open Go.RowKit Go.Maps FM

/-- What a call answers and leaves. -/
def step (s : St) (c : CallV) : Nat × St :=
  if c.k = 2 then sync s c.name.data.toList else if c.k = 3 then rename s c.name.data.toList c.to.data.toList else if c.k = 4 then delete s c.name.data.toList else if c.k = 5 then cut s c.name.data.toList c.n
  else if c.k = 6 then (0, setFuse s c.n) else if c.k = 7 then (0, crash s (keepsOf c)) else append s c.name.data.toList c.data

theorem Sto.mono {w : World} {S S' : Nat → Prop} {sb : Nat} {s : St} (h : Sto w S sb s) (h1 : ∀ k, S k → S' k) (h2 : ∀ k, S' k → k < w.heap.size) : Sto w S' sb s := by
  obtain ⟨mb, L, g1, g2, g3, g4, _⟩ := h
  exact ⟨mb, L, g1, h1 _ g2, h1 _ g3, fun p hp k hk => h1 _ (g4 p hp k hk), h2⟩
theorem Sto.lt {w : World} {S : Nat → Prop} {sb : Nat} {s : St} (h : Sto w S sb s) : ∀ k, S k → k < w.heap.size := by
  obtain ⟨mb, L, _, _, _, _, g5⟩ := h
  exact g5
theorem Sto.sb {w : World} {S : Nat → Prop} {sb : Nat} {s : St} (h : Sto w S sb s) : S sb := by
  obtain ⟨mb, L, _, g2, _⟩ := h
  exact g2
theorem Sto.from_ {w w1 w2 : World} {S : Nat → Prop} {sb : Nat} {s : St} (hlt : ∀ k, S k → k < w.heap.size) (hb : Below w.heap.size w w1) (h : Sto w2 (wider S w1 w2) sb s) (hf : Fr S w1 w2) : Sto w2 (wider S w w2) sb s := by
  have h1 := hb.size
  have h2 := hf.size
  refine h.mono (fun k hk => ?_) (fun k hk => ?_)
  · rcases hk with hk | ⟨hk, hk2⟩
    · exact .inl hk
    · exact .inr ⟨by omega, hk2⟩
  · rcases hk with hk | ⟨_, hk2⟩
    · have := hlt k hk; omega
    · exact hk2
theorem After.from_ {w w1 w2 : World} {S : Nat → Prop} {sb : Nat} {r : Nat × St} {e : Ending} (hlt : ∀ k, S k → k < w.heap.size) (hb : Below w.heap.size w w1) (h : After w1 S sb r e w2) : After w S sb r e w2 :=
  ⟨h.1, Sto.from_ hlt hb h.2.1 h.2.2, (Fr.of_below hb).trans' h.2.2⟩
theorem row_i_keep {w w' : World} {B : Nat} {A : Option Addr} {l : List Int} (h : RowI w B A l) (hb : Below B w w') : RowI w' B A l := fun hp => by
  obtain ⟨b, off, e, hbb, hc⟩ := h hp
  exact ⟨b, off, e, hbb, fun j hj => (hb.cell (p := ⟨b, off + j, none⟩) hbb).trans (hc j hj)⟩

/-- What is asked of a store and a call for it to be done. -/
structure Fits (w : World) (S : Nat → Prop) (s : St) (c : CallV) (B : Nat) : Prop where
  ok : c.Ok w B
  B : B ≤ w.heap.size
  files : s.fs.length ≤ 100000
  used : used s ≤ 10000000
  room : FM.used s ≤ s.quota
  data : c.data.length ≤ 1000000
  apart : 0 < c.data.length → ∀ a, c.A = some a → ¬ S a.block

set_option maxRecDepth 100000 in
set_option maxHeartbeats 1000000 in
theorem do_0 (w : World) (S : Nat → Prop) (sb : Nat) (s : St) (c : CallV) (B : Nat) (h : Sto w S sb s) (hf : Fits w S s c B) (hk : c.k = 0) :
    Calls Try.prog 12 #[.pointer (some ⟨sb, 0, none⟩), c.val] w (After w S sb (append s c.name.data.toList c.data)) := by
  have HK := Lib.hid (kind_ok (w.alloc (.cells #[.int .i64 c.kind, .int .i64 c.n, .string c.name, .string c.to, .slice c.A c.data.length c.cap] 33)) c)
  rw [hk] at HK
  have HS := Lib.hid h; have HF := Lib.hid hf
  obtain ⟨r, hr⟩ : ∃ r, r = append s c.name.data.toList c.data := ⟨_, rfl⟩
  rw [← hr]
  have HR := Lib.hid hr
  clear h hf hr
  unfold CallV.val at *
  go_enter Try.func12, Try.ntmps12
  go_wp2_with fail
  refine HK.out.mono ?_
  rintro e w1 ⟨rfl, hb⟩
  have hb0 : Below w.heap.size w w1 := ((Below.refl _ w).alloc (Nat.le_refl _) _).trans (hb.mono (by simp))
  have hblk : w1.heap[w.heap.size]? = some (.cells #[.int .i64 c.kind, .int .i64 c.n, .string c.name, .string c.to, .slice c.A c.data.length c.cap] 33) := (hb.block w.heap.size (by simp)).trans (MapKept.heap_alloc w _).1
  have k0 : w1.cell? ⟨w.heap.size, 0, none⟩ = some (.int .i64 c.kind) := by simp only [World.cell?, hblk]; rfl
  have k1 : w1.cell? ⟨w.heap.size, 1, none⟩ = some (.int .i64 c.n) := by simp only [World.cell?, hblk]; rfl
  have k2 : w1.cell? ⟨w.heap.size, 2, none⟩ = some (.string c.name) := by simp only [World.cell?, hblk]; rfl
  have k3 : w1.cell? ⟨w.heap.size, 3, none⟩ = some (.string c.to) := by simp only [World.cell?, hblk]; rfl
  have k4 : w1.cell? ⟨w.heap.size, 4, none⟩ = some (.slice c.A c.data.length c.cap) := by simp only [World.cell?, hblk]; rfl
  have HB := Lib.hid hb0
  clear hb hblk hb0
  go_wp2_with fail
  refine ((append_ok w1 S sb s c.name HF.out.ok.name c.A c.data c.cap B (HS.out.below HB.out) (by have := HF.out.files; omega) (by have := HF.out.used; omega) HF.out.room (by have := HF.out.data; omega) ((HF.out.ok.row).below (HB.out.mono HF.out.B)) (Nat.le_trans HF.out.B HB.out.size) HF.out.ok.nil (fun hp a ha e => HF.out.apart hp a ha (by rw [e]; exact HS.out.sb)) HF.out.ok.small)).mono ?_
  rintro e w2 h2
  have H2 := Lib.hid (After.from_ HS.out.lt HB.out h2)
  obtain ⟨rfl, _, _⟩ := h2
  clear k0 k1 k2 k3 k4
  go_wp2
  go_ret
  rw [HR.out]
  exact ⟨rfl, H2.out.2.1, H2.out.2.2⟩

set_option maxRecDepth 100000 in
set_option maxHeartbeats 1000000 in
theorem do_1 (w : World) (S : Nat → Prop) (sb : Nat) (s : St) (c : CallV) (B : Nat) (h : Sto w S sb s) (hf : Fits w S s c B) (hk : c.k = 1) :
    Calls Try.prog 12 #[.pointer (some ⟨sb, 0, none⟩), c.val] w (After w S sb (append s c.name.data.toList c.data)) := by
  have HK := Lib.hid (kind_ok (w.alloc (.cells #[.int .i64 c.kind, .int .i64 c.n, .string c.name, .string c.to, .slice c.A c.data.length c.cap] 33)) c)
  rw [hk] at HK
  have HS := Lib.hid h; have HF := Lib.hid hf
  obtain ⟨r, hr⟩ : ∃ r, r = append s c.name.data.toList c.data := ⟨_, rfl⟩
  rw [← hr]
  have HR := Lib.hid hr
  clear h hf hr
  unfold CallV.val at *
  go_enter Try.func12, Try.ntmps12
  go_wp2_with fail
  refine HK.out.mono ?_
  rintro e w1 ⟨rfl, hb⟩
  have hb0 : Below w.heap.size w w1 := ((Below.refl _ w).alloc (Nat.le_refl _) _).trans (hb.mono (by simp))
  have hblk : w1.heap[w.heap.size]? = some (.cells #[.int .i64 c.kind, .int .i64 c.n, .string c.name, .string c.to, .slice c.A c.data.length c.cap] 33) := (hb.block w.heap.size (by simp)).trans (MapKept.heap_alloc w _).1
  have k0 : w1.cell? ⟨w.heap.size, 0, none⟩ = some (.int .i64 c.kind) := by simp only [World.cell?, hblk]; rfl
  have k1 : w1.cell? ⟨w.heap.size, 1, none⟩ = some (.int .i64 c.n) := by simp only [World.cell?, hblk]; rfl
  have k2 : w1.cell? ⟨w.heap.size, 2, none⟩ = some (.string c.name) := by simp only [World.cell?, hblk]; rfl
  have k3 : w1.cell? ⟨w.heap.size, 3, none⟩ = some (.string c.to) := by simp only [World.cell?, hblk]; rfl
  have k4 : w1.cell? ⟨w.heap.size, 4, none⟩ = some (.slice c.A c.data.length c.cap) := by simp only [World.cell?, hblk]; rfl
  have HB := Lib.hid hb0
  clear hb hblk hb0
  go_wp2_with fail
  refine ((append_ok w1 S sb s c.name HF.out.ok.name c.A c.data c.cap B (HS.out.below HB.out) (by have := HF.out.files; omega) (by have := HF.out.used; omega) HF.out.room (by have := HF.out.data; omega) ((HF.out.ok.row).below (HB.out.mono HF.out.B)) (Nat.le_trans HF.out.B HB.out.size) HF.out.ok.nil (fun hp a ha e => HF.out.apart hp a ha (by rw [e]; exact HS.out.sb)) HF.out.ok.small)).mono ?_
  rintro e w2 h2
  have H2 := Lib.hid (After.from_ HS.out.lt HB.out h2)
  obtain ⟨rfl, _, _⟩ := h2
  clear k0 k1 k2 k3 k4
  go_wp2
  go_ret
  rw [HR.out]
  exact ⟨rfl, H2.out.2.1, H2.out.2.2⟩

set_option maxRecDepth 100000 in
set_option maxHeartbeats 1000000 in
theorem do_2 (w : World) (S : Nat → Prop) (sb : Nat) (s : St) (c : CallV) (B : Nat) (h : Sto w S sb s) (hf : Fits w S s c B) (hk : c.k = 2) :
    Calls Try.prog 12 #[.pointer (some ⟨sb, 0, none⟩), c.val] w (After w S sb (sync s c.name.data.toList)) := by
  have HK := Lib.hid (kind_ok (w.alloc (.cells #[.int .i64 c.kind, .int .i64 c.n, .string c.name, .string c.to, .slice c.A c.data.length c.cap] 33)) c)
  rw [hk] at HK
  have HS := Lib.hid h; have HF := Lib.hid hf
  obtain ⟨r, hr⟩ : ∃ r, r = sync s c.name.data.toList := ⟨_, rfl⟩
  rw [← hr]
  have HR := Lib.hid hr
  clear h hf hr
  unfold CallV.val at *
  go_enter Try.func12, Try.ntmps12
  go_wp2_with fail
  refine HK.out.mono ?_
  rintro e w1 ⟨rfl, hb⟩
  have hb0 : Below w.heap.size w w1 := ((Below.refl _ w).alloc (Nat.le_refl _) _).trans (hb.mono (by simp))
  have hblk : w1.heap[w.heap.size]? = some (.cells #[.int .i64 c.kind, .int .i64 c.n, .string c.name, .string c.to, .slice c.A c.data.length c.cap] 33) := (hb.block w.heap.size (by simp)).trans (MapKept.heap_alloc w _).1
  have k0 : w1.cell? ⟨w.heap.size, 0, none⟩ = some (.int .i64 c.kind) := by simp only [World.cell?, hblk]; rfl
  have k1 : w1.cell? ⟨w.heap.size, 1, none⟩ = some (.int .i64 c.n) := by simp only [World.cell?, hblk]; rfl
  have k2 : w1.cell? ⟨w.heap.size, 2, none⟩ = some (.string c.name) := by simp only [World.cell?, hblk]; rfl
  have k3 : w1.cell? ⟨w.heap.size, 3, none⟩ = some (.string c.to) := by simp only [World.cell?, hblk]; rfl
  have k4 : w1.cell? ⟨w.heap.size, 4, none⟩ = some (.slice c.A c.data.length c.cap) := by simp only [World.cell?, hblk]; rfl
  have HB := Lib.hid hb0
  clear hb hblk hb0
  go_wp2_with fail
  refine (sync_ok w1 S sb s c.name HF.out.ok.name (HS.out.below HB.out) (by have := HF.out.files; omega) (by have := HF.out.used; omega)).mono ?_
  rintro e w2 h2
  have H2 := Lib.hid (After.from_ HS.out.lt HB.out h2)
  obtain ⟨rfl, _, _⟩ := h2
  clear k0 k1 k2 k3 k4
  go_wp2
  go_ret
  rw [HR.out]
  exact ⟨rfl, H2.out.2.1, H2.out.2.2⟩

set_option maxRecDepth 100000 in
set_option maxHeartbeats 1000000 in
theorem do_3 (w : World) (S : Nat → Prop) (sb : Nat) (s : St) (c : CallV) (B : Nat) (h : Sto w S sb s) (hf : Fits w S s c B) (hk : c.k = 3) :
    Calls Try.prog 12 #[.pointer (some ⟨sb, 0, none⟩), c.val] w (After w S sb (rename s c.name.data.toList c.to.data.toList)) := by
  have HK := Lib.hid (kind_ok (w.alloc (.cells #[.int .i64 c.kind, .int .i64 c.n, .string c.name, .string c.to, .slice c.A c.data.length c.cap] 33)) c)
  rw [hk] at HK
  have HS := Lib.hid h; have HF := Lib.hid hf
  obtain ⟨r, hr⟩ : ∃ r, r = rename s c.name.data.toList c.to.data.toList := ⟨_, rfl⟩
  rw [← hr]
  have HR := Lib.hid hr
  clear h hf hr
  unfold CallV.val at *
  go_enter Try.func12, Try.ntmps12
  go_wp2_with fail
  refine HK.out.mono ?_
  rintro e w1 ⟨rfl, hb⟩
  have hb0 : Below w.heap.size w w1 := ((Below.refl _ w).alloc (Nat.le_refl _) _).trans (hb.mono (by simp))
  have hblk : w1.heap[w.heap.size]? = some (.cells #[.int .i64 c.kind, .int .i64 c.n, .string c.name, .string c.to, .slice c.A c.data.length c.cap] 33) := (hb.block w.heap.size (by simp)).trans (MapKept.heap_alloc w _).1
  have k0 : w1.cell? ⟨w.heap.size, 0, none⟩ = some (.int .i64 c.kind) := by simp only [World.cell?, hblk]; rfl
  have k1 : w1.cell? ⟨w.heap.size, 1, none⟩ = some (.int .i64 c.n) := by simp only [World.cell?, hblk]; rfl
  have k2 : w1.cell? ⟨w.heap.size, 2, none⟩ = some (.string c.name) := by simp only [World.cell?, hblk]; rfl
  have k3 : w1.cell? ⟨w.heap.size, 3, none⟩ = some (.string c.to) := by simp only [World.cell?, hblk]; rfl
  have k4 : w1.cell? ⟨w.heap.size, 4, none⟩ = some (.slice c.A c.data.length c.cap) := by simp only [World.cell?, hblk]; rfl
  have HB := Lib.hid hb0
  clear hb hblk hb0
  go_wp2_with fail
  refine (rename_ok w1 S sb s c.name c.to HF.out.ok.name HF.out.ok.to (HS.out.below HB.out) (by have := HF.out.files; omega)).mono ?_
  rintro e w2 h2
  have H2 := Lib.hid (After.from_ HS.out.lt HB.out h2)
  obtain ⟨rfl, _, _⟩ := h2
  clear k0 k1 k2 k3 k4
  go_wp2
  go_ret
  rw [HR.out]
  exact ⟨rfl, H2.out.2.1, H2.out.2.2⟩

set_option maxRecDepth 100000 in
set_option maxHeartbeats 1000000 in
theorem do_4 (w : World) (S : Nat → Prop) (sb : Nat) (s : St) (c : CallV) (B : Nat) (h : Sto w S sb s) (hf : Fits w S s c B) (hk : c.k = 4) :
    Calls Try.prog 12 #[.pointer (some ⟨sb, 0, none⟩), c.val] w (After w S sb (delete s c.name.data.toList)) := by
  have HK := Lib.hid (kind_ok (w.alloc (.cells #[.int .i64 c.kind, .int .i64 c.n, .string c.name, .string c.to, .slice c.A c.data.length c.cap] 33)) c)
  rw [hk] at HK
  have HS := Lib.hid h; have HF := Lib.hid hf
  obtain ⟨r, hr⟩ : ∃ r, r = delete s c.name.data.toList := ⟨_, rfl⟩
  rw [← hr]
  have HR := Lib.hid hr
  clear h hf hr
  unfold CallV.val at *
  go_enter Try.func12, Try.ntmps12
  go_wp2_with fail
  refine HK.out.mono ?_
  rintro e w1 ⟨rfl, hb⟩
  have hb0 : Below w.heap.size w w1 := ((Below.refl _ w).alloc (Nat.le_refl _) _).trans (hb.mono (by simp))
  have hblk : w1.heap[w.heap.size]? = some (.cells #[.int .i64 c.kind, .int .i64 c.n, .string c.name, .string c.to, .slice c.A c.data.length c.cap] 33) := (hb.block w.heap.size (by simp)).trans (MapKept.heap_alloc w _).1
  have k0 : w1.cell? ⟨w.heap.size, 0, none⟩ = some (.int .i64 c.kind) := by simp only [World.cell?, hblk]; rfl
  have k1 : w1.cell? ⟨w.heap.size, 1, none⟩ = some (.int .i64 c.n) := by simp only [World.cell?, hblk]; rfl
  have k2 : w1.cell? ⟨w.heap.size, 2, none⟩ = some (.string c.name) := by simp only [World.cell?, hblk]; rfl
  have k3 : w1.cell? ⟨w.heap.size, 3, none⟩ = some (.string c.to) := by simp only [World.cell?, hblk]; rfl
  have k4 : w1.cell? ⟨w.heap.size, 4, none⟩ = some (.slice c.A c.data.length c.cap) := by simp only [World.cell?, hblk]; rfl
  have HB := Lib.hid hb0
  clear hb hblk hb0
  go_wp2_with fail
  refine (delete_ok w1 S sb s c.name HF.out.ok.name (HS.out.below HB.out)).mono ?_
  rintro e w2 h2
  have H2 := Lib.hid (After.from_ HS.out.lt HB.out h2)
  obtain ⟨rfl, _, _⟩ := h2
  clear k0 k1 k2 k3 k4
  go_wp2
  go_ret
  rw [HR.out]
  exact ⟨rfl, H2.out.2.1, H2.out.2.2⟩

set_option maxRecDepth 100000 in
set_option maxHeartbeats 1000000 in
theorem do_5 (w : World) (S : Nat → Prop) (sb : Nat) (s : St) (c : CallV) (B : Nat) (h : Sto w S sb s) (hf : Fits w S s c B) (hk : c.k = 5) :
    Calls Try.prog 12 #[.pointer (some ⟨sb, 0, none⟩), c.val] w (After w S sb (cut s c.name.data.toList c.n)) := by
  have HK := Lib.hid (kind_ok (w.alloc (.cells #[.int .i64 c.kind, .int .i64 c.n, .string c.name, .string c.to, .slice c.A c.data.length c.cap] 33)) c)
  rw [hk] at HK
  have HS := Lib.hid h; have HF := Lib.hid hf
  obtain ⟨r, hr⟩ : ∃ r, r = cut s c.name.data.toList c.n := ⟨_, rfl⟩
  rw [← hr]
  have HR := Lib.hid hr
  clear h hf hr
  unfold CallV.val at *
  go_enter Try.func12, Try.ntmps12
  go_wp2_with fail
  refine HK.out.mono ?_
  rintro e w1 ⟨rfl, hb⟩
  have hb0 : Below w.heap.size w w1 := ((Below.refl _ w).alloc (Nat.le_refl _) _).trans (hb.mono (by simp))
  have hblk : w1.heap[w.heap.size]? = some (.cells #[.int .i64 c.kind, .int .i64 c.n, .string c.name, .string c.to, .slice c.A c.data.length c.cap] 33) := (hb.block w.heap.size (by simp)).trans (MapKept.heap_alloc w _).1
  have k0 : w1.cell? ⟨w.heap.size, 0, none⟩ = some (.int .i64 c.kind) := by simp only [World.cell?, hblk]; rfl
  have k1 : w1.cell? ⟨w.heap.size, 1, none⟩ = some (.int .i64 c.n) := by simp only [World.cell?, hblk]; rfl
  have k2 : w1.cell? ⟨w.heap.size, 2, none⟩ = some (.string c.name) := by simp only [World.cell?, hblk]; rfl
  have k3 : w1.cell? ⟨w.heap.size, 3, none⟩ = some (.string c.to) := by simp only [World.cell?, hblk]; rfl
  have k4 : w1.cell? ⟨w.heap.size, 4, none⟩ = some (.slice c.A c.data.length c.cap) := by simp only [World.cell?, hblk]; rfl
  have HB := Lib.hid hb0
  clear hb hblk hb0
  go_wp2_with fail
  refine (cut_ok w1 S sb s c.name c.n HF.out.ok.name (HS.out.below HB.out) (by have := HF.out.files; omega) (by have := HF.out.used; omega)).mono ?_
  rintro e w2 h2
  have H2 := Lib.hid (After.from_ HS.out.lt HB.out h2)
  obtain ⟨rfl, _, _⟩ := h2
  clear k0 k1 k2 k3 k4
  go_wp2
  go_ret
  rw [HR.out]
  exact ⟨rfl, H2.out.2.1, H2.out.2.2⟩

set_option maxRecDepth 100000 in
set_option maxHeartbeats 1000000 in
theorem do_6 (w : World) (S : Nat → Prop) (sb : Nat) (s : St) (c : CallV) (B : Nat) (h : Sto w S sb s) (hf : Fits w S s c B) (hk : c.k = 6) :
    Calls Try.prog 12 #[.pointer (some ⟨sb, 0, none⟩), c.val] w (After w S sb ((0, setFuse s c.n))) := by
  have HK := Lib.hid (kind_ok (w.alloc (.cells #[.int .i64 c.kind, .int .i64 c.n, .string c.name, .string c.to, .slice c.A c.data.length c.cap] 33)) c)
  rw [hk] at HK
  have HS := Lib.hid h; have HF := Lib.hid hf
  obtain ⟨r, hr⟩ : ∃ r, r = (0, setFuse s c.n) := ⟨_, rfl⟩
  rw [← hr]
  have HR := Lib.hid hr
  clear h hf hr
  unfold CallV.val at *
  go_enter Try.func12, Try.ntmps12
  go_wp2_with fail
  refine HK.out.mono ?_
  rintro e w1 ⟨rfl, hb⟩
  have hb0 : Below w.heap.size w w1 := ((Below.refl _ w).alloc (Nat.le_refl _) _).trans (hb.mono (by simp))
  have hblk : w1.heap[w.heap.size]? = some (.cells #[.int .i64 c.kind, .int .i64 c.n, .string c.name, .string c.to, .slice c.A c.data.length c.cap] 33) := (hb.block w.heap.size (by simp)).trans (MapKept.heap_alloc w _).1
  have k0 : w1.cell? ⟨w.heap.size, 0, none⟩ = some (.int .i64 c.kind) := by simp only [World.cell?, hblk]; rfl
  have k1 : w1.cell? ⟨w.heap.size, 1, none⟩ = some (.int .i64 c.n) := by simp only [World.cell?, hblk]; rfl
  have k2 : w1.cell? ⟨w.heap.size, 2, none⟩ = some (.string c.name) := by simp only [World.cell?, hblk]; rfl
  have k3 : w1.cell? ⟨w.heap.size, 3, none⟩ = some (.string c.to) := by simp only [World.cell?, hblk]; rfl
  have k4 : w1.cell? ⟨w.heap.size, 4, none⟩ = some (.slice c.A c.data.length c.cap) := by simp only [World.cell?, hblk]; rfl
  have HB := Lib.hid hb0
  clear hb hblk hb0
  obtain ⟨mb, L, h1, hS, hM, hold, hlt⟩ := HS.out.below HB.out
  go_wp2_with fail
  refine (fuse_ok w1 sb mb L s c.n (by have := HF.out.ok.n; omega) h1).mono ?_
  rintro e w2 ⟨rfl, h2, hf2, hz2⟩
  have H2 := Lib.hid h2; have HF2 := Lib.hid hf2; have HO := Lib.hid hold; have HL := Lib.hid hlt
  clear h1 h2 hf2 hold hlt k0 k1 k2 k3 k4
  go_wp2
  go_ret
  rw [HR.out]
  have hfr : Fr S w w2 := (Fr.of_below HB.out).trans' (fr_sb hS HF2.out)
  exact ⟨rfl, Sto.mk_after H2.out hS hM (fun p hp k hk => .inl (HO.out p hp k hk)) HS.out.lt hfr.size, hfr⟩

set_option maxRecDepth 100000 in
set_option maxHeartbeats 1000000 in
theorem do_7 (w : World) (S : Nat → Prop) (sb : Nat) (s : St) (c : CallV) (B : Nat) (h : Sto w S sb s) (hf : Fits w S s c B) (hk : c.k = 7) :
    Calls Try.prog 12 #[.pointer (some ⟨sb, 0, none⟩), c.val] w (After w S sb ((0, crash s (keepsOf c)))) := by
  have HK := Lib.hid (kind_ok (w.alloc (.cells #[.int .i64 c.kind, .int .i64 c.n, .string c.name, .string c.to, .slice c.A c.data.length c.cap] 33)) c)
  rw [hk] at HK
  have HS := Lib.hid h; have HF := Lib.hid hf
  obtain ⟨r, hr⟩ : ∃ r, r = (0, crash s (keepsOf c)) := ⟨_, rfl⟩
  rw [← hr]
  have HR := Lib.hid hr
  clear h hf hr
  unfold CallV.val at *
  go_enter Try.func12, Try.ntmps12
  go_wp2_with fail
  refine HK.out.mono ?_
  rintro e w1 ⟨rfl, hb⟩
  have hb0 : Below w.heap.size w w1 := ((Below.refl _ w).alloc (Nat.le_refl _) _).trans (hb.mono (by simp))
  have hblk : w1.heap[w.heap.size]? = some (.cells #[.int .i64 c.kind, .int .i64 c.n, .string c.name, .string c.to, .slice c.A c.data.length c.cap] 33) := (hb.block w.heap.size (by simp)).trans (MapKept.heap_alloc w _).1
  have k0 : w1.cell? ⟨w.heap.size, 0, none⟩ = some (.int .i64 c.kind) := by simp only [World.cell?, hblk]; rfl
  have k1 : w1.cell? ⟨w.heap.size, 1, none⟩ = some (.int .i64 c.n) := by simp only [World.cell?, hblk]; rfl
  have k2 : w1.cell? ⟨w.heap.size, 2, none⟩ = some (.string c.name) := by simp only [World.cell?, hblk]; rfl
  have k3 : w1.cell? ⟨w.heap.size, 3, none⟩ = some (.string c.to) := by simp only [World.cell?, hblk]; rfl
  have k4 : w1.cell? ⟨w.heap.size, 4, none⟩ = some (.slice c.A c.data.length c.cap) := by simp only [World.cell?, hblk]; rfl
  have HB := Lib.hid hb0
  clear hb hblk hb0
  go_wp2_with fail
  refine (keeps_ok w1 c B ⟨HF.out.ok.n, HF.out.ok.name, HF.out.ok.to, HF.out.ok.row.below (HB.out.mono HF.out.B), HF.out.ok.nil, HF.out.ok.small, HF.out.ok.long⟩ (Nat.le_trans HF.out.B HB.out.size) HF.out.data).mono ?_
  rintro e w2 ⟨v, rfl, ho, hb2⟩
  obtain ⟨A, c2, rfl, hA, hbase, hrow⟩ := ho.row
  have hb02 : Below w.heap.size w w2 := HB.out.trans (hb2.mono HB.out.size)
  have hkl : (keepsOf c).length ≤ 1000001 := by have := HF.out.data; simp [keepsOf]; omega
  have hkw : ∀ x ∈ keepsOf c, x ≤ 9223372036854775807 := fun x hx => by
    rcases List.mem_cons.1 hx with rfl | hx
    · exact HF.out.ok.n.2
    · obtain ⟨y, _, rfl⟩ := List.mem_map.1 hx
      have := Nat.mod_lt y (show 0 < 16 by omega)
      omega
  have hns : 0 < (keepsOf c).length → ∀ a, A = some a → ¬ S a.block := fun _ a ha hs => by
    have h1 := hbase a ha
    have h2 := HS.out.lt _ hs
    have h3 := HB.out.size
    omega
  have HC := Lib.hid (crash_ok w2 S sb s A (keepsOf c) c2 w2.heap.size (HS.out.below hb02) (by have := HF.out.files; omega) (by have := HF.out.used; omega) (by omega) hkw hrow (Nat.le_refl _) hns)
  have HB2 := Lib.hid hb02
  clear ho hb2 hbase hrow hb02 hkw hns k0 k1 k2 k3 k4 hkl
  go_wp2_with fail
  refine HC.out.mono ?_
  rintro e w3 ⟨rfl, h3, hf3⟩
  have H3 := Lib.hid h3; have HF3 := Lib.hid hf3
  clear h3 hf3
  go_wp2
  go_ret
  rw [HR.out]
  exact ⟨rfl, Sto.from_ HS.out.lt HB2.out H3.out HF3.out, (Fr.of_below HB2.out).trans' HF3.out⟩

theorem do_ok (w : World) (S : Nat → Prop) (sb : Nat) (s : St) (c : CallV) (B : Nat) (h : Sto w S sb s) (hf : Fits w S s c B) :
    Calls Try.prog 12 #[.pointer (some ⟨sb, 0, none⟩), c.val] w (After w S sb (step s c)) := by
  have hlt : c.k < 8 := by unfold CallV.k; omega
  unfold step
  rcases (show c.k = 0 ∨ c.k = 1 ∨ c.k = 2 ∨ c.k = 3 ∨ c.k = 4 ∨ c.k = 5 ∨ c.k = 6 ∨ c.k = 7 by omega) with hk | hk | hk | hk | hk | hk | hk | hk
  · have := do_0 w S sb s c B h hf hk
    simpa [hk] using this
  · have := do_1 w S sb s c B h hf hk
    simpa [hk] using this
  · have := do_2 w S sb s c B h hf hk
    simpa [hk] using this
  · have := do_3 w S sb s c B h hf hk
    simpa [hk] using this
  · have := do_4 w S sb s c B h hf hk
    simpa [hk] using this
  · have := do_5 w S sb s c B h hf hk
    simpa [hk] using this
  · have := do_6 w S sb s c B h hf hk
    simpa [hk] using this
  · have := do_7 w S sb s c B h hf hk
    simpa [hk] using this
end Go.Proofs.Ytdaipoelicpnoaa
