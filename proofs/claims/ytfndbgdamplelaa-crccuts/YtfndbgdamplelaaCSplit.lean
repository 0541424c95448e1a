/-
  Layer 2 (crc): what Split answers, and that the statements' anchor is met.
-/
import Derived.Test.YtfndbgdamplelaaCNext
import Derived.Test.YtfndbgdamplelaaVRows
namespace Go.Proofs.Ytfndbgdamplelaa
open Go.RowKit

/-- What Split leaves: slices of bytes in a row of its own, whose frames bytes begin with; behind them is none. -/
def SplitPost (w : World) (l : List Nat) (e : Ending) (w' : World) : Prop :=
  ∃ v ls rest, e = .returned (.tuple #[v, .int .i64 ((CM.frames ls).length : Nat)]) ∧ l = CM.frames ls ++ rest ∧ CM.next rest = ([], 0) ∧ (∀ x ∈ ls, x.length < 18446744073709551616 ∧ ∀ c ∈ x, c < 256) ∧ Own2 w' w.heap.size v ls ∧ Below w.heap.size w w'

set_option maxRecDepth 100000 in
set_option maxHeartbeats 1000000 in
theorem split_row (A : Option Addr) (c : Nat) (l : List Nat) (w : World) (hm : l.length ≤ 100000000) (hlc : l.length ≤ c) (hcm : c ≤ maxLen) (hr : Row w w.heap.size .u8 A l) (hb : ∀ x ∈ l, x < 256) :
    Calls Try.prog 11 #[.slice A l.length c] w (SplitPost w l) := by
  obtain ⟨i0, hi, hz0, hz1, hz2⟩ := info_parts Try.info23
  have HR := Lib.hid hr; have HBY := Lib.hid hb
  clear hr hb
  go_enter Try.func11, Try.ntmps11
  go_wp2
  go_loopw [4, 5] (fun u i wr => ∃ (ls : List (List Nat)) (rest : List Nat), i = .int .i64 ((CM.frames ls).length : Nat) ∧ l = CM.frames ls ++ rest ∧ (∀ x ∈ ls, x.length < 18446744073709551616 ∧ ∀ c ∈ x, c < 256) ∧ Own2 wr w.heap.size u ls ∧ Below w.heap.size w wr)
    (fun _ i _ => l.length - (intOf i).toNat)
  case atStart => exact ⟨[], l, rfl, rfl, by simp, Own2.nil _ _, Below.refl _ _⟩
  case round =>
    obtain ⟨ls, rest, rfl, hl, hls, ho, hbw⟩ := hrel
    have hll : l.length = (CM.frames ls).length + rest.length := by rw [hl, List.length_append]
    have hrest : rest = l.drop (CM.frames ls).length := by rw [hl, List.drop_left]
    have hcutr : Row w w.heap.size .u8 (cutA A c (CM.frames ls).length) rest := by rw [hrest]; exact HR.out.cut (by omega) hlc
    have hrb : ∀ x ∈ rest, x < 256 := fun x hx => HBY.out x (by rw [hl]; exact List.mem_append_right _ hx)
    have hzr := hbw.size
    have h5 := CM.frames_len5 ls
    have hrl : rest.length ≤ 1000000000 := by omega
    have hrc : rest.length ≤ c - (CM.frames ls).length := by omega
    have hcut : ∀ W, (Instr.slice 23 (.slice A l.length c) (some (.int .i64 ((CM.frames ls).length : Int))) none none).run Try.prog W = .ok (.slice (cutA A c (CM.frames ls).length) rest.length (c - (CM.frames ls).length)) W := fun W => by
      rw [run_cut A l.length c (CM.frames ls).length W (by omega)]
      congr 2; omega
    have HN := Lib.hid (next_row (cutA A c (CM.frames ls).length) (c - (CM.frames ls).length) rest wr hrl hrc (by omega) ((hcutr.below hbw).mono hzr) hrb)
    have HL := Lib.hid hl; have HLS := Lib.hid hls; have HO := Lib.hid ho; have HBW := Lib.hid hbw; have HRB := Lib.hid hrb; have HLL := Lib.hid hll
    clear hl hls ho hbw hrb hcutr hrest
    have hfl : (CM.frames ls).length ≤ l.length := by omega
    clear hll
    generalize hF : (CM.frames ls).length = F at *
    have HF := Lib.hid hF; clear hF
    by_cases hk : (CM.next rest).2 = 0
    · have hkk : (((CM.next rest).2 : Nat) : Int) = 0 := by omega
      have hn : CM.next rest = ([], 0) := Prod.ext (CM.next_zero rest hk) hk
      have HNN := Lib.hid hn; clear hn hk
      go_wp2_with fail
      refine HN.out.mono ?_
      rintro e w1 ⟨v, rfl, hov, hb1⟩
      rw [hkk]
      have HB1 := Lib.hid hb1; clear hb1 hov hkk
      go_wp2
      go_ret2
      exact ⟨_, ls, rest, by rw [HF.out]; rfl, HL.out, HNN.out, HLS.out, HO.out.below HB1.out, HBW.out.trans (HB1.out.mono hzr)⟩
    · obtain ⟨m, he, hk2, hxl⟩ := CM.next_any rest HRB.out hk
      have hb0 : (((CM.next rest).2 : Int) == 0) = false := by simp; omega
      have hn5 := CM.next_five rest HRB.out hk
      have hnl := (CM.next_le rest HRB.out).1
      have hxb : ∀ c ∈ (CM.next rest).1, c < 256 := fun c hc => HRB.out c (by
        rw [he]
        refine List.mem_append_left _ ?_
        unfold CM.frame
        simp only [List.mem_append]
        exact .inl (.inr hc))
      unfold NextPost at HN
      generalize (CM.next rest).2 = n at *
      generalize (CM.next rest).1 = x at *
      have HE := Lib.hid he; have HK2 := Lib.hid hk2; have HXB := Lib.hid hxb
      clear he hk2 hk hxb
      have hFn : F + n ≤ 100000000 := by have := HLL.out; omega
      go_wp2_with fail
      refine HN.out.mono ?_
      rintro e w1 ⟨v, rfl, hov, hb1⟩
      obtain ⟨Av, cv, hv, hxc, hcmv, hAv, hrv⟩ := hov.form
      have hlt : ∀ k, v.ownBlock = some k → wr.heap.size ≤ k := hov.lt
      have HB1 := Lib.hid hb1; have HRV := Lib.hid hrv; have HAV := Lib.hid hAv; have HLT := Lib.hid hlt
      rw [hv] at HLT
      rw [hv]
      clear hb1 hrv hAv hlt hov hv
      obtain ⟨cells, hcells, hcl⟩ := HO.out.below HB1.out
      have hlen : ls.length ≤ 100000000 := by omega
      have HC := Lib.hid hcells; have HCL := Lib.hid hcl; clear hcells hcl
      go_wp2_with (at_builtin; refine wpList_append_own_at _ rfl _ _ 22 rfl w.heap.size 23 i0 (.slice none 0 0) 1 24 Try.underlying22 hi hz0 hz1 hz2 rfl (by decide) _ _ _ rfl (HC.out.alloc _) ⟨w1.heap.size, 0, none⟩ 1 1 [.slice Av x.length cv] rfl rfl ?c1 ?c2 ?c3 ?c4 ?c5 ?_)
      case c1 => exact cell_one_new _ _ _
      case c2 => intro u hu; simp at hu; subst hu; rfl
      case c3 => unfold maxLen; omega
      case c4 => omega
      case c5 => have := HB1.out.size; simp; omega
      intro v' w2 ho2 hg2 _ hp2
      have ho' : Own2 w2 w.heap.size v' (ls ++ [x]) := Own2.snoc (w := w1) (A := Av) (c := cv) HRV.out HAV.out hxc hcmv (fun hx ad ha hne => by
        obtain ⟨h1, h2⟩ := HO.out.lt ad.block hne.symm
        have := HLT.out ad.block (by rw [ha]; rfl)
        omega) HCL.out (by have := HC.out.1; omega) ho2 hg2 (by simpa using hp2)
      have hb2 : Below w.heap.size w w2 := ((HBW.out.trans (HB1.out.mono hzr)).alloc (by have := HB1.out.size; omega) _).grown hg2 (by have := HB1.out.size; simp; omega) (fun k hk => (HO.out.lt k hk).1)
      have HO2 := Lib.hid ho'; have HB2 := Lib.hid hb2
      clear ho2 hg2 hp2 ho' hb2
      go_wp2
      go_roundw
      case rel => exact ⟨ls ++ [x], m, by rw [CM.frames_snoc, List.length_append, HF.out, ← HK2.out]; go_num, by rw [CM.frames_snoc, List.append_assoc, ← HE.out]; exact HL.out, fun y hy => (List.mem_append.1 hy).elim (HLS.out y) (fun h => by simp at h; subst h; exact ⟨hxl, HXB.out⟩), HO2.out, HB2.out⟩
      case measure => have := HLL.out; simp [intOf]; omega
end Go.Proofs.Ytfndbgdamplelaa
