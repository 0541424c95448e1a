/-
  Layer 1 (vary): bytes as a text, the beginning of a slice, bytes appended to a row of the call's own.
-/
import Derived.Test.YtdbnpdbnjipjiaaVPut
import Derived.Laws.BytesArg
import Derived.Laws.AppendOwnNone
namespace Go.Proofs.Ytdbnpdbnjipjiaa
open Go.RowKit
set_option maxRecDepth 100000

/-- The text of these bytes. -/
def str (l : List Nat) : ByteArray := strOfNums (l.map Int.ofNat)
theorem str_list (l : List Nat) : (str l).data.toList = l.map UInt8.ofNat := by
  unfold str; rw [strOfNums_data, List.map_map]; congr 1
theorem str_size (l : List Nat) : (str l).size = l.length := by unfold str; rw [strOfNums_size, List.length_map]
theorem str_inj {l m : List Nat} (hl : ∀ c ∈ l, c < 256) (hm : ∀ c ∈ m, c < 256) (h : str l = str m) : l = m := by
  have h := congrArg (fun s : ByteArray => s.data.toList) h
  simp only [str_list] at h
  have back : ∀ l : List Nat, (∀ c ∈ l, c < 256) → (l.map UInt8.ofNat).map UInt8.toNat = l := fun l hl => by
    rw [List.map_map]
    conv => rhs; rw [← List.map_id l]
    exact List.map_congr_left fun c hc => by have := hl c hc; simp; omega
  rw [← back l hl, ← back m hm, h]

theorem str_toList (l : List Nat) : (str l).toList = l.map UInt8.ofNat := by rw [ByteArray.toList_eq, str_list]
theorem str_ne {l m : List Nat} (hl : ∀ c ∈ l, c < 256) (hm : ∀ c ∈ m, c < 256) (h : l ≠ m) : ((str l).toList == (str m).toList) = false := by
  rw [beq_eq_false_iff_ne]
  intro e
  refine h (str_inj hl hm ?_)
  rw [ByteArray.toList_eq, ByteArray.toList_eq] at e
  exact ByteArray.ext (Array.toList_inj.1 e)

end Go.Proofs.Ytdbnpdbnjipjiaa
