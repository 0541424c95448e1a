/-
  FileRuns' model: do, whatever the call.
-/
import Derived.Test.YtdaipoelicpnoaaFMK1
import Derived.Test.YtdaipoelicpnoaaFMK2
import Derived.Test.YtdaipoelicpnoaaFMK0
import Derived.Test.YtdaipoelicpnoaaFMK0b
import Derived.Test.YtdaipoelicpnoaaFMK3
import Derived.Test.YtdaipoelicpnoaaFMK5
namespace Go.Proofs.Ytdaipoelicpnoaa
open Go.RowKit Go.Maps FM

theorem mdo_ok (w : World) (T : Nat → Prop) (pb : Nat) (s : St) (c : CallV) (B : Nat) (h : Mod w T pb s) (hf : MFits w s c B) (hapT : 0 < c.data.length → ∀ a, c.A = some a → ¬ T a.block) :
    Calls Try.prog 11 #[.pointer (some ⟨pb, 0, none⟩), c.val] w (MAfter w T pb (step s c)) := by
  obtain ⟨v, h, hp, hold, hlt⟩ := h
  have h8 : c.k < 8 := by unfold CallV.k; omega
  by_cases h6 : c.k = 6
  · exact mdo_6 w T pb v s c B h hp hold hlt hf h6
  by_cases h7 : c.k = 7
  · exact mdo_7 w T pb v s c B h hp hold hlt hf h7
  have hk : c.k < 6 := by omega
  by_cases he : wrongV s c (found c.name.data.toList s.fs) = 0
  · by_cases hz : s.fuse = 0
    · exact mdo_burnt w T pb v s c B h hp hold hlt hf hk he hz
    · rcases (show 0 < s.fuse ∨ s.fuse < 0 by omega) with hz | hz
      · rcases (show c.k < 2 ∨ c.k = 2 ∨ c.k = 3 ∨ c.k = 4 ∨ c.k = 5 by omega) with k | k | k | k | k
        · rcases hfd : found c.name.data.toList s.fs with _ | _
          · exact mdo_0l_counts w T pb v s c B h hp hold hlt hf k he hz hfd hapT
          · exact mdo_0f_counts w T pb v s c B h hp hold hlt hf k he hz hfd hapT
        · exact mdo_2_counts w T pb v s c B h hp hold hlt hf k he hz
        · exact mdo_3_counts w T pb v s c B h hp hold hlt hf k he hz
        · exact mdo_4_counts w T pb v s c B h hp hold hlt hf k he hz
        · exact mdo_5_counts w T pb v s c B h hp hold hlt hf k he hz
      · rcases (show c.k < 2 ∨ c.k = 2 ∨ c.k = 3 ∨ c.k = 4 ∨ c.k = 5 by omega) with k | k | k | k | k
        · rcases hfd : found c.name.data.toList s.fs with _ | _
          · exact mdo_0l_free w T pb v s c B h hp hold hlt hf k he hz hfd hapT
          · exact mdo_0f_free w T pb v s c B h hp hold hlt hf k he hz hfd hapT
        · exact mdo_2_free w T pb v s c B h hp hold hlt hf k he hz
        · exact mdo_3_free w T pb v s c B h hp hold hlt hf k he hz
        · exact mdo_4_free w T pb v s c B h hp hold hlt hf k he hz
        · exact mdo_5_free w T pb v s c B h hp hold hlt hf k he hz
  · exact mdo_err w T pb v s c B h hp hold hlt hf hk he
end Go.Proofs.Ytdaipoelicpnoaa
