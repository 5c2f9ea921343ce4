/-
  StoreCrashes: what its walk's cores share.
-/
import Derived.Test.YtbcldknecdbemaaGreatDoorS13B
import Derived.Test.YtbcldknecdbemaaGreatDoorQ16
namespace Go.Proofs.YtbcldknecdbemaaGreatDoor
open Go.RowKit
set_option linter.unusedVariables false
set_option maxRecDepth 20000

theorem pref_place (nm f : Byts) : preF [(placeB nm, f)] [116, 47] = [] := by
  unfold preF placeB prefB
  simp
theorem putE_w {D : Dk} (hok : D.Ok) (nm b : Byts) : ∀ i, i ≤ 4 → PutW D b.length (putE D nm b i).1 i
  | 0, _ => ⟨by show D.weight ≤ _; omega, Nat.le_refl _, rfl, hok⟩
  | i + 1, hi => by
    have ih := putE_w hok nm b i (by omega)
    by_cases h : (putE D nm b i).2 = 0
    · rw [putE_next h]
      exact putF_w ih (by omega) (fun h => by subst h; rfl)
    · have := putE_stop h 1
      rw [this]
      exact ⟨ih.wt, by have := ih.wl; omega, ih.rm, ih.ok⟩
theorem putD_w (D : Dk) (b : Byts) (hok : D.Ok) : PutW D b.length (putD D b).1 4 := by
  have h0 : PutW D b.length D 4 := ⟨by omega, by omega, rfl, hok⟩
  unfold putD
  split
  · exact h0
  · split
    · exact h0
    · rw [← putE_four]
      exact putE_w hok _ b 4 (by omega)
end Go.Proofs.YtbcldknecdbemaaGreatDoor
