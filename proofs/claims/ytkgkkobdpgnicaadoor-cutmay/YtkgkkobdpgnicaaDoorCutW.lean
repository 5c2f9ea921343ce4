/-
  Two package variables in one condition: the second one's own.
-/
import Derived.Test.YtkgkkobdpgnicaaDoorCutQ
namespace Go.Proofs.YtkgkkobdpgnicaaDoor
open Go.RowKit
set_option linter.unusedVariables false
theorem laid_tail {P : Program} {W : World} {x : String × DataW Unit} {rest : List (String × DataW Unit)} (h : laidMet P (x :: rest) W) : laidMet P rest W := by
  obtain ⟨ps, ⟨g, t, cs, fuel, p, q, _, _, _, _, hq, rfl⟩, hn, hk⟩ := h
  exact ⟨q, hq, (List.nodup_append.1 hn).2.1, fun b off hm => hk b off (List.mem_append_right _ hm)⟩
theorem starts_of_laid2 {W : World} (h : laidMetH Tryd.prog [("lighterage/sha.keys", Rows.laid_lighterage_sha_keys), ("lighterage/roll.starts", Rows.laid_lighterage_roll_starts)] W) : Starts W := by
  rw [MakeChecks.laidMetH_plain _ _ _ (by kernel_rfl)] at h
  exact starts_of_laid (by rw [MakeChecks.laidMetH_plain _ _ _ (by kernel_rfl)]; exact laid_tail h)
end Go.Proofs.YtkgkkobdpgnicaaDoor
