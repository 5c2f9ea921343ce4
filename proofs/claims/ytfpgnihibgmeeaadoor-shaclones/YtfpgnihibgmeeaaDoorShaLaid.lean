/-
  From the row's condition (the variable keys reads as its initialiser lays it) to what the walks ask.
-/
import Derived.Test.YtfpgnihibgmeeaaDoorShaF
import Derived.LaidMore
import Derived.Lib.LaidTab
import Derived.ProofKit
import Derived.Stop.Joined
namespace Go.Proofs.YtfpgnihibgmeeaaDoor
open Go.RowKit
set_option linter.unusedVariables false
theorem gKeys : Tryd.prog.globalNamed "lighterage/sha.keys" = some 0 := by kernel_rfl
theorem tKeys : (Tryd.prog.globals[0]?).map (·.type) = some 58 := by kernel_rfl
theorem keys_tab : (Rows.laid_lighterage_sha_keys : DataW Unit) = Lib.tabData .u32 (roots64.map fun n : Nat => (n : Int)) := rfl
theorem keys_of_laid {W : World} (h : laidMetH Tryd.prog [("lighterage/sha.keys", Rows.laid_lighterage_sha_keys)] W) : Keys W := by
  rw [MakeChecks.laidMetH_plain _ _ _ (by kernel_rfl), keys_tab] at h
  have ht := Lib.tabIs_of_head gKeys tKeys Tryd.underlying58 Tryd.underlying40 (by kernel_rfl) (by kernel_rfl) h
  intro j u hu
  have hj : j < roots64.length := by have := (List.getElem?_eq_some_iff.1 hu).1; simpa using this
  have := ht.cell gKeys j (by simpa using hj)
  rw [Nat.zero_add, this, ← hu, List.getElem?_map, getD_some hj]
  simp [hj]
end Go.Proofs.YtfpgnihibgmeeaaDoor
