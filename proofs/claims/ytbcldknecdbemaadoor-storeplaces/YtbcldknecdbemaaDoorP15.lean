/-
  Contracts, joined (RkG).
-/
import Derived.Test.YtbcldknecdbemaaDoorP14

/-
  like: has a disk the reference's files?
-/
namespace Go.Proofs.YtbcldknecdbemaaDoor
open Go.RowKit
set_option linter.unusedVariables false
set_option maxRecDepth 20000

theorem preF_nil (S : Fls) : preF S [] = S.map (·.1) := by
  have : S.filter (fun x => prefB x.1 []) = S := List.filter_eq_self.2 (fun x _ => by simp [prefB])
  unfold preF
  rw [this]

end Go.Proofs.YtbcldknecdbemaaDoor
