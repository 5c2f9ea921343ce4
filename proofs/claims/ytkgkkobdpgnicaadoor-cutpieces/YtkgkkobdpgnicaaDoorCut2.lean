/-
  Cuts of a slice whose elements have one cell (of no program), whatever the bounds: where what is cut out lies.
-/
import Derived.Test.YtkgkkobdpgnicaaDoorCut
namespace Go.Proofs.YtkgkkobdpgnicaaDoor
open Go.RowKit
set_option linter.unusedVariables false
set_option linter.unusedSectionVars false

section
variable {P : Program} {t e : TypeId} (ht : P.underlying t = some (.slice e)) (hs : (P.info? e).map (·.size) = some 1) (A : Option Addr) (n c : Nat)
include ht hs
/-- b[l:h] -/
theorem cut_mid (k k' : IntKind) (lo hi : Int) (l h : Nat) (hlo : lo = (l : Int)) (hhi : hi = (h : Int)) (h1 : l ≤ h) (h2 : h ≤ c) :
    ∃ A' : Option Addr, (∀ u, (Instr.sliceAt t (.slice A n c) (some (.int k lo)) (some (.int k' hi)) none).run P u = .ok (.slice A' (h - l) (c - l)) u) ∧
      ∀ (w : World) (B : Nat) (vs : List Value), Lies w B A vs → Lies w B A' ((vs.drop l).take (h - l)) := by
  subst hlo hhi
  have ht' : P.underlying t = some (.slice (P.elem t)) := by rw [elem_of ht hs]; exact ht
  refine ⟨if c = l then A else A.map (·.add l), fun u => ?_, fun w B vs hL => ?_⟩
  · rw [run_sliceAt_slice u t _ _ _ _ ht', run_slice_lh u t A n c ht' k k' l h (by omega) (by omega) (by omega), size_of_elem ht hs]
    simp [Result.andThen, sliced]
  · split
    · rw [show h - l = 0 by omega]
      simp [Lies.empty]
    · exact (hL.from_ l).take _
/-- b[l:] -/
theorem cut_from (k : IntKind) (lo : Int) (l : Nat) (hlo : lo = (l : Int)) (h1 : l ≤ n) (h2 : n ≤ c) :
    ∃ A' : Option Addr, (∀ u, (Instr.sliceAt t (.slice A n c) (some (.int k lo)) none none).run P u = .ok (.slice A' (n - l) (c - l)) u) ∧
      ∀ (w : World) (B : Nat) (vs : List Value), vs.length = n → Lies w B A vs → Lies w B A' (vs.drop l) := by
  subst hlo
  have ht' : P.underlying t = some (.slice (P.elem t)) := by rw [elem_of ht hs]; exact ht
  refine ⟨if c = l then A else A.map (·.add l), fun u => ?_, fun w B vs hv hL => ?_⟩
  · rw [run_sliceAt_slice u t _ _ _ _ ht', run_slice_l u t A n c ht' k l (by omega) (by omega), size_of_elem ht hs]
    simp [Result.andThen, sliced]
  · split
    · rw [List.drop_eq_nil_of_le (by omega)]
      exact Lies.empty
    · exact hL.from_ l
/-- b[:h] -/
theorem cut_to (k : IntKind) (hi : Int) (h : Nat) (hhi : hi = (h : Int)) (h2 : h ≤ c) (u : World) : (Instr.sliceAt t (.slice A n c) none (some (.int k hi)) none).run P u = .ok (.slice A h c) u := by
  subst hhi
  exact run_cut_to ht hs A n c h k h2 u
end
/-- What a cut b[l:] leads to, as a walk spells it. -/
theorem Lies.cut {w : World} {B : Nat} {A : Option Addr} {vs : List Value} (h : Lies w B A vs) {l c : Nat} (hv : vs.length ≤ c) : Lies w B (if c = l then A else A.map (·.add l)) (vs.drop l) := by
  split
  · rw [List.drop_eq_nil_of_le (by omega)]
    exact Lies.empty
  · exact h.from_ l
end Go.Proofs.YtkgkkobdpgnicaaDoor
