/-
  A []int that came in, as numbers that lie there (of no program).
-/
import Derived.Test.YtkgkkobdpgnicaaDoorBase
namespace Go.Proofs.YtkgkkobdpgnicaaDoor
open Go.RowKit
set_option linter.unusedVariables false

/-- An int, whatever it is, as a value. -/
abbrev zv (z : Int) : Value := .int .i64 z
/-- What is told of a []int that came in. -/
theorem row_ints {w : World} {a : Option Addr} {len cap : Nat} {zs : List Int}
    (h : (a = none ∧ len = 0 ∧ cap = 0 ∧ zs = []) ∨ ∃ x, a = some x ∧ len ≤ cap ∧ cap ≤ maxLen ∧ zs.length = cap ∧ (∀ i, i < zs.length → w.cell? (x.add i) = some (.int .i64 (zs.getD i 0))) ∧ ∀ n ∈ zs, (Lit.int .i64 n).wf = true) :
    ∃ l : List Int, l.length = len ∧ Lies w w.heap.size a (l.map zv) ∧ len ≤ cap ∧ cap ≤ maxLen ∧ ∀ z ∈ l, -9223372036854775808 ≤ z ∧ z ≤ 9223372036854775807 := by
  rcases h with ⟨rfl, rfl, rfl, rfl⟩ | ⟨x, rfl, hl, hm, hz, hc, hw⟩
  · exact ⟨[], rfl, Lies.empty, Nat.le_refl _, Nat.zero_le _, fun _ h => by simp at h⟩
  · refine ⟨zs.take len, by simp; omega, fun j u hu => ?_, hl, hm, fun z hz' => ?_⟩
    · rw [List.getElem?_map, List.getElem?_take] at hu
      split at hu
      · rename_i hj
        have hjz : j < zs.length := by omega
        rw [List.getElem?_eq_getElem hjz] at hu
        simp at hu
        have h1 := hc j hjz
        refine ⟨x, rfl, ?_, ?_⟩
        · have := World.block_lt_of_cell? w _ h1
          rwa [add_block] at this
        · rw [h1, ← hu]
          simp [List.getElem?_eq_getElem hjz]
      · simp at hu
    · have h2 := hw z (List.mem_of_mem_take hz')
      simp [Lit.wf, IntKind.min, IntKind.max, IntKind.signed, IntKind.bits] at h2
      omega

end Go.Proofs.YtkgkkobdpgnicaaDoor
