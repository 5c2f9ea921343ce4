/-
  Parameters that came in; from the row's condition (the variable starts reads as its initialiser lays it) to what the walks ask.
-/
import Derived.Test.YtkgkkobdpgnicaaDoorCutP
import Derived.Test.YtkgkkobdpgnicaaDoorRin
import Derived.Lib.SmallJoins
import Derived.LaidMore
import Derived.Lib.LaidTab
import Derived.ProofKit
import Derived.Stop.Joined
namespace Go.Proofs.YtkgkkobdpgnicaaDoor
open Go.RowKit
open Go.ChangeShapes Go.WideShapes
set_option linter.unusedVariables false

theorem i64_wf {n : Int} (h : (Lit.int .i64 n).wf = true) : I64 n := by
  simp [Lit.wf, IntKind.min, IntKind.max, IntKind.signed, IntKind.bits] at h
  exact ⟨by omega, by omega⟩
/-- Three ints that came in as a struct. -/
theorem open_int3 {H : Type} {enc : TypeId × Value → H} {P : Program} {w : World} {base b0 : Nat} {spare : Nat → Bool} {held : Bool} {r : Reach} {t : TypeId} {f0 f1 f2 : Field} {v : Value} {d : DataW H} {p : List MemPlace}
    (hs : P.underlying t = some (.struct #[f0, f1, f2])) (hone : Go.Deep.oneCellFields P #[f0, f1, f2] = true) (hC : P.cellsOf t = 3)
    (h0 : P.underlying f0.type = some (.int .i64)) (h1 : P.underlying f1.type = some (.int .i64)) (h2 : P.underlying f2.type = some (.int .i64))
    (hv : Value.okWide P w r b0 t v) (h : DataW.Trod enc P w base spare held t v d p) : ∃ a b c : Int, v = .agg #[.int .i64 a, .int .i64 b, .int .i64 c] ∧ I64 a ∧ I64 b ∧ I64 c := by
  obtain ⟨v0, v1, v2, y0, y1, y2, n, rfl, _, _, k0, k1, k2⟩ := Go.Joins.open_agg3 hs hone hC hv h
  obtain ⟨a, e0, _, w0⟩ := DataW.trod_int h0 k0
  obtain ⟨b, e1, _, w1⟩ := DataW.trod_int h1 k1
  obtain ⟨c, e2, _, w2⟩ := DataW.trod_int h2 k2
  obtain rfl : v0 = .int .i64 a := by simpa using e0
  obtain rfl : v1 = .int .i64 b := by simpa using e1
  obtain rfl : v2 = .int .i64 c := by simpa using e2
  exact ⟨a, b, c, rfl, i64_wf w0, i64_wf w1, i64_wf w2⟩
theorem gStarts : Tryd.prog.globalNamed "lighterage/roll.starts" = some 0 := by kernel_rfl
theorem tStarts : (Tryd.prog.globals[0]?).map (·.type) = some 109 := by kernel_rfl
theorem starts_tab : (Rows.laid_lighterage_roll_starts : DataW Unit) = Lib.tabData .u32 (starts16.map fun n : Nat => (n : Int)) := rfl
theorem starts_of_laid {W : World} (h : laidMetH Tryd.prog [("lighterage/roll.starts", Rows.laid_lighterage_roll_starts)] W) : Starts W := by
  rw [MakeChecks.laidMetH_plain _ _ _ (by kernel_rfl), starts_tab] at h
  have ht := Lib.tabIs_of_head gStarts tStarts Tryd.underlying109 Tryd.underlying39 (by kernel_rfl) (by kernel_rfl) h
  intro j u hu
  have hj : j < starts16.length := by have := (List.getElem?_eq_some_iff.1 hu).1; simpa using this
  have := ht.cell gStarts j (by simpa using hj)
  rw [Nat.zero_add, this, ← hu, List.getElem?_map, List.getElem?_eq_getElem hj, List.getD_eq_getElem?_getD, List.getElem?_map, List.getElem?_eq_getElem hj]
  rfl
end Go.Proofs.YtkgkkobdpgnicaaDoor
