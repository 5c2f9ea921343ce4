/-
  Contract of errors.Is over two values of api.Errno: it returns whether the two numbers are one; memory is left as it was. No condition.
-/
import Derived.Test.YtgkoopnbphohaaaChecked
import Derived.WalkKit
import Derived.LaidEql
import Derived.Stop.Asserts
import Derived.Outline
namespace Go.Proofs.Ytgkoopnbphohaaa
open Go.RowKit Go.Extern.Stop Go.Stop Go.Extern
set_option linter.unusedVariables false

theorem isTypeOf (v : Value) (w : World) : (callFunc 30 #[.iface 25 v]).run Try.prog w = .ok (.value (.iface 59 (.agg #[.pointer (some ⟨0, 25, none⟩)]))) w := by kernel_rfl
theorem isComparable (w : World) : (callFunc 51 #[.agg #[.pointer (some ⟨0, 25, none⟩)]]).run Try.prog w = .ok (.value (.bool true)) w := by kernel_rfl
theorem isMethod (v : Value) (w : World) : (Go.method 203 59 v "Comparable").run Try.prog w = .ok (51, v) w := by kernel_rfl
theorem isComp : (Try.prog.info? 25).map (·.comparable) = some true := by kernel_rfl
theorem noIs (v : Value) (xT : TypeId) (w : World) : (Instr.typeAssert (.iface 25 v) xT 61 true).run Try.prog w = .ok (.tuple #[.nilIface, .bool false]) w := run_typeAssert_lacksB Try.underlying61 (by kernel_rfl) (by kernel_rfl) v xT w
theorem noUnwrap (v : Value) (xT : TypeId) (w : World) : (Instr.typeAssert (.iface 25 v) xT 64 true).run Try.prog w = .ok (.tuple #[.nilIface, .bool false]) w := run_typeAssert_lacksB Try.underlying64 (by kernel_rfl) (by kernel_rfl) v xT w
theorem noUnwraps (v : Value) (xT : TypeId) (w : World) : (Instr.typeAssert (.iface 25 v) xT 66 true).run Try.prog w = .ok (.tuple #[.nilIface, .bool false]) w := run_typeAssert_lacksB Try.underlying66 (by kernel_rfl) (by kernel_rfl) v xT w

/-- '==' between two Errnos that are held as errors. -/
theorem eql_errno (a b : Int) (w : World) : (binOp .eql 53 (.iface 25 (.int .i64 a)) (.iface 25 (.int .i64 b))).run Try.prog w = .ok (.bool (a == b)) w := by
  obtain ⟨i, hi, hcmp⟩ := Option.map_eq_some_iff.1 isComp
  have deep : ∀ d : Nat, (Op.equalIn (d + 2) 53 (.iface 25 (.int .i64 a)) (.iface 25 (.int .i64 b))).run Try.prog w = .ok (a == b) w := fun d => by
    simp [Op.equalIn, run_underlying Try.underlying53, run_underlying Try.underlying25, typeInfo, hi, hcmp]
  have h := deep 9998
  simp only [binOp]
  simp [Op.equal, Op.maxDepth, h]

set_option maxHeartbeats 400000 in
theorem is_true (a : Int) (w : World) :
    Calls Try.prog 26 #[.iface 25 (.int .i64 a), .iface 25 (.int .i64 a)] w fun e w' => e = .returned (.bool true) ∧ w = w' := by
  have tT := isTypeOf
  have cT := isComparable
  have mT := isMethod
  have hq := eql_errno a a
  simp only [beq_self_eq_true] at hq
  go_enter Try.func26, Try.ntmps26
  go_wp2
  refine wp_loop_rounds 1 ?_
  rw [rounds_succ]
  go_wp2
  go_ret
  exact ⟨rfl, rfl⟩

set_option maxHeartbeats 400000 in
theorem is_false (a b : Int) (w : World) (hab : a ≠ b) :
    Calls Try.prog 26 #[.iface 25 (.int .i64 a), .iface 25 (.int .i64 b)] w fun e w' => e = .returned (.bool false) ∧ w = w' := by
  have tT := isTypeOf
  have cT := isComparable
  have mT := isMethod
  have hq := eql_errno a b
  rw [show (a == b) = false from by simpa using hab] at hq
  have n1 := noIs
  have n2 := noUnwrap
  have n3 := noUnwraps
  clear hab
  go_enter Try.func26, Try.ntmps26
  go_wp2
  refine wp_loop_rounds 1 ?_
  rw [rounds_succ]
  go_wp2
  go_ret
  exact ⟨rfl, rfl⟩
end Go.Proofs.Ytgkoopnbphohaaa
