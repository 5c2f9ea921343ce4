/-
  strings.IndexByte; tree's upTo, targetMay, nothing, attrsMay, kidsRise and what these are handed.
-/
import Derived.Test.YtanofmejokgijaaTrA
import Derived.Test.YtanofmejokgijaaTrB
import Derived.Test.YtanofmejokgijaaTreT
import Derived.Test.YtanofmejokgijaaPaC
import Derived.Lib.Bytealg
import Derived.Laws.Externs
namespace Go.Proofs.Ytanofmejokgijaa
open Go.RowKit
set_option linter.unusedVariables false

theorem idx_all (l : List UInt8) : decide (Lib.indexByte l 0 < 0) = l.all (fun c => c != 0) := by
  induction l with
  | nil => rfl
  | cons b l ih =>
    have hge := Lib.indexByte_ge l 0
    rw [Lib.indexByte, List.all_cons, ← ih]
    by_cases hb : b = 0
    · subst hb; simp
    · have h1 : (b == 0) = false := by simpa using hb
      have h2 : (b != 0) = true := by simpa using hb
      rw [h1, h2, Bool.true_and]
      by_cases hm : Lib.indexByte l 0 = -1
      · simp [hm]
      · have h3 : (Lib.indexByte l 0 == -1) = false := by simpa using hm
        simp only [h3, Bool.false_eq_true, if_false]
        rw [Bool.eq_iff_iff]
        simp only [decide_eq_true_eq]
        omega
theorem idx_run (l : List UInt8) (w : World) : (callFunc 114 #[tv l, .int .u8 0]).run Try.prog w = .ok (.value (.int .i64 (Lib.indexByte l 0))) w := by
  rw [run_callFunc_extern Try.func114 (by kernel_rfl) (by kernel_rfl) (by kernel_rfl) (e := Extern.BytealgIndexByte.indexByte) (by kernel_rfl), Lib.run_indexByteString]
  rfl
theorem idx1_any (l : List UInt8) (w : World) : Calls Try.prog 113 #[tv l, .int .u8 0] w fun e w' => e = .returned (.int .i64 (Lib.indexByte l 0)) ∧ w' = w := by
  have hr := idx_run l
  generalize Lib.indexByte l 0 = z at *
  go_enter Try.func113, Try.ntmps113
  go_wp2
  go_ret
  exact ⟨rfl, rfl⟩
theorem idx0_any (l : List UInt8) (w : World) : Calls Try.prog 108 #[tv l, .int .u8 0] w fun e w' => e = .returned (.int .i64 (Lib.indexByte l 0)) ∧ w' = w := by
  have hC := idx1_any l w
  generalize Lib.indexByte l 0 = z at *
  go_enter Try.func108, Try.ntmps108
  go_wp2_with fail
  refine hC.mono ?_
  rintro e w' ⟨rfl, rfl⟩
  go_wp2
  go_ret
  exact ⟨rfl, rfl⟩

theorem upto_any (x m : Int) (w : World) : Calls Try.prog 79 #[.int .i64 x, .int .i64 m] w fun e w' => e = .returned (.bool (upB x m)) ∧ w' = w := by
  unfold upB
  by_cases h1 : 0 ≤ x
  · have d1 : decide (0 ≤ x) = true := by simpa using h1
    rw [d1, Bool.true_and]
    clear h1
    go_enter Try.func79, Try.ntmps79
    go_wp2
    go_ret
    exact ⟨rfl, rfl⟩
  · have d1 : decide (0 ≤ x) = false := by simpa using h1
    rw [d1, Bool.false_and]
    clear h1
    go_enter Try.func79, Try.ntmps79
    go_wp2
    go_ret
    exact ⟨rfl, rfl⟩
theorem target_any (l : List UInt8) (w : World) : Calls Try.prog 99 #[tv l] w fun e w' => e = .returned (.bool (targetB l)) ∧ w' = w := by
  have e1 : ∀ t, binOp .neq t (tv l) (.string ⟨#[]⟩) = (pure (.bool !(l == [])) : Sem Value) := fun t => run_tne (P := Try.prog) t l []
  have hsz := size_mk l
  have hix := idx_all l
  unfold targetB
  rw [← hix]
  clear hix
  cases b1 : (l == [])
  · rw [b1] at e1
    have hd : decide (l.length ≤ 64) = decide ((l.length : Int) ≤ 64) := by rw [Bool.eq_iff_iff]; simp; omega
    rw [hd]
    cases b2 : decide ((l.length : Int) ≤ 64)
    · clear b1
      go_enter Try.func99, Try.ntmps99
      go_wp2
      go_ret
      exact ⟨rfl, rfl⟩
    · clear b1
      go_enter Try.func99, Try.ntmps99
      go_wp2_with fail
      refine (idx0_any l w).mono ?_
      rintro e w' ⟨rfl, rfl⟩
      go_wp2
      go_ret
      exact ⟨rfl, rfl⟩
  · rw [b1] at e1
    clear b1
    go_enter Try.func99, Try.ntmps99
    go_wp2
    go_ret
    exact ⟨rfl, rfl⟩
end Go.Proofs.Ytanofmejokgijaa
