/-
  Contract of the reference's Around: a remainder.
-/
import Derived.Test.YtkgkkobdpgnicaaDoorRows
import Derived.Test.YtkgkkobdpgnicaaDoorBase
import Derived.Outline
import Derived.Lib.Hide
namespace Go.Proofs.YtkgkkobdpgnicaaDoor
open Go.RowKit
set_option linter.unusedVariables false

theorem ret_int {k : IntKind} {a b : Int} (h : a = b) : Ending.returned (.int k a) = .returned (.int k b) := by rw [h]
/-- What Around answers. -/
def around (n : Int) (m : Nat) : Nat := ((if n < 0 then -(n + 1) else n) % (m : Int)).toNat
theorem around_lt (n : Int) {m : Nat} (h : 0 < m) : around n m < m := by
  unfold around
  have h1 := Int.emod_lt_of_pos (if n < 0 then -(n + 1) else n) (show (0 : Int) < (m : Int) by omega)
  have h2 := Int.emod_nonneg (if n < 0 then -(n + 1) else n) (show (m : Int) ≠ 0 by omega)
  omega

set_option maxHeartbeats 400000 in
theorem around_any (n : Int) (m : Nat) (w : World) (hn : -9223372036854775808 ≤ n ∧ n ≤ 9223372036854775807) (hm : 0 < m ∧ m ≤ 4611686018427387904) :
    Calls Tryd.prog 10 #[.int .i64 n, .int .i64 (m : Int)] w fun e w' => e = .returned (.int .i64 (around n m : Int)) ∧ w = w' := by
  obtain ⟨n1, n2⟩ := hn
  obtain ⟨m1, m2⟩ := hm
  have hz : ((m : Int) == 0) = false := by simp; omega
  by_cases h : n < 0
  · have hr : (around n m : Int) = (-(n + 1)) % (m : Int) := by
      unfold around
      rw [if_pos h]
      have h2 := Int.emod_nonneg (-(n + 1)) (show (m : Int) ≠ 0 by omega)
      omega
    rw [hr]
    clear hr
    go_enter Tryd.func10, Tryd.ntmps10
    go_wp2
    go_ret
    exact ⟨ret_int (by rw [← Int.neg_tmod, Int.tmod_eq_emod_of_nonneg (by omega)]), rfl⟩
  · have hr : (around n m : Int) = n % (m : Int) := by
      unfold around
      rw [if_neg h]
      have h2 := Int.emod_nonneg n (show (m : Int) ≠ 0 by omega)
      omega
    rw [hr]
    clear hr
    go_enter Tryd.func10, Tryd.ntmps10
    go_wp2
    go_ret
    exact ⟨rfl, rfl⟩

end Go.Proofs.YtkgkkobdpgnicaaDoor
