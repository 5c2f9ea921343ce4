/-
  Contracts of crc's product, steps and Join.
-/
import Derived.Test.YthnjbmaiebiehaaCrcA
import Derived.Test.YthnjbmaiebiehaaCrcN
namespace Go.Proofs.Ythnjbmaiebiehaa
open Go.RowKit
set_option linter.unusedVariables false

theorem w32_wrap (a : Nat) : IntKind.u32.wrap (a : Int) = ((a % 4294967296 : Nat) : Int) := by
  simp [IntKind.wrap, IntKind.signed, IntKind.bits]
theorem and_pow (x i : Nat) : x &&& 2 ^ i = if x.testBit i then 2 ^ i else 0 := by
  refine Nat.eq_of_testBit_eq fun j => ?_
  rw [Nat.testBit_and, Nat.testBit_two_pow]
  by_cases h : i = j
  · subst h
    cases hb : x.testBit i <;> simp
  · cases hb : x.testBit i <;> simp [h]
theorem top_bit (b k : Nat) (hk : k < 32) : bits .and .u32 ((b : Int) * 2 ^ k % 4294967296) 2147483648 = if b.testBit (31 - k) then 2147483648 else 0 := by
  have e1 : ((b : Int) * 2 ^ k) % 4294967296 = ((b * 2 ^ k % 4294967296 : Nat) : Int) := by simp
  have e2 := u32_and_nat (b * 2 ^ k % 4294967296) 2147483648 (Nat.mod_lt _ (by decide)) (by decide)
  rw [e1]
  refine e2.trans ?_
  have e3 := and_pow (b * 2 ^ k % 2 ^ 32) 31
  rw [Nat.testBit_mod_two_pow, Nat.testBit_mul_two_pow, show decide (31 < 32) = true from rfl, show decide (31 ≥ k) = true from decide_eq_true (by omega)] at e3
  have e4 : b * 2 ^ k % 4294967296 &&& 2147483648 = if b.testBit (31 - k) then 2147483648 else 0 := by simpa using e3
  rw [e4]
  split <;> rfl

theorem twice_odd (h j : Nat) : (2 * h + 1) * j = 2 * (h * j) + j := by rw [Nat.add_mul, Nat.mul_assoc, Nat.one_mul]
theorem twice_even (h j : Nat) : 2 * h * j = 2 * (h * j) := Nat.mul_assoc _ _ _
end Go.Proofs.Ythnjbmaiebiehaa
