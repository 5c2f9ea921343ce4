/-
  The walks of the laws of layer 3: the example (lives), CrcSums, CrcJoins, CrcChains.
-/
import Derived.Test.YthnjbmaiebiehaaCrcB
import Derived.Test.YthnjbmaiebiehaaRFew
import Derived.Lib.SlBytesConst
import Derived.Lib.SmallJoins
namespace Go.Proofs.Ythnjbmaiebiehaa
open Go.RowKit
set_option linter.unusedVariables false

theorem ret_true {a : Bool} (h : a = true) : Ending.returned (.bool a) = .returned (.bool true) := by rw [h]
def nine : List UInt8 := [49, 50, 51, 52, 53, 54, 55, 56, 57]

/-- The contracts, with the number that they answer under a letter. -/
theorem sum_is (A : Option Addr) (n c : Nat) {s : Nat} {l : List UInt8} (hx : Hid (crcOf l = s)) (w : World) (hl : l.length = n) (hr : Lies w w.heap.size A (l.map bv)) (hn : n ≤ 1000000000000) :
    Calls Try.prog 23 #[.slice A n c] w fun e w' => e = .returned (uv s) ∧ Grows w w' := by
  have h := hx.out
  subst h
  exact crcsum_any A n c l w hl hr hn

theorem uv_same (x : Nat) : (((x : Nat) : Int) == ((x : Nat) : Int)) = true := by simp
theorem min_take {n m : Nat} {bs : List UInt8} (hl : bs.length = n) : (bs.take m).length = min n m := by rw [List.length_take, hl, Nat.min_comm]

theorem czeros_add : ∀ j k n, czeros (j + k) n = czeros k (czeros j n)
  | 0, k, n => by rw [Nat.zero_add]; rfl
  | j + 1, k, n => by rw [show j + 1 + k = (j + k) + 1 by omega, czeros, czeros_add j k, czeros]

end Go.Proofs.Ythnjbmaiebiehaa
