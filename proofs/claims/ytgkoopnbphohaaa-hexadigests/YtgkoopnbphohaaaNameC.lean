/-
  Contract of hexa.Name: a digest's text is the digits of its bytes. Condition: 32 bytes.
-/
import Derived.Test.YtgkoopnbphohaaaCmp
namespace Go.Proofs.Ytgkoopnbphohaaa
open Go.RowKit
set_option linter.unusedVariables false

set_option maxHeartbeats 400000 in
theorem name_any (l : List UInt8) (w : World) (hl : l.length = 32) :
    Calls Try.prog 16 #[dv l] w fun e w' => e = .returned (.string ⟨(hexOf l).toArray⟩) ∧ Below w.heap.size w w' := by
  have hL := Lies.new w 35 (l.map bv)
  have HL := Lib.hid hl
  clear hl
  go_enter Try.func16, Try.ntmps16
  go_wp2_with fail
  refine (text_any _ 32 32 l _ HL.out (hL.mono (by simp)) (by omega)).mono ?_
  rintro e w1 ⟨rfl, hb⟩
  go_wp2_with fail
  go_ret
  exact ⟨rfl, ((Below.refl _ w).alloc (Nat.le_refl _) _).trans (hb.mono (by simp))⟩
end Go.Proofs.Ytgkoopnbphohaaa
