/-
  The laws of layer 5: the example (lives); one byte many times (the reference's Fill).
-/
import Derived.Test.YthnjbmaiebiehaaLzE
import Derived.Test.YthnjbmaiebiehaaLzG
import Derived.Test.YthnjbmaiebiehaaRAro
import Derived.Test.YthnjbmaiebiehaaSched
import Derived.Lib.SlBytesConst
import Derived.Lib.SmallJoins
namespace Go.Proofs.Ythnjbmaiebiehaa
open Go.RowKit
set_option linter.unusedVariables false

theorem ret_true {a : Bool} (h : a = true) : Ending.returned (.bool a) = .returned (.bool true) := by rw [h]
def eight : List UInt8 := [97, 97, 97, 97, 97, 97, 97, 97]
theorem pack_eight : packOf eight = [0, 97, 131, 0, 0] := by
  have hm := rep_match 8 97 1 (by omega) (by omega)
  show packOf (List.replicate 8 97) = _
  unfold packOf
  rw [pack_none (by simp) (rep_none 8 97 0 (.inl rfl)), Nat.zero_add, pack_some (by simp) (by rw [hm]; decide), hm, pack_end (by simp)]
  simp [lits_nil]
  rw [lits_more (by simp)]
  simp [lits_nil, mtok]

/-- The contracts, with what they answer under letters. -/
theorem pack_out (A : Option Addr) (n c : Nat) (bs : List UInt8) (w : World) (hl : bs.length = n) (hr : Lies w w.heap.size A (bs.map bv)) (hc : n ≤ c) (hn : n ≤ 1000000000) :
    Calls Try.prog 21 #[.slice A n c] w fun e w' => ∃ (p : List UInt8) (pn c' : Nat) (A' : Option Addr), Hid (packOf bs = p) ∧ Hid (p.length = pn) ∧ pn ≤ n + (n + 127) / 128 ∧ e = .returned (.slice A' pn c') ∧ pn ≤ c' ∧ Lies w' w'.heap.size A' (p.map bv) ∧ Grows w w' := by
  refine (pack_any A n c bs w hl hr hc hn).mono ?_
  rintro e w' ⟨v, rfl, hown, hg⟩
  obtain ⟨A', c', rfl, hc'⟩ := own_form hown
  have hpl := packOf_len bs
  rw [hl] at hpl
  exact ⟨_, _, c', A', rfl, rfl, hpl, rfl, hc', Lies.of_own hown, hg⟩
theorem unpack_out (A : Option Addr) (n c : Nat) (bs : List UInt8) (most : Int) (w : World) (hl : bs.length = n) (hr : Lies w w.heap.size A (bs.map bv)) (hc : n ≤ c) (hn : n ≤ 1000000000) (hmo : -9223372036854775808 ≤ most ∧ most ≤ 9223372036854775807) :
    Calls Try.prog 46 #[.slice A n c, .int .i64 most] w fun e w' => ∃ (l : List UInt8) (er ln c' : Nat) (A' : Option Addr), Hid (unpackOf bs most = (l, er)) ∧ Hid (l.length = ln) ∧ e = .returned (.tuple #[.slice A' ln c', iv er]) ∧ ln ≤ c' ∧ Lies w' w'.heap.size A' (l.map bv) ∧ Grows w w' := by
  refine (unpack_any A n c bs most w hl hr hc hn hmo).mono ?_
  rintro e w' ⟨v, rfl, hown, hg⟩
  obtain ⟨A', c', rfl, hc'⟩ := own_form hown
  exact ⟨_, _, _, c', A', rfl, rfl, rfl, hc', Lies.of_own hown, hg⟩
end Go.Proofs.Ythnjbmaiebiehaa
