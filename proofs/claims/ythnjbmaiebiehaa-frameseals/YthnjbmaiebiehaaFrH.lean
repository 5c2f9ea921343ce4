/-
  Contracts of the reference's Number and sum.
-/
import Derived.Test.YthnjbmaiebiehaaFrA
import Derived.Test.YthnjbmaiebiehaaFrM
import Derived.Test.YthnjbmaiebiehaaCut2
namespace Go.Proofs.Ythnjbmaiebiehaa
open Go.RowKit
set_option linter.unusedVariables false

/-- A row that is laid whole. -/
theorem own_new (w : World) (t : TypeId) (vs : List Value) (n : Nat) (h : vs.length = n) (hm : n ≤ maxLen) : (w.alloc (.cells vs.toArray t)).ownsRow w.heap.size t 1 (.slice (some ⟨w.heap.size, 0, none⟩) n n) n vs :=
  ⟨by omega, .inr ⟨w.heap.size, n, _, rfl, Nat.le_refl _, heap_alloc_new w _, Nat.le_refl _, hm, by simp [h], by simp [← h]⟩⟩

theorem rnumber_any (k : Nat) (w : World) (hk : k < 4294967296) :
    Calls Try.prog 19 #[iv k] w fun e w' => ∃ A c', e = .returned (.slice A 4 c') ∧ 4 ≤ c' ∧ w'.ownsRow w.heap.size 5 1 (.slice A 4 c') 4 ((four k).map bv) ∧ Grows w w' := by
  have hwn : IntKind.u32.wrap (k : Int) = (k : Int) := by unfold IntKind.wrap; simp [IntKind.signed, IntKind.bits]; omega
  go_enter Try.func19, Try.ntmps19
  go_wp2
  have hcells : [Value.int IntKind.u8 ((k : Int) % 256), Value.int IntKind.u8 ((k : Int) / 256 % 256), Value.int IntKind.u8 ((k : Int) / 65536 % 256), Value.int IntKind.u8 ((k : Int) / 16777216)] = (four k).map bv := by
    rw [four_eq]
    simp only [List.map_cons, List.map_nil, bv, UInt8.toNat_ofNat']
    simp
    omega
  have hown := own_new w 5 [Value.int IntKind.u8 ((k : Int) % 256), Value.int IntKind.u8 ((k : Int) / 256 % 256), Value.int IntKind.u8 ((k : Int) / 65536 % 256), Value.int IntKind.u8 ((k : Int) / 16777216)] 4 rfl (by unfold maxLen; omega)
  go_ret
  exact ⟨_, 4, rfl, Nat.le_refl _, by rw [← hcells]; exact hown, grows_alloc _ _⟩

theorem rsum_any (A : Option Addr) (n c : Nat) (bs : List UInt8) (w : World) (hl : bs.length = n) (hr : Lies w w.heap.size A (bs.map bv)) (hn : n ≤ 100000000000) :
    Calls Try.prog 31 #[.slice A n c] w fun e w' => ∃ A' c', e = .returned (.slice A' 4 c') ∧ 4 ≤ c' ∧ Lies w' w'.heap.size A' ((four (crcOf bs)).map bv) ∧ Grows w w' := by
  have HL := Lib.hid hl
  go_enter Try.func31, Try.ntmps31
  go_wp2_with fail
  refine (rput_any A n c bs w hl hr (by omega)).mono ?_
  rintro e w1 ⟨v, rfl, hown, hg1⟩
  obtain ⟨A1, c1, rfl, hc1⟩ := own_form hown
  have hL1 := Lies.of_own hown
  have hL3 := hL1.from_ n
  rw [← List.map_drop, show (bs ++ four (crcOf bs)).drop n = four (crcOf bs) by rw [← HL.out, List.drop_left]] at hL3
  have hcn : ¬ c1 = n := by omega
  clear hl
  go_wp2_with fail
  go_ret
  exact ⟨_, c1 - n, rfl, by omega, hL3, hg1⟩
end Go.Proofs.Ythnjbmaiebiehaa
