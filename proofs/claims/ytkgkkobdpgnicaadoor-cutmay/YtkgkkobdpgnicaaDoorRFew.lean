/-
  Contract of the reference's Few: the first bytes, in a row of its own.
-/
import Derived.Test.YtkgkkobdpgnicaaDoorRows
import Derived.Test.YtkgkkobdpgnicaaDoorBase
import Derived.Outline
import Derived.Lib.Hide
namespace Go.Proofs.YtkgkkobdpgnicaaDoor
open Go.RowKit
set_option linter.unusedVariables false

theorem byte_info : (Tryd.prog.info? 5).map (fun i => (i.zero, i.size, i.bytes)) = some (some (.int .u8 0), 1, 1) := by kernel_rfl

set_option maxHeartbeats 400000 in
theorem few_any (A : Option Addr) (n c m : Nat) (vs : List Value) (w : World) (hl : vs.length = n) (hr : Lies w w.heap.size A vs) (h1 : ∀ u ∈ vs, u.oneCell' = true) (hn : n ≤ c) (hm : m ≤ 1000000) (hc : c ≤ maxLen) :
    Calls Tryd.prog 20 #[.slice A n c, .int .i64 (m : Int)] w fun e w' => ∃ v, e = .returned v ∧ w'.ownsRow w.heap.size 5 1 v (min n m) (vs.take m) ∧ Below w.heap.size w w' := by
  unfold maxLen at hc
  obtain ⟨i0, hi0, hz0, hz1, hz2⟩ := info_parts byte_info
  by_cases hmn : m < n
  · have hlt : (vs.take m).length = m := by rw [List.length_take]; omega
    have HL : Hid (vs.length = n) := hl
    clear hl
    have HT : Hid ((vs.take m).length = m) := hlt
    clear hlt
    go_enter Tryd.func20, Tryd.ntmps20
    go_wp2_with (at_builtin; refine wpList_append_src _ rfl (.tmp 6) (.tmp 12) _ rfl w.heap.size 5 i0 _ 1 Tryd.underlying35 hi0 hz0 hz1 hz2 rfl (.slice none 0 0) 0 [] rfl (World.ownsRow_nil _ _ _ _) w.heap.size A m c (vs.take m) rfl HT.out (hr.take m) (fun u hu => h1 u (List.mem_of_mem_take hu)) (by unfold maxLen; omega) (by omega) (Nat.le_refl _) ?_; intro v' w' hown hg hat)
    go_ret
    refine ⟨v', rfl, ?_, (Below.refl _ _).grown hg (Nat.le_refl _) (by simp [Value.ownBlock])⟩
    rw [Nat.min_eq_right (by omega)]
    simpa using hown
  · have hlt : (vs.take m) = vs := List.take_of_length_le (by omega)
    rw [hlt]
    have HL : Hid (vs.length = n) := hl
    clear hl hlt
    go_enter Tryd.func20, Tryd.ntmps20
    go_wp2_with (at_builtin; refine wpList_append_src _ rfl (.tmp 6) (.tmp 12) _ rfl w.heap.size 5 i0 _ 1 Tryd.underlying35 hi0 hz0 hz1 hz2 rfl (.slice none 0 0) 0 [] rfl (World.ownsRow_nil _ _ _ _) w.heap.size A n c vs rfl HL.out hr h1 (by unfold maxLen; omega) (by omega) (Nat.le_refl _) ?_; intro v' w' hown hg hat)
    go_ret
    refine ⟨v', rfl, ?_, (Below.refl _ _).grown hg (Nat.le_refl _) (by simp [Value.ownBlock])⟩
    rw [Nat.min_eq_left (by omega)]
    simpa using hown

/-- Few over bytes. -/
theorem few_bytes (A : Option Addr) (n c m : Nat) (bs : List UInt8) (w : World) (hl : bs.length = n) (hr : Lies w w.heap.size A (bs.map bv)) (hn : n ≤ c) (hm : m ≤ 1000000) (hc : c ≤ maxLen) :
    Calls Tryd.prog 20 #[.slice A n c, .int .i64 (m : Int)] w fun e w' => ∃ A' c', e = .returned (.slice A' (min n m) c') ∧ min n m ≤ c' ∧
      w'.ownsRow w.heap.size 5 1 (.slice A' (min n m) c') (min n m) ((bs.take m).map bv) ∧ Lies w' w'.heap.size A' ((bs.take m).map bv) ∧ Below w.heap.size w w' := by
  refine (few_any A n c m (bs.map bv) w (by simpa using hl) hr (bv_one bs) hn hm hc).mono ?_
  rintro e w' ⟨v, rfl, hown, hb⟩
  obtain ⟨A', c', rfl, hk⟩ := own_form hown
  rw [← List.map_take] at hown
  exact ⟨A', c', rfl, hk, hown, Lies.of_own hown, hb⟩

end Go.Proofs.YtkgkkobdpgnicaaDoor
