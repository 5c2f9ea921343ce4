/-
  Contract of bytes.Clone.
-/
import Derived.Test.YtkgkkobdpgnicaaDoorRFew
import Derived.Test.YtkgkkobdpgnicaaDoorCel
namespace Go.Proofs.YtkgkkobdpgnicaaDoor
open Go.RowKit
set_option linter.unusedVariables false

set_option maxHeartbeats 400000 in
theorem bclone_any (A : Option Addr) (n c : Nat) (l : List UInt8) (w : World) (hl : l.length = n) (hr : Lies w w.heap.size A (l.map bv)) (hn : n ≤ 1000000000000) :
    Calls Tryd.prog 39 #[.slice A n c] w fun e w' => ∃ v, e = .returned v ∧ w'.ownsRow w.heap.size 5 1 v n (l.map bv) ∧ Grows w w' := by
  obtain ⟨i0, hi0, hz0, hz1, hz2⟩ := info_parts byte_info
  cases A with
  | none =>
    have h0 := hr.none_empty
    have h1 : l = [] := by simpa using h0
    subst h1
    obtain rfl : n = 0 := by simpa using hl.symm
    have hq : ∀ u : World, (binOp .eql 35 (.slice none 0 c) (.slice none 0 0)).run Tryd.prog u = .ok (.bool true) u := fun u => by kernel_rfl
    go_enter Tryd.func39, Tryd.ntmps39
    go_wp2
    go_ret
    exact ⟨_, rfl, World.ownsRow_nil _ _ _ _, Grows.refl _⟩
  | some ad =>
    have hrow : (w.alloc (.cells #[] 5)).ownsRow w.heap.size 5 1 (.slice (some ⟨w.heap.size, 0, none⟩) 0 0) 0 [] :=
      ⟨rfl, .inr ⟨w.heap.size, 0, #[], rfl, Nat.le_refl _, heap_alloc_new w _, by omega, by unfold maxLen; omega, rfl, rfl⟩⟩
    have hga := grows_alloc w (.cells #[] 5)
    have hrl := hr.later hga
    have hq : ∀ u : World, (binOp .eql 35 (.slice (some ad) n c) (.slice none 0 0)).run Tryd.prog u = .ok (.bool false) u := fun u => by kernel_rfl
    go_enter Tryd.func39, Tryd.ntmps39
    go_wp2_with (at_builtin; refine wpList_append_src _ rfl (.tmp 5) (.tmp 6) _ rfl w.heap.size 5 i0 _ 1 Tryd.underlying35 hi0 hz0 hz1 hz2 rfl _ 0 _ rfl hrow _ _ n c (l.map bv) rfl (by rw [List.length_map]; exact hl) hrl (bv_one l) (by unfold maxLen; omega) (by omega) (by rw [World.size_alloc]; omega) ?_; intro v' w' hown' hg' hat')
    have hb2 : Grows w w' := Below.grown hga hg' (by rw [World.size_alloc]; omega) (own_ge hrow)
    rw [Nat.zero_add, List.nil_append] at hown'
    go_ret
    exact ⟨_, rfl, hown', hb2⟩
end Go.Proofs.YtkgkkobdpgnicaaDoor
