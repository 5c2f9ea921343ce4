/-
  The walk of LzUnpacks.
-/
import Derived.Test.YthnjbmaiebiehaaL5H
import Derived.Test.YthnjbmaiebiehaaL5J
import Derived.Test.YthnjbmaiebiehaaL5C
import Derived.Test.YthnjbmaiebiehaaOrd2
namespace Go.Proofs.Ythnjbmaiebiehaa
open Go.RowKit
set_option linter.unusedVariables false

/-- At block g lie k slices of bytes, each of at most four hundred. -/
def Rows_ (w : World) (g k : Nat) : Prop := ∀ r, r < k → ∃ (A : Option Addr) (n c : Nat) (l : List UInt8), w.cell? ⟨g, r, none⟩ = some (.slice A n c) ∧ l.length = n ∧ Lies w w.heap.size A (l.map bv) ∧ n ≤ c ∧ n ≤ 400
theorem Rows_.later {w w' : World} {g k : Nat} (h : Rows_ w g k) (hg : Grows w w') : Rows_ w' g k := fun r hr => by
  obtain ⟨A, n, c, l, hc, hl, hL, h1, h2⟩ := h r hr
  exact ⟨A, n, c, l, hcell_later hc hg, hl, hL.later hg, h1, h2⟩
theorem three_ints {w : World} {b : Nat} {a : Int} {m : Nat} (h : Has w b [.int .i64 a, .int .i64 (m : Int), .int .i64 4000]) (ha : -9223372036854775808 ≤ a ∧ a ≤ 9223372036854775807) (hm : m ≤ 1000) (k : Nat) (hk : k < 3) :
    ∃ z : Int, (-9223372036854775808 ≤ z ∧ z ≤ 9223372036854775807) ∧ w.cell? ⟨b, k, none⟩ = some (.int .i64 z) := by
  match k, hk with
  | 0, _ => exact ⟨a, ha, h.cell rfl⟩
  | 1, _ => exact ⟨m, by omega, h.cell rfl⟩
  | 2, _ => exact ⟨4000, by omega, h.cell rfl⟩
theorem Lies.keepBut {w w' : World} {B b : Nat} {A : Option Addr} {vs : List Value} (h : Lies w B A vs) (hg : w.grownBy w' (some b)) (hB : B ≤ w.heap.size) (hne : ∀ ad, A = some ad → ad.block < B → ad.block ≠ b) : Lies w' w'.heap.size A vs := fun j u hu => by
  obtain ⟨ad, e, hlt, hc⟩ := h j u hu
  refine ⟨ad, e, Nat.lt_of_lt_of_le hlt (Nat.le_trans hB hg.size), (World.cell?_of_block (hg.block _ (by rw [add_block]; omega) (fun e' => ?_))).trans hc⟩
  rw [add_block] at e'
  injection e' with e'
  exact hne ad e hlt e'
theorem row_info : (Try.prog.info? 22).map (fun i => (i.zero, i.size, i.bytes)) = some (some (.slice none 0 0), 1, 24) := by kernel_rfl

end Go.Proofs.Ythnjbmaiebiehaa
