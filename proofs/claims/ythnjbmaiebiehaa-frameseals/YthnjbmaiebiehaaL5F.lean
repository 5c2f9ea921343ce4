/-
  The walk of LzMatches.
-/
import Derived.Test.YthnjbmaiebiehaaL5C
import Derived.Test.YthnjbmaiebiehaaL5E
namespace Go.Proofs.Ythnjbmaiebiehaa
open Go.RowKit
set_option linter.unusedVariables false

/-- Which of two. -/
theorem two_rows {w : World} {b : Nat} {A1 A2 : Option Addr} {n1 n2 c1 c2 M : Nat} {l1 l2 : List UInt8} (hb : Has w b [.slice A1 n1 c1, .slice A2 n2 c2]) (h1 : Hid (l1.length = n1)) (h2 : Hid (l2.length = n2)) (g1 : Lies w w.heap.size A1 (l1.map bv)) (g2 : Lies w w.heap.size A2 (l2.map bv))
    (b1 : n1 ≤ c1) (b2 : n2 ≤ c2) (m1 : n1 ≤ M) (m2 : n2 ≤ M) (k : Nat) (hk : k < 2) : ∃ (A : Option Addr) (n c : Nat) (l : List UInt8), Hid (l.length = n) ∧ n ≤ c ∧ n ≤ M ∧ Lies w w.heap.size A (l.map bv) ∧ w.cell? ⟨b, k, none⟩ = some (.slice A n c) := by
  match k, hk with
  | 0, _ => exact ⟨A1, n1, c1, l1, h1, b1, m1, g1, hb.cell rfl⟩
  | 1, _ => exact ⟨A2, n2, c2, l2, h2, b2, m2, g2, hb.cell rfl⟩

end Go.Proofs.Ythnjbmaiebiehaa
