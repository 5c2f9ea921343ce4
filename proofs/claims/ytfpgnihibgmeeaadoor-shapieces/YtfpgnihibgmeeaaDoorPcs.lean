/-
  Words for a slice of slices of bytes that came in. (Of no program.)
-/
import Derived.Test.YtfpgnihibgmeeaaDoorSched
import Derived.Deep.Matrix
import Derived.ProofKit
import Derived.OpenShut
namespace Go.Proofs.YtfpgnihibgmeeaaDoor
open Go.RowKit Go.WideShapes Go.Deep
set_option linter.unusedVariables false

/-- At A lie n slices of bytes. -/
def Pieces (w : World) (A : Option Addr) (n : Nat) : Prop := ∀ r, r < n → ∃ (ad : Addr) (A' : Option Addr) (l c : Nat) (bs : List UInt8), A = some ad ∧ w.cell? (ad.add r) = some (.slice A' l c) ∧ bs.length = l ∧ Lies w w.heap.size A' (bs.map bv) ∧ l ≤ c ∧ c ≤ maxLen
theorem Pieces.later {w w' : World} {A : Option Addr} {n : Nat} (h : Pieces w A n) (hg : Grows w w') : Pieces w' A n := fun r hr => by
  obtain ⟨ad, A', l, c, bs, e, hc, hl, hL, h1, h2⟩ := h r hr
  exact ⟨ad, A', l, c, bs, e, hcell_later hc hg, hl, hL.later hg, h1, h2⟩

theorem open_rows {H : Type} {enc : TypeId × Value → H} {P : Program} {w : World} {base : Nat} {held : Bool} {t e q : TypeId} {a : Option Addr} {len cap : Nat} {d : DataW H} {p : List MemPlace}
    (ht : P.underlying t = some (.slice e)) (he : P.underlying e = some (.slice q)) (hq : P.underlying q = some (.int .u8)) (ce : P.cellsOf e = 1) (cq : P.cellsOf q = 1)
    (h : DataW.Trod enc P w base (fun _ => true) held t (.slice a len cap) d p) : Pieces w a len ∧ len ≤ cap ∧ cap ≤ maxLen := by
  obtain ⟨fuel, hf⟩ := h
  rcases open_int_rows ht he hq ce cq hf with ⟨hcs, _⟩ | ⟨a', len', cap', A, L, C, Z, hcs, _, hl, hm, _, hr⟩
  · simp [Value.cells] at hcs
    obtain ⟨rfl, rfl, rfl⟩ := hcs
    exact ⟨fun r hr => absurd hr (by omega), Nat.le_refl _, Nat.zero_le _⟩
  · simp [Value.cells] at hcs
    obtain ⟨rfl, rfl, rfl⟩ := hcs
    refine ⟨fun r hr' => ?_, hl, hm⟩
    obtain ⟨hc, h1, h2, hz, hwf, hnone, hsome⟩ := hr r (by omega)
    have hrow := row_bytes (w := w) (a := A r) (len := L r) (cap := C r) (zs := Z r) (by
      cases hA : A r with
      | none =>
        have h0 := hnone hA
        exact .inl ⟨rfl, by omega, h0, List.length_eq_zero_iff.1 (by rw [hz]; exact h0)⟩
      | some x =>
        obtain ⟨_, hcell⟩ := hsome x hA
        exact .inr ⟨x, rfl, h1, h2, hz, fun i hi => hcell i (by rw [← hz]; exact hi), hwf⟩)
    obtain ⟨bs, hb, hL, _⟩ := hrow
    exact ⟨a', A r, L r, C r, bs, rfl, hc, hb, hL, h1, h2⟩
end Go.Proofs.YtfpgnihibgmeeaaDoor
