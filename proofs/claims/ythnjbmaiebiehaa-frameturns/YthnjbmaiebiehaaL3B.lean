/-
  The walks of the laws of layer 3: CrcTurns, CrcDiffers.
-/
import Derived.Test.YthnjbmaiebiehaaL3A
import Derived.Test.YthnjbmaiebiehaaCrcC
import Derived.Test.YthnjbmaiebiehaaRAro
namespace Go.Proofs.Ythnjbmaiebiehaa
open Go.RowKit
set_option linter.unusedVariables false

theorem four_inj {s t : Nat} (hs : s < 4294967296) (ht : t < 4294967296) (h : four s = four t) : s = t :=
  ((num_inj (four t) s (four_len t) hs).2 h.symm).symm.trans ((num_inj (four t) t (four_len t) ht).2 rfl)
theorem set_split {l : List UInt8} {k : Nat} {x : UInt8} (h : l[k]? = some x) (z : UInt8) : l = l.take k ++ x :: l.drop (k + 1) ∧ l.set k z = l.take k ++ z :: l.drop (k + 1) := by
  have hk := (List.getElem?_eq_some_iff.1 h).1
  have hx := (List.getElem?_eq_some_iff.1 h).2
  constructor
  · rw [← hx, ← List.drop_eq_getElem_cons hk, List.take_append_drop]
  · rw [List.set_eq_take_append_cons_drop, if_pos hk]
theorem crc_set {l : List UInt8} {k : Nat} {x : UInt8} (h : l[k]? = some x) (z : UInt8) (hz : z ≠ x) : crcOf (l.set k z) ≠ crcOf l := by
  obtain ⟨h1, h2⟩ := set_split h z
  have := crc_differs (l.take k) (l.drop (k + 1)) z x hz
  rwa [← h1, ← h2] at this
/-- If one byte of what was put is another one, it is not taken. -/
theorem take_other (l : List UInt8) (k : Nat) (x z : UInt8) (hx : (l ++ four (crcOf l))[k]? = some x) (hz : z ≠ x) : takeOf ((l ++ four (crcOf l)).set k z) = ([], 7) := by
  have hf := four_len (crcOf l)
  unfold takeOf
  have hlen : ((l ++ four (crcOf l)).set k z).length = l.length + 4 := by simp [hf]
  rw [hlen, if_neg (by omega), show l.length + 4 - 4 = l.length by omega]
  refine if_neg ?_
  rcases Nat.lt_or_ge k l.length with hk | hk
  · rw [List.set_append_left _ _ hk]
    have e1 : (l.set k z ++ four (crcOf l)).take l.length = l.set k z := by
      have := List.take_left (l₁ := l.set k z) (l₂ := four (crcOf l)); rwa [List.length_set] at this
    have e2 : (l.set k z ++ four (crcOf l)).drop l.length = four (crcOf l) := by
      have := List.drop_left (l₁ := l.set k z) (l₂ := four (crcOf l)); rwa [List.length_set] at this
    rw [e1, e2]
    intro h
    rw [List.getElem?_append_left hk] at hx
    exact crc_set hx z hz (four_inj (cmore_lt (s := 0) (by omega) _) (cmore_lt (s := 0) (by omega) _) h).symm
  · rw [List.set_append_right _ _ hk, List.take_left, List.drop_left]
    rw [List.getElem?_append_right hk] at hx
    intro h
    have h2 := congrArg (fun q => q[k - l.length]?) h
    have hlt := (List.getElem?_eq_some_iff.1 hx).1
    simp only [List.getElem?_set_self hlt] at h2
    rw [hx] at h2
    injection h2 with h2
    exact hz h2

end Go.Proofs.Ythnjbmaiebiehaa
