/-
  How rows of bytes stand: plain facts on cmpB (an order) and on their digits (texts stand as digests do). Of no program.
-/
import Derived.Test.YtgkoopnbphohaaaCmp
namespace Go.Proofs.Ytgkoopnbphohaaa
open Go.RowKit
set_option linter.unusedVariables false

theorem cmpB_cases : ∀ (a b : List UInt8), cmpB a b = -1 ∨ cmpB a b = 0 ∨ cmpB a b = 1
  | [], _ => by simp [cmpB]
  | _ :: _, [] => by simp [cmpB]
  | x :: xs, y :: ys => by
    rw [cmpB]
    split
    · exact .inl rfl
    · split
      · exact .inr (.inr rfl)
      · exact cmpB_cases xs ys
theorem cmpB_neg : ∀ (a b : List UInt8), cmpB b a = - cmpB a b
  | [], [] => by simp [cmpB]
  | [], _ :: _ => by simp [cmpB]
  | _ :: _, [] => by simp [cmpB]
  | x :: xs, y :: ys => by
    rw [cmpB, cmpB, cmpB_neg xs ys]
    by_cases h1 : x.toNat < y.toNat
    · rw [if_neg (by omega), if_pos h1, if_pos h1]
      rfl
    · by_cases h2 : y.toNat < x.toNat
      · rw [if_pos h2, if_neg h1, if_pos h2]
      · rw [if_neg h2, if_neg h1, if_neg h1, if_neg h2]
theorem cmpB_self (a : List UInt8) : cmpB a a = 0 := by
  have := cmpB_neg a a
  omega
theorem cmpB_zero : ∀ (a b : List UInt8), a.length = b.length → cmpB a b = 0 → a = b
  | [], [], _, _ => rfl
  | [], _ :: _, h, _ => by simp at h
  | _ :: _, [], h, _ => by simp at h
  | x :: xs, y :: ys, h, h0 => by
    rw [cmpB] at h0
    split at h0
    · omega
    · split at h0
      · omega
      · rw [cmpB_zero xs ys (by simpa using h) h0]
        congr 1
        exact UInt8.toNat_inj.1 (by omega)
theorem cmpB_trans : ∀ (a b c : List UInt8), a.length = b.length → b.length = c.length → cmpB a b ≤ 0 → cmpB b c ≤ 0 → cmpB a c ≤ 0
  | [], _, _, _, _, _, _ => by simp [cmpB]
  | _ :: _, _, [], h1, h2, _, _ => by simp [cmpB]
  | _ :: _, [], _ :: _, h1, _, _, _ => by simp at h1
  | x :: xs, y :: ys, z :: zs, h1, h2, h3, h4 => by
    rw [cmpB] at h3 h4 ⊢
    have ih := cmpB_trans xs ys zs (by simpa using h1) (by simpa using h2)
    split at h3
    · split at h4
      · rw [if_pos (by omega)]; omega
      · split at h4
        · omega
        · rw [if_pos (by omega)]; omega
    · split at h3
      · omega
      · split at h4
        · rw [if_pos (by omega)]; omega
        · split at h4
          · omega
          · rw [if_neg (by omega), if_neg (by omega)]
            exact ih h3 h4

theorem hexD_lt : ∀ i j : Fin 16, decide (hexD i.val < hexD j.val) = decide (i.val < j.val) ∧ (hexD i.val == hexD j.val) = decide (i.val = j.val) := by decide +kernel
/-- Texts stand as digests do. -/
theorem less_hex : ∀ (a b : List UInt8), a.length = b.length → Op.bytesLess (hexOf a) (hexOf b) = decide (cmpB a b < 0)
  | [], [], _ => by decide
  | [], _ :: _, h => by simp at h
  | _ :: _, [], h => by simp at h
  | x :: xs, y :: ys, h => by
    have ih := less_hex xs ys (by simpa using h)
    have hx := x.toNat_lt
    have hy := y.toNat_lt
    have e1 : hexOf (x :: xs) = hexD (x.toNat / 16) :: hexD (x.toNat % 16) :: hexOf xs := rfl
    have e2 : hexOf (y :: ys) = hexD (y.toNat / 16) :: hexD (y.toNat % 16) :: hexOf ys := rfl
    obtain ⟨a1, a2⟩ := hexD_lt ⟨x.toNat / 16, by omega⟩ ⟨y.toNat / 16, by omega⟩
    obtain ⟨b1, b2⟩ := hexD_lt ⟨x.toNat % 16, by omega⟩ ⟨y.toNat % 16, by omega⟩
    simp only at a1 a2 b1 b2
    rw [e1, e2]
    simp only [Op.bytesLess, a1, a2, b1, b2, ih]
    rw [cmpB]
    by_cases h1 : x.toNat < y.toNat
    · rw [if_pos h1]
      by_cases hq : x.toNat / 16 < y.toNat / 16
      · simp [hq]
      · have : x.toNat / 16 = y.toNat / 16 := by omega
        have : x.toNat % 16 < y.toNat % 16 := by omega
        simp [*]
    · rw [if_neg h1]
      have hq : ¬ x.toNat / 16 < y.toNat / 16 := by omega
      by_cases h2 : y.toNat < x.toNat
      · rw [if_pos h2]
        by_cases he : x.toNat / 16 = y.toNat / 16
        · have g1 : ¬ x.toNat % 16 < y.toNat % 16 := by omega
          have g2 : ¬ x.toNat % 16 = y.toNat % 16 := by omega
          simp [hq, g1, g2]
        · simp [hq, he]
      · have he : x.toNat = y.toNat := by omega
        rw [if_neg h2]
        simp [he]
end Go.Proofs.Ytgkoopnbphohaaa
