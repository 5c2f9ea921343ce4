/-
  Contracts of cut.New, cut.Sizes, cut.Items at parameters that may not be; of the reference's May at any.
-/
import Derived.Test.YtkgkkobdpgnicaaDoorCutC
namespace Go.Proofs.YtkgkkobdpgnicaaDoor
open Go.RowKit
set_option linter.unusedVariables false

/-- Parameters that may be, as numbers. -/
theorem prm_of {a b c : Int} (h : mayZ a b c = true) : ∃ p : Prm, p.Ok ∧ a = p.mn ∧ b = p.av ∧ c = p.mx := by
  simp only [mayZ, decide_eq_true_eq] at h
  exact ⟨⟨a.toNat, b.toNat, c.toNat⟩, ⟨by show 1 ≤ a.toNat; omega, by show a.toNat ≤ b.toNat; omega, by show b.toNat ≤ c.toNat; omega, by show c.toNat ≤ 4096; omega⟩, by show a = (a.toNat : Int); omega, by show b = (b.toNat : Int); omega, by show c = (c.toNat : Int); omega⟩

theorem newcut_no (a b c : Int) (w : World) (h : mayZ a b c = false) :
    Calls Tryd.prog 12 #[pz a b c] w fun e w' => e = .returned (.tuple #[.pointer none, .int .i64 1]) ∧ Grows w w' := by
  have hga := grows_alloc w (.cells [.int .i64 a, .int .i64 b, .int .i64 c].toArray 23)
  have M := fun u => may_any a b c u
  rw [h] at M
  unfold pz at *
  go_enter Tryd.func12, Tryd.ntmps12
  go_wp2_with fail
  refine (M _).mono ?_
  rintro e w1 ⟨rfl, hg1⟩
  go_wp2_with fail
  go_ret2
  exact ⟨rfl, Grows.trans hga hg1⟩

theorem rmay_any (a b c : Int) (w : World) :
    Calls Tryd.prog 11 #[pz a b c] w fun e w' => e = .returned (.bool (mayZ a b c)) ∧ Grows w w' := by
  have hga := grows_alloc w (.cells #[.int .i64 a, .int .i64 b, .int .i64 c] 23)
  by_cases h1 : 0 < a
  · by_cases h2 : a ≤ b
    · by_cases h3 : b ≤ c
      · by_cases h4 : c < 4097
        · have hm : mayZ a b c = true := by simp only [mayZ, decide_eq_true_eq]; omega
          rw [hm]
          have d1 : decide (a > 0) = true := by simp [h1]
          have d1' : decide (0 < a) = true := by simp [h1]
          have d2 : decide (a ≤ b) = true := by simp [h2]
          have d3 : decide (b ≤ c) = true := by simp [h3]
          have d4 : decide (c < 4097) = true := by simp [h4]
          unfold pz
          go_enter Tryd.func11, Tryd.ntmps11
          go_wp2
          go_ret
          exact ⟨rfl, hga⟩
        · have hm : mayZ a b c = false := by simp only [mayZ, decide_eq_false_iff_not]; omega
          rw [hm]
          have d1 : decide (a > 0) = true := by simp [h1]
          have d1' : decide (0 < a) = true := by simp [h1]
          have d2 : decide (a ≤ b) = true := by simp [h2]
          have d3 : decide (b ≤ c) = true := by simp [h3]
          have d4 : decide (c < 4097) = false := by simp; omega
          unfold pz
          go_enter Tryd.func11, Tryd.ntmps11
          go_wp2
          go_ret
          exact ⟨rfl, hga⟩
      · have hm : mayZ a b c = false := by simp only [mayZ, decide_eq_false_iff_not]; omega
        rw [hm]
        have d1 : decide (a > 0) = true := by simp [h1]
        have d1' : decide (0 < a) = true := by simp [h1]
        have d2 : decide (a ≤ b) = true := by simp [h2]
        have d3 : decide (b ≤ c) = false := by simp [h3]
        unfold pz
        go_enter Tryd.func11, Tryd.ntmps11
        go_wp2
        go_ret
        exact ⟨rfl, hga⟩
    · have hm : mayZ a b c = false := by simp only [mayZ, decide_eq_false_iff_not]; omega
      rw [hm]
      have d1 : decide (a > 0) = true := by simp [h1]
      have d1' : decide (0 < a) = true := by simp [h1]
      have d2 : decide (a ≤ b) = false := by simp [h2]
      unfold pz
      go_enter Tryd.func11, Tryd.ntmps11
      go_wp2
      go_ret
      exact ⟨rfl, hga⟩
  · have hm : mayZ a b c = false := by simp only [mayZ, decide_eq_false_iff_not]; omega
    rw [hm]
    have d1 : decide (a > 0) = false := by simp; omega
    have d1' : decide (0 < a) = false := by simp; omega
    unfold pz
    go_enter Tryd.func11, Tryd.ntmps11
    go_wp2
    go_ret
    exact ⟨rfl, hga⟩
end Go.Proofs.YtkgkkobdpgnicaaDoor
