/-
  The example of layer 6; the walk of FrameMost.
-/
import Derived.Test.YthnjbmaiebiehaaFrE
import Derived.Test.YthnjbmaiebiehaaFrG
import Derived.Test.YthnjbmaiebiehaaL5C
namespace Go.Proofs.Ythnjbmaiebiehaa
open Go.RowKit
set_option linter.unusedVariables false

theorem lives6_any (w : World) : Calls Try.prog 15 #[] w fun e w' => e = .returned (.bool true) ∧ Grows w w' := by
  have SE := Lib.hid (seal_any none 0 0 [] w rfl Lies.empty (Nat.le_refl _) (by omega))
  rw [seal_nil] at SE
  go_enter Try.func15, Try.ntmps15
  go_wp2_with fail
  refine SE.out.mono ?_
  rintro e w1 ⟨v, rfl, hown, hg1⟩
  obtain ⟨A1, c1, rfl, hc1⟩ := own_form hown
  have cv := run_string_of (P := Try.prog) w1 22 5 Try.underlying22 Try.underlying5 9 Try.underlying9 _ A1 10 c1 [76, 0, 0, 0, 0, 0, 0, 0, 0, 0] rfl (Lies.of_own hown)
  clear hown SE
  go_wp2_with fail
  go_ret
  exact ⟨rfl, hg1⟩

set_option maxRecDepth 20000 in
set_option maxHeartbeats 4000000 in
theorem framemost_walk (A : Option Addr) (n c : Nat) (zs : List Int) (most : Int) (w : World) (hl : zs.length = n) (hr : Lies w w.heap.size A (zs.map zv)) (hc : n ≤ maxLen) (hz : ∀ z ∈ zs, -9223372036854775808 ≤ z ∧ z ≤ 9223372036854775807) (hmo : -9223372036854775808 ≤ most ∧ most ≤ 9223372036854775807) :
    Calls Try.prog 6 #[.slice A n c, .int .i64 most] w fun e w' => e = .returned (.bool true) ∧ Grows w w' := by
  go_enter Try.func6, Try.ntmps6
  go_wp2_with fail
  refine (made_any A n c zs w hl hr hc hz).mono ?_
  rintro e w1 ⟨l, m, c1, A1, HLm, hm, rfl, hc1, hown1, hg1⟩
  have hL1 := Lies.of_own hown1
  clear hown1 hr hl hz
  go_wp2_with fail
  refine (around_any most 321 w1 hmo ⟨by omega, by omega⟩).mono ?_
  rintro e w' ⟨rfl, rfl⟩
  have hk := around_lt most (m := 321) (by omega)
  generalize around most 321 = k at *
  go_wp2_with fail
  refine (seal_out A1 m c1 l w1 HLm.out hL1 hc1 (by omega)).mono ?_
  rintro e w2 ⟨f, fn, c2, A2, HS, HFn, h10, hfn, rfl, hc2, _, hL2, hg2⟩
  go_wp2_with fail
  refine (open_any A2 fn c2 f (k : Int) w2 HFn.out hL2 hc2 (by omega)).mono ?_
  rintro e w3 ⟨x, er, xn, c3, A3, HO, HXn, rfl, hc3, hL3, hg3⟩
  have hO := HO.out
  rw [← HS.out, open_seal l _ (by rw [HLm.out]; omega), HLm.out] at hO
  have hg03 := Grows.trans hg1 (Grows.trans hg2 hg3)
  have hL13 := hL1.later (Grows.trans hg2 hg3)
  clear HO HS hL2 hg2 hg3 hg1 hL1
  by_cases hkm : (k : Int) < (m : Int)
  · rw [if_pos hkm] at hO
    injection hO with h1 h2
    subst h1 h2
    obtain rfl : xn = 0 := by have := HXn.out; simpa using this.symm
    have hq : (m : Int) > (k : Int) := hkm
    go_wp2_with fail
    refine (lives6_any _).mono ?_
    rintro e w4 ⟨rfl, hg4⟩
    go_wp2_with fail
    go_ret
    exact ⟨rfl, Grows.trans hg03 hg4⟩
  · rw [if_neg hkm] at hO
    injection hO with h1 h2
    subst h1 h2
    have hq : ¬ ((m : Int) > (k : Int)) := hkm
    have hq1 : decide ((k : Int) < (m : Int)) = false := by simpa using hkm
    have cv1 := run_string_of (P := Try.prog) w3 22 5 Try.underlying22 Try.underlying5 9 Try.underlying9 _ A3 xn c3 l HXn.out hL3
    have cv2 := run_string_of (P := Try.prog) w3 22 5 Try.underlying22 Try.underlying5 9 Try.underlying9 _ A1 m c1 l HLm.out hL13
    go_wp2_with fail
    refine (lives6_any _).mono ?_
    rintro e w4 ⟨rfl, hg4⟩
    go_wp2_with fail
    go_ret
    exact ⟨rfl, Grows.trans hg03 hg4⟩
end Go.Proofs.Ythnjbmaiebiehaa
