/-
  The walk of LzMost.
-/
import Derived.Test.YtilpeekdjifjhaaL5C
namespace Go.Proofs.Ytilpeekdjifjhaa
open Go.RowKit
set_option linter.unusedVariables false

set_option maxRecDepth 20000 in
set_option maxHeartbeats 2000000 in
theorem lzmost_walk (A : Option Addr) (n c : Nat) (zs : List Int) (most : Int) (w : World) (hl : zs.length = n) (hr : Lies w w.heap.size A (zs.map zv)) (hc : n ≤ maxLen) (hz : ∀ z ∈ zs, -9223372036854775808 ≤ z ∧ z ≤ 9223372036854775807)
    (hn : -9223372036854775808 ≤ most ∧ most ≤ 9223372036854775807) :
    Calls Try.prog 6 #[.slice A n c, .int .i64 most] w fun e w' => e = .returned (.bool true) ∧ Grows w w' := by
  go_enter Try.func6, Try.ntmps6
  go_wp2_with fail
  refine (made_any A n c zs w hl hr hc hz).mono ?_
  rintro e w1 ⟨l, m, c1, A1, HLm, hm, rfl, hc1, hown1, hg1⟩
  have hL1 := Lies.of_own hown1
  clear hown1 hr hl hz hc
  go_wp2_with fail
  refine (around_any most 321 w1 hn ⟨by omega, by omega⟩).mono ?_
  rintro e w' ⟨rfl, rfl⟩
  have hk := around_lt most (m := 321) (by omega)
  generalize around most 321 = k at *
  go_wp2_with fail
  refine (pack_out A1 m c1 l w1 HLm.out hL1 hc1 (by omega)).mono ?_
  rintro e w2 ⟨p, pn, c2, A2, HP, HPN, hpn, rfl, hc2, hL2, hg2⟩
  have HUP := Lib.hid (unpack_pack l k (by omega))
  rw [HP.out, HLm.out] at HUP
  have hun := unpack_out A2 pn c2 p (k : Int) w2 HPN.out hL2 hc2 (by omega) ⟨by omega, by omega⟩
  rw [HUP.out] at hun
  have hL1' := hL1.later hg2
  have hg02 := Grows.trans hg1 hg2
  clear hL1 hg1 hg2 hL2
  by_cases hkm : (m : Int) ≤ (k : Int)
  · rw [if_pos hkm] at hun
    have hkm' : ¬ ((k : Int) < (m : Int)) := by omega
    go_wp2_with fail
    refine hun.mono ?_
    rintro e w4 ⟨l', er, ln, c4, A4, HU, HLn, rfl, hc4, hL4, hg4⟩
    obtain ⟨rfl, rfl⟩ : l = l' ∧ 0 = er := by have := HU.out; simpa using this
    have hL14 := hL1'.later hg4
    have hg04 := Grows.trans hg02 hg4
    have cv1 := run_string_of (P := Try.prog) w4 22 5 Try.underlying22 Try.underlying5 9 Try.underlying9 _ A4 ln c4 l HLn.out hL4
    have cv2 := run_string_of (P := Try.prog) w4 22 5 Try.underlying22 Try.underlying5 9 Try.underlying9 _ A1 m c1 l HLm.out hL14
    clear hL1' hL4 hL14 hg4 hg02 hun
    go_wp2_with fail
    refine (lives5_any _).mono ?_
    rintro e w9 ⟨rfl, hg9⟩
    go_wp2_with fail
    go_ret
    exact ⟨rfl, Grows.trans hg04 hg9⟩
  · rw [if_neg hkm] at hun
    have hkm' : (k : Int) < (m : Int) := by omega
    go_wp2_with fail
    refine hun.mono ?_
    rintro e w4 ⟨l', er, ln, c4, A4, HU, HLn, rfl, hc4, hL4, hg4⟩
    obtain ⟨rfl, rfl⟩ : [] = l' ∧ 3 = er := by have := HU.out; simpa using this
    have hln : ln = 0 := by have := HLn.out; simpa using this.symm
    subst hln
    have hg04 := Grows.trans hg02 hg4
    clear hL1' hL4 hg4 hg02 hun
    go_wp2_with fail
    refine (lives5_any _).mono ?_
    rintro e w9 ⟨rfl, hg9⟩
    go_wp2_with fail
    go_ret
    exact ⟨rfl, Grows.trans hg04 hg9⟩
end Go.Proofs.Ytilpeekdjifjhaa
