/-
  The walk of LzRuns.
-/
import Derived.Test.YtilpeekdjifjhaaL5A
namespace Go.Proofs.Ytilpeekdjifjhaa
open Go.RowKit
set_option linter.unusedVariables false

set_option maxRecDepth 20000 in
set_option maxHeartbeats 2000000 in
theorem lzruns_walk (x : UInt8) (n : Int) (w : World) (hn : -9223372036854775808 ≤ n ∧ n ≤ 9223372036854775807) :
    Calls Try.prog 7 #[bv x, .int .i64 n] w fun e w' => e = .returned (.bool true) ∧ Grows w w' := by
  go_enter Try.func7, Try.ntmps7
  go_wp2_with fail
  refine (around_any n 601 w hn ⟨by omega, by omega⟩).mono ?_
  rintro e w' ⟨rfl, rfl⟩
  have hk := around_lt n (m := 601) (by omega)
  generalize around n 601 = k at *
  have hg0 := grows_alloc w (.cells #[bv x] 5)
  have hL0 := Lies.new w 5 [bv x]
  go_wp2_with fail
  refine (fill_one _ 1 k x (w.alloc (.cells #[bv x] 5)) (by rw [World.size_alloc]; exact hL0) (by omega)).mono ?_
  rintro e w1 ⟨A1, c1, rfl, hc1, hL1, hg1⟩
  have hg01 := Grows.trans hg0 hg1
  clear hg0 hg1 hL0
  have HRL : Hid ((List.replicate k x).length = k) := List.length_replicate
  have HRC := Lib.hid (rep_count k x)
  have HUP := Lib.hid (unpack_pack (List.replicate k x) 600 (by omega))
  generalize List.replicate k x = l at *
  go_wp2_with fail
  refine (pack_out A1 k c1 l w1 HRL.out hL1 hc1 (by omega)).mono ?_
  rintro e w2 ⟨p, pn, c2, A2, HP, HPN, hpn, rfl, hc2, hL2, hg2⟩
  rw [HP.out] at HRC HUP
  have hL1' := hL1.later hg2
  have hg02 := Grows.trans hg01 hg2
  clear hL1 hg01 hg2
  have hcount := count_any A2 pn c2 p w2 HPN.out hL2 hc2 (by omega)
  rw [HRC.out] at hcount
  obtain ⟨t, ht⟩ : ∃ t, t = (if 4 < k then 1 + (k - 1 + 130) / 131 else min k 1) := ⟨_, rfl⟩
  rw [← ht, show countVal (some t) = .tuple #[iv t, .int .i64 0] from rfl] at hcount
  have ht1 : (if (1 : Int) < (k : Int) then 1 else (k : Int)) = ((min k 1 : Nat) : Int) := by split <;> omega
  go_wp2_with fail
  refine hcount.mono ?_
  rintro e w3 ⟨rfl, hg3⟩
  clear hcount
  have hL1'' := hL1'.later hg3
  have hL2' := hL2.later hg3
  have hg03 := Grows.trans hg02 hg3
  have hun := unpack_out A2 pn c2 p 600 w3 HPN.out hL2' hc2 (by omega) ⟨by omega, by omega⟩
  rw [HUP.out, HRL.out, if_pos (by omega)] at hun
  clear hL1' hL2 hg02 hg3
  have HT := Lib.hid ht
  clear ht
  by_cases h4 : 4 < k
  · have h4' : (4 : Int) < (k : Int) := by omega
    have htt : (t : Int) = 1 + ((k : Int) - 1 + 130) / 131 := by have := HT.out; rw [if_pos h4] at this; omega
    have hbq : ((t : Int) == 1 + ((k : Int) - 1 + 130) / 131) = true := by simp [htt]
    clear htt
    go_wp2_with fail
    refine hun.mono ?_
    rintro e w4 ⟨l', er, ln, c4, A4, HU, HLn, rfl, hc4, hL4, hg4⟩
    obtain ⟨rfl, rfl⟩ : l = l' ∧ 0 = er := by have := HU.out; simpa using this
    have hL14 := hL1''.later hg4
    have hg04 := Grows.trans hg03 hg4
    have cv1 := run_string_of (P := Try.prog) w4 22 5 Try.underlying22 Try.underlying5 9 Try.underlying9 _ A4 ln c4 l HLn.out hL4
    have cv2 := run_string_of (P := Try.prog) w4 22 5 Try.underlying22 Try.underlying5 9 Try.underlying9 _ A1 k c1 l HRL.out hL14
    clear hL1'' hL2' hL4 hL14 hg4 hg03 hun
    go_wp2_with fail
    refine (lives5_any _).mono ?_
    rintro e w9 ⟨rfl, hg9⟩
    go_wp2_with fail
    go_ret
    exact ⟨rfl, Grows.trans hg04 hg9⟩
  · have h4' : ¬ ((4 : Int) < (k : Int)) := by omega
    have htt : (t : Int) = ((min k 1 : Nat) : Int) := by have := HT.out; rw [if_neg h4] at this; omega
    obtain ⟨q, hq⟩ : ∃ q, q = min k 1 := ⟨_, rfl⟩
    rw [← hq] at htt ht1
    clear hq
    have hbq : ((t : Int) == (q : Int)) = true := by simp [htt]
    clear htt
    go_wp2_with fail
    refine hun.mono ?_
    rintro e w4 ⟨l', er, ln, c4, A4, HU, HLn, rfl, hc4, hL4, hg4⟩
    obtain ⟨rfl, rfl⟩ : l = l' ∧ 0 = er := by have := HU.out; simpa using this
    have hL14 := hL1''.later hg4
    have hg04 := Grows.trans hg03 hg4
    have cv1 := run_string_of (P := Try.prog) w4 22 5 Try.underlying22 Try.underlying5 9 Try.underlying9 _ A4 ln c4 l HLn.out hL4
    have cv2 := run_string_of (P := Try.prog) w4 22 5 Try.underlying22 Try.underlying5 9 Try.underlying9 _ A1 k c1 l HRL.out hL14
    clear hL1'' hL2' hL4 hL14 hg4 hg03 hun
    go_wp2_with fail
    refine (lives5_any _).mono ?_
    rintro e w9 ⟨rfl, hg9⟩
    go_wp2_with fail
    go_ret
    exact ⟨rfl, Grows.trans hg04 hg9⟩
end Go.Proofs.Ytilpeekdjifjhaa
