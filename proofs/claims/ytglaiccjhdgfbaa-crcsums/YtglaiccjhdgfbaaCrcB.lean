/-
  Contracts of crc's product, steps and Join.
-/
import Derived.Test.YtglaiccjhdgfbaaCrcA
import Derived.Test.YtglaiccjhdgfbaaCrcN
namespace Go.Proofs.Ytglaiccjhdgfbaa
open Go.RowKit
set_option linter.unusedVariables false

theorem w32_wrap (a : Nat) : IntKind.u32.wrap (a : Int) = ((a % 4294967296 : Nat) : Int) := by
  simp [IntKind.wrap, IntKind.signed, IntKind.bits]
theorem and_pow (x i : Nat) : x &&& 2 ^ i = if x.testBit i then 2 ^ i else 0 := by
  refine Nat.eq_of_testBit_eq fun j => ?_
  rw [Nat.testBit_and, Nat.testBit_two_pow]
  by_cases h : i = j
  · subst h
    cases hb : x.testBit i <;> simp
  · cases hb : x.testBit i <;> simp [h]
theorem top_bit (b k : Nat) (hk : k < 32) : bits .and .u32 ((b : Int) * 2 ^ k % 4294967296) 2147483648 = if b.testBit (31 - k) then 2147483648 else 0 := by
  have e1 : ((b : Int) * 2 ^ k) % 4294967296 = ((b * 2 ^ k % 4294967296 : Nat) : Int) := by simp
  have e2 := u32_and_nat (b * 2 ^ k % 4294967296) 2147483648 (Nat.mod_lt _ (by decide)) (by decide)
  rw [e1]
  refine e2.trans ?_
  have e3 := and_pow (b * 2 ^ k % 2 ^ 32) 31
  rw [Nat.testBit_mod_two_pow, Nat.testBit_mul_two_pow, show decide (31 < 32) = true from rfl, show decide (31 ≥ k) = true from decide_eq_true (by omega)] at e3
  have e4 : b * 2 ^ k % 4294967296 &&& 2147483648 = if b.testBit (31 - k) then 2147483648 else 0 := by simpa using e3
  rw [e4]
  split <;> rfl

set_option maxHeartbeats 1000000 in
theorem product_any (a b : Nat) (w : World) (ha : a < 4294967296) (hb : b < 4294967296) :
    Calls Try.prog 21 #[uv a, uv b] w fun e w' => e = .returned (uv (cprod a b)) ∧ Grows w w' := by
  go_enter Try.func21, Try.ntmps21
  go_wp2_with fail
  refine (stepBy_any w).mono ?_
  rintro e w1 ⟨bk, rfl, hck, hg1⟩
  go_wp2
  go_loop [0, 6, 9] (fun y x i => ∃ k : Nat, k ≤ 32 ∧ i = .int .i64 k ∧ y = uv (csteps k a) ∧ x = uv (cprodTo a b k)) (fun _ _ i => 32 - (intOf i).toNat)
  case atStart => exact ⟨0, Nat.zero_le _, rfl, rfl, rfl⟩
  case round =>
    obtain ⟨k, hk, rfl, rfl, rfl⟩ := hrel
    by_cases hlt : k < 32
    · have htop := top_bit b k hlt
      have hy := csteps_lt k ha
      have hx := cprodTo_lt b ha k
      have HY := Lib.hid (csteps_succ k a)
      by_cases hbit : b.testBit (31 - k) = true
      · rw [hbit, if_pos rfl] at htop
        have HX : Hid (cprodTo a b (k + 1) = cprodTo a b k ^^^ csteps k a) := by show _ = _; rw [cprodTo, hbit, if_pos rfl]
        have hxo := u32_xor_nat (cprodTo a b k) (csteps k a) hx hy
        clear hbit
        generalize csteps k a = y at *
        generalize cprodTo a b k = x at *
        go_wp2_with fail
        refine (cstep_any y bk w1 hy hck).mono ?_
        rintro e w2 ⟨rfl, rfl⟩
        go_wp2
        go_round
        case rel => exact ⟨k + 1, by omega, by go_num, by rw [HY.out], by rw [HX.out]⟩
        case measure => simp [intOf]; omega
      · rw [if_neg hbit] at htop
        have HX : Hid (cprodTo a b (k + 1) = cprodTo a b k) := by show _ = _; rw [cprodTo, if_neg hbit]
        clear hbit
        generalize csteps k a = y at *
        generalize cprodTo a b k = x at *
        go_wp2_with fail
        refine (cstep_any y bk w1 hy hck).mono ?_
        rintro e w2 ⟨rfl, rfl⟩
        go_wp2
        go_round
        case rel => exact ⟨k + 1, by omega, by go_num, by rw [HY.out], by rw [HX.out]⟩
        case measure => simp [intOf]; omega
    · obtain rfl : k = 32 := by omega
      go_wp2
      go_ret
      exact ⟨rfl, hg1⟩

theorem twice_odd (h j : Nat) : (2 * h + 1) * j = 2 * (h * j) + j := by rw [Nat.add_mul, Nat.mul_assoc, Nat.one_mul]
theorem twice_even (h j : Nat) : 2 * h * j = 2 * (h * j) := Nat.mul_assoc _ _ _
set_option maxHeartbeats 1000000 in
theorem steps_any (n : Nat) (w : World) (hn : n ≤ 1000000000000) :
    Calls Try.prog 22 #[.int .i64 (n : Int)] w fun e w' => ∃ r, e = .returned (uv r) ∧ Rep r (8 * n) ∧ Grows w w' := by
  go_enter Try.func22, Try.ntmps22
  go_wp2
  go_loopw [0, 3, 4] (fun v x q wr => ∃ k X Q i j : Nat, k ≤ n ∧ v = .int .i64 k ∧ x = uv X ∧ q = uv Q ∧ Rep X i ∧ Rep Q j ∧ i + k * j = 8 * n ∧ Grows w wr) (fun v _ _ _ => (intOf v).toNat)
  case atStart => exact ⟨n, 2147483648, 8388608, 0, 8, Nat.le_refl _, rfl, rfl, rfl, rep_one, rep_eight, by omega, Grows.refl _⟩
  case round =>
    obtain ⟨k, X, Q, i, j, hk, rfl, rfl, rfl, hX, hQ, hij, hgr⟩ := hrel
    have hX0 := hX.lt
    have hQ0 := hQ.lt
    by_cases hk0 : 0 < k
    · have hdiv : ((k : Int)).tdiv 2 = ((k / 2 : Nat) : Int) := by rw [Int.tdiv_eq_ediv_of_nonneg (by omega)]; omega
      by_cases ho : k % 2 = 1
      · have HIJ : Hid ((i + j) + k / 2 * (j + j) = 8 * n) := by
          show _ = _
          have h1 := twice_odd (k / 2) j
          rw [show 2 * (k / 2) + 1 = k by omega] at h1
          rw [Nat.mul_add]
          omega
        clear hij
        go_wp2_with fail
        refine (product_any X Q wr hX0 hQ0).mono ?_
        rintro e w1 ⟨rfl, hg1⟩
        have hX1 := hX.mul hQ
        have hX2 := hX1.lt
        generalize cprod X Q = X1 at *
        go_wp2_with fail
        refine (product_any Q Q w1 hQ0 hQ0).mono ?_
        rintro e w2 ⟨rfl, hg2⟩
        have hQ1 := hQ.mul hQ
        have hQ2 := hQ1.lt
        generalize cprod Q Q = Q1 at *
        go_wp2_with fail
        go_roundw
        case rel => exact ⟨k / 2, X1, Q1, i + j, j + j, by omega, by go_num, rfl, rfl, hX1, hQ1, HIJ.out, Grows.trans hgr (Grows.trans hg1 hg2)⟩
        case measure => simp [intOf]; omega
      · have HIJ : Hid (i + k / 2 * (j + j) = 8 * n) := by
          show _ = _
          have h1 := twice_even (k / 2) j
          rw [show 2 * (k / 2) = k by omega] at h1
          rw [Nat.mul_add]
          omega
        clear hij
        go_wp2_with fail
        refine (product_any Q Q wr hQ0 hQ0).mono ?_
        rintro e w2 ⟨rfl, hg2⟩
        have hQ1 := hQ.mul hQ
        have hQ2 := hQ1.lt
        generalize cprod Q Q = Q1 at *
        go_wp2_with fail
        go_roundw
        case rel => exact ⟨k / 2, X, Q1, i, j + j, by omega, by go_num, rfl, rfl, hX, hQ1, HIJ.out, Grows.trans hgr hg2⟩
        case measure => simp [intOf]; omega
    · obtain rfl : k = 0 := by omega
      have hi : i = 8 * n := by omega
      go_wp2
      go_ret
      exact ⟨X, rfl, by rw [← hi]; exact hX, hgr⟩

set_option maxHeartbeats 400000 in
theorem join_any (a b n : Nat) (w : World) (ha : a < 4294967296) (hb : b < 4294967296) (hn : n ≤ 1000000000000) :
    Calls Try.prog 14 #[uv a, uv b, .int .i64 (n : Int)] w fun e w' => e = .returned (uv (czeros n a ^^^ b)) ∧ Grows w w' := by
  go_enter Try.func14, Try.ntmps14
  go_wp2_with fail
  refine (steps_any n w hn).mono ?_
  rintro e w1 ⟨r, rfl, hR, hg1⟩
  have hr := hR.lt
  go_wp2_with fail
  refine (product_any a r w1 ha hr).mono ?_
  rintro e w2 ⟨rfl, hg2⟩
  rw [hR.prod a ha, ← czeros_steps]
  have hz := czeros_lt n ha
  have hxo := u32_xor_nat (czeros n a) b hz hb
  generalize hzz : czeros n a = z at *
  have HZ := Lib.hid hzz
  clear hzz
  go_wp2_with fail
  go_ret
  exact ⟨ret_w32 (by rw [HZ.out]), Grows.trans hg1 hg2⟩
end Go.Proofs.Ytglaiccjhdgfbaa
