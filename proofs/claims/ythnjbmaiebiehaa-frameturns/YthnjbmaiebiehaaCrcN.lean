/-
  CRC-32C: numbers as polynomials (of no program): a product of two, and that the product with x^(8n) is n bytes 0.
-/
import Derived.Test.YthnjbmaiebiehaaCrcM
namespace Go.Proofs.Ythnjbmaiebiehaa
set_option linter.unusedVariables false

theorem csteps_more : ∀ k n, csteps (k + 1) n = cstep (csteps k n)
  | 0, _ => rfl
  | k + 1, n => by rw [csteps, csteps_more k, csteps]
theorem csteps_add : ∀ j k n, csteps (j + k) n = csteps k (csteps j n)
  | 0, k, n => by rw [Nat.zero_add]; rfl
  | j + 1, k, n => by rw [show j + 1 + k = (j + k) + 1 by omega, csteps, csteps_add j k, csteps]
theorem czeros_steps : ∀ k n, czeros k n = csteps (8 * k) n
  | 0, _ => rfl
  | k + 1, n => by rw [czeros, czeros_steps k, show 8 * (k + 1) = 8 + 8 * k by omega, csteps_add]

/-- The product, as far as k bits. -/
def cprodTo (a b : Nat) : Nat → Nat
  | 0 => 0
  | k + 1 => if b.testBit (31 - k) then cprodTo a b k ^^^ csteps k a else cprodTo a b k
def cprod (a b : Nat) : Nat := cprodTo a b 32

theorem cstep_zero : cstep 0 = 0 := rfl
theorem cprodTo_lt {a : Nat} (b : Nat) (ha : a < 4294967296) : ∀ k, cprodTo a b k < 4294967296
  | 0 => by rw [cprodTo]; omega
  | k + 1 => by
    rw [cprodTo]
    split
    · exact Nat.xor_lt_two_pow (n := 32) (cprodTo_lt b ha k) (csteps_lt k ha)
    · exact cprodTo_lt b ha k
theorem cprod_left (a a' b : Nat) : ∀ k, cprodTo (a ^^^ a') b k = cprodTo a b k ^^^ cprodTo a' b k
  | 0 => by simp [cprodTo]
  | k + 1 => by
    simp only [cprodTo, cprod_left a a' b k, csteps_xor]
    split
    · ac_rfl
    · rfl
theorem xor_both (p q s : Nat) : p ^^^ q = (p ^^^ s) ^^^ (q ^^^ s) := by
  rw [Nat.xor_assoc, ← Nat.xor_assoc s, Nat.xor_comm s q, Nat.xor_assoc q, Nat.xor_self, Nat.xor_zero]
theorem cprod_right (a b b' : Nat) : ∀ k, cprodTo a (b ^^^ b') k = cprodTo a b k ^^^ cprodTo a b' k
  | 0 => by simp [cprodTo]
  | k + 1 => by
    simp only [cprodTo, cprod_right a b b' k, Nat.testBit_xor]
    cases b.testBit (31 - k) <;> cases b'.testBit (31 - k) <;> simp
    · ac_rfl
    · ac_rfl
    · exact xor_both _ _ _
theorem cprod_half (a b : Nat) (hb : b < 4294967296) : ∀ k, k ≤ 31 → cprodTo a (b / 2) (k + 1) = cstep (cprodTo a b k)
  | 0, _ => by
    have h : (b / 2).testBit 31 = false := Nat.testBit_lt_two_pow (by omega)
    simp [cprodTo, h, cstep_zero]
  | k + 1, hk => by
    have ih := cprod_half a b hb k (by omega)
    have h : (b / 2).testBit (31 - (k + 1)) = b.testBit (31 - k) := by rw [← Nat.testBit_succ, show (31 - (k + 1)).succ = 31 - k by omega]
    rw [cprodTo, h, ih, cprodTo]
    split
    · rw [cstep_xor, csteps_more]
    · rfl

/-- Two linear functions that are one at each bit are one. -/
theorem linear_same {f g : Nat → Nat} (hf : ∀ x y, f (x ^^^ y) = f x ^^^ f y) (hg : ∀ x y, g (x ^^^ y) = g x ^^^ g y) : ∀ n, (∀ j, j < n → f (2 ^ j) = g (2 ^ j)) → ∀ x, x < 2 ^ n → f x = g x
  | 0, _, x, hx => by
    obtain rfl : x = 0 := by simpa using hx
    have h1 := hf 0 0
    have h2 := hg 0 0
    rw [Nat.xor_self] at h1 h2
    rw [h1, h2, Nat.xor_self, Nat.xor_self]
  | n + 1, h, x, hx => by
    have ih := linear_same hf hg n (fun j hj => h j (by omega))
    by_cases hb : x < 2 ^ n
    · exact ih x hb
    · have hp : 2 ^ (n + 1) = 2 ^ n + 2 ^ n := by rw [Nat.pow_succ]; omega
      have he : x = (x - 2 ^ n) ^^^ 2 ^ n := by
        have hlt : x - 2 ^ n < 2 ^ n := by omega
        refine Nat.eq_of_testBit_eq fun i => ?_
        rw [Nat.testBit_xor, Nat.testBit_two_pow]
        have hx' : x = 2 ^ n + (x - 2 ^ n) := by omega
        rcases Nat.lt_trichotomy i n with hi | hi | hi
        · conv => lhs; rw [hx']
          rw [Nat.testBit_two_pow_add_gt hi]
          simp [show ¬ n = i by omega]
        · subst hi
          conv => lhs; rw [hx']
          rw [Nat.testBit_two_pow_add_eq]
          simp
        · rw [Nat.testBit_lt_two_pow (x := x) (i := i) (Nat.lt_of_lt_of_le hx (Nat.pow_le_pow_right (by omega) (by omega))), Nat.testBit_lt_two_pow (x := x - 2 ^ n) (i := i) (Nat.lt_of_lt_of_le hlt (Nat.pow_le_pow_right (by omega) (by omega)))]
          simp
          omega
      rw [he, hf, hg, ih (x - 2 ^ n) (by omega), h n (by omega)]

set_option maxRecDepth 100000 in
theorem pattern_bits : ∀ j : Fin 32, cprod (2 ^ j.val) 2197175160 = csteps 32 (2 ^ j.val) := by decide +kernel
theorem cprod_pattern {a : Nat} (ha : a < 4294967296) : cprod a 2197175160 = csteps 32 a :=
  linear_same (f := fun a => cprod a 2197175160) (g := csteps 32) (fun x y => cprod_left x y _ 32) (fun x y => csteps_xor 32 x y) 32 (fun j hj => pattern_bits ⟨j, hj⟩) a ha
theorem cprod_step {a b : Nat} (ha : a < 4294967296) (hb : b < 4294967296) : cprod a (cstep b) = cstep (cprod a b) := by
  have h1 := cprod_half a b hb 31 (by omega)
  have h2 : cprod a b = if b.testBit 0 then cprodTo a b 31 ^^^ csteps 31 a else cprodTo a b 31 := rfl
  have h3 : b.testBit 0 = decide (b % 2 = 1) := Nat.testBit_zero b
  rw [h2, h3]
  unfold cstep
  by_cases ho : b % 2 = 1
  · rw [if_pos ho, decide_eq_true ho, if_pos rfl]
    show cprod a (b / 2 ^^^ 2197175160) = cstep (cprodTo a b 31 ^^^ csteps 31 a)
    unfold cprod
    rw [cprod_right, h1, cstep_xor, ← csteps_more]
    exact congrArg _ (cprod_pattern ha)
  · rw [if_neg ho, decide_eq_false ho, if_neg Bool.false_ne_true]
    exact h1
theorem cprod_steps {a : Nat} (ha : a < 4294967296) : ∀ k {b : Nat}, b < 4294967296 → cprod a (csteps k b) = csteps k (cprod a b)
  | 0, _, _ => rfl
  | k + 1, b, hb => by rw [csteps, cprod_steps ha k (cstep_lt hb), cprod_step ha hb, csteps]

/-- The product with b is m steps. -/
structure Rep (b m : Nat) : Prop where
  lt : b < 4294967296
  prod : ∀ a, a < 4294967296 → cprod a b = csteps m a
set_option maxRecDepth 100000 in
theorem one_bits : ∀ j : Fin 32, cprod (2 ^ j.val) 2147483648 = 2 ^ j.val ∧ cprod (2 ^ j.val) 8388608 = csteps 8 (2 ^ j.val) := by decide +kernel
theorem rep_one : Rep 2147483648 0 := ⟨by decide, fun a ha =>
  linear_same (f := fun a => cprod a 2147483648) (g := fun a => a) (fun x y => cprod_left x y _ 32) (fun _ _ => rfl) 32 (fun j hj => (one_bits ⟨j, hj⟩).1) a ha⟩
theorem rep_eight : Rep 8388608 8 := ⟨by decide, fun a ha =>
  linear_same (f := fun a => cprod a 8388608) (g := csteps 8) (fun x y => cprod_left x y _ 32) (fun x y => csteps_xor 8 x y) 32 (fun j hj => (one_bits ⟨j, hj⟩).2) a ha⟩
theorem Rep.mul {b c m k : Nat} (hb : Rep b m) (hc : Rep c k) : Rep (cprod b c) (m + k) :=
  ⟨cprodTo_lt c hb.lt 32, fun a ha => by rw [hc.prod b hb.lt, cprod_steps ha k hb.lt, hb.prod a ha, csteps_add]⟩
end Go.Proofs.Ythnjbmaiebiehaa
