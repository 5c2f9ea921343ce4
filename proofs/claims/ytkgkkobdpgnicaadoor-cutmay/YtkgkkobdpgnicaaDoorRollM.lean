/-
  Words that are turned round, and the hash of bytes that goes along, as functions of numbers and lists (of no program).
-/
namespace Go.Proofs.YtkgkkobdpgnicaaDoor
set_option linter.unusedVariables false

/-- Turned round to the left by one bit. -/
def rl (x : Nat) : Nat := (x * 2 + x / 2147483648) % 4294967296
def rln : Nat → Nat → Nat
  | 0, x => x
  | n + 1, x => rln n (rl x)
theorem rl_lt (x : Nat) : rl x < 4294967296 := Nat.mod_lt _ (by decide)
theorem rln_lt : ∀ n {x : Nat}, x < 4294967296 → rln n x < 4294967296
  | 0, _, h => h
  | n + 1, x, _ => rln_lt n (rl_lt x)
theorem rln_succ : ∀ n x, rln (n + 1) x = rl (rln n x)
  | 0, _ => rfl
  | n + 1, x => by rw [rln, rln_succ n, rln]
theorem rln_add : ∀ j k x, rln (j + k) x = rln k (rln j x)
  | 0, k, x => by rw [Nat.zero_add]; rfl
  | j + 1, k, x => by rw [show j + 1 + k = (j + k) + 1 by omega, rln, rln_add j k, rln]
/-- As bits: what goes up, and what comes in below. -/
theorem rl_xor_form {x : Nat} (h : x < 4294967296) : rl x = (x <<< 1) % 2 ^ 32 ^^^ (x >>> 31) := by
  have h1 : x >>> 31 < 2 ^ 1 := by rw [Nat.shiftRight_eq_div_pow]; omega
  have h2 : (x <<< 1) % 2 ^ 32 = (x % 2147483648) <<< 1 := by rw [Nat.shiftLeft_eq, Nat.shiftLeft_eq]; omega
  have h3 : (x % 2147483648) <<< 1 + x >>> 31 = (x % 2147483648) <<< 1 ||| x >>> 31 := Nat.shiftLeft_add_eq_or_of_lt h1 _
  have h4 : rl x = (x % 2147483648) <<< 1 + x >>> 31 := by
    unfold rl
    rw [Nat.shiftLeft_eq, Nat.shiftRight_eq_div_pow]
    omega
  rw [h4, h2, h3]
  refine Nat.eq_of_testBit_eq fun i => ?_
  rw [Nat.testBit_or, Nat.testBit_xor]
  cases i with
  | zero =>
    have : ((x % 2147483648) <<< 1).testBit 0 = false := by rw [Nat.testBit_shiftLeft]; simp
    rw [this]; simp
  | succ i =>
    have : (x >>> 31).testBit (i + 1) = false := Nat.testBit_lt_two_pow (Nat.lt_of_lt_of_le h1 (Nat.pow_le_pow_right (by omega) (by omega)))
    rw [this]; simp
theorem rl_xor {x y : Nat} (hx : x < 4294967296) (hy : y < 4294967296) : rl (x ^^^ y) = rl x ^^^ rl y := by
  rw [rl_xor_form (Nat.xor_lt_two_pow (n := 32) hx hy), rl_xor_form hx, rl_xor_form hy, Nat.shiftLeft_xor_distrib, Nat.xor_mod_two_pow, Nat.shiftRight_xor_distrib]
  generalize x <<< 1 % 2 ^ 32 = a
  generalize y <<< 1 % 2 ^ 32 = b
  generalize x >>> 31 = c
  generalize y >>> 31 = d
  ac_rfl
theorem rln_xor : ∀ n {x y : Nat}, x < 4294967296 → y < 4294967296 → rln n (x ^^^ y) = rln n x ^^^ rln n y
  | 0, _, _, _, _ => rfl
  | n + 1, x, y, hx, hy => by rw [rln, rl_xor hx hy, rln_xor n (rl_lt x) (rl_lt y), rln, rln]
theorem rln_zero : ∀ n, rln n 0 = 0
  | 0 => rfl
  | n + 1 => by rw [rln, show rl 0 = 0 from rfl, rln_zero n]
theorem rl_arith (s r q : Nat) (hq : q < 2) (h : s + r < 2147483648) : rl (s + 2147483648 * q + r) = (s + r) * 2 + q := by
  have h1 : (s + 2147483648 * q + r) / 2147483648 = q := by
    rw [show s + 2147483648 * q + r = (s + r) + 2147483648 * q by omega, Nat.add_mul_div_left _ _ (by decide), Nat.div_eq_of_lt h, Nat.zero_add]
  unfold rl
  rw [h1]
  rcases (show q = 0 ∨ q = 1 by omega) with rfl | rfl
  · rw [Nat.mod_eq_of_lt (by omega)]; omega
  · rw [show (s + 2147483648 * 1 + r) * 2 + 1 = ((s + r) * 2 + 1) + 4294967296 by omega, Nat.add_mod_right, Nat.mod_eq_of_lt (by omega)]
/-- Many turns at once. -/
theorem rln_form {x : Nat} (hx : x < 4294967296) : ∀ n, n ≤ 32 → rln n x = x % 2 ^ (32 - n) * 2 ^ n + x / 2 ^ (32 - n)
  | 0, _ => by simp only [rln, Nat.sub_zero, Nat.pow_zero, Nat.mul_one]; omega
  | n + 1, hn => by
    rw [rln_succ, rln_form hx n (by omega)]
    obtain ⟨j, hj⟩ : ∃ j, 32 - n = j + 1 := ⟨31 - n, by omega⟩
    rw [hj, show 32 - (n + 1) = j by omega, Nat.pow_succ 2 n, Nat.pow_succ 2 j]
    have hp : 2 ^ j * 2 ^ n = 2147483648 := by rw [← Nat.pow_add, show j + n = 31 by omega]
    have h1 : x / 2 ^ j = x / (2 ^ j * 2) * 2 + x / 2 ^ j % 2 := by rw [← Nat.div_div_eq_div_mul]; omega
    have h2 : x % (2 ^ j * 2) = x % 2 ^ j + 2 ^ j * (x / 2 ^ j % 2) := Nat.mod_mul
    have h3 : x / 2 ^ j % 2 < 2 := Nat.mod_lt _ (by decide)
    have h4 : x / (2 ^ j * 2) < 2 ^ n := Nat.div_lt_of_lt_mul (by rw [Nat.mul_right_comm, hp]; omega)
    have h5 : x % 2 ^ j < 2 ^ j := Nat.mod_lt _ (Nat.two_pow_pos j)
    have h6 : x % 2 ^ j * 2 ^ n + 2 ^ n ≤ 2147483648 := by
      rw [← hp, ← Nat.succ_mul]
      exact Nat.mul_le_mul_right _ h5
    rw [h2, Nat.add_mul, Nat.mul_right_comm (2 ^ j), hp]
    generalize hq : x / 2 ^ j % 2 = q at *
    generalize x / (2 ^ j * 2) = r at *
    rw [h1, ← Nat.mul_assoc]
    generalize x % 2 ^ j * 2 ^ n = s at *
    rw [rl_arith s r q h3 (by omega)]
    omega

/-- The next word. -/
def wnext (x : Nat) : Nat :=
  let a := x ^^^ (x * 8192) % 4294967296
  let b := a ^^^ a / 131072
  b ^^^ (b * 32) % 4294967296
def wnth : Nat → Nat
  | 0 => wnext 2654435769
  | k + 1 => wnext (wnth k)
/-- A byte's word. -/
def wordOf (c : UInt8) : Nat := wnth c.toNat
theorem wnext_lt {x : Nat} (h : x < 4294967296) : wnext x < 4294967296 := by
  have h1 : x ^^^ (x * 8192) % 4294967296 < 4294967296 := Nat.xor_lt_two_pow (n := 32) h (Nat.mod_lt _ (by decide))
  unfold wnext
  generalize x ^^^ (x * 8192) % 4294967296 = a at *
  have h2 : a ^^^ a / 131072 < 4294967296 := Nat.xor_lt_two_pow (n := 32) h1 (by omega)
  simp only []
  exact Nat.xor_lt_two_pow (n := 32) h2 (Nat.mod_lt _ (by decide))
theorem wnth_lt : ∀ k, wnth k < 4294967296
  | 0 => wnext_lt (by decide)
  | k + 1 => wnext_lt (wnth_lt k)
theorem wordOf_lt (c : UInt8) : wordOf c < 4294967296 := wnth_lt _

/-- Bytes by their words, without a window: each turned by how many stand behind it. -/
def over (l : List UInt8) : Nat := l.foldl (fun h c => rl h ^^^ wordOf c) 0
theorem over_snoc (l : List UInt8) (c : UInt8) : over (l ++ [c]) = rl (over l) ^^^ wordOf c := by simp [over]
theorem over_lt (l : List UInt8) : over l < 4294967296 := by
  rcases List.eq_nil_or_concat l with rfl | ⟨l', c, rfl⟩
  · decide
  · rw [List.concat_eq_append, over_snoc]; exact Nat.xor_lt_two_pow (n := 32) (rl_lt _) (wordOf_lt c)
theorem over_append (l : List UInt8) : ∀ (n : Nat) (r : List UInt8), r.length = n → over (l ++ r) = rln n (over l) ^^^ over r
  | 0, r, h => by rw [List.eq_nil_of_length_eq_zero h, List.append_nil]; simp [over, rln]
  | n + 1, r, h => by
    rcases List.eq_nil_or_concat r with rfl | ⟨r', c, rfl⟩
    · simp at h
    · rw [List.concat_eq_append] at h ⊢
      have h' : r'.length = n := by simpa using h
      rw [← List.append_assoc, over_snoc, over_append l n r' h', over_snoc, rl_xor (rln_lt n (over_lt l)) (over_lt r'), rln_succ, Nat.xor_assoc]
/-- The last sixteen. -/
def last16 (l : List UInt8) : List UInt8 := l.drop (l.length - 16)
/-- The hash of bytes. -/
def hashOf (l : List UInt8) : Nat := over (last16 l)
theorem hashOf_lt (l : List UInt8) : hashOf l < 4294967296 := over_lt _
theorem hashOf_small {l : List UInt8} (h : l.length ≤ 16) : hashOf l = over l := by
  unfold hashOf last16
  rw [show l.length - 16 = 0 by omega, List.drop_zero]
/-- One more byte, while there are fewer than sixteen. -/
theorem hash_few (l : List UInt8) (c : UInt8) (h : l.length < 16) : hashOf (l ++ [c]) = rl (hashOf l) ^^^ wordOf c := by
  rw [hashOf_small (by simp; omega), hashOf_small (by omega), over_snoc]
/-- One more byte, and the first one goes. -/
theorem hash_goes (l : List UInt8) (c d : UInt8) (h : 16 ≤ l.length) (hd : l[l.length - 16]? = some d) : hashOf (l ++ [c]) = rl (hashOf l) ^^^ rln 16 (wordOf d) ^^^ wordOf c := by
  have hlt : l.length - 16 < l.length := by omega
  have e1 : last16 l = d :: l.drop (l.length - 16 + 1) := by
    unfold last16
    rw [List.drop_eq_getElem_cons hlt]
    rw [List.getElem?_eq_getElem hlt] at hd
    injection hd with hd
    rw [hd]
  have e2 : last16 (l ++ [c]) = l.drop (l.length - 16 + 1) ++ [c] := by
    unfold last16
    rw [List.length_append, show l.length + [c].length - 16 = l.length - 16 + 1 by simp; omega, List.drop_append_of_le_length (by omega)]
  have e3 : (l.drop (l.length - 16 + 1)).length = 15 := by rw [List.length_drop]; omega
  unfold hashOf
  rw [e1, e2, over_snoc]
  have e4 : over (d :: l.drop (l.length - 16 + 1)) = rln 15 (over [d]) ^^^ over (l.drop (l.length - 16 + 1)) := over_append [d] 15 _ e3
  have e5 : over [d] = wordOf d := by simp [over, show rl 0 = 0 from rfl]
  have hw := rln_lt 15 (wordOf_lt d)
  rw [e4, e5, rl_xor hw (over_lt _), ← rln_succ]
  generalize rl (over (l.drop (l.length - 16 + 1))) = a
  generalize rln (15 + 1) (wordOf d) = b
  rw [show b ^^^ a ^^^ b = a by rw [Nat.xor_comm b a, Nat.xor_assoc, Nat.xor_self, Nat.xor_zero]]
/-- The hash hangs on the last sixteen alone. -/
theorem hash_last (a t : List UInt8) (h : 16 ≤ t.length) : hashOf (a ++ t) = hashOf t := by
  unfold hashOf last16
  rw [List.length_append, List.drop_append, List.drop_eq_nil_of_le (by omega), List.nil_append, show a.length + t.length - 16 - a.length = t.length - 16 by omega]
/-- As the document says it: each of the last by how many stand behind it. -/
def overTo (l : List UInt8) : Nat → Nat
  | 0 => 0
  | k + 1 => overTo l k ^^^ rln (l.length - 1 - k) (wordOf (l.getD k 0))
theorem overTo_take (l : List UInt8) : ∀ k, k ≤ l.length → overTo l k = rln (l.length - k) (over (l.take k))
  | 0, _ => by simp [overTo, over, rln_zero]
  | k + 1, hk => by
    have hlt : k < l.length := by omega
    rw [overTo, overTo_take l k (by omega), List.take_succ_eq_append_getElem hlt, over_snoc, rln_xor _ (rl_lt _) (wordOf_lt _), ← rln, show (l.length - (k + 1)).succ = l.length - k by omega,
      show l.length - 1 - k = l.length - (k + 1) by omega]
    simp [List.getD, List.getElem?_eq_getElem hlt]
theorem overTo_all (l : List UInt8) : overTo l l.length = over l := by
  rw [overTo_take l _ (Nat.le_refl _), Nat.sub_self, List.take_length]; rfl
end Go.Proofs.YtkgkkobdpgnicaaDoor
