/-
  CRC-32C as functions of numbers and lists (of no program): a step, a byte, bytes; all are linear, and no two numbers have one step.
-/
namespace Go.Proofs.Ythnjbmaiebiehaa
set_option linter.unusedVariables false

/-- A step of a number. -/
def cstep (n : Nat) : Nat := if n % 2 = 1 then n / 2 ^^^ 2197175160 else n / 2
def csteps : Nat → Nat → Nat
  | 0, n => n
  | k + 1, n => csteps k (cstep n)
/-- A byte: changed by it, then eight steps. -/
def cbyte (n : Nat) (b : UInt8) : Nat := csteps 8 (n ^^^ b.toNat)
def cbytes (n : Nat) (l : List UInt8) : Nat := l.foldl cbyte n
/-- k bytes 0. -/
def czeros : Nat → Nat → Nat
  | 0, n => n
  | k + 1, n => czeros k (csteps 8 n)
/-- The check of bytes behind others whose check is s. -/
def cmore (s : Nat) (l : List UInt8) : Nat := 4294967295 - cbytes (4294967295 - s) l
def crcOf (l : List UInt8) : Nat := cmore 0 l

theorem half_xor (x y : Nat) : (x ^^^ y) / 2 = x / 2 ^^^ y / 2 := by
  have h : ∀ a : Nat, a / 2 = a >>> 1 := fun a => by rw [Nat.shiftRight_eq_div_pow]
  rw [h, h, h, Nat.shiftRight_xor_distrib]
theorem odd_xor (x y : Nat) : (x ^^^ y) % 2 = (x % 2 + y % 2) % 2 := by
  have h := Nat.xor_mod_two_pow (a := x) (b := y) (n := 1)
  rw [show (2 : Nat) ^ 1 = 2 from rfl] at h
  rw [h]
  rcases Nat.mod_two_eq_zero_or_one x with hx | hx <;> rcases Nat.mod_two_eq_zero_or_one y with hy | hy <;> rw [hx, hy] <;> rfl
theorem cstep_xor (x y : Nat) : cstep (x ^^^ y) = cstep x ^^^ cstep y := by
  have ho := odd_xor x y
  unfold cstep
  rw [half_xor]
  have hx := Nat.mod_two_eq_zero_or_one x
  have hy := Nat.mod_two_eq_zero_or_one y
  rcases hx with hx | hx <;> rcases hy with hy | hy <;> rw [hx, hy] at ho <;> simp only [ho, hx, hy] <;> simp
  · exact Nat.xor_assoc _ _ _
  · rw [Nat.xor_assoc, Nat.xor_comm (y / 2), ← Nat.xor_assoc]
  · have : ∀ a b p : Nat, a ^^^ b = (a ^^^ p) ^^^ (b ^^^ p) := fun a b p => by
      rw [Nat.xor_assoc, ← Nat.xor_assoc p, Nat.xor_comm p b, Nat.xor_assoc b, Nat.xor_self, Nat.xor_zero]
    exact this _ _ _
theorem cstep_lt {n : Nat} (h : n < 4294967296) : cstep n < 4294967296 := by
  unfold cstep
  split
  · exact Nat.xor_lt_two_pow (n := 32) (by omega) (by decide)
  · omega
theorem csteps_xor : ∀ k x y, csteps k (x ^^^ y) = csteps k x ^^^ csteps k y
  | 0, _, _ => rfl
  | k + 1, x, y => by rw [csteps, cstep_xor, csteps_xor k]; rfl
theorem csteps_lt : ∀ k {n}, n < 4294967296 → csteps k n < 4294967296
  | 0, _, h => h
  | k + 1, _, h => csteps_lt k (cstep_lt h)
theorem cbyte_lt {n : Nat} (h : n < 4294967296) (b : UInt8) : cbyte n b < 4294967296 :=
  csteps_lt 8 (Nat.xor_lt_two_pow (n := 32) h (by have := b.toNat_lt; omega))
theorem cbytes_lt : ∀ (l : List UInt8) {n : Nat}, n < 4294967296 → cbytes n l < 4294967296
  | [], _, h => h
  | b :: r, _, h => cbytes_lt r (cbyte_lt h b)
theorem czeros_lt : ∀ k {n}, n < 4294967296 → czeros k n < 4294967296
  | 0, _, h => h
  | k + 1, _, h => czeros_lt k (csteps_lt 8 h)
theorem czeros_xor : ∀ k x y, czeros k (x ^^^ y) = czeros k x ^^^ czeros k y
  | 0, _, _ => rfl
  | k + 1, x, y => by rw [czeros, csteps_xor, czeros_xor k]; rfl
theorem cbytes_append (n : Nat) (l r : List UInt8) : cbytes n (l ++ r) = cbytes (cbytes n l) r := by simp [cbytes]
theorem cbytes_cons (n : Nat) (b : UInt8) (r : List UInt8) : cbytes n (b :: r) = cbytes (cbyte n b) r := rfl
/-- Bytes behind a number that is changed by z. -/
theorem cbytes_xor : ∀ (l : List UInt8) (x z : Nat), cbytes (x ^^^ z) l = cbytes x l ^^^ czeros l.length z
  | [], _, _ => rfl
  | b :: r, x, z => by
    rw [cbytes_cons, cbytes_cons]
    have : cbyte (x ^^^ z) b = cbyte x b ^^^ csteps 8 z := by
      unfold cbyte
      rw [Nat.xor_assoc, Nat.xor_comm z, ← Nat.xor_assoc, csteps_xor]
    rw [this, cbytes_xor r]
    rfl
/-- All bits turned. -/
theorem turn_xor {s : Nat} (h : s < 4294967296) : 4294967295 - s = 4294967295 ^^^ s := by
  have h1 : (BitVec.allOnes 32 ^^^ BitVec.ofNat 32 s).toNat = 4294967295 - s := by
    rw [BitVec.allOnes_xor, BitVec.toNat_not, BitVec.toNat_ofNat, Nat.mod_eq_of_lt (by omega)]
  rw [← h1, BitVec.toNat_xor, BitVec.toNat_ofNat, Nat.mod_eq_of_lt (by omega)]
  rfl
theorem cmore_lt {s : Nat} (h : s < 4294967296) (l : List UInt8) : cmore s l < 4294967296 := by unfold cmore; omega
theorem cmore_nil {s : Nat} (h : s < 4294967296) : cmore s [] = s := by unfold cmore cbytes; simp; omega
theorem cmore_append {s : Nat} (h : s < 4294967296) (l r : List UInt8) : cmore s (l ++ r) = cmore (cmore s l) r := by
  have hb := cbytes_lt l (n := 4294967295 - s) (by omega)
  unfold cmore
  rw [cbytes_append]
  congr 2
  omega
/-- THE JOIN: what goes on behind a check is the check of what comes, changed by the first that went on by bytes 0. -/
theorem cmore_join {s : Nat} (h : s < 4294967296) (l : List UInt8) : cmore s l = czeros l.length s ^^^ crcOf l := by
  have h0 : (4294967295 : Nat) < 4294967296 := by decide
  have h1 : 4294967295 - s = (4294967295 - 0) ^^^ s := by rw [Nat.sub_zero]; exact turn_xor h
  have h2 := cbytes_lt l (n := 4294967295) h0
  unfold crcOf cmore
  rw [h1, cbytes_xor, Nat.sub_zero, turn_xor h2, turn_xor (Nat.xor_lt_two_pow (n := 32) h2 (czeros_lt _ h)), ← Nat.xor_assoc, Nat.xor_comm]

/-- No two numbers have one step. -/
theorem cstep_inj {x y : Nat} (hx : x < 4294967296) (hy : y < 4294967296) (h : cstep x = cstep y) : x = y := by
  have key : ∀ n : Nat, n < 4294967296 → (cstep n).testBit 31 = decide (n % 2 = 1) := fun n hn => by
    unfold cstep
    have hb : (n / 2).testBit 31 = false := Nat.testBit_lt_two_pow (by omega)
    split
    · rename_i ho
      rw [Nat.testBit_xor, hb, ho]
      decide
    · rename_i ho
      rw [hb, decide_eq_false ho]
  have h1 : decide (x % 2 = 1) = decide (y % 2 = 1) := by rw [← key x hx, ← key y hy, h]
  have h2 : x % 2 = 1 ↔ y % 2 = 1 := by simpa using h1
  unfold cstep at h
  by_cases ho : x % 2 = 1
  · rw [if_pos ho, if_pos (h2.1 ho)] at h
    have h3 : x / 2 = y / 2 := by
      have := congrArg (· ^^^ 2197175160) h
      simpa [Nat.xor_assoc] using this
    omega
  · rw [if_neg ho, if_neg (fun e => ho (h2.2 e))] at h
    omega
theorem csteps_inj : ∀ k {x y : Nat}, x < 4294967296 → y < 4294967296 → csteps k x = csteps k y → x = y
  | 0, _, _, _, _, h => h
  | k + 1, _, _, hx, hy, h => cstep_inj hx hy (csteps_inj k (cstep_lt hx) (cstep_lt hy) h)
theorem xor_right_inj {a x y : Nat} (h : x ^^^ a = y ^^^ a) : x = y := by
  have := congrArg (· ^^^ a) h
  simpa [Nat.xor_assoc] using this
theorem xor_left_inj {a x y : Nat} (h : a ^^^ x = a ^^^ y) : x = y := by
  rw [Nat.xor_comm a, Nat.xor_comm a] at h
  exact xor_right_inj h
theorem cbyte_inj {x y : Nat} (hx : x < 4294967296) (hy : y < 4294967296) {b : UInt8} (h : cbyte x b = cbyte y b) : x = y := by
  have hb := b.toNat_lt
  exact xor_right_inj (csteps_inj 8 (Nat.xor_lt_two_pow (n := 32) hx (by omega)) (Nat.xor_lt_two_pow (n := 32) hy (by omega)) h)
theorem cbyte_byte_inj {x : Nat} (hx : x < 4294967296) {b c : UInt8} (h : cbyte x b = cbyte x c) : b = c := by
  have hb := b.toNat_lt
  have hc := c.toNat_lt
  exact UInt8.toNat_inj.1 (xor_left_inj (csteps_inj 8 (Nat.xor_lt_two_pow (n := 32) hx (by omega)) (Nat.xor_lt_two_pow (n := 32) hx (by omega)) h))
theorem cbytes_inj : ∀ (l : List UInt8) {x y : Nat}, x < 4294967296 → y < 4294967296 → cbytes x l = cbytes y l → x = y
  | [], _, _, _, _, h => h
  | b :: r, _, _, hx, hy, h => cbyte_inj hx hy (cbytes_inj r (cbyte_lt hx b) (cbyte_lt hy b) h)
/-- Texts that part in one byte have other checks. -/
theorem crc_differs (l r : List UInt8) (b c : UInt8) (h : b ≠ c) : crcOf (l ++ b :: r) ≠ crcOf (l ++ c :: r) := by
  intro he
  have h0 : (4294967295 : Nat) < 4294967296 := by decide
  have h1 := cbytes_lt (l ++ b :: r) h0
  have h2 := cbytes_lt (l ++ c :: r) h0
  have h3 : cbytes 4294967295 (l ++ b :: r) = cbytes 4294967295 (l ++ c :: r) := by
    unfold crcOf cmore at he
    rw [Nat.sub_zero] at he
    omega
  rw [cbytes_append, cbytes_append, cbytes_cons, cbytes_cons] at h3
  have h4 := cbytes_lt l h0
  exact h (cbyte_byte_inj h4 (cbytes_inj r (cbyte_lt h4 b) (cbyte_lt h4 c) h3))
set_option maxRecDepth 10000 in
theorem crc_nine : crcOf [49, 50, 51, 52, 53, 54, 55, 56, 57] = 3808858755 := by decide +kernel
end Go.Proofs.Ythnjbmaiebiehaa
