/-
  Contracts, joined (CrcM CrcA CrcC CrcD).
-/
import Derived.Test.YtbcldknecdbemaaGreatDoorRows
import Derived.Test.YtbcldknecdbemaaGreatDoorQ2
import Derived.Laws.BitsAllLaws
import Derived.Outline
import Derived.Lib.Hide
import Derived.BigQuiet
import Derived.Test.YtbcldknecdbemaaGreatDoorQ1

/-
  CRC-32C as functions of numbers and lists (of no program): a step, a byte, bytes; all are linear, and no two numbers have one step.
-/
namespace Go.Proofs.YtbcldknecdbemaaGreatDoor
set_option linter.unusedVariables false
set_option maxRecDepth 20000

/-- A step of a number. -/
def cstep (n : Nat) : Nat := if n % 2 = 1 then n / 2 ^^^ 2197175160 else n / 2
def csteps : Nat → Nat → Nat
  | 0, n => n
  | k + 1, n => csteps k (cstep n)
/-- A byte: changed by it, then eight steps. -/
def cbyte (n : Nat) (b : UInt8) : Nat := csteps 8 (n ^^^ b.toNat)
def cbytes (n : Nat) (l : List UInt8) : Nat := l.foldl cbyte n
/-- k bytes 0. -/
def czeros : Nat → Nat → Nat
  | 0, n => n
  | k + 1, n => czeros k (csteps 8 n)
/-- The check of bytes behind others whose check is s. -/
def cmore (s : Nat) (l : List UInt8) : Nat := 4294967295 - cbytes (4294967295 - s) l
def crcOf (l : List UInt8) : Nat := cmore 0 l

theorem half_xor (x y : Nat) : (x ^^^ y) / 2 = x / 2 ^^^ y / 2 := by
  have h : ∀ a : Nat, a / 2 = a >>> 1 := fun a => by rw [Nat.shiftRight_eq_div_pow]
  rw [h, h, h, Nat.shiftRight_xor_distrib]
theorem odd_xor (x y : Nat) : (x ^^^ y) % 2 = (x % 2 + y % 2) % 2 := by
  have h := Nat.xor_mod_two_pow (a := x) (b := y) (n := 1)
  rw [show (2 : Nat) ^ 1 = 2 from rfl] at h
  rw [h]
  rcases Nat.mod_two_eq_zero_or_one x with hx | hx <;> rcases Nat.mod_two_eq_zero_or_one y with hy | hy <;> rw [hx, hy] <;> rfl
theorem cstep_xor (x y : Nat) : cstep (x ^^^ y) = cstep x ^^^ cstep y := by
  have ho := odd_xor x y
  unfold cstep
  rw [half_xor]
  have hx := Nat.mod_two_eq_zero_or_one x
  have hy := Nat.mod_two_eq_zero_or_one y
  rcases hx with hx | hx <;> rcases hy with hy | hy <;> rw [hx, hy] at ho <;> simp only [ho, hx, hy] <;> simp
  · exact Nat.xor_assoc _ _ _
  · rw [Nat.xor_assoc, Nat.xor_comm (y / 2), ← Nat.xor_assoc]
  · have : ∀ a b p : Nat, a ^^^ b = (a ^^^ p) ^^^ (b ^^^ p) := fun a b p => by
      rw [Nat.xor_assoc, ← Nat.xor_assoc p, Nat.xor_comm p b, Nat.xor_assoc b, Nat.xor_self, Nat.xor_zero]
    exact this _ _ _
theorem cstep_lt {n : Nat} (h : n < 4294967296) : cstep n < 4294967296 := by
  unfold cstep
  split
  · exact Nat.xor_lt_two_pow (n := 32) (by omega) (by decide)
  · omega
theorem csteps_xor : ∀ k x y, csteps k (x ^^^ y) = csteps k x ^^^ csteps k y
  | 0, _, _ => rfl
  | k + 1, x, y => by rw [csteps, cstep_xor, csteps_xor k]; rfl
theorem csteps_lt : ∀ k {n}, n < 4294967296 → csteps k n < 4294967296
  | 0, _, h => h
  | k + 1, _, h => csteps_lt k (cstep_lt h)
theorem cbyte_lt {n : Nat} (h : n < 4294967296) (b : UInt8) : cbyte n b < 4294967296 :=
  csteps_lt 8 (Nat.xor_lt_two_pow (n := 32) h (by have := b.toNat_lt; omega))
theorem cbytes_lt : ∀ (l : List UInt8) {n : Nat}, n < 4294967296 → cbytes n l < 4294967296
  | [], _, h => h
  | b :: r, _, h => cbytes_lt r (cbyte_lt h b)
theorem czeros_lt : ∀ k {n}, n < 4294967296 → czeros k n < 4294967296
  | 0, _, h => h
  | k + 1, _, h => czeros_lt k (csteps_lt 8 h)
theorem czeros_xor : ∀ k x y, czeros k (x ^^^ y) = czeros k x ^^^ czeros k y
  | 0, _, _ => rfl
  | k + 1, x, y => by rw [czeros, csteps_xor, czeros_xor k]; rfl
theorem cbytes_append (n : Nat) (l r : List UInt8) : cbytes n (l ++ r) = cbytes (cbytes n l) r := by simp [cbytes]
theorem cbytes_cons (n : Nat) (b : UInt8) (r : List UInt8) : cbytes n (b :: r) = cbytes (cbyte n b) r := rfl
/-- Bytes behind a number that is changed by z. -/
theorem cbytes_xor : ∀ (l : List UInt8) (x z : Nat), cbytes (x ^^^ z) l = cbytes x l ^^^ czeros l.length z
  | [], _, _ => rfl
  | b :: r, x, z => by
    rw [cbytes_cons, cbytes_cons]
    have : cbyte (x ^^^ z) b = cbyte x b ^^^ csteps 8 z := by
      unfold cbyte
      rw [Nat.xor_assoc, Nat.xor_comm z, ← Nat.xor_assoc, csteps_xor]
    rw [this, cbytes_xor r]
    rfl
/-- All bits turned. -/
theorem turn_xor {s : Nat} (h : s < 4294967296) : 4294967295 - s = 4294967295 ^^^ s := by
  have h1 : (BitVec.allOnes 32 ^^^ BitVec.ofNat 32 s).toNat = 4294967295 - s := by
    rw [BitVec.allOnes_xor, BitVec.toNat_not, BitVec.toNat_ofNat, Nat.mod_eq_of_lt (by omega)]
  rw [← h1, BitVec.toNat_xor, BitVec.toNat_ofNat, Nat.mod_eq_of_lt (by omega)]
  rfl
theorem cmore_lt {s : Nat} (h : s < 4294967296) (l : List UInt8) : cmore s l < 4294967296 := by unfold cmore; omega
theorem cmore_nil {s : Nat} (h : s < 4294967296) : cmore s [] = s := by unfold cmore cbytes; simp; omega
theorem cmore_append {s : Nat} (h : s < 4294967296) (l r : List UInt8) : cmore s (l ++ r) = cmore (cmore s l) r := by
  have hb := cbytes_lt l (n := 4294967295 - s) (by omega)
  unfold cmore
  rw [cbytes_append]
  congr 2
  omega
/-- THE JOIN: what goes on behind a check is the check of what comes, changed by the first that went on by bytes 0. -/
theorem cmore_join {s : Nat} (h : s < 4294967296) (l : List UInt8) : cmore s l = czeros l.length s ^^^ crcOf l := by
  have h0 : (4294967295 : Nat) < 4294967296 := by decide
  have h1 : 4294967295 - s = (4294967295 - 0) ^^^ s := by rw [Nat.sub_zero]; exact turn_xor h
  have h2 := cbytes_lt l (n := 4294967295) h0
  unfold crcOf cmore
  rw [h1, cbytes_xor, Nat.sub_zero, turn_xor h2, turn_xor (Nat.xor_lt_two_pow (n := 32) h2 (czeros_lt _ h)), ← Nat.xor_assoc, Nat.xor_comm]

/-- No two numbers have one step. -/
theorem cstep_inj {x y : Nat} (hx : x < 4294967296) (hy : y < 4294967296) (h : cstep x = cstep y) : x = y := by
  have key : ∀ n : Nat, n < 4294967296 → (cstep n).testBit 31 = decide (n % 2 = 1) := fun n hn => by
    unfold cstep
    have hb : (n / 2).testBit 31 = false := Nat.testBit_lt_two_pow (by omega)
    split
    · rename_i ho
      rw [Nat.testBit_xor, hb, ho]
      decide
    · rename_i ho
      rw [hb, decide_eq_false ho]
  have h1 : decide (x % 2 = 1) = decide (y % 2 = 1) := by rw [← key x hx, ← key y hy, h]
  have h2 : x % 2 = 1 ↔ y % 2 = 1 := by simpa using h1
  unfold cstep at h
  by_cases ho : x % 2 = 1
  · rw [if_pos ho, if_pos (h2.1 ho)] at h
    have h3 : x / 2 = y / 2 := by
      have := congrArg (· ^^^ 2197175160) h
      simpa [Nat.xor_assoc] using this
    omega
  · rw [if_neg ho, if_neg (fun e => ho (h2.2 e))] at h
    omega
theorem csteps_inj : ∀ k {x y : Nat}, x < 4294967296 → y < 4294967296 → csteps k x = csteps k y → x = y
  | 0, _, _, _, _, h => h
  | k + 1, _, _, hx, hy, h => cstep_inj hx hy (csteps_inj k (cstep_lt hx) (cstep_lt hy) h)
theorem xor_right_inj {a x y : Nat} (h : x ^^^ a = y ^^^ a) : x = y := by
  have := congrArg (· ^^^ a) h
  simpa [Nat.xor_assoc] using this
theorem xor_left_inj {a x y : Nat} (h : a ^^^ x = a ^^^ y) : x = y := by
  rw [Nat.xor_comm a, Nat.xor_comm a] at h
  exact xor_right_inj h
theorem cbyte_inj {x y : Nat} (hx : x < 4294967296) (hy : y < 4294967296) {b : UInt8} (h : cbyte x b = cbyte y b) : x = y := by
  have hb := b.toNat_lt
  exact xor_right_inj (csteps_inj 8 (Nat.xor_lt_two_pow (n := 32) hx (by omega)) (Nat.xor_lt_two_pow (n := 32) hy (by omega)) h)
theorem cbyte_byte_inj {x : Nat} (hx : x < 4294967296) {b c : UInt8} (h : cbyte x b = cbyte x c) : b = c := by
  have hb := b.toNat_lt
  have hc := c.toNat_lt
  exact UInt8.toNat_inj.1 (xor_left_inj (csteps_inj 8 (Nat.xor_lt_two_pow (n := 32) hx (by omega)) (Nat.xor_lt_two_pow (n := 32) hx (by omega)) h))
theorem cbytes_inj : ∀ (l : List UInt8) {x y : Nat}, x < 4294967296 → y < 4294967296 → cbytes x l = cbytes y l → x = y
  | [], _, _, _, _, h => h
  | b :: r, _, _, hx, hy, h => cbyte_inj hx hy (cbytes_inj r (cbyte_lt hx b) (cbyte_lt hy b) h)
/-- Texts that part in one byte have other checks. -/
theorem crc_differs (l r : List UInt8) (b c : UInt8) (h : b ≠ c) : crcOf (l ++ b :: r) ≠ crcOf (l ++ c :: r) := by
  intro he
  have h0 : (4294967295 : Nat) < 4294967296 := by decide
  have h1 := cbytes_lt (l ++ b :: r) h0
  have h2 := cbytes_lt (l ++ c :: r) h0
  have h3 : cbytes 4294967295 (l ++ b :: r) = cbytes 4294967295 (l ++ c :: r) := by
    unfold crcOf cmore at he
    rw [Nat.sub_zero] at he
    omega
  rw [cbytes_append, cbytes_append, cbytes_cons, cbytes_cons] at h3
  have h4 := cbytes_lt l h0
  exact h (cbyte_byte_inj h4 (cbytes_inj r (cbyte_lt h4 b) (cbyte_lt h4 c) h3))
set_option maxRecDepth 10000 in
theorem crc_nine : crcOf [49, 50, 51, 52, 53, 54, 55, 56, 57] = 3808858755 := by decide +kernel
end Go.Proofs.YtbcldknecdbemaaGreatDoor

/-
  Contracts of crc's step, More and Sum, and of the reference's More.
-/
namespace Go.Proofs.YtbcldknecdbemaaGreatDoor
open Go.RowKit
set_option linter.unusedVariables false
set_option maxRecDepth 20000

theorem ret_w32 {a b : Int} (h : a = b) : Ending.returned (.int .u32 a) = .returned (.int .u32 b) := by rw [h]
theorem w32_not (a : Nat) (ha : a < 4294967296) : bits .xor .u32 (if IntKind.u32.signed = true then -1 else IntKind.u32.max) (a : Int) = ((4294967295 - a : Nat) : Int) := by
  show IntKind.u32.wrap ((BitVec.ofInt 32 (if IntKind.u32.signed = true then -1 else IntKind.u32.max) ^^^ BitVec.ofInt 32 (a : Int)).toNat : Int) = _
  have h1 : BitVec.ofInt 32 (if IntKind.u32.signed = true then -1 else IntKind.u32.max) = BitVec.allOnes 32 := by decide
  rw [h1, BitVec.allOnes_xor, BitVec.toNat_not, ofInt_u32 a ha, IntKind.wrap_u32']
  omega
theorem csteps_succ : ∀ k n, csteps (k + 1) n = cstep (csteps k n)
  | 0, _ => rfl
  | k + 1, n => by rw [csteps, csteps_succ k, csteps]
theorem cbytes_take (n : Nat) (l : List UInt8) (k : Nat) (b : UInt8) (h : l[k]? = some b) : cbytes n (l.take (k + 1)) = cbyte (cbytes n (l.take k)) b := by
  rw [List.take_add_one, h]
  simp [cbytes]

set_option maxHeartbeats 400000 in
theorem cstep_any (x b : Nat) (w : World) (hx : x < 4294967296) (hc : w.cell? ⟨b, 0, none⟩ = some (uv 2197175160)) :
    Calls Tryz.prog 179 #[uv x, .pointer (some ⟨b, 0, none⟩)] w fun e w' => e = .returned (uv (cstep x)) ∧ w = w' := by
  have ha : bits .and .u32 (x : Int) 1 = ((x % 2 : Nat) : Int) := by
    have := u32_and_nat x 1 hx (by omega)
    rw [Nat.and_one_is_mod] at this
    exact this
  have hxo := Lib.hid (show bits .xor .u32 ((x : Int) / 2) 2197175160 = ((x / 2 ^^^ 2197175160 : Nat) : Int) from u32_xor_nat (x / 2) 2197175160 (by omega) (by omega))
  by_cases h : x % 2 = 1
  · rw [h] at ha
    have hs : cstep x = x / 2 ^^^ 2197175160 := by unfold cstep; rw [if_pos h]
    rw [hs]
    clear hs h
    go_enter Tryz.func179, Tryz.ntmps179
    go_wp2
    go_ret
    exact ⟨ret_w32 hxo.out, rfl⟩
  · rw [show x % 2 = 0 by omega] at ha
    have hs : cstep x = x / 2 := by unfold cstep; rw [if_neg h]
    rw [hs]
    clear hs h
    go_enter Tryz.func179, Tryz.ntmps179
    go_wp2
    go_ret
    exact ⟨rfl, rfl⟩

set_option maxHeartbeats 400000 in
theorem stepBy_any (w : World) : Calls Tryz.prog 167 #[uv 2197175160] w fun e w' => ∃ b, e = .returned (.func (.func 179) #[] #[.pointer (some ⟨b, 0, none⟩)]) ∧ w'.cell? ⟨b, 0, none⟩ = some (uv 2197175160) ∧ Grows w w' := by
  have hh := (Has.new w 100 [uv 2197175160]).cell (k := 0) rfl
  have hg := grows_alloc w (.cells #[uv 2197175160] 100)
  go_enter Tryz.func167, Tryz.ntmps167
  go_wp2
  go_ret
  exact ⟨_, rfl, hh, hg⟩

set_option maxHeartbeats 1000000 in
theorem crcmore_any (s : Nat) (A : Option Addr) (n c : Nat) (bs : List UInt8) (w : World) (hs : s < 4294967296) (hl : bs.length = n) (hr : Lies w w.heap.size A (bs.map bv)) (hn : n ≤ 1000000000000) :
    Calls Tryz.prog 142 #[uv s, .slice A n c] w fun e w' => e = .returned (uv (cmore s bs)) ∧ Grows w w' := by
  have hnot := Lib.hid (w32_not s hs)
  have HL := Lib.hid hl
  clear hl
  go_enter Tryz.func142, Tryz.ntmps142
  go_wp2_with fail
  refine (stepBy_any w).mono ?_
  rintro e w1 ⟨bk, rfl, hck, hg1⟩
  have hn0 := hnot.out
  have hr1 := hr.later hg1
  clear hr
  go_wp2
  go_loop [6, 13] (fun x i => ∃ k : Nat, k ≤ n ∧ i = .int .i64 k ∧ x = uv (cbytes (4294967295 - s) (bs.take k))) (fun _ i => n - (intOf i).toNat)
  case atStart => exact ⟨0, Nat.zero_le _, rfl, by simp [cbytes]⟩
  case round =>
    obtain ⟨k, hk, rfl, rfl⟩ := hrel
    have hb := cbytes_lt (bs.take k) (n := 4294967295 - s) (by omega)
    by_cases hlt : k < n
    · obtain ⟨b, hbk⟩ : ∃ b, bs[k]? = some b := ⟨_, List.getElem?_eq_getElem (by rw [HL.out]; exact hlt)⟩
      obtain ⟨ad, rfl, _, cx⟩ := hr1.at_ (j := k) (u := bv b) (by rw [List.getElem?_map, hbk]; rfl)
      have HT := Lib.hid (cbytes_take (4294967295 - s) bs k b hbk)
      clear hbk
      generalize cbytes (4294967295 - s) (bs.take k) = x at *
      have hb8 := b.toNat_lt
      have hxo : bits .xor .u32 (x : Int) (b.toNat : Int) = ((x ^^^ b.toNat : Nat) : Int) := u32_xor_nat x b.toNat hb (by omega)
      have hy : x ^^^ b.toNat < 4294967296 := Nat.xor_lt_two_pow (n := 32) hb (by omega)
      have HC : Hid (cbyte x b = csteps 8 (x ^^^ b.toNat)) := rfl
      generalize hyy : x ^^^ b.toNat = y at *
      clear hyy
      go_wp2
      go_loop [6, 23] (fun x j => ∃ m : Nat, m ≤ 8 ∧ j = .int .i64 m ∧ x = uv (csteps m y)) (fun _ j => 8 - (intOf j).toNat)
      case atStart => exact ⟨0, by omega, rfl, rfl⟩
      case round =>
        obtain ⟨m, hm, rfl, rfl⟩ := hrel
        by_cases hmt : m < 8
        · have hz := csteps_lt m hy
          have hS := Lib.hid (csteps_succ m y)
          generalize csteps m y = z at *
          go_wp2_with fail
          refine (cstep_any z bk w1 hz hck).mono ?_
          rintro e w2 ⟨rfl, rfl⟩
          go_wp2
          go_round
          case rel => exact ⟨m + 1, by omega, by go_num, by rw [hS.out]⟩
          case measure => simp [intOf]; omega
        · obtain rfl : m = 8 := by omega
          go_wp2
          go_round
          case rel => exact ⟨k + 1, by omega, by go_num, by rw [HT.out, HC.out]⟩
          case measure => simp [intOf]; omega
    · obtain rfl : k = n := by omega
      have e1 := Lib.hid (w32_not _ hb)
      have e2 : bs.take k = bs := List.take_of_length_le (by rw [HL.out]; exact Nat.le_refl _)
      rw [e2] at e1
      go_wp2
      go_ret
      exact ⟨ret_w32 e1.out, hg1⟩

set_option maxHeartbeats 400000 in
theorem crcsum_any (A : Option Addr) (n c : Nat) (bs : List UInt8) (w : World) (hl : bs.length = n) (hr : Lies w w.heap.size A (bs.map bv)) (hn : n ≤ 1000000000000) :
    Calls Tryz.prog 100 #[.slice A n c] w fun e w' => e = .returned (uv (crcOf bs)) ∧ Grows w w' := by
  have HL := Lib.hid hl
  clear hl
  go_enter Tryz.func100, Tryz.ntmps100
  go_wp2_with fail
  refine (crcmore_any 0 A n c bs w (by omega) HL.out hr hn).mono ?_
  rintro e w1 ⟨rfl, hg1⟩
  go_wp2_with fail
  go_ret
  exact ⟨rfl, hg1⟩

set_option maxHeartbeats 1000000 in
/-- The reference's More. -/
theorem rmore_any (s : Nat) (A : Option Addr) (n c : Nat) (bs : List UInt8) (w : World) (hs : s < 4294967296) (hl : bs.length = n) (hr : Lies w w.heap.size A (bs.map bv)) (hn : n ≤ 1000000000000) :
    Calls Tryz.prog 161 #[uv s, .slice A n c] w fun e w' => e = .returned (uv (cmore s bs)) ∧ w = w' := by
  have HL := Lib.hid hl
  clear hl
  have hs1 : (0 : Int) ≤ 4294967295 - (s : Int) := by omega
  have hs2 : IntKind.u32.wrap (4294967295 - (s : Int)) = ((4294967295 - s : Nat) : Int) := by rw [IntKind.wrap_u32']; omega
  go_enter Tryz.func161, Tryz.ntmps161
  go_wp2
  go_loop [5, 6, 7] (fun x i _ => ∃ k : Nat, k ≤ n ∧ i = .int .i64 k ∧ x = uv (cbytes (4294967295 - s) (bs.take k))) (fun _ i _ => n - (intOf i).toNat)
  case atStart => exact ⟨0, Nat.zero_le _, rfl, by simp [cbytes]⟩
  case round =>
    obtain ⟨k, hk, rfl, rfl⟩ := hrel
    have hb := cbytes_lt (bs.take k) (n := 4294967295 - s) (by omega)
    by_cases hlt : k < n
    · obtain ⟨b, hbk⟩ : ∃ b, bs[k]? = some b := ⟨_, List.getElem?_eq_getElem (by rw [HL.out]; exact hlt)⟩
      obtain ⟨ad, rfl, _, cx⟩ := hr.at_ (j := k) (u := bv b) (by rw [List.getElem?_map, hbk]; rfl)
      have HT := Lib.hid (cbytes_take (4294967295 - s) bs k b hbk)
      clear hbk
      generalize cbytes (4294967295 - s) (bs.take k) = x at *
      have hb8 := b.toNat_lt
      have hxo : bits .xor .u32 (x : Int) (b.toNat : Int) = ((x ^^^ b.toNat : Nat) : Int) := u32_xor_nat x b.toNat hb (by omega)
      have hy : x ^^^ b.toNat < 4294967296 := Nat.xor_lt_two_pow (n := 32) hb (by omega)
      have HC : Hid (cbyte x b = csteps 8 (x ^^^ b.toNat)) := rfl
      generalize hyy : x ^^^ b.toNat = y at *
      clear hyy
      go_wp2
      go_loop [5, 7] (fun x j => ∃ m : Nat, m ≤ 8 ∧ j = .int .i64 m ∧ x = uv (csteps m y)) (fun _ j => 8 - (intOf j).toNat)
      case atStart => exact ⟨0, by omega, rfl, rfl⟩
      case round =>
        obtain ⟨m, hm, rfl, rfl⟩ := hrel
        by_cases hmt : m < 8
        · have hz := csteps_lt m hy
          have hS := Lib.hid (csteps_succ m y)
          generalize csteps m y = z at *
          by_cases ho : z % 2 = 1
          · have hzo : bits .xor .u32 ((z : Int) / 2) 2197175160 = ((z / 2 ^^^ 2197175160 : Nat) : Int) := u32_xor_nat (z / 2) 2197175160 (by omega) (by omega)
            have hs : cstep z = z / 2 ^^^ 2197175160 := by unfold cstep; rw [if_pos ho]
            have HS := Lib.hid hs
            clear hs
            go_wp2
            go_round
            case rel => exact ⟨m + 1, by omega, by go_num, by rw [hS.out, HS.out]⟩
            case measure => simp [intOf]; omega
          · have hs : cstep z = z / 2 := by unfold cstep; rw [if_neg ho]
            have HS := Lib.hid hs
            clear hs
            go_wp2
            go_round
            case rel => exact ⟨m + 1, by omega, by go_num, by rw [hS.out, HS.out]; rfl⟩
            case measure => simp [intOf]; omega
        · obtain rfl : m = 8 := by omega
          go_wp2
          go_round
          case rel => exact ⟨k + 1, by omega, by go_num, by rw [HT.out, HC.out]⟩
          case measure => simp [intOf]; omega
    · obtain rfl : k = n := by omega
      have e2 : bs.take k = bs := List.take_of_length_le (by rw [HL.out]; exact Nat.le_refl _)
      rw [e2] at hb
      have e3 : IntKind.u32.wrap (4294967295 - (cbytes (4294967295 - s) bs : Int)) = ((cmore s bs : Nat) : Int) := by rw [IntKind.wrap_u32']; unfold cmore; omega
      go_wp2
      go_ret
      exact ⟨ret_w32 (by first | exact e3 | (unfold cmore; omega)), rfl⟩
end Go.Proofs.YtbcldknecdbemaaGreatDoor

/-
  Contracts of crc's Put, number and Take, and of the reference's Put and Take.
-/
namespace Go.Proofs.YtbcldknecdbemaaGreatDoor
open Go.RowKit
set_option linter.unusedVariables false
set_option maxRecDepth 20000

/-- Four bytes of a number, the lowest one first. -/
def fourC (s : Nat) : List UInt8 := (List.range 4).map fun k => UInt8.ofNat (s / 2 ^ (8 * k))
theorem four_len (s : Nat) : (fourC s).length = 4 := by simp [fourC]
theorem four_take (s k : Nat) (hk : k < 4) : (fourC s).take (k + 1) = (fourC s).take k ++ [UInt8.ofNat (s / 2 ^ (8 * k))] := by
  rw [List.take_add_one]
  simp [fourC, hk]

/-- What fourC bytes tell, as far as k. -/
def numTo (l : List UInt8) : Nat → Nat
  | 0 => 0
  | k + 1 => numTo l k + (l.getD k 0).toNat * 2 ^ (8 * k)
theorem numTo_lt (l : List UInt8) : ∀ k, numTo l k < 2 ^ (8 * k)
  | 0 => by simp [numTo]
  | k + 1 => by
    have ih := numTo_lt l k
    have hb := (l.getD k 0).toNat_lt
    rw [numTo, show 8 * (k + 1) = 8 * k + 8 by omega, Nat.pow_add]
    generalize (l.getD k 0).toNat = b at *
    generalize 2 ^ (8 * k) = p at *
    have : b * p ≤ 255 * p := Nat.mul_le_mul_right _ (by omega)
    omega

theorem or_place (x b k : Nat) (hk : k < 4) (hx : x < 2 ^ (8 * k)) (hb : b < 256) : bits .or .u32 (x : Int) ((b : Int) * 2 ^ (8 * k) % 4294967296) = ((x + b * 2 ^ (8 * k) : Nat) : Int) := by
  have hp : 2 ^ (8 * k) * 256 ≤ 4294967296 := by
    have : 2 ^ (8 * k) * 256 = 2 ^ (8 * k + 8) := by rw [Nat.pow_add]
    rw [this]
    exact Nat.pow_le_pow_right (n := 2) (by omega) (show 8 * k + 8 ≤ 32 by omega)
  have h1 : b * 2 ^ (8 * k) < 4294967296 := by
    have : b * 2 ^ (8 * k) ≤ 255 * 2 ^ (8 * k) := Nat.mul_le_mul_right _ (by omega)
    have : 0 < 2 ^ (8 * k) := Nat.two_pow_pos _
    omega
  have e1 : (b : Int) * 2 ^ (8 * k) % 4294967296 = ((b * 2 ^ (8 * k) : Nat) : Int) := by
    have : (b : Int) * 2 ^ (8 * k) = ((b * 2 ^ (8 * k) : Nat) : Int) := by simp
    rw [this]
    omega
  have h2 : x < 4294967296 := by omega
  rw [e1, u32_or_nat _ _ h2 h1]
  congr 1
  rw [Nat.or_comm, ← Nat.shiftLeft_eq, ← Nat.shiftLeft_add_eq_or_of_lt hx, Nat.add_comm]

theorem num_inj (l : List UInt8) (s : Nat) (hl : l.length = 4) (hs : s < 4294967296) : numTo l 4 = s ↔ l = fourC s := by
  match l, hl with
  | [a, b, c, d], _ =>
    have ha := a.toNat_lt
    have hb := b.toNat_lt
    have hc := c.toNat_lt
    have hd := d.toNat_lt
    have e1 : numTo [a, b, c, d] 4 = a.toNat + b.toNat * 256 + c.toNat * 65536 + d.toNat * 16777216 := by simp [numTo]
    have e2 : fourC s = [UInt8.ofNat s, UInt8.ofNat (s / 256), UInt8.ofNat (s / 65536), UInt8.ofNat (s / 16777216)] := by simp [fourC, List.range, List.range.loop]
    rw [e1, e2]
    constructor
    · intro h
      have g1 : a = UInt8.ofNat s := by apply UInt8.toNat_inj.1; rw [UInt8.toNat_ofNat']; omega
      have g2 : b = UInt8.ofNat (s / 256) := by apply UInt8.toNat_inj.1; rw [UInt8.toNat_ofNat']; omega
      have g3 : c = UInt8.ofNat (s / 65536) := by apply UInt8.toNat_inj.1; rw [UInt8.toNat_ofNat']; omega
      have g4 : d = UInt8.ofNat (s / 16777216) := by apply UInt8.toNat_inj.1; rw [UInt8.toNat_ofNat']; omega
      rw [g1, g2, g3, g4]
    · intro h
      injection h with h1 h
      injection h with h2 h
      injection h with h3 h
      injection h with h4 h
      subst h1 h2 h3 h4
      simp only [UInt8.toNat_ofNat']
      omega

theorem sum_g (A : Option Addr) (n c : Nat) {s : Nat} {l : List UInt8} (hx : Hid (crcOf l = s)) (w : World) (hl : l.length = n) (hr : Lies w w.heap.size A (l.map bv)) (hn : n ≤ 1000000000000) :
    Calls Tryz.prog 100 #[.slice A n c] w fun e w' => e = .returned (uv s) ∧ Grows w w' := by
  have h := hx.out
  subst h
  exact crcsum_any A n c l w hl hr hn

/-- What Take answers: the bytes, and the error's number. -/
def takeOf (l : List UInt8) : List UInt8 × Nat :=
  if l.length < 4 then ([], 2) else if l.drop (l.length - 4) = fourC (crcOf (l.take (l.length - 4))) then (l.take (l.length - 4), 0) else ([], 7)

theorem byte_one : (Tryz.prog.info? 5).map (·.size) = some 1 := by kernel_rfl

end Go.Proofs.YtbcldknecdbemaaGreatDoor

/-
  Contracts of the reference's Put and Take of layer 3.
-/
namespace Go.Proofs.YtbcldknecdbemaaGreatDoor
open Go.RowKit
set_option linter.unusedVariables false
set_option maxRecDepth 20000

set_option maxHeartbeats 1000000 in
theorem rput_any (A : Option Addr) (n c : Nat) (bs : List UInt8) (w : World) (hl : bs.length = n) (hr : Lies w w.heap.size A (bs.map bv)) (hn : n ≤ 1000000000000) :
    Calls Tryz.prog 120 #[.slice A n c] w fun e w' => ∃ v, e = .returned v ∧ w'.ownsRow w.heap.size 5 1 v (n + 4) ((bs ++ fourC (crcOf bs)).map bv) ∧ Grows w w' := by
  obtain ⟨i0, hi0, hz0, hz1, hz2⟩ := info_parts byte_info
  have HL := Lib.hid hl
  clear hl
  have hs : crcOf bs < 4294967296 := cmore_lt (s := 0) (by omega) bs
  go_enter Tryz.func120, Tryz.ntmps120
  go_wp2_with fail
  refine (rmore_any 0 A n c bs w (by omega) HL.out hr hn).mono ?_
  rintro e w' ⟨rfl, rfl⟩
  have HSX : Hid (cmore 0 bs = crcOf bs) := rfl
  have HS0 : Hid (crcOf bs = crcOf bs / 2 ^ (8 * 0)) := by show _ = _; simp
  generalize cmore 0 bs = sx at *
  obtain rfl : sx = crcOf bs := HSX.out
  go_wp2_with (at_builtin; refine wpList_append_src _ rfl (.tmp 8) (.tmp 9) _ rfl w.heap.size 5 i0 _ 1 Tryz.underlying27 hi0 hz0 hz1 hz2 rfl (.slice none 0 0) 0 [] rfl (World.ownsRow_nil _ _ _ _) w.heap.size A n c (bs.map bv) rfl (by rw [List.length_map]; exact HL.out) hr (bv_one bs) (by unfold maxLen; omega) (by omega) (Nat.le_refl _) ?_; intro v1 w1 hown1 hg1 hat1)
  have hgr1 : Grows w w1 := (Grows.refl w).grown hg1 (Nat.le_refl _) (by simp [Value.ownBlock])
  rw [Nat.zero_add, List.nil_append] at hown1
  clear hg1 hat1 HSX
  generalize hsx : crcOf bs = s at *
  have HSX := Lib.hid hsx
  clear hsx
  go_loopw [3, 4, 5] (fun x v i wr => ∃ k : Nat, k ≤ 4 ∧ i = .int .i64 k ∧ x = uv (s / 2 ^ (8 * k)) ∧ wr.ownsRow w.heap.size 5 1 v (n + k) ((bs ++ (fourC s).take k).map bv) ∧ Grows w wr) (fun _ _ i _ => 4 - (intOf i).toNat)
  case atStart => exact ⟨0, by omega, rfl, by rw [← HS0.out], by simpa using hown1, hgr1⟩
  case round =>
    clear hown1 hgr1 HS0
    obtain ⟨k, hk, rfl, rfl, hown, hgr⟩ := hrel
    by_cases hlt : k < 4
    · have HF := Lib.hid (four_take s k hlt)
      have HD : Hid (s / 2 ^ (8 * (k + 1)) = s / 2 ^ (8 * k) / 256) := by show _ = _; rw [show 8 * (k + 1) = 8 * k + 8 by omega, Nat.pow_add, Nat.div_div_eq_div_mul]
      have hq : s / 2 ^ (8 * k) < 4294967296 := Nat.lt_of_le_of_lt (Nat.div_le_self _ _) hs
      generalize s / 2 ^ (8 * k) = q at *
      have hnew := Lies.new wr 5 [bv (UInt8.ofNat q)]
      go_wp2_with (at_builtin; refine wpList_append_src _ rfl (.tmp 15) (.tmp 19) _ rfl w.heap.size 5 i0 _ 1 Tryz.underlying27 hi0 hz0 hz1 hz2 rfl _ (n + k) _ rfl (hown.alloc _) _ _ 1 1 [bv (UInt8.ofNat q)] rfl rfl hnew (by simp [Value.oneCell']) (by unfold maxLen; omega) (by omega) (by rw [World.size_alloc]; have := hgr.size; omega) ?_; intro v' w' hown' hg' hat')
      have hb2 : Below w.heap.size wr w' := ((Below.refl _ wr).alloc hgr.size _).grown hg' (by rw [World.size_alloc]; have := hgr.size; omega) (own_ge hown)
      rw [show [bv (UInt8.ofNat q)] = [UInt8.ofNat q].map bv from rfl, ← List.map_append, List.append_assoc, ← HF.out] at hown'
      go_roundw
      case rel => exact ⟨k + 1, by omega, by go_num, by rw [HD.out]; rfl, hown', Below.trans hgr hb2⟩
      case measure => simp [intOf]; omega
    · obtain rfl : k = 4 := by omega
      rw [List.take_of_length_le (by rw [four_len]; exact Nat.le_refl _)] at hown
      go_wp2
      go_ret
      exact ⟨_, rfl, by rw [HSX.out]; exact hown, hgr⟩

theorem takeOf_put (bs : List UInt8) (m : Nat) (hl : bs.length = m + 4) : takeOf bs = if bs.take m ++ fourC (crcOf (bs.take m)) = bs then (bs.take m, 0) else ([], 7) := by
  unfold takeOf
  rw [hl, if_neg (by omega), show m + 4 - 4 = m by omega]
  have h : bs.take m ++ fourC (crcOf (bs.take m)) = bs ↔ bs.drop m = fourC (crcOf (bs.take m)) := by
    constructor
    · intro h
      have h2 := List.take_append_drop m bs
      exact (List.append_cancel_left (h.trans h2.symm)).symm
    · intro h
      rw [← h, List.take_append_drop]
  simp only [h]

end Go.Proofs.YtbcldknecdbemaaGreatDoor
