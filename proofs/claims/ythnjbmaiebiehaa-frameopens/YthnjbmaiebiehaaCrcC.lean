/-
  Contracts of crc's Put, number and Take, and of the reference's Put and Take.
-/
import Derived.Test.YthnjbmaiebiehaaCrcA
import Derived.Test.YthnjbmaiebiehaaMak
import Derived.Test.YthnjbmaiebiehaaCut
import Derived.Test.YthnjbmaiebiehaaRFew
namespace Go.Proofs.Ythnjbmaiebiehaa
open Go.RowKit
set_option linter.unusedVariables false

/-- Four bytes of a number, the lowest one first. -/
def four (s : Nat) : List UInt8 := (List.range 4).map fun k => UInt8.ofNat (s / 2 ^ (8 * k))
theorem four_len (s : Nat) : (four s).length = 4 := by simp [four]
theorem four_take (s k : Nat) (hk : k < 4) : (four s).take (k + 1) = (four s).take k ++ [UInt8.ofNat (s / 2 ^ (8 * k))] := by
  rw [List.take_add_one]
  simp [four, hk]

/-- What four bytes tell, as far as k. -/
def numTo (l : List UInt8) : Nat → Nat
  | 0 => 0
  | k + 1 => numTo l k + (l.getD k 0).toNat * 2 ^ (8 * k)
theorem numTo_lt (l : List UInt8) : ∀ k, numTo l k < 2 ^ (8 * k)
  | 0 => by simp [numTo]
  | k + 1 => by
    have ih := numTo_lt l k
    have hb := (l.getD k 0).toNat_lt
    rw [numTo, show 8 * (k + 1) = 8 * k + 8 by omega, Nat.pow_add]
    generalize (l.getD k 0).toNat = b at *
    generalize 2 ^ (8 * k) = p at *
    have : b * p ≤ 255 * p := Nat.mul_le_mul_right _ (by omega)
    omega

theorem or_place (x b k : Nat) (hk : k < 4) (hx : x < 2 ^ (8 * k)) (hb : b < 256) : bits .or .u32 (x : Int) ((b : Int) * 2 ^ (8 * k) % 4294967296) = ((x + b * 2 ^ (8 * k) : Nat) : Int) := by
  have hp : 2 ^ (8 * k) * 256 ≤ 4294967296 := by
    have : 2 ^ (8 * k) * 256 = 2 ^ (8 * k + 8) := by rw [Nat.pow_add]
    rw [this]
    exact Nat.pow_le_pow_right (n := 2) (by omega) (show 8 * k + 8 ≤ 32 by omega)
  have h1 : b * 2 ^ (8 * k) < 4294967296 := by
    have : b * 2 ^ (8 * k) ≤ 255 * 2 ^ (8 * k) := Nat.mul_le_mul_right _ (by omega)
    have : 0 < 2 ^ (8 * k) := Nat.two_pow_pos _
    omega
  have e1 : (b : Int) * 2 ^ (8 * k) % 4294967296 = ((b * 2 ^ (8 * k) : Nat) : Int) := by
    have : (b : Int) * 2 ^ (8 * k) = ((b * 2 ^ (8 * k) : Nat) : Int) := by simp
    rw [this]
    omega
  have h2 : x < 4294967296 := by omega
  rw [e1, u32_or_nat _ _ h2 h1]
  congr 1
  rw [Nat.or_comm, ← Nat.shiftLeft_eq, ← Nat.shiftLeft_add_eq_or_of_lt hx, Nat.add_comm]

theorem num_inj (l : List UInt8) (s : Nat) (hl : l.length = 4) (hs : s < 4294967296) : numTo l 4 = s ↔ l = four s := by
  match l, hl with
  | [a, b, c, d], _ =>
    have ha := a.toNat_lt
    have hb := b.toNat_lt
    have hc := c.toNat_lt
    have hd := d.toNat_lt
    have e1 : numTo [a, b, c, d] 4 = a.toNat + b.toNat * 256 + c.toNat * 65536 + d.toNat * 16777216 := by simp [numTo]
    have e2 : four s = [UInt8.ofNat s, UInt8.ofNat (s / 256), UInt8.ofNat (s / 65536), UInt8.ofNat (s / 16777216)] := by simp [four, List.range, List.range.loop]
    rw [e1, e2]
    constructor
    · intro h
      have g1 : a = UInt8.ofNat s := by apply UInt8.toNat_inj.1; rw [UInt8.toNat_ofNat']; omega
      have g2 : b = UInt8.ofNat (s / 256) := by apply UInt8.toNat_inj.1; rw [UInt8.toNat_ofNat']; omega
      have g3 : c = UInt8.ofNat (s / 65536) := by apply UInt8.toNat_inj.1; rw [UInt8.toNat_ofNat']; omega
      have g4 : d = UInt8.ofNat (s / 16777216) := by apply UInt8.toNat_inj.1; rw [UInt8.toNat_ofNat']; omega
      rw [g1, g2, g3, g4]
    · intro h
      injection h with h1 h
      injection h with h2 h
      injection h with h3 h
      injection h with h4 h
      subst h1 h2 h3 h4
      simp only [UInt8.toNat_ofNat']
      omega

theorem sum_g (A : Option Addr) (n c : Nat) {s : Nat} {l : List UInt8} (hx : Hid (crcOf l = s)) (w : World) (hl : l.length = n) (hr : Lies w w.heap.size A (l.map bv)) (hn : n ≤ 1000000000000) :
    Calls Try.prog 23 #[.slice A n c] w fun e w' => e = .returned (uv s) ∧ Grows w w' := by
  have h := hx.out
  subst h
  exact crcsum_any A n c l w hl hr hn

/-- What Take answers: the bytes, and the error's number. -/
def takeOf (l : List UInt8) : List UInt8 × Nat :=
  if l.length < 4 then ([], 2) else if l.drop (l.length - 4) = four (crcOf (l.take (l.length - 4))) then (l.take (l.length - 4), 0) else ([], 7)

theorem byte_one : (Try.prog.info? 5).map (·.size) = some 1 := by kernel_rfl

end Go.Proofs.Ythnjbmaiebiehaa
