/-
  Contract of the reference's Text: bytes' digits.
-/
import Derived.Test.YtfpgnihibgmeeaaDoorRows
import Derived.Test.YtfpgnihibgmeeaaDoorBase
import Derived.Deep.QuietTactic
import Derived.BigQuiet
import Derived.Outline
import Derived.Lib.Hide
namespace Go.Proofs.YtfpgnihibgmeeaaDoor
open Go.RowKit
set_option linter.unusedVariables false

def hexD (n : Nat) : UInt8 := if n < 10 then UInt8.ofNat (48 + n) else UInt8.ofNat (87 + n)
def hexOf (l : List UInt8) : List UInt8 := l.flatMap fun b => [hexD (b.toNat / 16), hexD (b.toNat % 16)]

theorem hexOf_append (l r : List UInt8) : hexOf (l ++ r) = hexOf l ++ hexOf r := by simp [hexOf]
theorem hexOf_length (l : List UInt8) : (hexOf l).length = 2 * l.length := by
  induction l with
  | nil => rfl
  | cons b r ih => simp only [hexOf, List.flatMap_cons, List.length_append] at ih ⊢; simp only [List.length_cons, List.length_nil, ih]; omega
theorem hexOf_take (l : List UInt8) (k : Nat) (b : UInt8) (h : l[k]? = some b) : hexOf (l.take (k + 1)) = hexOf (l.take k) ++ [hexD (b.toNat / 16), hexD (b.toNat % 16)] := by
  rw [List.take_add_one, h, hexOf_append]
  rfl
theorem cut_dig : ∀ k : Fin 16, ((⟨#[48, 49, 50, 51, 52, 53, 54, 55, 56, 57, 97, 98, 99, 100, 101, 102]⟩ : ByteArray).extract k.val (k.val + 1)).data.toList = [hexD k.val] := by decide +kernel
theorem cut_one (k : Nat) (hk : k < 16) (X Y : Int) (hX : X = (k : Int)) (hY : Y = (k : Int) + 1) (w : World) :
    (Instr.slice 9 (.string ⟨#[48, 49, 50, 51, 52, 53, 54, 55, 56, 57, 97, 98, 99, 100, 101, 102]⟩) (some (.int .i64 X)) (some (.int .i64 Y)) none).run Tryd.prog w = .ok (.string ⟨[hexD k].toArray⟩) w := by
  subst hX hY
  have hs : (⟨#[48, 49, 50, 51, 52, 53, 54, 55, 56, 57, 97, 98, 99, 100, 101, 102]⟩ : ByteArray).size = 16 := rfl
  rw [run_slice_string w 9 _ .i64 .i64 (k : Int) ((k : Int) + 1) Tryd.underlying9 (by omega) (by omega) (by rw [hs]; omega)]
  have h := cut_dig ⟨k, hk⟩
  have e : ((k : Int) + 1).toNat = k + 1 := by omega
  rw [Int.toNat_natCast, e, ← h]

set_option maxHeartbeats 1000000 in
theorem rtext_any (A : Option Addr) (n c : Nat) (bs : List UInt8) (w : World) (hl : bs.length = n) (hr : Lies w w.heap.size A (bs.map bv)) (hc : n ≤ 1000000) :
    Calls Tryd.prog 27 #[.slice A n c] w fun e w' => e = .returned (.string ⟨(hexOf bs).toArray⟩) ∧ Below w.heap.size w w' := by
  have HL := Lib.hid hl
  clear hl
  go_enter Tryd.func27, Tryd.ntmps27
  go_wp2
  go_loopw [4, 5, 6, 7] (fun s i _ _ wr => ∃ k : Nat, k ≤ n ∧ i = .int .i64 k ∧ s = .string ⟨(hexOf (bs.take k)).toArray⟩ ∧ Below w.heap.size w wr) (fun _ i _ _ _ => n - (intOf i).toNat)
  case atStart => exact ⟨0, Nat.zero_le _, rfl, rfl, Below.refl _ _⟩
  case round =>
    obtain ⟨k, hk, rfl, rfl, hbel⟩ := hrel
    by_cases hlt : k < n
    · obtain ⟨b, hb⟩ : ∃ b, bs[k]? = some b := ⟨_, List.getElem?_eq_getElem (by rw [HL.out]; exact hlt)⟩
      obtain ⟨ad, rfl, hadB, hcell⟩ := hr.at_ (j := k) (u := bv b) (by rw [List.getElem?_map, hb]; rfl)
      have hcl : wr.cell? (ad.add k) = some (bv b) := by rw [hbel.cell (by rw [add_block]; exact hadB)]; exact hcell
      clear hcell
      have hlen : (hexOf (bs.take k)).length = 2 * k := by rw [hexOf_length, List.length_take, HL.out]; omega
      have hnx := hexOf_take bs k b hb
      have HB := Lib.hid hnx
      have bl := b.toNat_lt
      have c1 := run_cat (P := Tryd.prog) (hexOf (bs.take k)) [hexD (b.toNat / 16)] (by rw [hlen]; simp; omega)
      have c2 := run_cat (P := Tryd.prog) (hexOf (bs.take k) ++ [hexD (b.toNat / 16)]) [hexD (b.toNat % 16)] (by simp [hlen]; omega)
      have s1 := cut_one (b.toNat / 16) (by omega) ((b.toNat : Int) / 16) ((b.toNat : Int) / 16 + 1) (by omega) (by omega)
      have s2 := cut_one (b.toNat % 16) (by omega) ((b.toNat : Int) % 16) ((b.toNat : Int) % 16 + 1) (by omega) (by omega)
      clear hlen hnx hb
      generalize hexOf (bs.take k) = t at *
      generalize hexD (b.toNat / 16) = d1 at *
      generalize hexD (b.toNat % 16) = d2 at *
      go_wp2
      go_quiet (fail)
      go_wp2
      go_roundw
      case rel => exact ⟨k + 1, by omega, by go_num, by rw [HB.out], below_draws hbel⟩
      case measure => simp [intOf]; omega
    · obtain rfl : k = n := by omega
      go_wp2
      go_ret
      rw [List.take_of_length_le (by rw [HL.out]; omega)]
      exact ⟨rfl, hbel⟩

end Go.Proofs.YtfpgnihibgmeeaaDoor
