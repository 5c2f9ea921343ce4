/-
  Contracts of crc's step, More and Sum, and of the reference's More.
-/
import Derived.Test.YthnjbmaiebiehaaRows
import Derived.Test.YthnjbmaiebiehaaCel
import Derived.Test.YthnjbmaiebiehaaCrcM
import Derived.Laws.BitsAllLaws
import Derived.Outline
import Derived.Lib.Hide
import Derived.BigQuiet
namespace Go.Proofs.Ythnjbmaiebiehaa
open Go.RowKit
set_option linter.unusedVariables false

theorem ret_w32 {a b : Int} (h : a = b) : Ending.returned (.int .u32 a) = .returned (.int .u32 b) := by rw [h]
theorem w32_not (a : Nat) (ha : a < 4294967296) : bits .xor .u32 (if IntKind.u32.signed = true then -1 else IntKind.u32.max) (a : Int) = ((4294967295 - a : Nat) : Int) := by
  show IntKind.u32.wrap ((BitVec.ofInt 32 (if IntKind.u32.signed = true then -1 else IntKind.u32.max) ^^^ BitVec.ofInt 32 (a : Int)).toNat : Int) = _
  have h1 : BitVec.ofInt 32 (if IntKind.u32.signed = true then -1 else IntKind.u32.max) = BitVec.allOnes 32 := by decide
  rw [h1, BitVec.allOnes_xor, BitVec.toNat_not, ofInt_u32 a ha, IntKind.wrap_u32']
  omega
theorem csteps_succ : ∀ k n, csteps (k + 1) n = cstep (csteps k n)
  | 0, _ => rfl
  | k + 1, n => by rw [csteps, csteps_succ k, csteps]
theorem cbytes_take (n : Nat) (l : List UInt8) (k : Nat) (b : UInt8) (h : l[k]? = some b) : cbytes n (l.take (k + 1)) = cbyte (cbytes n (l.take k)) b := by
  rw [List.take_add_one, h]
  simp [cbytes]

set_option maxHeartbeats 400000 in
theorem cstep_any (x b : Nat) (w : World) (hx : x < 4294967296) (hc : w.cell? ⟨b, 0, none⟩ = some (uv 2197175160)) :
    Calls Try.prog 54 #[uv x, .pointer (some ⟨b, 0, none⟩)] w fun e w' => e = .returned (uv (cstep x)) ∧ w = w' := by
  have ha : bits .and .u32 (x : Int) 1 = ((x % 2 : Nat) : Int) := by
    have := u32_and_nat x 1 hx (by omega)
    rw [Nat.and_one_is_mod] at this
    exact this
  have hxo := Lib.hid (show bits .xor .u32 ((x : Int) / 2) 2197175160 = ((x / 2 ^^^ 2197175160 : Nat) : Int) from u32_xor_nat (x / 2) 2197175160 (by omega) (by omega))
  by_cases h : x % 2 = 1
  · rw [h] at ha
    have hs : cstep x = x / 2 ^^^ 2197175160 := by unfold cstep; rw [if_pos h]
    rw [hs]
    clear hs h
    go_enter Try.func54, Try.ntmps54
    go_wp2
    go_ret
    exact ⟨ret_w32 hxo.out, rfl⟩
  · rw [show x % 2 = 0 by omega] at ha
    have hs : cstep x = x / 2 := by unfold cstep; rw [if_neg h]
    rw [hs]
    clear hs h
    go_enter Try.func54, Try.ntmps54
    go_wp2
    go_ret
    exact ⟨rfl, rfl⟩

set_option maxHeartbeats 400000 in
theorem stepBy_any (w : World) : Calls Try.prog 50 #[uv 2197175160] w fun e w' => ∃ b, e = .returned (.func (.func 54) #[] #[.pointer (some ⟨b, 0, none⟩)]) ∧ w'.cell? ⟨b, 0, none⟩ = some (uv 2197175160) ∧ Grows w w' := by
  have hh := (Has.new w 44 [uv 2197175160]).cell (k := 0) rfl
  have hg := grows_alloc w (.cells #[uv 2197175160] 44)
  go_enter Try.func50, Try.ntmps50
  go_wp2
  go_ret
  exact ⟨_, rfl, hh, hg⟩

set_option maxHeartbeats 1000000 in
theorem crcmore_any (s : Nat) (A : Option Addr) (n c : Nat) (bs : List UInt8) (w : World) (hs : s < 4294967296) (hl : bs.length = n) (hr : Lies w w.heap.size A (bs.map bv)) (hn : n ≤ 1000000000000) :
    Calls Try.prog 42 #[uv s, .slice A n c] w fun e w' => e = .returned (uv (cmore s bs)) ∧ Grows w w' := by
  have hnot := Lib.hid (w32_not s hs)
  have HL := Lib.hid hl
  clear hl
  go_enter Try.func42, Try.ntmps42
  go_wp2_with fail
  refine (stepBy_any w).mono ?_
  rintro e w1 ⟨bk, rfl, hck, hg1⟩
  have hn0 := hnot.out
  have hr1 := hr.later hg1
  clear hr
  go_wp2
  go_loop [6, 13] (fun x i => ∃ k : Nat, k ≤ n ∧ i = .int .i64 k ∧ x = uv (cbytes (4294967295 - s) (bs.take k))) (fun _ i => n - (intOf i).toNat)
  case atStart => exact ⟨0, Nat.zero_le _, rfl, by simp [cbytes]⟩
  case round =>
    obtain ⟨k, hk, rfl, rfl⟩ := hrel
    have hb := cbytes_lt (bs.take k) (n := 4294967295 - s) (by omega)
    by_cases hlt : k < n
    · obtain ⟨b, hbk⟩ : ∃ b, bs[k]? = some b := ⟨_, List.getElem?_eq_getElem (by rw [HL.out]; exact hlt)⟩
      obtain ⟨ad, rfl, _, cx⟩ := hr1.at_ (j := k) (u := bv b) (by rw [List.getElem?_map, hbk]; rfl)
      have HT := Lib.hid (cbytes_take (4294967295 - s) bs k b hbk)
      clear hbk
      generalize cbytes (4294967295 - s) (bs.take k) = x at *
      have hb8 := b.toNat_lt
      have hxo : bits .xor .u32 (x : Int) (b.toNat : Int) = ((x ^^^ b.toNat : Nat) : Int) := u32_xor_nat x b.toNat hb (by omega)
      have hy : x ^^^ b.toNat < 4294967296 := Nat.xor_lt_two_pow (n := 32) hb (by omega)
      have HC : Hid (cbyte x b = csteps 8 (x ^^^ b.toNat)) := rfl
      generalize hyy : x ^^^ b.toNat = y at *
      clear hyy
      go_wp2
      go_loop [6, 23] (fun x j => ∃ m : Nat, m ≤ 8 ∧ j = .int .i64 m ∧ x = uv (csteps m y)) (fun _ j => 8 - (intOf j).toNat)
      case atStart => exact ⟨0, by omega, rfl, rfl⟩
      case round =>
        obtain ⟨m, hm, rfl, rfl⟩ := hrel
        by_cases hmt : m < 8
        · have hz := csteps_lt m hy
          have hS := Lib.hid (csteps_succ m y)
          generalize csteps m y = z at *
          go_wp2_with fail
          refine (cstep_any z bk w1 hz hck).mono ?_
          rintro e w2 ⟨rfl, rfl⟩
          go_wp2
          go_round
          case rel => exact ⟨m + 1, by omega, by go_num, by rw [hS.out]⟩
          case measure => simp [intOf]; omega
        · obtain rfl : m = 8 := by omega
          go_wp2
          go_round
          case rel => exact ⟨k + 1, by omega, by go_num, by rw [HT.out, HC.out]⟩
          case measure => simp [intOf]; omega
    · obtain rfl : k = n := by omega
      have e1 := Lib.hid (w32_not _ hb)
      have e2 : bs.take k = bs := List.take_of_length_le (by rw [HL.out]; exact Nat.le_refl _)
      rw [e2] at e1
      go_wp2
      go_ret
      exact ⟨ret_w32 e1.out, hg1⟩

set_option maxHeartbeats 400000 in
theorem crcsum_any (A : Option Addr) (n c : Nat) (bs : List UInt8) (w : World) (hl : bs.length = n) (hr : Lies w w.heap.size A (bs.map bv)) (hn : n ≤ 1000000000000) :
    Calls Try.prog 23 #[.slice A n c] w fun e w' => e = .returned (uv (crcOf bs)) ∧ Grows w w' := by
  have HL := Lib.hid hl
  clear hl
  go_enter Try.func23, Try.ntmps23
  go_wp2_with fail
  refine (crcmore_any 0 A n c bs w (by omega) HL.out hr hn).mono ?_
  rintro e w1 ⟨rfl, hg1⟩
  go_wp2_with fail
  go_ret
  exact ⟨rfl, hg1⟩

set_option maxHeartbeats 1000000 in
/-- The reference's More. -/
theorem rmore_any (s : Nat) (A : Option Addr) (n c : Nat) (bs : List UInt8) (w : World) (hs : s < 4294967296) (hl : bs.length = n) (hr : Lies w w.heap.size A (bs.map bv)) (hn : n ≤ 1000000000000) :
    Calls Try.prog 53 #[uv s, .slice A n c] w fun e w' => e = .returned (uv (cmore s bs)) ∧ w = w' := by
  have HL := Lib.hid hl
  clear hl
  have hs1 : (0 : Int) ≤ 4294967295 - (s : Int) := by omega
  have hs2 : IntKind.u32.wrap (4294967295 - (s : Int)) = ((4294967295 - s : Nat) : Int) := by rw [IntKind.wrap_u32']; omega
  go_enter Try.func53, Try.ntmps53
  go_wp2
  go_loop [5, 6, 7] (fun x i _ => ∃ k : Nat, k ≤ n ∧ i = .int .i64 k ∧ x = uv (cbytes (4294967295 - s) (bs.take k))) (fun _ i _ => n - (intOf i).toNat)
  case atStart => exact ⟨0, Nat.zero_le _, rfl, by simp [cbytes]⟩
  case round =>
    obtain ⟨k, hk, rfl, rfl⟩ := hrel
    have hb := cbytes_lt (bs.take k) (n := 4294967295 - s) (by omega)
    by_cases hlt : k < n
    · obtain ⟨b, hbk⟩ : ∃ b, bs[k]? = some b := ⟨_, List.getElem?_eq_getElem (by rw [HL.out]; exact hlt)⟩
      obtain ⟨ad, rfl, _, cx⟩ := hr.at_ (j := k) (u := bv b) (by rw [List.getElem?_map, hbk]; rfl)
      have HT := Lib.hid (cbytes_take (4294967295 - s) bs k b hbk)
      clear hbk
      generalize cbytes (4294967295 - s) (bs.take k) = x at *
      have hb8 := b.toNat_lt
      have hxo : bits .xor .u32 (x : Int) (b.toNat : Int) = ((x ^^^ b.toNat : Nat) : Int) := u32_xor_nat x b.toNat hb (by omega)
      have hy : x ^^^ b.toNat < 4294967296 := Nat.xor_lt_two_pow (n := 32) hb (by omega)
      have HC : Hid (cbyte x b = csteps 8 (x ^^^ b.toNat)) := rfl
      generalize hyy : x ^^^ b.toNat = y at *
      clear hyy
      go_wp2
      go_loop [5, 7] (fun x j => ∃ m : Nat, m ≤ 8 ∧ j = .int .i64 m ∧ x = uv (csteps m y)) (fun _ j => 8 - (intOf j).toNat)
      case atStart => exact ⟨0, by omega, rfl, rfl⟩
      case round =>
        obtain ⟨m, hm, rfl, rfl⟩ := hrel
        by_cases hmt : m < 8
        · have hz := csteps_lt m hy
          have hS := Lib.hid (csteps_succ m y)
          generalize csteps m y = z at *
          by_cases ho : z % 2 = 1
          · have hzo : bits .xor .u32 ((z : Int) / 2) 2197175160 = ((z / 2 ^^^ 2197175160 : Nat) : Int) := u32_xor_nat (z / 2) 2197175160 (by omega) (by omega)
            have hs : cstep z = z / 2 ^^^ 2197175160 := by unfold cstep; rw [if_pos ho]
            have HS := Lib.hid hs
            clear hs
            go_wp2
            go_round
            case rel => exact ⟨m + 1, by omega, by go_num, by rw [hS.out, HS.out]⟩
            case measure => simp [intOf]; omega
          · have hs : cstep z = z / 2 := by unfold cstep; rw [if_neg ho]
            have HS := Lib.hid hs
            clear hs
            go_wp2
            go_round
            case rel => exact ⟨m + 1, by omega, by go_num, by rw [hS.out, HS.out]; rfl⟩
            case measure => simp [intOf]; omega
        · obtain rfl : m = 8 := by omega
          go_wp2
          go_round
          case rel => exact ⟨k + 1, by omega, by go_num, by rw [HT.out, HC.out]⟩
          case measure => simp [intOf]; omega
    · obtain rfl : k = n := by omega
      have e2 : bs.take k = bs := List.take_of_length_le (by rw [HL.out]; exact Nat.le_refl _)
      rw [e2] at hb
      have e3 : IntKind.u32.wrap (4294967295 - (cbytes (4294967295 - s) bs : Int)) = ((cmore s bs : Nat) : Int) := by rw [IntKind.wrap_u32']; unfold cmore; omega
      go_wp2
      go_ret
      exact ⟨ret_w32 (by first | exact e3 | (unfold cmore; omega)), rfl⟩
end Go.Proofs.Ythnjbmaiebiehaa
