/-
  Contracts of hexa.digit and hexa.pair: a byte that is a digit gives its number, two digits give their byte; else ErrForm. Memory is left as it was. Condition: the arguments are bytes.
-/
import Derived.Test.YtgkoopnbphohaaaErrIs
import Derived.Test.YtgkoopnbphohaaaHex
namespace Go.Proofs.Ytgkoopnbphohaaa
open Go.RowKit
set_option linter.unusedVariables false

/-- A digit's number. -/
def digN (n : Nat) : Option Nat := if 48 ≤ n ∧ n ≤ 57 then some (n - 48) else if 97 ≤ n ∧ n ≤ 102 then some (n - 87) else none
theorem digN_lt {n d : Nat} (h : digN n = some d) : d < 16 := by
  unfold digN at h
  split at h
  · injection h with h; omega
  · split at h
    · injection h with h; omega
    · cases h

theorem tup2 {k : IntKind} {a b : Int} {c : Value} (h : a = b) : Ending.returned (.tuple #[.int k a, c]) = .returned (.tuple #[.int k b, c]) := by rw [h]

set_option maxHeartbeats 400000 in
theorem digit_yes (n d : Nat) (w : World) (h : digN n = some d) :
    Calls Try.prog 29 #[.int .u8 (n : Int)] w fun e w' => e = .returned (.tuple #[.int .u8 (d : Int), .int .i64 0]) ∧ w = w' := by
  unfold digN at h
  split at h
  · rename_i hn
    obtain ⟨h1, h2⟩ := hn
    obtain ⟨m, rfl⟩ : ∃ m, n = 48 + m := ⟨n - 48, by omega⟩
    obtain rfl : d = m := by injection h with h; omega
    clear h
    go_enter Try.func29, Try.ntmps29
    go_wp2
    go_ret2
    exact ⟨tup2 (by omega), rfl⟩
  · split at h
    · rename_i hn
      obtain ⟨h1, h2⟩ := hn
      obtain ⟨m, rfl⟩ : ∃ m, n = 87 + m := ⟨n - 87, by omega⟩
      obtain rfl : d = m := by injection h with h; omega
      clear h
      go_enter Try.func29, Try.ntmps29
      go_wp2
      go_ret2
      exact ⟨tup2 (by omega), rfl⟩
    · cases h

set_option maxHeartbeats 400000 in
theorem digit_no (n : Nat) (w : World) (h : digN n = none) :
    Calls Try.prog 29 #[.int .u8 (n : Int)] w fun e w' => e = .returned (.tuple #[.int .u8 0, .int .i64 2]) ∧ w = w' := by
  unfold digN at h
  split at h
  · cases h
  · split at h
    · cases h
    · rename_i g1 g2
      clear h
      by_cases h1 : n < 48
      · clear g1 g2
        go_enter Try.func29, Try.ntmps29
        go_wp2
        go_ret2
        exact ⟨rfl, rfl⟩
      · by_cases h2 : n < 97
        · have h3 : 57 < n := by omega
          have h4 : 48 ≤ n := by omega
          clear g1 g2 h1
          go_enter Try.func29, Try.ntmps29
          go_wp2
          go_ret2
          exact ⟨rfl, rfl⟩
        · have h3 : 102 < n := by omega
          clear g1 g2 h1 h2
          go_enter Try.func29, Try.ntmps29
          go_wp2
          go_ret2
          exact ⟨rfl, rfl⟩

theorem or16 : ∀ h : Fin 16, ∀ l : Fin 16, bits .or .u8 ((h.val : Int) * 16) (l.val : Int) = ((16 * h.val + l.val : Nat) : Int) := by decide +kernel

/-- Two digits' byte. -/
def pairN (a b : Nat) : Option Nat := match digN a, digN b with
  | some h, some l => some (16 * h + l)
  | _, _ => none

set_option maxHeartbeats 800000 in
theorem pair_yes (a b d : Nat) (w : World) (h : pairN a b = some d) :
    Calls Try.prog 25 #[.int .u8 (a : Int), .int .u8 (b : Int)] w fun e w' => e = .returned (.tuple #[.int .u8 (d : Int), .int .i64 0]) ∧ w = w' := by
  unfold pairN at h
  split at h
  · rename_i x y hx hy
    obtain rfl : 16 * x + y = d := by injection h
    clear h
    have HX := Lib.hid hx
    have HY := Lib.hid hy
    have hor : bits .or .u8 ((x : Int) * 16) (y : Int) = ((16 * x + y : Nat) : Int) := or16 ⟨x, digN_lt hx⟩ ⟨y, digN_lt hy⟩
    have HOR := Lib.hid hor
    clear hor
    have hx' := digN_lt hx
    have hy' := digN_lt hy
    clear hx hy
    go_enter Try.func25, Try.ntmps25
    go_wp2_with fail
    refine (digit_yes a x _ HX.out).mono ?_
    rintro e w' ⟨rfl, rfl⟩
    go_wp2_with fail
    refine (is_false 0 2 _ (by omega)).mono ?_
    rintro e w' ⟨rfl, rfl⟩
    go_wp2_with fail
    refine (digit_yes b y _ HY.out).mono ?_
    rintro e w' ⟨rfl, rfl⟩
    go_wp2_with fail
    refine (is_false 0 2 _ (by omega)).mono ?_
    rintro e w' ⟨rfl, rfl⟩
    go_wp2_with fail
    go_ret2
    exact ⟨tup2 HOR.out, rfl⟩
  · cases h

set_option maxHeartbeats 800000 in
theorem pair_no (a b : Nat) (w : World) (h : pairN a b = none) :
    Calls Try.prog 25 #[.int .u8 (a : Int), .int .u8 (b : Int)] w fun e w' => e = .returned (.tuple #[.int .u8 0, .int .i64 2]) ∧ w = w' := by
  cases ha : digN a with
  | none =>
    have HA := Lib.hid ha
    clear ha h
    go_enter Try.func25, Try.ntmps25
    go_wp2_with fail
    refine (digit_no a _ HA.out).mono ?_
    rintro e w' ⟨rfl, rfl⟩
    go_wp2_with fail
    refine (is_true 2 _).mono ?_
    rintro e w' ⟨rfl, rfl⟩
    go_wp2_with fail
    go_ret2
    exact ⟨rfl, rfl⟩
  | some x =>
    cases hb : digN b with
    | some y => simp [pairN, ha, hb] at h
    | none =>
      have HA := Lib.hid ha
      have HB := Lib.hid hb
      clear ha hb h
      go_enter Try.func25, Try.ntmps25
      go_wp2_with fail
      refine (digit_yes a x _ HA.out).mono ?_
      rintro e w' ⟨rfl, rfl⟩
      go_wp2_with fail
      refine (is_false 0 2 _ (by omega)).mono ?_
      rintro e w' ⟨rfl, rfl⟩
      go_wp2_with fail
      refine (digit_no b _ HB.out).mono ?_
      rintro e w' ⟨rfl, rfl⟩
      go_wp2_with fail
      refine (is_true 2 _).mono ?_
      rintro e w' ⟨rfl, rfl⟩
      go_wp2_with fail
      go_ret2
      exact ⟨rfl, rfl⟩
theorem pairN_lt {a b d : Nat} (h : pairN a b = some d) : d < 256 := by
  unfold pairN at h
  split at h
  · rename_i x y hx hy
    have := digN_lt hx
    have := digN_lt hy
    injection h with h
    omega
  · cases h
end Go.Proofs.Ytgkoopnbphohaaa
