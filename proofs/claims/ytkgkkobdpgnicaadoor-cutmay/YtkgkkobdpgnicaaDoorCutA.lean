/-
  Contracts of roll's functions that cut reaches: next, rule.word, RotateLeft32, follow, New, Add, Reset. Condition: the table starts holds the words from which sixteen each are made.
-/
import Derived.Test.YtkgkkobdpgnicaaDoorRollA
import Derived.Test.YtkgkkobdpgnicaaDoorTur
import Derived.Test.YtkgkkobdpgnicaaDoorOrd
namespace Go.Proofs.YtkgkkobdpgnicaaDoor
open Go.RowKit
set_option linter.unusedVariables false

def starts16 : List Nat := [2654435769, 1138837087, 2211501978, 4266533798, 3128921280, 3009974529, 135874808, 2136921429, 3201375937, 2771259764, 2399328674, 1225172979, 4185982133, 284225674, 3743433706, 3947240972]
theorem starts_pre : ∀ k, k < 16 → starts16[k]? = some (wpre (16 * k)) := by decide +kernel
/-- The table starts lies there. -/
def Starts (w : World) : Prop := w.rangeAt 0 0 (starts16.map uv)
theorem Starts.turned {w w' : World} {S : Nat → Prop} (h : Starts w) (ht : Turns S w w') (hn : ¬ S 0) : Starts w' := fun j u hu => ht.cell (h j u hu) hn
theorem Starts.later {w w' : World} (h : Starts w) (hg : Grows w w') : Starts w' := range_later h hg
theorem Starts.pos {w : World} (h : Starts w) : 0 < w.heap.size := World.block_lt_of_cell? w ⟨0, 0 + 0, none⟩ (h 0 _ rfl)
theorem Starts.at_ {w : World} (h : Starts w) (k : Nat) (hk : k < 16) : w.cell? ⟨0, k, none⟩ = some (.int .u32 ((wpre (16 * k) : Nat) : Int)) := by
  have := h k (uv (wpre (16 * k))) (by rw [List.getElem?_map, starts_pre k hk]; rfl)
  rwa [Nat.zero_add] at this

set_option maxHeartbeats 400000 in
theorem rnext_any (x : Nat) (w : World) (hx : x < 4294967296) :
    Calls Tryd.prog 65 #[uv x] w fun e w' => e = .returned (uv (wnext x)) ∧ w = w' := by
  obtain ⟨a, b, e1, e2, e3, ha, hb⟩ := wnext_parts hx
  go_enter Tryd.func65, Tryd.ntmps65
  go_wp2
  go_ret
  exact ⟨rfl, rfl⟩

theorem or_rl {x : Nat} (hx : x < 4294967296) : bits .or .u32 ((x : Int) * 2 % 4294967296) ((x : Int) / 2147483648) = ((rl x : Nat) : Int) := by
  have h1 : x / 2147483648 < 2 ^ 1 := by omega
  rw [show (x : Int) * 2 % 4294967296 = ((x * 2 % 4294967296 : Nat) : Int) by omega, show (x : Int) / 2147483648 = ((x / 2147483648 : Nat) : Int) by omega, u32_or_nat _ _ (by omega) (by omega)]
  have h2 : x * 2 % 4294967296 = (x % 2147483648) <<< 1 := by rw [Nat.shiftLeft_eq]; omega
  rw [h2, ← Nat.shiftLeft_add_eq_or_of_lt h1, Nat.shiftLeft_eq]
  unfold rl
  omega
theorem or_rl16 {x : Nat} (hx : x < 4294967296) : bits .or .u32 ((x : Int) * 65536 % 4294967296) ((x : Int) / 65536) = ((rln 16 x : Nat) : Int) := by
  have h1 : x / 65536 < 2 ^ 16 := by omega
  rw [show (x : Int) * 65536 % 4294967296 = ((x * 65536 % 4294967296 : Nat) : Int) by omega, show (x : Int) / 65536 = ((x / 65536 : Nat) : Int) by omega, u32_or_nat _ _ (by omega) (by omega)]
  have h2 : x * 65536 % 4294967296 = (x % 65536) <<< 16 := by rw [Nat.shiftLeft_eq]; omega
  rw [h2, ← Nat.shiftLeft_add_eq_or_of_lt h1, Nat.shiftLeft_eq, rln_form hx 16 (by omega)]
set_option maxHeartbeats 400000 in
theorem rot1_any (x : Nat) (w : World) (hx : x < 4294967296) :
    Calls Tryd.prog 62 #[uv x, .int .i64 1] w fun e w' => e = .returned (uv (rl x)) ∧ w = w' := by
  have h1 := or_rl hx
  have h2 : bits .and .u64 1 31 = 1 := by decide
  go_enter Tryd.func62, Tryd.ntmps62
  go_wp2
  go_ret
  exact ⟨rfl, rfl⟩
set_option maxHeartbeats 400000 in
theorem rot16_any (x : Nat) (w : World) (hx : x < 4294967296) :
    Calls Tryd.prog 62 #[uv x, .int .i64 16] w fun e w' => e = .returned (uv (rln 16 x)) ∧ w = w' := by
  have h1 := or_rl16 hx
  have h2 : bits .and .u64 16 31 = 16 := by decide
  go_enter Tryd.func62, Tryd.ntmps62
  go_wp2
  go_ret
  exact ⟨rfl, rfl⟩

theorem wpre_add (a : Nat) : ∀ k, wpre (a + (k + 1)) = wnext (wpre (a + k)) := fun k => rfl
set_option maxHeartbeats 400000 in
theorem rule_any (c : UInt8) (w : World) (hs : Starts w) :
    Calls Tryd.prog 60 #[.agg #[], bv c] w fun e w' => e = .returned (uv (wordOf c)) ∧ Grows w w' := by
  have hc := c.toNat_lt
  have hs0 := (hs.later (grows_alloc w (.cells #[] 104))).at_ (c.toNat / 16) (by omega)
  have HW : Hid (wordOf c = wpre (16 * (c.toNat / 16) + (c.toNat % 16 + 1))) := by show _ = _; unfold wordOf; rw [wnth_pre, show c.toNat + 1 = 16 * (c.toNat / 16) + (c.toNat % 16 + 1) by omega]
  have hga := grows_alloc w (.cells #[] 104)
  have hq : ((c.toNat : Nat) : Int) / 16 = ((c.toNat / 16 : Nat) : Int) := by omega
  have hr : ((c.toNat : Nat) : Int) % 16 = ((c.toNat % 16 : Nat) : Int) := by omega
  have hq16 : c.toNat / 16 < 16 := by omega
  have hr16 : c.toNat % 16 < 16 := by omega
  generalize wordOf c = want at *
  unfold bv
  generalize c.toNat / 16 = q at *
  generalize c.toNat % 16 = r at *
  generalize c.toNat = n at *
  generalize 16 * q = a at *
  go_enter Tryd.func60, Tryd.ntmps60
  go_wp2
  rw [hr]
  clear hr hq
  go_loop [5, 13] (fun x i => ∃ k : Nat, k ≤ r + 1 ∧ i = .int .u8 k ∧ x = uv (wpre (a + k))) (fun _ i => r + 1 - (intOf i).toNat)
  case atStart => exact ⟨0, Nat.zero_le _, rfl, rfl⟩
  case round =>
    obtain ⟨k, hk, rfl, rfl⟩ := hrel
    by_cases hlt : k < r + 1
    · have hx := wpre_lt (a + k)
      have HN := Lib.hid (wpre_add a k)
      generalize wpre (a + k) = x at *
      go_wp2_with fail
      refine (rnext_any x _ hx).mono ?_
      rintro e w' ⟨rfl, rfl⟩
      go_wp2
      go_round
      case rel => exact ⟨k + 1, by omega, by go_num, by rw [HN.out]⟩
      case measure => simp [intOf]; omega
    · obtain rfl : k = r + 1 := by omega
      have HW' := Lib.hid HW.out.symm
      generalize wpre (a + (r + 1)) = y at *
      obtain rfl := HW'.out
      go_wp2
      go_ret
      exact ⟨rfl, hga⟩
theorem follow_any (x : Nat) (c : UInt8) (w : World) (hx : x < 4294967296) (hs : Starts w) :
    Calls Tryd.prog 61 #[uv x, bv c, .func (.func 60) #[.agg #[]] #[]] w fun e w' => e = .returned (uv (rl x ^^^ wordOf c)) ∧ Grows w w' := by
  have hl := rl_lt x
  have hw := wordOf_lt c
  have hxo : bits .xor .u32 ((rl x : Nat) : Int) ((wordOf c : Nat) : Int) = ((rl x ^^^ wordOf c : Nat) : Int) := u32_xor_nat _ _ hl hw
  have R1 : ∀ u, Calls Tryd.prog 62 #[uv x, .int .i64 1] u fun e w' => e = .returned (uv (rl x)) ∧ u = w' := fun u => rot1_any x u hx
  have R2 := rule_any c w hs
  generalize rl x = y at *
  generalize wordOf c = z at *
  generalize y ^^^ z = v at *
  go_enter Tryd.func61, Tryd.ntmps61
  go_wp2_with fail
  refine (R1 _).mono ?_
  rintro e w1 ⟨rfl, rfl⟩
  go_wp2_with fail
  refine R2.mono ?_
  rintro e w1 ⟨rfl, hg⟩
  go_wp2_with fail
  go_ret
  exact ⟨rfl, hg⟩
end Go.Proofs.YtkgkkobdpgnicaaDoor
