/-
  Contracts of sha.turned (bits.RotateLeft32) and of the reference's turn, word and roots.
-/
import Derived.Test.YtfpgnihibgmeeaaDoorRows
import Derived.Test.YtfpgnihibgmeeaaDoorCel
import Derived.Test.YtfpgnihibgmeeaaDoorShaM
import Derived.Laws.BitsAllLaws
import Derived.Outline
import Derived.Lib.Hide
import Derived.BigQuiet
namespace Go.Proofs.YtfpgnihibgmeeaaDoor
open Go.RowKit
set_option linter.unusedVariables false

theorem ret_uv {a b : Int} (h : a = b) : Ending.returned (.int .u32 a) = .returned (.int .u32 b) := by rw [h]
theorem and31 : ∀ n : Fin 32, 0 < n.val → bits .and .u64 (IntKind.u64.wrap (-(n.val : Int))) 31 = ((32 - n.val : Nat) : Int) := by decide +kernel
theorem wrap32 (a : Nat) : IntKind.u32.wrap (a : Int) = ((a % 4294967296 : Nat) : Int) := by
  simp [IntKind.wrap, IntKind.signed, IntKind.bits]
theorem pow_split {n : Nat} (hn : n ≤ 32) : 2 ^ n * 2 ^ (32 - n) = 4294967296 := by
  rw [← Nat.pow_add, show n + (32 - n) = 32 by omega]
theorem ror_lt {n x : Nat} (hn : n ≤ 32) (hx : x < 4294967296) : ror n x < 4294967296 := by
  unfold ror
  have hp := pow_split hn
  have h1 : 0 < 2 ^ n := Nat.two_pow_pos n
  have h2 : x / 2 ^ n < 2 ^ (32 - n) := Nat.div_lt_of_lt_mul (by rw [hp]; exact hx)
  have h3 : x % 2 ^ n < 2 ^ n := Nat.mod_lt _ h1
  calc x / 2 ^ n + x % 2 ^ n * 2 ^ (32 - n) < 2 ^ (32 - n) + x % 2 ^ n * 2 ^ (32 - n) := by omega
    _ = (x % 2 ^ n + 1) * 2 ^ (32 - n) := by rw [Nat.add_mul]; omega
    _ ≤ 2 ^ n * 2 ^ (32 - n) := Nat.mul_le_mul_right _ h3
    _ = 4294967296 := hp
theorem or_ror {n x : Nat} (h0 : 0 < n) (hn : n < 32) (hx : x < 4294967296) : bits .or .u32 (IntKind.u32.wrap ((x : Int) * 2 ^ (32 - n))) ((x : Int) / 2 ^ n) = (ror n x : Int) := by
  have hp := pow_split (n := n) (by omega)
  have e1 : IntKind.u32.wrap ((x : Int) * 2 ^ (32 - n)) = ((x % 2 ^ n * 2 ^ (32 - n) : Nat) : Int) := by
    have : ((x : Int) * 2 ^ (32 - n)) = ((x * 2 ^ (32 - n) : Nat) : Int) := by simp
    rw [this, wrap32, ← hp, Nat.mul_mod_mul_right]
  have e2 : (x : Int) / 2 ^ n = ((x / 2 ^ n : Nat) : Int) := by simp
  have h1 : 0 < 2 ^ n := Nat.two_pow_pos n
  have h2 : x / 2 ^ n < 2 ^ (32 - n) := Nat.div_lt_of_lt_mul (by rw [hp]; exact hx)
  have h3 : x % 2 ^ n < 2 ^ n := Nat.mod_lt _ h1
  have h4 : x % 2 ^ n * 2 ^ (32 - n) < 4294967296 := by
    rw [← hp]
    exact Nat.mul_lt_mul_of_pos_right h3 (Nat.two_pow_pos _)
  have h5 : x / 2 ^ n < 4294967296 := Nat.lt_of_le_of_lt (Nat.div_le_self _ _) hx
  rw [e1, e2, u32_or_nat _ _ h4 h5]
  congr 1
  rw [← Nat.shiftLeft_eq, ← Nat.shiftLeft_add_eq_or_of_lt h2, Nat.shiftLeft_eq]
  unfold ror
  omega

set_option maxHeartbeats 400000 in
theorem rotl_any (x n : Nat) (w : World) (hx : x < 4294967296) (h0 : 0 < n) (hn : n < 32) :
    Calls Tryd.prog 32 #[uv x, .int .i64 (-(n : Int))] w fun e w' => e = .returned (uv (ror n x)) ∧ w = w' := by
  have hor := Lib.hid (or_ror h0 hn hx)
  have h31 := and31 ⟨n, hn⟩ h0
  simp only [] at h31
  obtain ⟨m, hm⟩ : ∃ m, m = 32 - n := ⟨_, rfl⟩
  rw [← hm] at h31 hor
  have hm0 : m ≤ 32 := by omega
  have hm1 : IntKind.u64.wrap (32 - (m : Int)) = (n : Int) := by
    rw [show 32 - (m : Int) = (n : Int) by omega]
    exact IntWalk.u64_in _ (by omega)
  clear hm
  go_enter Tryd.func32, Tryd.ntmps32
  go_wp2
  go_ret
  exact ⟨ret_uv hor.out, rfl⟩

theorem ror_zero {x : Nat} : ror 0 x = x := by simp [ror, Nat.mod_one]
theorem ror_step {k x : Nat} (hk : k < 32) : ror k x / 2 + ror k x % 2 * 2147483648 = ror (k + 1) x := by
  unfold ror
  obtain ⟨j, hj⟩ : ∃ j, 32 - k = j + 1 := ⟨31 - k, by omega⟩
  rw [hj, show 32 - (k + 1) = j by omega, Nat.pow_succ 2 j, Nat.pow_succ 2 k]
  have hp : 2 ^ k * 2 ^ j = 2147483648 := by rw [← Nat.pow_add, show k + j = 31 by omega]
  have e1 : x / (2 ^ k * 2) = x / 2 ^ k / 2 := by rw [Nat.div_div_eq_div_mul]
  have e2 : x % (2 ^ k * 2) = x % 2 ^ k + 2 ^ k * (x / 2 ^ k % 2) := by rw [Nat.mod_mul]
  rw [e1, e2]
  generalize x / 2 ^ k = q
  generalize x % 2 ^ k = r
  have e3 : r * (2 ^ j * 2) = 2 * (r * 2 ^ j) := by rw [← Nat.mul_assoc, Nat.mul_comm]
  have e4 : 2 ^ k * (q % 2) * 2 ^ j = 2147483648 * (q % 2) := by rw [Nat.mul_assoc, Nat.mul_comm (q % 2), ← Nat.mul_assoc, hp]
  rw [e3, Nat.add_mul, e4]
  generalize r * 2 ^ j = s
  omega

set_option maxHeartbeats 400000 in
theorem turn_any (x n : Nat) (w : World) (hx : x < 4294967296) (hn : n < 32) :
    Calls Tryd.prog 26 #[uv x, .int .i64 (n : Int)] w fun e w' => e = .returned (uv (ror n x)) ∧ w = w' := by
  go_enter Tryd.func26, Tryd.ntmps26
  go_wp2
  go_loop [0, 5] (fun t i => ∃ k : Nat, k ≤ n ∧ i = .int .i64 k ∧ t = uv (ror k x)) (fun _ i => n - (intOf i).toNat)
  case atStart => exact ⟨0, Nat.zero_le _, rfl, by rw [ror_zero]⟩
  case round =>
    obtain ⟨k, hk, rfl, rfl⟩ := hrel
    by_cases hlt : k < n
    · have hs := Lib.hid (ror_step (k := k) (x := x) (by omega))
      have hb := ror_lt (n := k) (by omega) hx
      have hb' := ror_lt (n := k + 1) (by omega) hx
      generalize ror k x = y at *
      go_wp2
      go_round
      case rel => exact ⟨k + 1, by omega, by go_num, by have := hs.out; simp only [uv, ← this]; congr 1⟩
      case measure => simp [intOf]; omega
    · obtain rfl : k = n := by omega
      go_wp2
      go_ret
      exact ⟨rfl, rfl⟩

set_option maxHeartbeats 400000 in
theorem turned_any (x n : Nat) (w : World) (hx : x < 4294967296) (h0 : 0 < n) (hn : n < 32) :
    Calls Tryd.prog 31 #[uv x, .int .i64 (n : Int)] w fun e w' => e = .returned (uv (ror n x)) ∧ w = w' := by
  go_enter Tryd.func31, Tryd.ntmps31
  go_wp2_with fail
  refine (rotl_any x n _ hx h0 hn).mono ?_
  rintro e w' ⟨rfl, rfl⟩
  go_wp2_with fail
  go_ret
  exact ⟨rfl, rfl⟩

theorem byte_at {w : World} {b o : Nat} {l : List UInt8} (h : w.rangeAt b o (l.map bv)) (i : Nat) (hi : i < l.length) : w.cell? ⟨b, o + i, none⟩ = some (.int .u8 ((l.getD i 0).toNat : Int)) :=
  h i _ (by rw [List.getElem?_map]; simp [hi])

set_option maxHeartbeats 1000000 in
theorem word_any (b o n c i : Nat) (l : List UInt8) (w : World) (hl : l.length = n) (hr : w.rangeAt b o (l.map bv)) (hi : i + 3 < n) (hn : n ≤ 1000000) :
    Calls Tryd.prog 25 #[.slice (some ⟨b, o, none⟩) n c, .int .i64 (i : Int)] w fun e w' => e = .returned (uv (wordAt l i)) ∧ ∃ m, w' = w.drewN m := by
  have c0 := byte_at hr i (by omega)
  have c1 := byte_at hr (i + 1) (by omega)
  have c2 := byte_at hr (i + 2) (by omega)
  have c3 := byte_at hr (i + 3) (by omega)
  have b0 := (l.getD i 0).toNat_lt
  have b1 := (l.getD (i + 1) 0).toNat_lt
  have b2 := (l.getD (i + 2) 0).toNat_lt
  have b3 := (l.getD (i + 3) 0).toNat_lt
  unfold wordAt
  generalize (l.getD i 0).toNat = x0 at *
  generalize (l.getD (i + 1) 0).toNat = x1 at *
  generalize (l.getD (i + 2) 0).toNat = x2 at *
  generalize (l.getD (i + 3) 0).toNat = x3 at *
  have i0 : i < n := by omega
  have i1 : (i : Int) + 1 < (n : Int) := by omega
  have i2 : (i : Int) + 2 < (n : Int) := by omega
  have i3 : (i : Int) + 3 < (n : Int) := by omega
  have p1 : (0 : Int) ≤ (i : Int) + 1 := by omega
  have p2 : (0 : Int) ≤ (i : Int) + 2 := by omega
  have p3 : (0 : Int) ≤ (i : Int) + 3 := by omega
  have q1 : IntKind.i64.wrap ((i : Int) + 1) = (i : Int) + 1 := IntWalk.i64_in _ (by omega)
  have q2 : IntKind.i64.wrap ((i : Int) + 2) = (i : Int) + 2 := IntWalk.i64_in _ (by omega)
  have q3 : IntKind.i64.wrap ((i : Int) + 3) = (i : Int) + 3 := IntWalk.i64_in _ (by omega)
  have r1 : ((i : Int) + 1).toNat = i + 1 := by omega
  have r2 : ((i : Int) + 2).toNat = i + 2 := by omega
  have r3 : ((i : Int) + 3).toNat = i + 3 := by omega
  clear hr hl
  go_enter Tryd.func25, Tryd.ntmps25
  go_wp2
  go_quiet (fail)
  go_wp2
  go_ret
  exact ⟨ret_uv (by omega), nq, rfl⟩

theorem u32_info : (Tryd.prog.info? 40).map (fun i => (i.zero, i.size, i.bytes)) = some (some (.int .u32 0), 1, 4) := by kernel_rfl

set_option maxHeartbeats 400000 in
theorem roots_any (w : World) : Calls Tryd.prog 24 #[] w fun e w' => e = .returned (.slice (some ⟨w.heap.size, 0, none⟩) 64 64) ∧ w'.rangeAt w.heap.size 0 (roots64.map uv) ∧ Grows w w' := by
  have hh := Has.new w 40 (roots64.map uv)
  have hg := grows_alloc w (.cells (roots64.map uv).toArray 40)
  go_enter Tryd.func24, Tryd.ntmps24
  go_wp2
  go_ret
  exact ⟨rfl, hh.cells, hg⟩

/-- turn, in a region that only reads. -/
theorem turn_quiet {x m : Nat} {z : Int} {w : World} (n : Nat) (hz : z = (n : Int)) (hx : x < 4294967296) (hn : n < 32) :
    Calls Tryd.prog 26 #[.int .u32 (x : Int), .int .i64 z] (w.drewN m) fun e w'' => e = .returned (.int .u32 ((ror n x : Nat) : Int)) ∧ ∃ m, w'' = w.drewN m := by
  subst hz
  exact (turn_any x n _ hx hn).mono fun _ _ ⟨he, hw⟩ => ⟨he, m, hw.symm⟩
theorem turned_quiet {x m : Nat} {z : Int} {w : World} (n : Nat) (hz : z = (n : Int)) (hx : x < 4294967296) (h0 : 0 < n) (hn : n < 32) :
    Calls Tryd.prog 31 #[.int .u32 (x : Int), .int .i64 z] (w.drewN m) fun e w'' => e = .returned (.int .u32 ((ror n x : Nat) : Int)) ∧ ∃ m, w'' = w.drewN m := by
  subst hz
  exact (turned_any x n _ hx h0 hn).mono fun _ _ ⟨he, hw⟩ => ⟨he, m, hw.symm⟩
end Go.Proofs.YtfpgnihibgmeeaaDoor
