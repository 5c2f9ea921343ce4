/-
  Contracts of the reference's Put and Take of layer 3.
-/
import Derived.Test.YthnjbmaiebiehaaCrcC
namespace Go.Proofs.Ythnjbmaiebiehaa
open Go.RowKit
set_option linter.unusedVariables false

set_option maxHeartbeats 1000000 in
theorem rput_any (A : Option Addr) (n c : Nat) (bs : List UInt8) (w : World) (hl : bs.length = n) (hr : Lies w w.heap.size A (bs.map bv)) (hn : n ≤ 1000000000000) :
    Calls Try.prog 48 #[.slice A n c] w fun e w' => ∃ v, e = .returned v ∧ w'.ownsRow w.heap.size 5 1 v (n + 4) ((bs ++ four (crcOf bs)).map bv) ∧ Grows w w' := by
  obtain ⟨i0, hi0, hz0, hz1, hz2⟩ := info_parts byte_info
  have HL := Lib.hid hl
  clear hl
  have hs : crcOf bs < 4294967296 := cmore_lt (s := 0) (by omega) bs
  go_enter Try.func48, Try.ntmps48
  go_wp2_with fail
  refine (rmore_any 0 A n c bs w (by omega) HL.out hr hn).mono ?_
  rintro e w' ⟨rfl, rfl⟩
  have HSX : Hid (cmore 0 bs = crcOf bs) := rfl
  have HS0 : Hid (crcOf bs = crcOf bs / 2 ^ (8 * 0)) := by show _ = _; simp
  generalize cmore 0 bs = sx at *
  obtain rfl : sx = crcOf bs := HSX.out
  go_wp2_with (at_builtin; refine wpList_append_src _ rfl (.tmp 8) (.tmp 9) _ rfl w.heap.size 5 i0 _ 1 Try.underlying22 hi0 hz0 hz1 hz2 rfl (.slice none 0 0) 0 [] rfl (World.ownsRow_nil _ _ _ _) w.heap.size A n c (bs.map bv) rfl (by rw [List.length_map]; exact HL.out) hr (bv_one bs) (by unfold maxLen; omega) (by omega) (Nat.le_refl _) ?_; intro v1 w1 hown1 hg1 hat1)
  have hgr1 : Grows w w1 := (Grows.refl w).grown hg1 (Nat.le_refl _) (by simp [Value.ownBlock])
  rw [Nat.zero_add, List.nil_append] at hown1
  clear hg1 hat1 HSX
  generalize hsx : crcOf bs = s at *
  have HSX := Lib.hid hsx
  clear hsx
  go_loopw [3, 4, 5] (fun x v i wr => ∃ k : Nat, k ≤ 4 ∧ i = .int .i64 k ∧ x = uv (s / 2 ^ (8 * k)) ∧ wr.ownsRow w.heap.size 5 1 v (n + k) ((bs ++ (four s).take k).map bv) ∧ Grows w wr) (fun _ _ i _ => 4 - (intOf i).toNat)
  case atStart => exact ⟨0, by omega, rfl, by rw [← HS0.out], by simpa using hown1, hgr1⟩
  case round =>
    clear hown1 hgr1 HS0
    obtain ⟨k, hk, rfl, rfl, hown, hgr⟩ := hrel
    by_cases hlt : k < 4
    · have HF := Lib.hid (four_take s k hlt)
      have HD : Hid (s / 2 ^ (8 * (k + 1)) = s / 2 ^ (8 * k) / 256) := by show _ = _; rw [show 8 * (k + 1) = 8 * k + 8 by omega, Nat.pow_add, Nat.div_div_eq_div_mul]
      have hq : s / 2 ^ (8 * k) < 4294967296 := Nat.lt_of_le_of_lt (Nat.div_le_self _ _) hs
      generalize s / 2 ^ (8 * k) = q at *
      have hnew := Lies.new wr 5 [bv (UInt8.ofNat q)]
      go_wp2_with (at_builtin; refine wpList_append_src _ rfl (.tmp 15) (.tmp 19) _ rfl w.heap.size 5 i0 _ 1 Try.underlying22 hi0 hz0 hz1 hz2 rfl _ (n + k) _ rfl (hown.alloc _) _ _ 1 1 [bv (UInt8.ofNat q)] rfl rfl hnew (by simp [Value.oneCell']) (by unfold maxLen; omega) (by omega) (by rw [World.size_alloc]; have := hgr.size; omega) ?_; intro v' w' hown' hg' hat')
      have hb2 : Below w.heap.size wr w' := ((Below.refl _ wr).alloc hgr.size _).grown hg' (by rw [World.size_alloc]; have := hgr.size; omega) (own_ge hown)
      rw [show [bv (UInt8.ofNat q)] = [UInt8.ofNat q].map bv from rfl, ← List.map_append, List.append_assoc, ← HF.out] at hown'
      go_roundw
      case rel => exact ⟨k + 1, by omega, by go_num, by rw [HD.out]; rfl, hown', Below.trans hgr hb2⟩
      case measure => simp [intOf]; omega
    · obtain rfl : k = 4 := by omega
      rw [List.take_of_length_le (by rw [four_len]; exact Nat.le_refl _)] at hown
      go_wp2
      go_ret
      exact ⟨_, rfl, by rw [HSX.out]; exact hown, hgr⟩

theorem takeOf_put (bs : List UInt8) (m : Nat) (hl : bs.length = m + 4) : takeOf bs = if bs.take m ++ four (crcOf (bs.take m)) = bs then (bs.take m, 0) else ([], 7) := by
  unfold takeOf
  rw [hl, if_neg (by omega), show m + 4 - 4 = m by omega]
  have h : bs.take m ++ four (crcOf (bs.take m)) = bs ↔ bs.drop m = four (crcOf (bs.take m)) := by
    constructor
    · intro h
      have h2 := List.take_append_drop m bs
      exact (List.append_cancel_left (h.trans h2.symm)).symm
    · intro h
      rw [← h, List.take_append_drop]
  simp only [h]

end Go.Proofs.Ythnjbmaiebiehaa
