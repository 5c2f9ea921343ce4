/-
  Contracts of the reference's literal and Pack.
-/
import Derived.Test.YthnjbmaiebiehaaLzC
import Derived.Test.YthnjbmaiebiehaaL5E
namespace Go.Proofs.Ythnjbmaiebiehaa
open Go.RowKit
set_option linter.unusedVariables false

set_option maxRecDepth 20000 in
set_option maxHeartbeats 2000000 in
theorem rlit_any (A : Option Addr) (n c : Nat) (bs : List UInt8) (w : World) (hl : bs.length = n) (hr : Lies w w.heap.size A (bs.map bv)) (hc : n ≤ c) (hn : n ≤ 1000000000) :
    Calls Try.prog 35 #[.slice A n c] w fun e w' => ∃ v, e = .returned v ∧ w'.ownsRow w.heap.size 5 1 v (lits bs).length ((lits bs).map bv) ∧ Grows w w' := by
  obtain ⟨i0, hi0, hz0, hz1, hz2⟩ := info_parts byte_info
  have HL := Lib.hid hl
  clear hl
  obtain ⟨W, hW⟩ : ∃ W, W = lits bs := ⟨_, rfl⟩
  have HF : Hid (W = [] ++ lits (bs.drop 0)) := hW
  rw [← hW]
  clear hW
  go_enter Try.func35, Try.ntmps35
  go_wp2
  go_loopw [3, 4, 5] (fun v i _ wr => ∃ (j : Nat) (out : List UInt8), j ≤ n + 128 ∧ Hid (W = out ++ lits (bs.drop j)) ∧ out.length ≤ 2 * j ∧ i = iv j ∧ wr.ownsRow w.heap.size 5 1 v out.length (out.map bv) ∧ Grows w wr) (fun _ i _ _ => n - (intOf i).toNat)
  case atStart => exact ⟨0, [], Nat.zero_le _, HF.out, Nat.zero_le _, rfl, World.ownsRow_nil _ _ _ _, Grows.refl _⟩
  case round =>
    obtain ⟨j, out, hj, HO, hol, rfl, hown, hgr⟩ := hrel
    have hwb := hgr.size
    by_cases hlt : j < n
    · obtain ⟨k, hk⟩ : ∃ k, k = min 128 (n - j) := ⟨_, rfl⟩
      have hmin : (if (n : Int) < (j : Int) + 128 then (n : Int) else (j : Int) + 128) = (j : Int) + (k : Int) := by split <;> omega
      have hk1 : 1 ≤ k ∧ k ≤ 128 ∧ k ≤ n - j := by omega
      have hbyte : (k : Int) - 1 = ((UInt8.ofNat (k - 1)).toNat : Int) := by rw [UInt8.toNat_ofNat']; omega
      have HNE : Hid (bs.drop j ≠ []) := fun h0 => by have := congrArg List.length h0; rw [List.length_drop, HL.out] at this; simp at this; omega
      have HST : Hid (lits (bs.drop j) = [UInt8.ofNat (k - 1)] ++ (bs.drop j).take k ++ lits (bs.drop (j + 128))) := by
        show _ = _
        have e1 : (bs.drop j).take 128 = (bs.drop j).take k := by
          rcases Nat.lt_or_ge 128 (n - j) with h | h
          · rw [show k = 128 by omega]
          · rw [List.take_of_length_le (by rw [List.length_drop, HL.out]; omega), List.take_of_length_le (by rw [List.length_drop, HL.out]; omega)]
        rw [lits_more HNE.out, e1, List.drop_drop, List.length_take, List.length_drop, HL.out, Nat.min_eq_left (by omega)]
        simp
      have HPL : Hid (((bs.drop j).take k).length = k) := by show _ = _; rw [List.length_take, List.length_drop, HL.out]; omega
      have hLt : Lies wr w.heap.size (A.map (·.add j)) (((bs.drop j).take k).map bv) := by rw [List.map_take, List.map_drop]; exact ((hr.below hgr).from_ j).take k
      generalize (bs.drop j).take k = piece at *
      generalize UInt8.ofNat (k - 1) = q at *
      have hq8 := q.toNat_lt
      have HK := Lib.hid hk
      clear hk
      have hcj : ¬ c = j := by omega
      have hnew := Lies.new wr 5 [bv q]
      go_wp2_with (first
        | (at_builtin; refine wpList_append_src _ rfl (.tmp 20) (.tmp 25) _ rfl w.heap.size 5 i0 _ 1 Try.underlying22 hi0 hz0 hz1 hz2 rfl _ out.length _ rfl (hown.alloc _) _ _ 1 1 [bv q] rfl rfl hnew (by simp [Value.oneCell']) (by unfold maxLen; omega) (by omega) (by rw [World.size_alloc]; omega) ?_; intro v1 w1 hown1 hg1 hat1)
        | (at_builtin; refine wpList_append_src _ rfl (.tmp 27) (.tmp 28) _ rfl w.heap.size 5 i0 _ 1 Try.underlying22 hi0 hz0 hz1 hz2 rfl _ (out.length + 1) _ rfl hown1 w.heap.size _ _ _ (piece.map bv) rfl (by rw [List.length_map]; exact HPL.out) (hLt.below (Wrote.below (Wrote.later (grows_alloc _ _) (Wrote.app hg1 hat1)) hwb (own_ge hown))) (bv_one piece) (by unfold maxLen; omega) (by omega) (Nat.le_trans hwb (Wrote.later (grows_alloc _ _) (Wrote.app hg1 hat1)).grown.size) ?_; intro v2 w2 hown2 hg2 hat2))
      have hW1 := Wrote.later (grows_alloc _ _) (Wrote.app hg1 hat1)
      have hW2 := hW1.trans (Wrote.app hg2 hat2)
      have e9 : out.length + 1 + k = (out ++ [q] ++ piece).length := by rw [List.length_append, List.length_append, HPL.out]; rfl
      rw [show [bv q] = [q].map bv from rfl, ← List.map_append, ← List.map_append, e9] at hown2
      have hB := Wrote.below hW2 hwb (own_ge hown)
      go_roundw
      case rel =>
        refine ⟨j + 128, out ++ [q] ++ piece, by omega, ?_, by rw [← e9]; omega, by go_num, hown2, Below.trans hgr hB⟩
        show _ = _; rw [HO.out, HST.out]; simp
      case measure => simp [intOf]; omega
    · have HE : Hid (W = out) := by
        show _ = _
        rw [HO.out, List.drop_eq_nil_of_le (by rw [HL.out]; omega), lits_nil, List.append_nil]
      have hown2 : wr.ownsRow w.heap.size 5 1 u3 W.length (W.map bv) := by rw [HE.out]; exact hown
      go_wp2
      go_ret
      exact ⟨_, rfl, hown2, hgr⟩
theorem rlit_out (A : Option Addr) (n c : Nat) (bs : List UInt8) (w : World) (hl : bs.length = n) (hr : Lies w w.heap.size A (bs.map bv)) (hc : n ≤ c) (hn : n ≤ 1000000000) :
    Calls Try.prog 35 #[.slice A n c] w fun e w' => ∃ (l : List UInt8) (m c' : Nat) (A' : Option Addr), Hid (lits bs = l) ∧ Hid (l.length = m) ∧ m ≤ 2 * n ∧ e = .returned (.slice A' m c') ∧ m ≤ c' ∧ Lies w' w'.heap.size A' (l.map bv) ∧ Grows w w' := by
  refine (rlit_any A n c bs w hl hr hc hn).mono ?_
  rintro e w' ⟨v, rfl, hown, hg⟩
  obtain ⟨A', c', rfl, hc'⟩ := own_form hown
  have hpl := lits_len bs.length bs rfl
  exact ⟨_, _, c', A', rfl, rfl, by omega, rfl, hc', Lies.of_own hown, hg⟩
end Go.Proofs.Ythnjbmaiebiehaa
