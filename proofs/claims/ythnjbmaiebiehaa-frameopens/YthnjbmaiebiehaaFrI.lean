/-
  Contract of the reference's Seal of layer 6.
-/
import Derived.Test.YthnjbmaiebiehaaFrH
import Derived.Test.YthnjbmaiebiehaaL5H
namespace Go.Proofs.Ythnjbmaiebiehaa
open Go.RowKit
set_option linter.unusedVariables false

/-- A store into a row of the call's own. -/
theorem own_store {w : World} {base : Nat} {e : TypeId} {g n c k : Nat} {vs : List Value} {x : Value} (h : w.ownsRow base e 1 (.slice (some ⟨g, 0, none⟩) n c) n vs) : (w.setCell ⟨g, k, none⟩ x).ownsRow base e 1 (.slice (some ⟨g, 0, none⟩) n c) n (vs.set k x) := by
  refine ⟨by simpa using h.1, .inr ?_⟩
  rcases h.2 with ⟨hv, _⟩ | ⟨g', cap, cur, hv, hb, hh, hnc, hm, hs, ht⟩
  · cases hv
  · injection hv with h1 h2 h3
    injection h1 with h1
    injection h1 with h1
    subst h1 h3
    rw [Nat.mul_one] at ht hs
    exact ⟨g, c, cur.setIfInBounds k x, rfl, hb, heap_setCell_same w g k cur e x hh, hnc, hm, by simpa using hs, by rw [Nat.mul_one, ← ht]; simp [List.take_set]⟩

set_option maxRecDepth 20000 in
set_option maxHeartbeats 4000000 in
theorem rseal_any (A : Option Addr) (n c : Nat) (bs : List UInt8) (w : World) (hl : bs.length = n) (hr : Lies w w.heap.size A (bs.map bv)) (hc : n ≤ c) (hn : n ≤ 1000000000) :
    Calls Try.prog 13 #[.slice A n c] w fun e w' => ∃ v, e = .returned v ∧ w'.ownsRow w.heap.size 5 1 v (sealOf bs).length ((sealOf bs).map bv) ∧ Grows w w' := by
  obtain ⟨i0, hi0, hz0, hz1, hz2⟩ := info_parts byte_info
  have HL := Lib.hid hl
  go_enter Try.func13, Try.ntmps13
  go_wp2_with fail
  refine (rpack_out A n c bs w hl hr hc hn).mono ?_
  rintro e w1 ⟨p, pn, cp, Ap, HP, HPN, hpn, rfl, hcp, hcm, hLp, hg1⟩
  have hr1 := hr.later hg1
  have hpn2 : pn ≤ 2000000001 := by omega
  clear hr hl hpn
  have hrow := own_new w1 5 [.int .u8 76, .int .u8 0] 2 rfl (by unfold maxLen; omega)
  have hga := grows_alloc w1 (.cells #[.int .u8 76, .int .u8 0] 5)
  have hsa : w1.heap.size < (w1.alloc (.cells #[.int .u8 76, .int .u8 0] 5)).heap.size := by rw [World.size_alloc]; omega
  have RN := Lib.hid (rnumber_any n (w1.alloc (.cells #[.int .u8 76, .int .u8 0] 5)) (by omega))
  go_wp2_with fail
  refine RN.out.mono ?_
  rintro e w3 ⟨A3, c3, rfl, hc3, hown3, hg3⟩
  have hrow3 := own_later hrow hg3
  have hL3 := Lies.of_own hown3
  have hg13 := Grows.trans hga hg3
  have hs3 := hg13.size
  clear RN hrow hown3 hga hsa hg3
  by_cases hlt : pn < n
  · have hlt' : (pn : Int) < (n : Int) := by omega
    have HS : Hid (sealOf bs = frameOf 1 n p (crcOf bs)) := by show _ = _; unfold sealOf; rw [HP.out, HPN.out, HL.out, if_pos hlt]
    have HFL : Hid ((frameOf 1 n p (crcOf bs)).length = 2 + 4 + pn + 4) := by show _ = _; rw [frame_len, HPN.out]; omega
    go_wp2_with (first
      | (at_builtin; refine wpList_append_src _ rfl (.tmp 8) (.tmp 11) _ rfl w1.heap.size 5 i0 _ 1 Try.underlying22 hi0 hz0 hz1 hz2 rfl _ 2 _ rfl hrow3 _ _ 4 _ ((four n).map bv) rfl (by rw [List.length_map]; exact four_len n) hL3 (bv_one (four n)) (by unfold maxLen; omega) (by omega) hs3 ?_; intro v4 w4 hown4 hg4 hat4; have hB4 : Below w1.heap.size w1 w4 := hg13.grown hg4 hs3 (own_ge hrow3); have hs4 := hB4.size; obtain ⟨g4, c4, rfl, hc4, hm4, hgb4, hh4⟩ := own_has hown4 (by omega); have q1 := hh4.cell (k := 1) rfl; have qf := hh4.free 1; have hown5 := own_store (k := 1) (x := .int .u8 1) hown4; have hB5 := Below.setCell hB4 (p := ⟨g4, 1, none⟩) hgb4 (.int .u8 1); have hs5 := hB5.size; have hL5 := hLp.below hB5)
      | (at_builtin; refine wpList_append_src _ rfl (.tmp 20) (.tmp 21) _ rfl w1.heap.size 5 i0 _ 1 Try.underlying22 hi0 hz0 hz1 hz2 rfl _ (2 + 4) _ rfl hown5 _ _ pn _ (p.map bv) rfl (by rw [List.length_map]; exact HPN.out) hL5 (bv_one p) (by unfold maxLen; omega) (by omega) hs5 ?_; intro v6 w6 hown6 hg6 hat6; have hB6 := hB5.grown hg6 hs5 (own_ge hown5)))
    refine (rsum_any A n c bs w6 HL.out (hr1.later hB6) (by omega)).mono ?_
    rintro e w7 ⟨A7, c7, rfl, hc7, hL7, hg7⟩
    have hown7 := own_later hown6 hg7
    have hB7 := Below.trans hB6 (hg7.mono hB6.size)
    have hs7 := hB7.size
    clear hown4 hown5 hown6 hg6 hat6 hB4 hB5 hB6 hs4 hs5 hL5 hrow3 hg4 hat4 hL3
    go_wp2_with (at_builtin; refine wpList_append_src _ rfl (.tmp 26) (.tmp 28) _ rfl w1.heap.size 5 i0 _ 1 Try.underlying22 hi0 hz0 hz1 hz2 rfl _ (2 + 4 + pn) _ rfl hown7 _ _ 4 _ ((four (crcOf bs)).map bv) rfl (by rw [List.length_map]; exact four_len _) hL7 (bv_one _) (by unfold maxLen; omega) (by omega) hs7 ?_; intro v8 w8 hown8 hg8 hat8)
    have hB8 := hB7.grown hg8 hs7 (own_ge hown7)
    go_ret
    refine ⟨_, rfl, ?_, Grows.trans hg1 hB8⟩
    rw [HS.out, HFL.out]
    have := own_base hown8 hg1.size
    have he : ([Value.int .u8 76, Value.int .u8 1] ++ (four n).map bv ++ p.map bv ++ (four (crcOf bs)).map bv) = (frameOf 1 n p (crcOf bs)).map bv := by unfold frameOf; simp
    rw [← he]
    exact this
  · have hlt' : ¬ ((pn : Int) < (n : Int)) := by omega
    have HS : Hid (sealOf bs = frameOf 0 n bs (crcOf bs)) := by show _ = _; unfold sealOf; rw [HP.out, HPN.out, HL.out, if_neg hlt]
    have HFL : Hid ((frameOf 0 n bs (crcOf bs)).length = 2 + 4 + n + 4) := by show _ = _; rw [frame_len, HL.out]; omega
    go_wp2_with (first
      | (at_builtin; refine wpList_append_src _ rfl (.tmp 8) (.tmp 11) _ rfl w1.heap.size 5 i0 _ 1 Try.underlying22 hi0 hz0 hz1 hz2 rfl _ 2 _ rfl hrow3 _ _ 4 _ ((four n).map bv) rfl (by rw [List.length_map]; exact four_len n) hL3 (bv_one (four n)) (by unfold maxLen; omega) (by omega) hs3 ?_; intro v4 w4 hown4 hg4 hat4; have hB4 : Below w1.heap.size w1 w4 := hg13.grown hg4 hs3 (own_ge hrow3); have hs4 := hB4.size; have hown5 := hown4; have hB5 := hB4; have hs5 := hB5.size; have hL5 := hr1.below hB5)
      | (at_builtin; refine wpList_append_src _ rfl (.tmp 23) (.tmp 24) _ rfl w1.heap.size 5 i0 _ 1 Try.underlying22 hi0 hz0 hz1 hz2 rfl _ (2 + 4) _ rfl hown5 _ _ n _ (bs.map bv) rfl (by rw [List.length_map]; exact HL.out) hL5 (bv_one bs) (by unfold maxLen; omega) (by omega) hs5 ?_; intro v6 w6 hown6 hg6 hat6; have hB6 := hB5.grown hg6 hs5 (own_ge hown5)))
    refine (rsum_any A n c bs w6 HL.out (hr1.later hB6) (by omega)).mono ?_
    rintro e w7 ⟨A7, c7, rfl, hc7, hL7, hg7⟩
    have hown7 := own_later hown6 hg7
    have hB7 := Below.trans hB6 (hg7.mono hB6.size)
    have hs7 := hB7.size
    clear hown4 hown5 hown6 hg6 hat6 hB4 hB5 hB6 hs4 hs5 hL5 hrow3 hg4 hat4 hL3
    go_wp2_with (at_builtin; refine wpList_append_src _ rfl (.tmp 26) (.tmp 28) _ rfl w1.heap.size 5 i0 _ 1 Try.underlying22 hi0 hz0 hz1 hz2 rfl _ (2 + 4 + n) _ rfl hown7 _ _ 4 _ ((four (crcOf bs)).map bv) rfl (by rw [List.length_map]; exact four_len _) hL7 (bv_one _) (by unfold maxLen; omega) (by omega) hs7 ?_; intro v8 w8 hown8 hg8 hat8)
    have hB8 := hB7.grown hg8 hs7 (own_ge hown7)
    go_ret
    refine ⟨_, rfl, ?_, Grows.trans hg1 hB8⟩
    rw [HS.out, HFL.out]
    have := own_base hown8 hg1.size
    have he : ([Value.int .u8 76, Value.int .u8 0] ++ (four n).map bv ++ bs.map bv ++ (four (crcOf bs)).map bv) = (frameOf 0 n bs (crcOf bs)).map bv := by unfold frameOf; simp
    rw [← he]
    exact this

theorem rseal_out (A : Option Addr) (n c : Nat) (bs : List UInt8) (w : World) (hl : bs.length = n) (hr : Lies w w.heap.size A (bs.map bv)) (hc : n ≤ c) (hn : n ≤ 1000000000) :
    Calls Try.prog 13 #[.slice A n c] w fun e w' => ∃ (f : List UInt8) (fn c' : Nat) (A' : Option Addr), Hid (sealOf bs = f) ∧ Hid (f.length = fn) ∧ 10 ≤ fn ∧ fn ≤ n + 10 ∧ e = .returned (.slice A' fn c') ∧ fn ≤ c' ∧ c' ≤ maxLen ∧ w'.ownsRow w.heap.size 5 1 (.slice A' fn c') fn (f.map bv) ∧ Lies w' w'.heap.size A' (f.map bv) ∧ Grows w w' := by
  refine (rseal_any A n c bs w hl hr hc hn).mono ?_
  rintro e w' ⟨v, rfl, hown, hg⟩
  have h1 := seal_len bs
  rw [hl] at h1
  obtain ⟨g, c', rfl, hc', hm, _, _⟩ := own_has hown (by omega)
  exact ⟨_, _, c', _, rfl, rfl, h1.2.1, h1.1, rfl, hc', hm, hown, Lies.of_own hown, hg⟩
end Go.Proofs.Ythnjbmaiebiehaa
