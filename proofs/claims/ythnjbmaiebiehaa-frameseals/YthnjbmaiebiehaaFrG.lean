/-
  Contract of frame's Seal.
-/
import Derived.Test.YthnjbmaiebiehaaFrA
import Derived.Test.YthnjbmaiebiehaaFrM
namespace Go.Proofs.Ythnjbmaiebiehaa
open Go.RowKit
set_option linter.unusedVariables false

set_option maxRecDepth 20000 in
set_option maxHeartbeats 4000000 in
theorem seal_any (A : Option Addr) (n c : Nat) (bs : List UInt8) (w : World) (hl : bs.length = n) (hr : Lies w w.heap.size A (bs.map bv)) (hc : n ≤ c) (hn : n ≤ 1000000000) :
    Calls Try.prog 10 #[.slice A n c] w fun e w' => ∃ v, e = .returned v ∧ w'.ownsRow w.heap.size 5 1 v (sealOf bs).length ((sealOf bs).map bv) ∧ Grows w w' := by
  obtain ⟨i0, hi0, hz0, hz1, hz2⟩ := info_parts byte_info
  have HL := Lib.hid hl
  have hC := crcOf_lt bs
  have hwn : IntKind.u32.wrap (n : Int) = (n : Int) := by unfold IntKind.wrap; simp [IntKind.signed, IntKind.bits]; omega
  go_enter Try.func10, Try.ntmps10
  go_wp2_with fail
  refine (pack_out A n c bs w hl hr hc hn).mono ?_
  rintro e w1 ⟨p, pn, cp, Ap, HP, HPN, hpn, rfl, hcp, hLp, hg1⟩
  have hr1 := hr.later hg1
  have hpn2 : pn ≤ 2000000001 := by omega
  clear hr hl hpn
  by_cases hlt : pn < n
  · have hlt' : (pn : Int) < (n : Int) := by omega
    have HS : Hid (sealOf bs = frameOf 1 n p (crcOf bs)) := by show _ = _; unfold sealOf; rw [HP.out, HPN.out, HL.out, if_pos hlt]
    have HFL : Hid ((frameOf 1 n p (crcOf bs)).length = 2 + 4 + pn + 4) := by show _ = _; rw [frame_len, HPN.out]; omega
    have hnew := fun u : World => Lies.new u 5 [.int .u8 76, .int .u8 1]
    have hkn : pn ≤ 2000000001 := by omega
    go_wp2_with (first
      | (at_make; refine wpList_make_room _ rfl _ _ _ rfl w1.heap.size 5 i0 _ Try.underlying22 hi0 hz0 hz1 rfl .i64 .i64 _ _ 0 (10 + pn) rfl rfl (by omega) (by omega) (by omega) (by rw [hz2]; omega) (by unfold maxLen; omega) (Nat.le_refl _) ?_; intro w2 hown2 hg2 hsz2; clear hsz2)
      | (at_builtin; (refine wpList_append_src _ rfl (.tmp 20) (.tmp 22) _ rfl w1.heap.size 5 i0 _ 1 Try.underlying22 hi0 hz0 hz1 hz2 rfl _ 0 _ rfl (hown2.alloc _) _ _ 2 2 [.int .u8 76, .int .u8 1] rfl rfl (hnew _) (by simp [Value.oneCell']) (by unfold maxLen; omega) (by omega) (by rw [World.size_alloc]; have := hg2.size; omega) ?_; intro v3 w3 hown3 hg3 hat3)))
    have hB3 : Below w1.heap.size w1 w3 := (Below.alloc hg2 (by have := hg2.size; omega) _).grown hg3 (by rw [World.size_alloc]; have := hg2.size; omega) (own_ge hown2)
    rw [show List.replicate 0 (Value.int IntKind.u8 0) ++ [Value.int IntKind.u8 76, Value.int IntKind.u8 1] = ([76, 1] : List UInt8).map bv from rfl] at hown3
    clear hown2 hg2 hg3 hat3 hnew
    refine (putnum_any v3 w1.heap.size (0 + 2) [76, 1] n w3 (by omega) hown3 hB3.size (by omega)).mono ?_
    rintro e w4 ⟨v4, rfl, hown4, hB4⟩
    have hB14 := hB3.trans hB4
    have hLk := (hLp).below hB14
    have hszk := hB14.size
    clear hown3 hB3 hB4
    go_wp2_with (at_builtin; refine wpList_append_src _ rfl (.tmp 29) (.tmp 30) _ rfl w1.heap.size 5 i0 _ 1 Try.underlying22 hi0 hz0 hz1 hz2 rfl _ (0 + 2 + 4) _ rfl hown4 _ _ pn _ (p.map bv) rfl (by rw [List.length_map]; exact HPN.out) hLk (bv_one p) (by unfold maxLen; omega) (by omega) hszk ?_; intro v5 w5 hown5 hg5 hat5)
    have hB15 : Below w1.heap.size w1 w5 := hB14.grown hg5 hszk (own_ge hown4)
    rw [← List.map_append] at hown5
    clear hown4 hg5 hat5 hLk hB14 hszk
    refine (crcsum_any A n c bs w5 HL.out (hr1.later hB15) (by omega)).mono ?_
    rintro e w6 ⟨rfl, hg6⟩
    have hown6 := own_later hown5 hg6
    have hB16 := Below.trans hB15 (hg6.mono hB15.size)
    clear hown5 hB15 hg6
    generalize hsx : crcOf bs = s at *
    have HSX := Lib.hid hsx
    clear hsx
    go_wp2_with fail
    refine (putnum_any v5 w1.heap.size (0 + 2 + 4 + pn) _ s w6 hC hown6 hB16.size (by omega)).mono ?_
    rintro e w7 ⟨v7, rfl, hown7, hB7⟩
    have hB17 := hB16.trans hB7
    go_wp2_with fail
    go_ret
    refine ⟨_, rfl, ?_, Grows.trans hg1 hB17⟩
    rw [HS.out, HFL.out]
    have := own_base hown7 hg1.size
    rw [Nat.zero_add] at this
    exact this
  · have hlt' : ¬ ((pn : Int) < (n : Int)) := by omega
    have HS : Hid (sealOf bs = frameOf 0 n bs (crcOf bs)) := by show _ = _; unfold sealOf; rw [HP.out, HPN.out, HL.out, if_neg hlt]
    have HFL : Hid ((frameOf 0 n bs (crcOf bs)).length = 2 + 4 + n + 4) := by show _ = _; rw [frame_len, HL.out]; omega
    have hnew := fun u : World => Lies.new u 5 [.int .u8 76, .int .u8 0]
    have hkn : n ≤ 2000000001 := by omega
    go_wp2_with (first
      | (at_make; refine wpList_make_room _ rfl _ _ _ rfl w1.heap.size 5 i0 _ Try.underlying22 hi0 hz0 hz1 rfl .i64 .i64 _ _ 0 (10 + n) rfl rfl (by omega) (by omega) (by omega) (by rw [hz2]; omega) (by unfold maxLen; omega) (Nat.le_refl _) ?_; intro w2 hown2 hg2 hsz2; clear hsz2)
      | (at_builtin; (refine wpList_append_src _ rfl (.tmp 20) (.tmp 22) _ rfl w1.heap.size 5 i0 _ 1 Try.underlying22 hi0 hz0 hz1 hz2 rfl _ 0 _ rfl (hown2.alloc _) _ _ 2 2 [.int .u8 76, .int .u8 0] rfl rfl (hnew _) (by simp [Value.oneCell']) (by unfold maxLen; omega) (by omega) (by rw [World.size_alloc]; have := hg2.size; omega) ?_; intro v3 w3 hown3 hg3 hat3)))
    have hB3 : Below w1.heap.size w1 w3 := (Below.alloc hg2 (by have := hg2.size; omega) _).grown hg3 (by rw [World.size_alloc]; have := hg2.size; omega) (own_ge hown2)
    rw [show List.replicate 0 (Value.int IntKind.u8 0) ++ [Value.int IntKind.u8 76, Value.int IntKind.u8 0] = ([76, 0] : List UInt8).map bv from rfl] at hown3
    clear hown2 hg2 hg3 hat3 hnew
    refine (putnum_any v3 w1.heap.size (0 + 2) [76, 0] n w3 (by omega) hown3 hB3.size (by omega)).mono ?_
    rintro e w4 ⟨v4, rfl, hown4, hB4⟩
    have hB14 := hB3.trans hB4
    have hLk := (hr1).below hB14
    have hszk := hB14.size
    clear hown3 hB3 hB4
    go_wp2_with (at_builtin; refine wpList_append_src _ rfl (.tmp 29) (.tmp 30) _ rfl w1.heap.size 5 i0 _ 1 Try.underlying22 hi0 hz0 hz1 hz2 rfl _ (0 + 2 + 4) _ rfl hown4 _ _ n _ (bs.map bv) rfl (by rw [List.length_map]; exact HL.out) hLk (bv_one bs) (by unfold maxLen; omega) (by omega) hszk ?_; intro v5 w5 hown5 hg5 hat5)
    have hB15 : Below w1.heap.size w1 w5 := hB14.grown hg5 hszk (own_ge hown4)
    rw [← List.map_append] at hown5
    clear hown4 hg5 hat5 hLk hB14 hszk
    refine (crcsum_any A n c bs w5 HL.out (hr1.later hB15) (by omega)).mono ?_
    rintro e w6 ⟨rfl, hg6⟩
    have hown6 := own_later hown5 hg6
    have hB16 := Below.trans hB15 (hg6.mono hB15.size)
    clear hown5 hB15 hg6
    generalize hsx : crcOf bs = s at *
    have HSX := Lib.hid hsx
    clear hsx
    go_wp2_with fail
    refine (putnum_any v5 w1.heap.size (0 + 2 + 4 + n) _ s w6 hC hown6 hB16.size (by omega)).mono ?_
    rintro e w7 ⟨v7, rfl, hown7, hB7⟩
    have hB17 := hB16.trans hB7
    go_wp2_with fail
    go_ret
    refine ⟨_, rfl, ?_, Grows.trans hg1 hB17⟩
    rw [HS.out, HFL.out]
    have := own_base hown7 hg1.size
    rw [Nat.zero_add] at this
    exact this
theorem seal_out (A : Option Addr) (n c : Nat) (bs : List UInt8) (w : World) (hl : bs.length = n) (hr : Lies w w.heap.size A (bs.map bv)) (hc : n ≤ c) (hn : n ≤ 1000000000) :
    Calls Try.prog 10 #[.slice A n c] w fun e w' => ∃ (f : List UInt8) (fn c' : Nat) (A' : Option Addr), Hid (sealOf bs = f) ∧ Hid (f.length = fn) ∧ 10 ≤ fn ∧ fn ≤ n + 10 ∧ e = .returned (.slice A' fn c') ∧ fn ≤ c' ∧ w'.ownsRow w.heap.size 5 1 (.slice A' fn c') fn (f.map bv) ∧ Lies w' w'.heap.size A' (f.map bv) ∧ Grows w w' := by
  refine (seal_any A n c bs w hl hr hc hn).mono ?_
  rintro e w' ⟨v, rfl, hown, hg⟩
  obtain ⟨A', c', rfl, hc'⟩ := own_form hown
  have h1 := seal_len bs
  rw [hl] at h1
  exact ⟨_, _, c', A', rfl, rfl, h1.2.1, h1.1, rfl, hc', hown, Lies.of_own hown, hg⟩
end Go.Proofs.Ythnjbmaiebiehaa
