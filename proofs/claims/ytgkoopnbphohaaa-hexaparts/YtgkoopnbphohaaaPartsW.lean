/-
  The walk of the law HexaParts: the law returns true, and nothing that was there has turned.
-/
import Derived.Test.YtgkoopnbphohaaaHex
namespace Go.Proofs.Ytgkoopnbphohaaa
open Go.RowKit
set_option linter.unusedVariables false

set_option maxHeartbeats 400000 in
theorem parts_walk (a0 a1 : Option Addr) (len0 cap0 len1 cap1 : Nat) (bs0 bs1 : List UInt8) (w : World) (hl0 : bs0.length = len0) (hl1 : bs1.length = len1)
    (hr0 : Lies w w.heap.size a0 (bs0.map bv)) (hr1 : Lies w w.heap.size a1 (bs1.map bv)) (hc0 : len0 ≤ cap0) (hc1 : len1 ≤ cap1) (hm0 : cap0 ≤ maxLen) (hm1 : cap1 ≤ maxLen) :
    Calls Try.prog 7 #[.slice a0 len0 cap0, .slice a1 len1 cap1] w fun e w' => e = .returned (.bool true) ∧ Below w.heap.size w w' := by
  obtain ⟨i0, hi0, hz0, hz1, hz2⟩ := info_parts byte_info
  have HL0 := Lib.hid hl0
  have HL1 := Lib.hid hl1
  clear hl0 hl1
  go_enter Try.func7, Try.ntmps7
  go_wp2_with fail
  refine (few_bytes a0 len0 cap0 20 bs0 w HL0.out hr0 hc0 (by omega) hm0).mono ?_
  rintro e w1 ⟨A1, c1, rfl, hk1, hown1, hL1, hb1⟩
  go_wp2_with fail
  refine (few_bytes a1 len1 cap1 20 bs1 w1 HL1.out ((hr1.below hb1).mono hb1.size) hc1 (by omega) hm1).mono ?_
  rintro e w2 ⟨A2, c2, rfl, hk2, hown2, hL2, hb2⟩
  have hb02 := hb1.trans (hb2.mono hb1.size)
  go_wp2_with fail
  refine (few_bytes a0 len0 cap0 20 bs0 w2 HL0.out ((hr0.below hb02).mono hb02.size) hc0 (by omega) hm0).mono ?_
  rintro e w3 ⟨A3, c3, rfl, hk3, hown3, hL3, hb3⟩
  have hb03 := hb02.trans (hb3.mono hb02.size)
  have hn0 : min len0 20 ≤ 20 := Nat.min_le_right _ _
  have hn1 : min len1 20 ≤ 20 := Nat.min_le_right _ _
  have e0 : (bs0.take 20).length = min len0 20 := by rw [List.length_take, HL0.out]; omega
  have e1 : (bs1.take 20).length = min len1 20 := by rw [List.length_take, HL1.out]; omega
  have hL1' : Lies w3 w2.heap.size A1 ((bs0.take 20).map bv) := (hL1.below hb2).mono hb2.size |>.below hb3
  have hL2' : Lies w3 w2.heap.size A2 ((bs1.take 20).map bv) := hL2.below hb3
  have E0 := Lib.hid e0
  have E1 := Lib.hid e1
  clear e0 e1 hown1 hown2 hL1 hL2 hL3 HL0 HL1
  generalize bs0.take 20 = x at *
  generalize bs1.take 20 = y at *
  generalize min len0 20 = n0 at *
  generalize min len1 20 = n1 at *
  go_wp2_with (at_builtin; refine wpList_append_src _ rfl (.tmp 13) (.tmp 14) _ rfl w2.heap.size 5 i0 _ 1 Try.underlying22 hi0 hz0 hz1 hz2 rfl (.slice A3 n0 c3) n0 _ rfl hown3 w2.heap.size A2 n1 c2 (y.map bv) rfl (by rw [List.length_map]; exact E1.out) hL2' (bv_one y) (by unfold maxLen; omega) (by omega) hb3.size ?_; intro v4 w4 hown4 hg4 hat4)
  have hb34 : Below w2.heap.size w3 w4 := (Below.refl _ _).grown hg4 hb3.size (own_ge hown3)
  have hb04 : Below w.heap.size w w4 := hb03.trans (hb34.mono hb02.size)
  have h24 : w2.heap.size ≤ w4.heap.size := Nat.le_trans hb3.size hb34.size
  have hL1'' := (hL1'.below hb34).mono h24
  have hL2'' := (hL2'.below hb34).mono h24
  clear hL1' hL2' hown3 hg4 hat4 hb3 hb34 h24 hb03 hb02 hb1 hb2 hr0 hr1
  rw [← List.map_append] at hown4
  obtain ⟨A4, c4, rfl, hk4⟩ := own_form hown4
  have hL4 := Lies.of_own hown4
  clear hown4
  have hxy : (x ++ y).length = n0 + n1 := by rw [List.length_append, E0.out, E1.out]
  have EXY := Lib.hid hxy
  clear hxy
  have hx2 : (hexOf x).length = 2 * n0 := by rw [hexOf_length, E0.out]
  have hy2 : (hexOf y).length = 2 * n1 := by rw [hexOf_length, E1.out]
  have hcat := run_cat (P := Try.prog) (hexOf x) (hexOf y) (by omega)
  have ht := text_any A4 (n0 + n1) c4 (x ++ y) w4 EXY.out hL4 (by omega)
  rw [hexOf_append] at ht
  have HX := Lib.hid hx2
  have HY := Lib.hid hy2
  have hxy2 : ((hexOf x).length : Int) + ((hexOf y).length : Int) = 2 * ((n0 : Int) + (n1 : Int)) := by omega
  clear hx2 hy2
  refine ht.mono ?_
  rintro e w5 ⟨rfl, hb5⟩
  clear ht
  go_wp2_with fail
  refine (text_any A1 n0 c1 x w5 E0.out ((hL1''.below hb5).mono hb5.size) (by omega)).mono ?_
  rintro e w6 ⟨rfl, hb6⟩
  have hb46 := hb5.trans (hb6.mono hb5.size)
  go_wp2_with fail
  refine (text_any A2 n1 c2 y w6 E1.out ((hL2''.below hb46).mono hb46.size) (by omega)).mono ?_
  rintro e w7 ⟨rfl, hb7⟩
  have hb47 := hb46.trans (hb7.mono hb46.size)
  go_wp2_with fail
  have ht := text_any A4 (n0 + n1) c4 (x ++ y) w7 EXY.out ((hL4.below hb47).mono hb47.size) (by omega)
  rw [hexOf_append] at ht
  refine ht.mono ?_
  rintro e w8 ⟨rfl, hb8⟩
  clear ht
  have hb48 := hb47.trans (hb8.mono hb47.size)
  go_wp2_with fail
  refine (lives_any w8).mono ?_
  rintro e w9 ⟨rfl, hb9⟩
  have hb49 := hb48.trans (hb9.mono hb48.size)
  go_wp2_with fail
  go_ret
  exact ⟨rfl, hb04.trans (hb49.mono hb04.size)⟩
end Go.Proofs.Ytgkoopnbphohaaa
