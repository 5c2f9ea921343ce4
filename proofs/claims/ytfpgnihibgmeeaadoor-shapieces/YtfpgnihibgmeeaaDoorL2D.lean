/-
  The walk of ShaClones. Condition: the table keys holds the document's numbers.
-/
import Derived.Test.YtfpgnihibgmeeaaDoorL2B
namespace Go.Proofs.YtfpgnihibgmeeaaDoor
open Go.RowKit
set_option linter.unusedVariables false

/-- A row of the call's own, made behind the state. -/
theorem own_off {w w' : World} {base b n c : Nat} {e : TypeId} {A : Option Addr} {vs : List Value} (h : w.ownsRow base e 1 (.slice A n c) n vs) (hb : b < base) : Off w b A vs := fun j u hu => by
  obtain ⟨ad, e, hlt, hc⟩ := Lies.of_own h j u hu
  refine ⟨ad, e, ?_, hc⟩
  rcases h.2 with ⟨e', h0⟩ | ⟨g, cap, cur, e', hg, _⟩
  · have h1 : vs.length = n * 1 := h.1
    have : j < vs.length := (List.getElem?_eq_some_iff.1 hu).1
    omega
  · injection e' with e'
    rw [e] at e'
    injection e' with e'
    rw [e']
    show g ≠ b
    omega

/-- append(Few(x), Few(y)...) -/
theorem own_but {w w' : World} {base b n : Nat} {e : TypeId} {v : Value} {vs : List Value} (h : w.ownsRow base e 1 v n vs) (hb : But b w w') (hlt : b < base) : w'.ownsRow base e 1 v n vs := by
  refine ⟨h.1, h.2.imp id ?_⟩
  rintro ⟨g, cap, cur, hv, hg, hh, rest⟩
  refine ⟨g, cap, cur, hv, hg, ?_, rest⟩
  have hl : g < w.heap.size := by
    rcases Nat.lt_or_ge g w.heap.size with hlt | hge
    · exact hlt
    · rw [Array.getElem?_eq_none hge] at hh; cases hh
  rw [hb.block g hl (fun e => by have := Option.some.inj e; omega)]
  exact hh

set_option maxRecDepth 100000 in
set_option maxHeartbeats 2000000 in
theorem clones_walk (A0 : Option Addr) (n0 c0 : Nat) (bs : List UInt8) (m : Int) (A2 : Option Addr) (n2 c2 : Nat) (xs : List UInt8) (A3 : Option Addr) (n3 c3 : Nat) (ys : List UInt8) (w : World) (hk : Keys w)
    (hl0 : bs.length = n0) (hr0 : Lies w w.heap.size A0 (bs.map bv)) (hc0 : n0 ≤ c0) (hm0 : c0 ≤ maxLen) (hi : -9223372036854775808 ≤ m ∧ m ≤ 9223372036854775807)
    (hl2 : xs.length = n2) (hr2 : Lies w w.heap.size A2 (xs.map bv)) (hc2 : n2 ≤ c2) (hm2 : c2 ≤ maxLen) (hl3 : ys.length = n3) (hr3 : Lies w w.heap.size A3 (ys.map bv)) (hc3 : n3 ≤ c3) (hm3 : c3 ≤ maxLen) :
    Calls Tryd.prog 5 #[.slice A0 n0 c0, .int .i64 m, .slice A2 n2 c2, .slice A3 n3 c3] w fun e w' => e = .returned (.bool true) ∧ Grows w w' := by
  obtain ⟨i0, hi0, hz0, hz1, hz2⟩ := info_parts byte_info
  have HL0 := Lib.hid hl0
  have HL2 := Lib.hid hl2
  have HL3 := Lib.hid hl3
  clear hl0 hl2 hl3
  go_enter Tryd.func5, Tryd.ntmps5
  go_wp2_with fail
  refine (around_any m 131 _ hi (by omega)).mono ?_
  rintro e w' ⟨rfl, rfl⟩
  have hk5 := around_lt m (m := 131) (by omega)
  generalize around m 131 = k at *
  go_wp2_with fail
  refine (fill_any A0 n0 c0 k bs w HL0.out hr0 (Nat.le_trans hc0 hm0) (by omega)).mono ?_
  rintro e w1 ⟨own, A1, c1, hlf, rfl, hc1, hm1, hL1, hg1⟩
  have HLF := Lib.hid hlf
  clear hlf hr0
  have hk1 := hk.later hg1
  go_wp2_with fail
  refine (new_any w1).mono ?_
  rintro e w2 ⟨rfl, hh2, hg2⟩
  have hk2 := hk1.later hg2
  have hpos := hk.pos
  have hbs : w.heap.size ≤ w1.heap.size := hg1.size
  have hof2 : Off w2 w1.heap.size A1 (own.map bv) := fun j u hu => by
    obtain ⟨ad, e, hlt, hc⟩ := hL1 j u hu
    exact ⟨ad, e, by omega, hcell_later hc hg2⟩
  have hL2 : Lies w2 w1.heap.size A1 (own.map bv) := hL1.below hg2
  have hs2 : w1.heap.size < w2.heap.size := by obtain ⟨_, h, _⟩ := hh2; exact h.has.lt
  have hg02 := Grows.trans hg1 hg2
  generalize w1.heap.size = bs1 at *
  have hb1 : 0 < bs1 := by omega
  clear hL1 hg1 hg2 hk1
  go_wp2_with fail
  refine (write_any bs1 [] A1 k c1 own w2 hk2 hb1 hh2 HLF.out hof2 (by simp; omega)).mono ?_
  rintro e w3 ⟨rfl, hh3, hb3⟩
  rw [List.nil_append] at hh3
  have hk3 := hk2.but hb3 hb1
  have hL3 : Lies w3 bs1 A1 (own.map bv) := hL2.but hb3
  have hg03 : Grows w w3 := hg02.grown hb3 hg02.size (fun g hg => by have := Option.some.inj hg; omega)
  have hs3 : bs1 < w3.heap.size := Nat.lt_of_lt_of_le hs2 hb3.size
  clear hh2 hk2 hof2 hL2 hb3 hg02 hs2
  go_wp2_with fail
  refine (clone_any bs1 own w3 hh3).mono ?_
  rintro e w4 ⟨rfl, hc4, hg4⟩
  have hk4 := hk3.later hg4
  have hs4 := hh3.later hg4
  have hL4 := hL3.below (B := bs1) (w' := w4) (hg4.mono (Nat.le_of_lt hs3))
  have hg04 := Grows.trans hg03 hg4
  have hcl : w3.heap.size < w4.heap.size := by obtain ⟨_, h, _⟩ := hc4; exact h.has.lt
  generalize w3.heap.size = bc at *
  have hbc : 0 < bc := by omega
  clear hh3 hk3 hL3 hg03 hg4
  go_wp2_with fail
  refine (few_bytes A2 n2 c2 70 xs w4 HL2.out (hr2.later hg04) hc2 (by omega) hm2).mono ?_
  rintro e w5 ⟨A5, c5, rfl, hc5, hown5, hL5, hg5⟩
  have HL5 : Hid ((xs.take 70).length = min n2 70) := by show _ = _; rw [List.length_take, HL2.out, Nat.min_comm]
  have hmin5 : min n2 70 ≤ 70 := Nat.min_le_right _ _
  have HN5 := Lib.hid (show min n2 70 = min n2 70 from rfl)
  generalize min n2 70 = n5 at HL5 hmin5 hc5 hown5 ⊢
  have hof5 : Off w5 bs1 A5 ((xs.take 70).map bv) := own_off (w' := w5) hown5 (by omega)
  have hk5' := hk4.later hg5
  have hs5 := hs4.later hg5
  have hc5' := hc4.later hg5
  have hL5' := hL4.below (B := bs1) (w' := w5) (hg5.mono (by omega))
  have hg05 := Grows.trans hg04 hg5
  have hsz5 := hg5.size
  clear hown5 hL5 hk4 hs4 hc4 hL4 hg5 hg04
  go_wp2_with fail
  refine (write_any bs1 own A5 n5 c5 (xs.take 70) w5 hk5' hb1 hs5 HL5.out hof5 (by rw [HLF.out]; omega)).mono ?_
  rintro e w6 ⟨rfl, hs6, hb6⟩
  have hk6 := hk5'.but hb6 hb1
  have hc6 := hc5'.but hb6 (by omega)
  have hL6 : Lies w6 bs1 A1 (own.map bv) := hL5'.but hb6
  have hg06 : Grows w w6 := hg05.grown hb6 hg05.size (fun g hg => by have := Option.some.inj hg; omega)
  have hsz6 := hb6.size
  clear hk5' hs5 hc5' hL5' hg05 hb6 hof5
  go_wp2_with fail
  refine (few_bytes A3 n3 c3 70 ys w6 HL3.out (hr3.later hg06) hc3 (by omega) hm3).mono ?_
  rintro e w7 ⟨A7, c7, rfl, hc7, hown7, hL7, hg7⟩
  have HL7 : Hid ((ys.take 70).length = min n3 70) := by show _ = _; rw [List.length_take, HL3.out, Nat.min_comm]
  have hmin7 : min n3 70 ≤ 70 := Nat.min_le_right _ _
  generalize min n3 70 = n7 at HL7 hmin7 hc7 hown7 ⊢
  have hof7 : Off w7 bc A7 ((ys.take 70).map bv) := own_off (w' := w7) hown7 (by omega)
  have hk7 := hk6.later hg7
  have hs7 := hs6.later hg7
  have hc7' := hc6.later hg7
  have hL7' := hL6.below (B := bs1) (w' := w7) (hg7.mono (by omega))
  have hg07 := Grows.trans hg06 hg7
  clear hown7 hL7 hk6 hs6 hc6 hL6 hg7 hg06
  go_wp2_with fail
  refine (write_any bc own A7 n7 c7 (ys.take 70) w7 hk7 hbc hc7' HL7.out hof7 (by rw [HLF.out]; omega)).mono ?_
  rintro e w8 ⟨rfl, hc8, hb8⟩
  have hk8 := hk7.but hb8 hbc
  have hs8 := hs7.but hb8 (by omega)
  have hL8 : Lies w8 w8.heap.size A1 (own.map bv) := by
    have h1 : Lies w8 bs1 A1 (own.map bv) := fun j u hu => by
      obtain ⟨ad, e, hlt, hc⟩ := hL7' j u hu
      exact ⟨ad, e, hlt, hb8.cell hc (fun e => by rw [add_block] at e; have := Option.some.inj e; omega)⟩
    exact h1.mono (by obtain ⟨_, h, _⟩ := hs8; exact Nat.le_of_lt h.has.lt)
  have hg08 : Grows w w8 := hg07.grown hb8 hg07.size (fun g hg => by have := Option.some.inj hg; omega)
  clear hk7 hs7 hc7' hL7' hg07 hb8 hof7
  -- one
  go_wp2_with fail
  refine (few_bytes A1 k c1 200 own w8 HLF.out hL8 hc1 (by omega) hm1).mono ?_
  rw [Nat.min_eq_left (by omega), List.take_of_length_le (by rw [HLF.out]; omega)]
  rintro e w9 ⟨A9, c9, rfl, hc9, hown9, hL9, hg9⟩
  have hg09 := Grows.trans hg08 hg9
  go_wp2_with fail
  refine (few_bytes A2 n2 c2 70 xs w9 HL2.out (hr2.later hg09) hc2 (by omega) hm2).mono ?_
  rintro e w10 ⟨A10, c10, rfl, hc10, hown10, hL10, hg10⟩
  have HL10 : Hid ((xs.take 70).length = min n2 70) := by show _ = _; rw [List.length_take, HL2.out, Nat.min_comm]
  have hmin10 : min n2 70 ≤ 70 := Nat.min_le_right _ _
  generalize min n2 70 = n10 at HL10 hmin10 hc10 hown10 ⊢
  have hownD := own_later hown9 hg10
  have hg8_10 := Grows.trans hg9 hg10
  clear hown10 hL9 hown9 hg09 hg9 hg10
  go_wp2_with (at_builtin; (refine wpList_append_src _ rfl (.tmp 37) (.tmp 39) _ rfl w8.heap.size 5 i0 _ 1 Tryd.underlying22 hi0 hz0 hz1 hz2 rfl (.slice A9 k c9) k _ rfl hownD _ A10 n10 c10 ((xs.take 70).map bv) rfl (by rw [List.length_map]; exact HL10.out) hL10 (bv_one _) (by unfold maxLen; omega) (by omega) hg8_10.size ?_; intro v11 w11 hown11 hg11 hat11))
  have hg8_11 : Grows w8 w11 := hg8_10.grown hg11 hg8_10.size (own_ge hownD)
  rw [← List.map_append] at hown11
  obtain ⟨A11, c11, rfl, hc11⟩ := own_form hown11
  have hL11 := Lies.of_own hown11
  have HL11 : Hid ((own ++ xs.take 70).length = k + n10) := by show _ = _; rw [List.length_append, HLF.out, HL10.out]
  clear hownD hg11 hat11 hown11 hL10 hg8_10
  -- two
  have hL8' := hL8.later hg8_11
  have hg0_11 := Grows.trans hg08 hg8_11
  refine (few_bytes A1 k c1 200 own w11 HLF.out hL8' hc1 (by omega) hm1).mono ?_
  rw [Nat.min_eq_left (by omega), List.take_of_length_le (by rw [HLF.out]; omega)]
  rintro e w12 ⟨A12, c12, rfl, hc12, hown12, hL12, hg12⟩
  have hg0_12 := Grows.trans hg0_11 hg12
  go_wp2_with fail
  refine (few_bytes A3 n3 c3 70 ys w12 HL3.out (hr3.later hg0_12) hc3 (by omega) hm3).mono ?_
  rintro e w13 ⟨A13, c13, rfl, hc13, hown13, hL13, hg13⟩
  have HL13 : Hid ((ys.take 70).length = min n3 70) := by show _ = _; rw [List.length_take, HL3.out, Nat.min_comm]
  have hmin13 : min n3 70 ≤ 70 := Nat.min_le_right _ _
  generalize min n3 70 = n13 at HL13 hmin13 hc13 hown13 ⊢
  have hownD := own_later hown12 hg13
  have hg11_13 := Grows.trans hg12 hg13
  clear hown13 hL12 hown12 hg0_12 hg12 hg13 hL8'
  go_wp2_with (at_builtin; (refine wpList_append_src _ rfl (.tmp 42) (.tmp 44) _ rfl w11.heap.size 5 i0 _ 1 Tryd.underlying22 hi0 hz0 hz1 hz2 rfl (.slice A12 k c12) k _ rfl hownD _ A13 n13 c13 ((ys.take 70).map bv) rfl (by rw [List.length_map]; exact HL13.out) hL13 (bv_one _) (by unfold maxLen; omega) (by omega) hg11_13.size ?_; intro v14 w14 hown14 hg14 hat14))
  have hg11_14 : Grows w11 w14 := hg11_13.grown hg14 hg11_13.size (own_ge hownD)
  rw [← List.map_append] at hown14
  obtain ⟨A14, c14, rfl, hc14⟩ := own_form hown14
  have hL14 := Lies.of_own hown14
  have HL14 : Hid ((own ++ ys.take 70).length = k + n13) := by show _ = _; rw [List.length_append, HLF.out, HL13.out]
  clear hownD hg14 hat14 hown14 hL13 hg11_13
  have hL11' := hL11.later hg11_14
  have hg8_14 := Grows.trans hg8_11 hg11_14
  have hs14 := hs8.later hg8_14
  have hc14' := hc8.later hg8_14
  have hk14 := hk8.later hg8_14
  have hg0_14 := Grows.trans hg08 hg8_14
  clear hs8 hc8 hk8 hg08 hg8_11 hg11_14 hL8 hL11 hg0_11 hg8_14 hr2 hr3
  refine (ssum_any bs1 (own ++ xs.take 70) w14 hk14 hs14 (by rw [HL11.out]; omega)).mono ?_
  rintro e w15 ⟨rfl, hg15⟩
  go_wp2_with fail
  refine (rsum_any A11 (k + n10) c11 (own ++ xs.take 70) w15 HL11.out (hL11'.later hg15) (by omega)).mono ?_
  rintro e w16 ⟨rfl, hg16⟩
  have q1 := same_dig (own ++ xs.take 70)
  have hg14_16 := Grows.trans hg15 hg16
  have hk16 := hk14.later hg14_16
  have hs16 := hs14.later hg14_16
  have hc16 := hc14'.later hg14_16
  have hL16 := hL14.later hg14_16
  clear hL11' hL14 hk14 hs14 hc14' hg15 hg16
  go_wp2_with fail
  refine (ssum_any bc (own ++ ys.take 70) w16 hk16 hc16 (by rw [HL14.out]; omega)).mono ?_
  rintro e w17 ⟨rfl, hg17⟩
  go_wp2_with fail
  refine (rsum_any A14 (k + n13) c14 (own ++ ys.take 70) w17 HL14.out (hL16.later hg17) (by omega)).mono ?_
  rintro e w18 ⟨rfl, hg18⟩
  have q2 := same_dig (own ++ ys.take 70)
  have hg16_18 := Grows.trans hg17 hg18
  have hk18 := hk16.later hg16_18
  have hs18 := hs16.later hg16_18
  have hc18 := hc16.later hg16_18
  clear hL16 hk16 hs16 hc16 hg17 hg18
  go_wp2_with fail
  refine (len_any bs1 (own ++ xs.take 70) w18 hs18).mono ?_
  rw [HL11.out]
  rintro e w' ⟨rfl, rfl⟩
  go_wp2_with fail
  refine (len_any bc (own ++ ys.take 70) w18 hc18).mono ?_
  rw [HL14.out]
  rintro e w' ⟨rfl, rfl⟩
  go_wp2_with fail
  refine (lives_any w18 hk18).mono ?_
  rintro e w19 ⟨rfl, hg19⟩
  go_wp2_with fail
  go_ret
  exact ⟨rfl, Grows.trans hg0_14 (Grows.trans hg14_16 (Grows.trans hg16_18 hg19))⟩
end Go.Proofs.YtfpgnihibgmeeaaDoor
