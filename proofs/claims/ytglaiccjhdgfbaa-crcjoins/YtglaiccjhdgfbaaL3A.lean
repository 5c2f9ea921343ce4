/-
  The walks of the laws of layer 3: the example (lives), CrcSums, CrcJoins, CrcChains.
-/
import Derived.Test.YtglaiccjhdgfbaaCrcB
import Derived.Test.YtglaiccjhdgfbaaRFew
import Derived.Lib.SlBytesConst
import Derived.Lib.SmallJoins
namespace Go.Proofs.Ytglaiccjhdgfbaa
open Go.RowKit
set_option linter.unusedVariables false

theorem ret_true {a : Bool} (h : a = true) : Ending.returned (.bool a) = .returned (.bool true) := by rw [h]
def nine : List UInt8 := [49, 50, 51, 52, 53, 54, 55, 56, 57]

set_option maxRecDepth 100000 in
set_option maxHeartbeats 1000000 in
theorem lives3_any (w : World) : Calls Try.prog 13 #[] w fun e w' => e = .returned (.bool true) ∧ Grows w w' := by
  have hg0 := grows_alloc w (.cells (nine.map bv).toArray 5 (9, 10))
  have hL0 : Lies (w.alloc (.cells (nine.map bv).toArray 5 (9, 10))) (w.alloc (.cells (nine.map bv).toArray 5 (9, 10))).heap.size (some ⟨w.heap.size, 0, none⟩) (nine.map bv) := fun j u hu =>
    ⟨_, rfl, by rw [World.size_alloc]; exact Nat.lt_succ_self _, by rw [add_plain, Nat.zero_add, Joins.cell_alloc_mark_at w _ _ _ _ _ rfl]; simpa using hu⟩
  have HN : Hid (crcOf nine = 3808858755) := crc_nine
  have hl9 : nine.length = 9 := rfl
  have hcv := Lib.run_convert_bytes_const (P := Try.prog) w 22 5 #[.int .u8 49, .int .u8 50, .int .u8 51, .int .u8 52, .int .u8 53, .int .u8 54, .int .u8 55, .int .u8 56, .int .u8 57] 9 9 Try.underlying22 Try.underlying5
  go_enter Try.func13, Try.ntmps13
  go_wp2_with fail
  change Calls _ _ _ (w.alloc (.cells (nine.map bv).toArray 5 (9, 10))) _
  clear hcv
  generalize w.alloc (.cells (nine.map bv).toArray 5 (9, 10)) = w0 at *
  have HL := Lib.hid hl9
  clear hl9
  generalize nine = tx at *
  refine (crcsum_any _ 9 9 tx w0 HL.out hL0 (by omega)).mono ?_
  rw [HN.out]
  rintro e w1 ⟨rfl, hg1⟩
  go_wp2_with fail
  go_ret
  exact ⟨rfl, Grows.trans hg0 hg1⟩

/-- The contracts, with the number that they answer under a letter. -/
theorem sum_is (A : Option Addr) (n c : Nat) {s : Nat} {l : List UInt8} (hx : Hid (crcOf l = s)) (w : World) (hl : l.length = n) (hr : Lies w w.heap.size A (l.map bv)) (hn : n ≤ 1000000000000) :
    Calls Try.prog 10 #[.slice A n c] w fun e w' => e = .returned (uv s) ∧ Grows w w' := by
  have h := hx.out
  subst h
  exact crcsum_any A n c l w hl hr hn

set_option maxHeartbeats 1000000 in
theorem crcsums_walk (A : Option Addr) (n c : Nat) (bs : List UInt8) (s : Nat) (w : World) (hl : bs.length = n) (hr : Lies w w.heap.size A (bs.map bv)) (hc : n ≤ c) (hm : c ≤ maxLen) (hs : s < 4294967296) :
    Calls Try.prog 3 #[.slice A n c, uv s] w fun e w' => e = .returned (.bool true) ∧ Grows w w' := by
  have HL := Lib.hid hl
  clear hl
  go_enter Try.func3, Try.ntmps3
  go_wp2_with fail
  refine (few_bytes A n c 60 bs w HL.out hr hc (by omega) hm).mono ?_
  rintro e w1 ⟨A1, c1, rfl, hc1, hown1, hL1, hg1⟩
  have HL1 : Hid ((bs.take 60).length = min n 60) := by show _ = _; rw [List.length_take, HL.out, Nat.min_comm]
  have hmin : min n 60 ≤ 60 := Nat.min_le_right _ _
  clear hown1 hr
  generalize min n 60 = n1 at *
  generalize bs.take 60 = l at *
  go_wp2_with fail
  refine (crcsum_any A1 n1 c1 l w1 HL1.out hL1 (by omega)).mono ?_
  rintro e w2 ⟨rfl, hg2⟩
  have hL2 := hL1.later hg2
  go_wp2_with fail
  refine (rmore_any 0 A1 n1 c1 l w2 (by omega) HL1.out hL2 (by omega)).mono ?_
  rintro e w' ⟨rfl, rfl⟩
  have e0 : crcOf l = cmore 0 l := rfl
  rw [e0]
  generalize cmore 0 l = x0
  go_wp2_with fail
  refine (crcmore_any s A1 n1 c1 l w2 hs HL1.out hL2 (by omega)).mono ?_
  rintro e w3 ⟨rfl, hg3⟩
  have hL3 := hL2.later hg3
  go_wp2_with fail
  refine (rmore_any s A1 n1 c1 l w3 hs HL1.out hL3 (by omega)).mono ?_
  rintro e w' ⟨rfl, rfl⟩
  generalize cmore s l = x1
  go_wp2_with fail
  refine (lives3_any w3).mono ?_
  rintro e w4 ⟨rfl, hg4⟩
  go_wp2_with fail
  go_ret
  exact ⟨rfl, Grows.trans hg1 (Grows.trans hg2 (Grows.trans hg3 hg4))⟩

theorem uv_same (x : Nat) : (((x : Nat) : Int) == ((x : Nat) : Int)) = true := by simp
theorem min_take {n m : Nat} {bs : List UInt8} (hl : bs.length = n) : (bs.take m).length = min n m := by rw [List.length_take, hl, Nat.min_comm]

set_option maxHeartbeats 2000000 in
theorem crcjoins_walk (A B : Option Addr) (n c n' c' : Nat) (la lb : List UInt8) (w : World) (hla : la.length = n) (hlb : lb.length = n') (hra : Lies w w.heap.size A (la.map bv)) (hrb : Lies w w.heap.size B (lb.map bv))
    (hc : n ≤ c) (hc' : n' ≤ c') (hm : c ≤ maxLen) (hm' : c' ≤ maxLen) :
    Calls Try.prog 4 #[.slice A n c, .slice B n' c'] w fun e w' => e = .returned (.bool true) ∧ Grows w w' := by
  obtain ⟨i0, hi0, hz0, hz1, hz2⟩ := info_parts byte_info
  have HA := Lib.hid hla
  have HB := Lib.hid hlb
  clear hla hlb
  go_enter Try.func4, Try.ntmps4
  go_wp2_with fail
  refine (few_bytes A n c 30 la w HA.out hra hc (by omega) hm).mono ?_
  rintro e w1 ⟨A1, c1, rfl, hc1, hown1, hL1, hg1⟩
  go_wp2_with fail
  refine (few_bytes B n' c' 30 lb w1 HB.out (hrb.later hg1) hc' (by omega) hm').mono ?_
  rintro e w2 ⟨A2, c2, rfl, hc2, hown2, hL2, hg2⟩
  have hg02 := Grows.trans hg1 hg2
  go_wp2_with fail
  refine (few_bytes A n c 30 la w2 HA.out (hra.later hg02) hc (by omega) hm).mono ?_
  rintro e w3 ⟨A3, c3, rfl, hc3, hown3, hL3, hg3⟩
  have E0 := Lib.hid (min_take (m := 30) HA.out)
  have E1 := Lib.hid (min_take (m := 30) HB.out)
  have hn0 : min n 30 ≤ 30 := Nat.min_le_right _ _
  have hn1 : min n' 30 ≤ 30 := Nat.min_le_right _ _
  have hL1b := (hL1.later hg2).below hg3
  have hL2b : Lies w3 w2.heap.size A2 ((lb.take 30).map bv) := hL2.below hg3
  have hg03 := Grows.trans hg02 hg3
  clear hown1 hown2 hL1 hL2 hL3 hra hrb hg1 hg2
  generalize la.take 30 = x at *
  generalize lb.take 30 = y at *
  generalize min n 30 = n0 at *
  generalize min n' 30 = n1 at *
  go_wp2_with (at_builtin; refine wpList_append_src _ rfl (.tmp 14) (.tmp 15) _ rfl w2.heap.size 5 i0 _ 1 Try.underlying22 hi0 hz0 hz1 hz2 rfl (.slice A3 n0 c3) n0 _ rfl hown3 w2.heap.size A2 n1 c2 (y.map bv) rfl (by rw [List.length_map]; exact E1.out) hL2b (bv_one y) (by unfold maxLen; omega) (by omega) hg3.size ?_; intro v4 w4 hown4 hg4 hat4)
  have hb34 : Below w2.heap.size w3 w4 := (Below.refl _ _).grown hg4 hg3.size (own_ge hown3)
  obtain ⟨A4, c4, rfl, hc4⟩ := own_form hown4
  rw [← List.map_append] at hown4
  have hL4 := Lies.of_own hown4
  have h24 : w2.heap.size ≤ w4.heap.size := Nat.le_trans hg3.size hb34.size
  have hg04 : Grows w w4 := Below.trans hg03 (hb34.mono hg02.size)
  have hx4 := (hL1b.below hb34).mono h24
  have hy4 := (hL2b.below hb34).mono h24
  have hxy : (x ++ y).length = n0 + n1 := by rw [List.length_append, E0.out, E1.out]
  have EXY := Lib.hid hxy
  clear hown3 hown4 hg4 hat4 hb34 hL1b hL2b hg3 hg03 hxy hg02 h24
  have hX : crcOf x < 4294967296 := cmore_lt (s := 0) (by omega) x
  have hY : crcOf y < 4294967296 := cmore_lt (s := 0) (by omega) y
  have HXY : Hid (cmore 0 (x ++ y) = cmore (crcOf x) y) := cmore_append (s := 0) (by omega) x y
  have HJ : Hid (czeros n1 (crcOf x) ^^^ crcOf y = cmore (crcOf x) y) := by show _ = _; rw [cmore_join hX y, E1.out]
  have HZ : Hid (czeros 0 (crcOf x) ^^^ crcOf [] = crcOf x) := by
    show crcOf x ^^^ crcOf [] = crcOf x
    rw [show crcOf [] = 0 from rfl, Nat.xor_zero]
  have hE : crcOf [] < 4294967296 := by decide
  refine (rmore_any 0 A4 (n0 + n1) c4 (x ++ y) w4 (by omega) EXY.out hL4 (by omega)).mono ?_
  rw [HXY.out]
  rintro e w' ⟨rfl, rfl⟩
  have MO : ∀ u : World, Lies u u.heap.size A2 (y.map bv) → Calls Try.prog 12 #[uv (crcOf x), .slice A2 n1 c2] u fun e w' => e = .returned (uv (cmore (crcOf x) y)) ∧ Grows u w' := fun u hu => crcmore_any (crcOf x) A2 n1 c2 y u hX E1.out hu (by omega)
  have JO : ∀ u : World, Calls Try.prog 14 #[uv (crcOf x), uv (crcOf y), .int .i64 (n1 : Int)] u fun e w' => e = .returned (uv (czeros n1 (crcOf x) ^^^ crcOf y)) ∧ Grows u w' := fun u => join_any (crcOf x) (crcOf y) n1 u hX hY (by omega)
  have JZ : ∀ u : World, Calls Try.prog 14 #[uv (crcOf x), uv (crcOf []), .int .i64 0] u fun e w' => e = .returned (uv (czeros 0 (crcOf x) ^^^ crcOf [])) ∧ Grows u w' := fun u => join_any (crcOf x) (crcOf []) 0 u hX hE (by omega)
  have SX : ∀ u : World, Lies u u.heap.size A1 (x.map bv) → Calls Try.prog 10 #[.slice A1 n0 c1] u fun e w' => e = .returned (uv (crcOf x)) ∧ Grows u w' := fun u hu => crcsum_any A1 n0 c1 x u E0.out hu (by omega)
  have SY : ∀ u : World, Lies u u.heap.size A2 (y.map bv) → Calls Try.prog 10 #[.slice A2 n1 c2] u fun e w' => e = .returned (uv (crcOf y)) ∧ Grows u w' := fun u hu => crcsum_any A2 n1 c2 y u E1.out hu (by omega)
  have SN : ∀ u : World, Calls Try.prog 10 #[.slice none 0 0] u fun e w' => e = .returned (uv (crcOf [])) ∧ Grows u w' := fun u => crcsum_any none 0 0 [] u rfl Lies.empty (by omega)
  rw [HJ.out] at JO
  rw [HZ.out] at JZ
  have MO := Lib.hid MO
  have JO := Lib.hid JO
  have JZ := Lib.hid JZ
  have SX := Lib.hid SX
  have SY := Lib.hid SY
  have SN := Lib.hid SN
  clear HJ HZ HXY hE hX hY
  generalize cmore (crcOf x) y = want at *
  generalize crcOf x = sx at *
  generalize crcOf y = sy at *
  generalize crcOf [] = s0 at *
  go_wp2_with fail
  refine (SX.out _ hx4).mono ?_
  rintro e w5 ⟨rfl, hg5⟩
  go_wp2_with fail
  refine (SY.out _ (hy4.later hg5)).mono ?_
  rintro e w6 ⟨rfl, hg6⟩
  have hg46 := Grows.trans hg5 hg6
  go_wp2_with fail
  refine (JO.out _).mono ?_
  rintro e w7 ⟨rfl, hg7⟩
  have hg47 := Grows.trans hg46 hg7
  go_wp2_with fail
  refine (SX.out _ (hx4.later hg47)).mono ?_
  rintro e w8 ⟨rfl, hg8⟩
  have hg48 := Grows.trans hg47 hg8
  go_wp2_with fail
  refine (MO.out _ (hy4.later hg48)).mono ?_
  rintro e w9 ⟨rfl, hg9⟩
  have hg49 := Grows.trans hg48 hg9
  clear hg5 hg6 hg46 hg7 hg47 hg8 hg48 hg9
  go_wp2_with fail
  refine (SX.out _ (hx4.later hg49)).mono ?_
  rintro e w5 ⟨rfl, hg5⟩
  go_wp2_with fail
  refine (SN.out _).mono ?_
  rintro e w6 ⟨rfl, hg6⟩
  go_wp2_with fail
  refine (JZ.out _).mono ?_
  rintro e w7 ⟨rfl, hg7⟩
  have hg47 := Grows.trans hg49 (Grows.trans hg5 (Grows.trans hg6 hg7))
  go_wp2_with fail
  refine (SX.out _ (hx4.later hg47)).mono ?_
  rintro e w8 ⟨rfl, hg8⟩
  go_wp2_with fail
  refine (lives3_any _).mono ?_
  rintro e w9 ⟨rfl, hg9⟩
  go_wp2_with fail
  go_ret
  exact ⟨rfl, Grows.trans hg04 (Grows.trans hg47 (Grows.trans hg8 hg9))⟩

theorem czeros_add : ∀ j k n, czeros (j + k) n = czeros k (czeros j n)
  | 0, k, n => by rw [Nat.zero_add]; rfl
  | j + 1, k, n => by rw [show j + 1 + k = (j + k) + 1 by omega, czeros, czeros_add j k, czeros]

set_option maxHeartbeats 2000000 in
theorem crcchains_walk (A B D : Option Addr) (n c n' c' n'' c'' : Nat) (la lb lc : List UInt8) (w : World) (hla : la.length = n) (hlb : lb.length = n') (hlc : lc.length = n'')
    (hra : Lies w w.heap.size A (la.map bv)) (hrb : Lies w w.heap.size B (lb.map bv)) (hrc : Lies w w.heap.size D (lc.map bv))
    (hc : n ≤ c) (hc' : n' ≤ c') (hc'' : n'' ≤ c'') (hm : c ≤ maxLen) (hm' : c' ≤ maxLen) (hm'' : c'' ≤ maxLen) :
    Calls Try.prog 7 #[.slice A n c, .slice B n' c', .slice D n'' c''] w fun e w' => e = .returned (.bool true) ∧ Grows w w' := by
  have HA := Lib.hid hla
  have HB := Lib.hid hlb
  have HC := Lib.hid hlc
  clear hla hlb hlc
  go_enter Try.func7, Try.ntmps7
  go_wp2_with fail
  refine (few_bytes A n c 20 la w HA.out hra hc (by omega) hm).mono ?_
  rintro e w1 ⟨A1, c1, rfl, hc1, hown1, hL1, hg1⟩
  go_wp2_with fail
  refine (few_bytes B n' c' 20 lb w1 HB.out (hrb.later hg1) hc' (by omega) hm').mono ?_
  rintro e w2 ⟨A2, c2, rfl, hc2, hown2, hL2, hg2⟩
  have hg02 := Grows.trans hg1 hg2
  go_wp2_with fail
  refine (few_bytes D n'' c'' 20 lc w2 HC.out (hrc.later hg02) hc'' (by omega) hm'').mono ?_
  rintro e w3 ⟨A3, c3, rfl, hc3, hown3, hL3, hg3⟩
  have hx := (hL1.later hg2).later hg3
  have hy := hL2.later hg3
  have hz := hL3
  have E0 := Lib.hid (min_take (m := 20) HA.out)
  have E1 := Lib.hid (min_take (m := 20) HB.out)
  have E2 := Lib.hid (min_take (m := 20) HC.out)
  have hn0 : min n 20 ≤ 20 := Nat.min_le_right _ _
  have hn1 : min n' 20 ≤ 20 := Nat.min_le_right _ _
  have hn2 : min n'' 20 ≤ 20 := Nat.min_le_right _ _
  have hg03 := Grows.trans hg02 hg3
  clear hown1 hown2 hown3 hL1 hL2 hL3 hra hrb hrc hg1 hg2 hg02 hg3
  generalize la.take 20 = x at *
  generalize lb.take 20 = y at *
  generalize lc.take 20 = z at *
  generalize min n 20 = n0 at *
  generalize min n' 20 = n1 at *
  generalize min n'' 20 = n2 at *
  have hX : crcOf x < 4294967296 := cmore_lt (s := 0) (by omega) x
  have hY : crcOf y < 4294967296 := cmore_lt (s := 0) (by omega) y
  have hZ : crcOf z < 4294967296 := cmore_lt (s := 0) (by omega) z
  have hXY : cmore (crcOf x) y < 4294967296 := cmore_lt hX y
  have hYZ : cmore (crcOf y) z < 4294967296 := cmore_lt hY z
  have jxy : czeros n1 (crcOf x) ^^^ crcOf y = cmore (crcOf x) y := by rw [cmore_join hX y, E1.out]
  have jyz : czeros n2 (crcOf y) ^^^ crcOf z = cmore (crcOf y) z := by rw [cmore_join hY z, E2.out]
  have j1 : czeros n2 (cmore (crcOf x) y) ^^^ crcOf z = cmore (cmore (crcOf x) y) z := by rw [cmore_join hXY z, E2.out]
  have j2 : czeros (n1 + n2) (crcOf x) ^^^ cmore (crcOf y) z = cmore (cmore (crcOf x) y) z := by
    rw [← j1, ← jxy, ← jyz, czeros_add, czeros_xor, Nat.xor_assoc]
  have SX : ∀ u : World, Lies u u.heap.size A1 (x.map bv) → Calls Try.prog 10 #[.slice A1 n0 c1] u fun e w' => e = .returned (uv (crcOf x)) ∧ Grows u w' := fun u hu => crcsum_any A1 n0 c1 x u E0.out hu (by omega)
  have SY : ∀ u : World, Lies u u.heap.size A2 (y.map bv) → Calls Try.prog 10 #[.slice A2 n1 c2] u fun e w' => e = .returned (uv (crcOf y)) ∧ Grows u w' := fun u hu => crcsum_any A2 n1 c2 y u E1.out hu (by omega)
  have SZ : ∀ u : World, Lies u u.heap.size A3 (z.map bv) → Calls Try.prog 10 #[.slice A3 n2 c3] u fun e w' => e = .returned (uv (crcOf z)) ∧ Grows u w' := fun u hu => crcsum_any A3 n2 c3 z u E2.out hu (by omega)
  have JXY : ∀ u : World, Calls Try.prog 14 #[uv (crcOf x), uv (crcOf y), .int .i64 (n1 : Int)] u fun e w' => e = .returned (uv (czeros n1 (crcOf x) ^^^ crcOf y)) ∧ Grows u w' := fun u => join_any (crcOf x) (crcOf y) n1 u hX hY (by omega)
  have JYZ : ∀ u : World, Calls Try.prog 14 #[uv (crcOf y), uv (crcOf z), .int .i64 (n2 : Int)] u fun e w' => e = .returned (uv (czeros n2 (crcOf y) ^^^ crcOf z)) ∧ Grows u w' := fun u => join_any (crcOf y) (crcOf z) n2 u hY hZ (by omega)
  have J1 : ∀ u : World, Calls Try.prog 14 #[uv (cmore (crcOf x) y), uv (crcOf z), .int .i64 (n2 : Int)] u fun e w' => e = .returned (uv (czeros n2 (cmore (crcOf x) y) ^^^ crcOf z)) ∧ Grows u w' := fun u => join_any _ _ n2 u hXY hZ (by omega)
  have J2 : ∀ u : World, Calls Try.prog 14 #[uv (crcOf x), uv (cmore (crcOf y) z), .int .i64 ((n1 : Int) + (n2 : Int))] u fun e w' => e = .returned (uv (czeros (n1 + n2) (crcOf x) ^^^ cmore (crcOf y) z)) ∧ Grows u w' := fun u => join_any _ _ (n1 + n2) u hX hYZ (by omega)
  have R1 : ∀ u : World, Lies u u.heap.size A1 (x.map bv) → Calls Try.prog 11 #[uv 0, .slice A1 n0 c1] u fun e w' => e = .returned (uv (crcOf x)) ∧ u = w' := fun u hu => rmore_any 0 A1 n0 c1 x u (by omega) E0.out hu (by omega)
  have R2 : ∀ u : World, Lies u u.heap.size A2 (y.map bv) → Calls Try.prog 11 #[uv (crcOf x), .slice A2 n1 c2] u fun e w' => e = .returned (uv (cmore (crcOf x) y)) ∧ u = w' := fun u hu => rmore_any _ A2 n1 c2 y u hX E1.out hu (by omega)
  have R3 : ∀ u : World, Lies u u.heap.size A3 (z.map bv) → Calls Try.prog 11 #[uv (cmore (crcOf x) y), .slice A3 n2 c3] u fun e w' => e = .returned (uv (cmore (cmore (crcOf x) y) z)) ∧ u = w' := fun u hu => rmore_any _ A3 n2 c3 z u hXY E2.out hu (by omega)
  rw [jxy] at JXY
  rw [jyz] at JYZ
  rw [j1] at J1
  rw [j2] at J2
  have SX := Lib.hid SX
  have SY := Lib.hid SY
  have SZ := Lib.hid SZ
  have JXY := Lib.hid JXY
  have JYZ := Lib.hid JYZ
  have J1 := Lib.hid J1
  have J2 := Lib.hid J2
  have R1 := Lib.hid R1
  have R2 := Lib.hid R2
  have R3 := Lib.hid R3
  clear jxy jyz j1 j2 hX hY hZ hXY hYZ
  generalize cmore (cmore (crcOf x) y) z = sxyz at *
  generalize cmore (crcOf x) y = sxy at *
  generalize cmore (crcOf y) z = syz at *
  generalize crcOf x = sx at *
  generalize crcOf y = sy at *
  generalize crcOf z = sz at *
  go_wp2_with fail
  refine (SX.out _ hx).mono ?_
  rintro e w5 ⟨rfl, hg5⟩
  go_wp2_with fail
  refine (SY.out _ (hy.later hg5)).mono ?_
  rintro e w6 ⟨rfl, hg6⟩
  go_wp2_with fail
  refine (JXY.out _).mono ?_
  rintro e w7 ⟨rfl, hg7⟩
  have hg47 := Grows.trans hg5 (Grows.trans hg6 hg7)
  go_wp2_with fail
  refine (SZ.out _ (hz.later hg47)).mono ?_
  rintro e w8 ⟨rfl, hg8⟩
  go_wp2_with fail
  refine (J1.out _).mono ?_
  rintro e w9 ⟨rfl, hg9⟩
  have hg49 := Grows.trans hg47 (Grows.trans hg8 hg9)
  clear hg5 hg6 hg7 hg47 hg8 hg9
  go_wp2_with fail
  refine (SX.out _ (hx.later hg49)).mono ?_
  rintro e w5 ⟨rfl, hg5⟩
  have hg45 := Grows.trans hg49 hg5
  go_wp2_with fail
  refine (SY.out _ (hy.later hg45)).mono ?_
  rintro e w6 ⟨rfl, hg6⟩
  have hg46 := Grows.trans hg45 hg6
  go_wp2_with fail
  refine (SZ.out _ (hz.later hg46)).mono ?_
  rintro e w7 ⟨rfl, hg7⟩
  go_wp2_with fail
  refine (JYZ.out _).mono ?_
  rintro e w8 ⟨rfl, hg8⟩
  go_wp2_with fail
  refine (J2.out _).mono ?_
  rintro e w10 ⟨rfl, hg10⟩
  have hgA := Grows.trans hg46 (Grows.trans hg7 (Grows.trans hg8 hg10))
  clear hg49 hg45 hg46 hg5 hg6 hg7 hg8 hg10
  go_wp2_with fail
  refine (R1.out _ (hx.later hgA)).mono ?_
  rintro e w' ⟨rfl, rfl⟩
  go_wp2_with fail
  refine (R2.out _ (hy.later hgA)).mono ?_
  rintro e w' ⟨rfl, rfl⟩
  go_wp2_with fail
  refine (R3.out _ (hz.later hgA)).mono ?_
  rintro e w' ⟨rfl, rfl⟩
  go_wp2_with fail
  refine (lives3_any _).mono ?_
  rintro e w9 ⟨rfl, hg9⟩
  go_wp2_with fail
  go_ret
  exact ⟨rfl, Grows.trans hg03 (Grows.trans hgA hg9)⟩
end Go.Proofs.Ytglaiccjhdgfbaa
