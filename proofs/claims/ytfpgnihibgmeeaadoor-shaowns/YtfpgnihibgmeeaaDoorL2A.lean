/-
  The walks of the laws of layer 2: the example (lives), ShaSums. Condition: the table keys holds the document's numbers.
-/
import Derived.Test.YtfpgnihibgmeeaaDoorShaK
import Derived.Lib.SlBytesConst
import Derived.Lib.SmallJoins
import Derived.Test.YtfpgnihibgmeeaaDoorRFil
import Derived.Test.YtfpgnihibgmeeaaDoorRAro
import Derived.Test.YtfpgnihibgmeeaaDoorRNam
namespace Go.Proofs.YtfpgnihibgmeeaaDoor
open Go.RowKit
set_option linter.unusedVariables false

theorem eql_dig (la lb : List UInt8) (ha : la.length = 32) (hb : lb.length = 32) (w : World) : (binOp .eql 26 (dv la) (dv lb)).run Tryd.prog w = .ok (.bool (la == lb)) w :=
  run_eql_bytes w Tryd.underlying26 Tryd.underlying5 (by kernel_rfl) la lb ha hb
theorem neq_dig (la lb : List UInt8) (ha : la.length = 32) (hb : lb.length = 32) (w : World) : (binOp .neq 26 (dv la) (dv lb)).run Tryd.prog w = .ok (.bool (!(la == lb))) w :=
  run_neq_bytes w Tryd.underlying26 Tryd.underlying5 (by kernel_rfl) la lb ha hb
theorem same_dig (l : List UInt8) (w : World) : (binOp .eql 26 (dv (shaOf l)) (dv (shaOf l))).run Tryd.prog w = .ok (.bool true) w := by
  have := eql_dig (shaOf l) (shaOf l) (shaOf_len l) (shaOf_len l) w
  rwa [beq_self_eq_true] at this
theorem same_dig' (l : List UInt8) (w : World) : (binOp .neq 26 (dv (shaOf l)) (dv (shaOf l))).run Tryd.prog w = .ok (.bool false) w := by
  have := neq_dig (shaOf l) (shaOf l) (shaOf_len l) (shaOf_len l) w
  rwa [beq_self_eq_true] at this

theorem ret_bool {a : Bool} (h : a = true) : Ending.returned (.bool a) = .returned (.bool true) := by rw [h]

def abc : List UInt8 := [97, 98, 99]
def abcName : List UInt8 := [98, 97, 55, 56, 49, 54, 98, 102, 56, 102, 48, 49, 99, 102, 101, 97, 52, 49, 52, 49, 52, 48, 100, 101, 53, 100, 97, 101, 50, 50, 50, 51, 98, 48, 48, 51, 54, 49, 97, 51, 57, 54, 49, 55, 55, 97, 57, 99, 98, 52, 49, 48, 102, 102, 54, 49, 102, 50, 48, 48, 49, 53, 97, 100]
set_option maxRecDepth 100000 in
theorem abc_name : hexOf (shaOf abc) = abcName := by decide +kernel

set_option maxRecDepth 100000 in
set_option maxHeartbeats 1000000 in
theorem lives_any (w : World) (hk : Keys w) : Calls Tryd.prog 13 #[] w fun e w' => e = .returned (.bool true) ∧ Grows w w' := by
  have hg0 := grows_alloc w (.cells (abc.map bv).toArray 5 (3, 4))
  have hk0 := hk.later hg0
  have hL0 : Lies (w.alloc (.cells (abc.map bv).toArray 5 (3, 4))) (w.alloc (.cells (abc.map bv).toArray 5 (3, 4))).heap.size (some ⟨w.heap.size, 0, none⟩) (abc.map bv) := fun j u hu =>
    ⟨_, rfl, by rw [World.size_alloc]; exact Nat.lt_succ_self _, by rw [add_plain, Nat.zero_add, Joins.cell_alloc_mark_at w _ _ _ _ _ rfl]; simpa using hu⟩
  have HN := Lib.hid abc_name
  have hl3 : abc.length = 3 := rfl
  clear hk
  have hcv := Lib.run_convert_bytes_const (P := Tryd.prog) w 22 5 #[.int .u8 97, .int .u8 98, .int .u8 99] 3 3 Tryd.underlying22 Tryd.underlying5
  go_enter Tryd.func13, Tryd.ntmps13
  go_wp2_with fail
  change Calls _ _ _ (w.alloc (.cells (abc.map bv).toArray 5 (3, 4))) _
  clear hcv
  generalize w.alloc (.cells (abc.map bv).toArray 5 (3, 4)) = w0 at *
  have HL3 := Lib.hid hl3
  clear hl3
  generalize abc = tx at *
  refine (sum_any _ 3 3 tx w0 hk0 HL3.out hL0 (by omega)).mono ?_
  rintro e w1 ⟨rfl, hg1⟩
  have hbox := Has.new w1 26 (zeros32.map bv)
  have hg2 := grows_alloc w1 (.cells (zeros32.map bv).toArray 26)
  have hsl := shaOf_len tx
  have HSL := Lib.hid hsl
  have hex : hexOf (shaOf tx) = abcName := HN.out
  have HEX := Lib.hid hex
  clear hsl hex HN hL0 hk0
  generalize shaOf tx = dg at *
  have hzl := zeros32_len
  have HZL := Lib.hid hzl
  clear hzl
  go_wp2_with (first | (with_reducible refine wpList_loads rfl 26 (.tmp 1) rfl _ rfl _ hld ?_) | (refine wpList_storev rfl 26 (.tmp 1) (.tmp 4) rfl w1.heap.size (zeros32.map bv) (dg.map bv) 32 rfl rfl hbox (by rw [List.length_map, HZL.out]) (by rw [List.length_map, HSL.out]) dig_size2 (bv_one _) ?_; intro w6 hbox6 hbel6; have hld := hbox6.load Tryd.underlying26 rfl (by rw [List.length_map, HSL.out]; exact dig_size2)))
  have hg6 := hbel6 _ _ (Nat.le_refl _) hg2
  refine (rname_any dg w6 HSL.out).mono ?_
  rw [HEX.out]
  rintro e w7 ⟨rfl, hg7⟩
  go_wp2_with fail
  go_ret
  exact ⟨ret_bool (by decide), Grows.trans hg0 (Grows.trans hg1 (Grows.trans hg6 hg7))⟩

set_option maxRecDepth 100000 in
set_option maxHeartbeats 1000000 in
theorem sums_walk (A : Option Addr) (n c : Nat) (bs : List UInt8) (m : Int) (w : World) (hk : Keys w) (hl : bs.length = n) (hr : Lies w w.heap.size A (bs.map bv)) (hc : n ≤ c) (hm : c ≤ maxLen) (hi : -9223372036854775808 ≤ m ∧ m ≤ 9223372036854775807) :
    Calls Tryd.prog 3 #[.slice A n c, .int .i64 m] w fun e w' => e = .returned (.bool true) ∧ Grows w w' := by
  have HL := Lib.hid hl
  clear hl
  go_enter Tryd.func3, Tryd.ntmps3
  go_wp2_with fail
  refine (around_any m 141 _ hi (by omega)).mono ?_
  rintro e w' ⟨rfl, rfl⟩
  have hk5 := around_lt m (m := 141) (by omega)
  generalize around m 141 = k5 at *
  go_wp2_with fail
  refine (fill_any A n c k5 bs w HL.out hr (Nat.le_trans hc hm) (by omega)).mono ?_
  rintro e w1 ⟨lf, A1, c1, hlf, rfl, hc1, hm1, hL1, hg1⟩
  have HLF := Lib.hid hlf
  clear hlf
  go_wp2_with fail
  refine (sum_any A1 k5 c1 lf w1 (hk.later hg1) HLF.out hL1 (by omega)).mono ?_
  rintro e w2 ⟨rfl, hg2⟩
  go_wp2_with fail
  refine (rsum_any A1 k5 c1 lf w2 HLF.out (hL1.later hg2) (by omega)).mono ?_
  rintro e w3 ⟨rfl, hg3⟩
  have q1 := same_dig lf
  have hg13 := Grows.trans hg1 (Grows.trans hg2 hg3)
  have hr3 := hr.later hg13
  have hk3 := hk.later hg13
  clear hL1 hg1 hg2 hg3 hr hk
  go_wp2_with fail
  refine (few_bytes A n c 60 bs w3 HL.out hr3 hc (by omega) hm).mono ?_
  rintro e w4 ⟨A4, c4, rfl, hc4, hown4, hL4, hg4⟩
  have HL4 : Hid ((bs.take 60).length = min n 60) := by show _ = _; rw [List.length_take, HL.out, Nat.min_comm]
  have hmin : min n 60 ≤ 60 := Nat.min_le_right _ _
  clear hown4
  generalize min n 60 = n4 at *
  go_wp2_with fail
  refine (sum_any A4 n4 c4 (bs.take 60) w4 (hk3.later hg4) HL4.out hL4 (by omega)).mono ?_
  rintro e w5 ⟨rfl, hg5⟩
  have hg45 := Grows.trans hg4 hg5
  have hr5 := hr3.later hg45
  have hk5' := hk3.later hg45
  clear hL4 hg4 hg5
  go_wp2_with fail
  refine (few_bytes A n c 60 bs w5 HL.out hr5 hc (by omega) hm).mono ?_
  rintro e w6 ⟨A6, c6, rfl, hc6, hown6, hL6, hg6⟩
  have HL6 : Hid ((bs.take 60).length = min n 60) := by show _ = _; rw [List.length_take, HL.out, Nat.min_comm]
  have hmin6 : min n 60 ≤ 60 := Nat.min_le_right _ _
  clear hown6
  generalize min n 60 = n6 at *
  go_wp2_with fail
  refine (rsum_any A6 n6 c6 (bs.take 60) w6 HL6.out hL6 (by omega)).mono ?_
  rintro e w7 ⟨rfl, hg7⟩
  have q2 := same_dig (bs.take 60)
  have hg57 := Grows.trans hg45 (Grows.trans hg6 hg7)
  have hk7 := hk3.later hg57
  go_wp2_with fail
  refine (lives_any w7 hk7).mono ?_
  rintro e w8 ⟨rfl, hg8⟩
  go_wp2_with fail
  go_ret
  exact ⟨rfl, Grows.trans hg13 (Grows.trans hg57 hg8)⟩
end Go.Proofs.YtfpgnihibgmeeaaDoor
