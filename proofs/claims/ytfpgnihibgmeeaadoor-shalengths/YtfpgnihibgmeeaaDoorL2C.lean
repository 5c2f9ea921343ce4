/-
  The walk of ShaLengths. Condition: the table keys holds the document's numbers.
-/
import Derived.Test.YtfpgnihibgmeeaaDoorL2A
import Derived.Test.YtfpgnihibgmeeaaDoorShaU
namespace Go.Proofs.YtfpgnihibgmeeaaDoor
open Go.RowKit
set_option linter.unusedVariables false

theorem made_has (w : World) (n : Nat) : Lies (w.alloc (.cells (madeCells #[.int .u8 0] n) 5)) (w.alloc (.cells (madeCells #[.int .u8 0] n) 5)).heap.size (some ⟨w.heap.size, 0, none⟩) ((List.replicate n (0 : UInt8)).map bv) := by
  rw [← made_bytes, World.size_alloc]
  exact Lies.new w 5 _

set_option maxRecDepth 100000 in
set_option maxHeartbeats 1000000 in
theorem lengths_walk (n m : Int) (w : World) (hk : Keys w) (hi : -9223372036854775808 ≤ n ∧ n ≤ 9223372036854775807) (hj : -9223372036854775808 ≤ m ∧ m ≤ 9223372036854775807) :
    Calls Tryd.prog 6 #[.int .i64 n, .int .i64 m] w fun e w' => e = .returned (.bool true) ∧ Grows w w' := by
  obtain ⟨i0, hi0, hz0, hz1, hz2⟩ := info_parts byte_info
  go_enter Tryd.func6, Tryd.ntmps6
  go_wp2_with fail
  refine (around_any n 131 _ hi (by omega)).mono ?_
  rintro e w' ⟨rfl, rfl⟩
  have ha := around_lt n (m := 131) (by omega)
  generalize around n 131 = a at *
  go_wp2_with fail
  refine (around_any m 131 _ hj (by omega)).mono ?_
  rintro e w' ⟨rfl, rfl⟩
  have hb := around_lt m (m := 131) (by omega)
  generalize around m 131 = b at *
  have hM := made_has w a
  have hgM := grows_alloc w (.cells (madeCells #[.int .u8 0] a) 5)
  have hkM := hk.later hgM
  go_wp2_with (at_make; (refine wpList_make_row _ rfl _ _ _ rfl 5 i0 _ Tryd.underlying22 hi0 hz0 hz1 rfl .i64 .i64 a rfl rfl (by rw [hz2]; omega) (by omega) ?_))
  generalize w.alloc (.cells (madeCells #[.int .u8 0] a) 5) = w1 at *
  refine (sum_any _ a a (List.replicate a 0) w1 hkM (by simp) hM (by omega)).mono ?_
  rintro e w2 ⟨rfl, hg2⟩
  have hx := shaOf_len (List.replicate a 0)
  have hy := shaOf_len (List.replicate b 0)
  have hinj := sha_zeros_inj a b (by omega) (by omega)
  have hsame := same_dig (List.replicate a 0)
  have heq := eql_dig (shaOf (List.replicate a 0)) (shaOf (List.replicate b 0)) hx hy
  have hdec : (shaOf (List.replicate a 0) == shaOf (List.replicate b 0)) = decide (a = b) := by
    by_cases h : a = b
    · subst h; simp
    · rw [decide_eq_false h]
      exact beq_eq_false_iff_ne.2 (fun e => h (hinj e))
  rw [hdec] at heq
  have HX := Lib.hid hx
  have HY := Lib.hid hy
  have HEQ := Lib.hid heq
  have HSAME := Lib.hid hsame
  have hrs : ∀ u A c, Lies u u.heap.size A ((List.replicate a (0 : UInt8)).map bv) → Calls Tryd.prog 11 #[.slice A a c] u fun e u' => e = .returned (dv (shaOf (List.replicate a 0))) ∧ Grows u u' := fun u A c h => rsum_any A a c _ u (by simp) h (by omega)
  have hsy : ∀ u A c, Keys u → Lies u u.heap.size A ((List.replicate b (0 : UInt8)).map bv) → Calls Tryd.prog 10 #[.slice A b c] u fun e u' => e = .returned (dv (shaOf (List.replicate b 0))) ∧ Grows u u' := fun u A c hk h => sum_any A b c _ u hk (by simp) h (by omega)
  have HRS := Lib.hid hrs
  have HSY := Lib.hid hsy
  have hbx := Has.new w2 26 (zeros32.map bv)
  have hg3 := grows_alloc w2 (.cells (zeros32.map bv).toArray 26)
  have hzl := zeros32_len
  have HZL := Lib.hid hzl
  have hg02 := Grows.trans hgM hg2
  have hk2 := hkM.later hg2
  clear hx hy heq hsame hdec hinj hrs hsy hM hgM hkM hg2 hzl
  generalize shaOf (List.replicate a 0) = X at *
  generalize shaOf (List.replicate b 0) = Y at *
  go_wp2_with (first
    | (refine wpList_storev rfl 26 (.tmp 7) (.tmp 15) rfl w2.heap.size (zeros32.map bv) (X.map bv) 32 rfl rfl hbx (by rw [List.length_map, HZL.out]) (by rw [List.length_map, HX.out]) dig_size2 (bv_one _) ?_; intro w4 hbox4 hbel4; have hM4 := made_has w4 b; have hgM4 := grows_alloc w4 (.cells (madeCells #[.int .u8 0] b) 5))
    | (at_make; (refine wpList_make_row _ rfl _ _ _ rfl 5 i0 _ Tryd.underlying22 hi0 hz0 hz1 rfl .i64 .i64 b rfl rfl (by rw [hz2]; omega) (by omega) ?_)))
  have hg24 := hbel4 _ _ (Nat.le_refl _) hg3
  generalize w4.alloc (.cells (madeCells #[.int .u8 0] b) 5) = w5 at *
  have hk5 := hk2.later (Grows.trans hg24 hgM4)
  have hbox5 := hbox4.later hgM4
  refine (HSY.out w5 _ b hk5 hM4).mono ?_
  rintro e w6 ⟨rfl, hg6⟩
  have hbox6 := hbox5.later hg6
  have hg06 := Grows.trans hg02 (Grows.trans hg24 (Grows.trans hgM4 hg6))
  have hk6 := hk5.later hg6
  have hby := Has.new w6 26 (zeros32.map bv)
  have hg7 := grows_alloc w6 (.cells (zeros32.map bv).toArray 26)
  clear hbx hbox4 hbox5 hM4 hgM4 hg24 hk5 hbel4 hg3 hg02 hk2 hg6
  go_wp2_with (refine wpList_storev rfl 26 (.tmp 8) (.tmp 18) rfl w6.heap.size (zeros32.map bv) (Y.map bv) 32 rfl rfl hby (by rw [List.length_map, HZL.out]) (by rw [List.length_map, HY.out]) dig_size2 (bv_one _) ?_; intro w8 hbox8 hbel8)
  have hg68 := hbel8 _ _ (Nat.le_refl _) hg7
  have hboxX := hbox6.later hg68
  have hk8 := hk6.later hg68
  have hg08 := Grows.trans hg06 hg68
  clear hby hbel8 hg7 hbox6 hk6 hg06
  generalize w2.heap.size = bx at *
  generalize w6.heap.size = by' at *
  have hgd : Grows w8 w8.drew := (Grows.refl w8).drew
  refine wp_region_ord 18 [(0, true), (1, true), (2, false), (3, true), (4, true), (5, true), (6, true), (7, true), (8, true), (9, true), (10, true), (11, true), (12, true), (13, true), (14, true), (15, true), (16, true), (17, true)] (by kernel_rfl) (by kernel_rfl) ?_
  have ldX : ∀ u, Grows w8.drew u → (Instr.loadAt 26 (.pointer (some ⟨bx, 0, none⟩))).run Tryd.prog u = .ok (dv X) u := fun u h =>
    (hboxX.later (Grows.trans hgd h)).load Tryd.underlying26 rfl (by rw [List.length_map, HX.out]; exact dig_size2)
  have ldY : ∀ u, Grows w8.drew u → (Instr.loadAt 26 (.pointer (some ⟨by', 0, none⟩))).run Tryd.prog u = .ok (dv Y) u := fun u h =>
    (hbox8.later (Grows.trans hgd h)).load Tryd.underlying26 rfl (by rw [List.length_map, HY.out]; exact dig_size2)
  have hky : ∀ u, Grows w8.drew u → Keys u := fun u h => hk8.later (Grows.trans hgd h)
  have HKY := Lib.hid hky
  have hO := Grows.refl w8.drew
  have q1 := HSAME.out
  have q2 := HEQ.out
  have hmk : ∀ u : World, (Instr.makeSlice 22 (.int .i64 (a : Int)) (.int .i64 (a : Int))).run Tryd.prog u = _ := fun u => run_make_row 22 5 i0 _ Tryd.underlying22 hi0 hz0 hz1 rfl .i64 .i64 a (by rw [hz2]; omega) (by omega) u
  have b1 : ((a : Int) == (b : Int)) = decide (a = b) := by rw [Bool.eq_iff_iff]; simp; omega
  have b2 : (a == b) = decide (a = b) := rfl
  have b3 : decide ((a : Int) = (b : Int)) = decide (a = b) := by rw [Bool.eq_iff_iff]; simp; omega
  generalize decide (a = b) = t at *
  clear hky hk8 hboxX hbox8
  repeat (first | (refine ord_load hO _ _ (by simp only [List.getElem?_cons_succ, List.getElem?_cons_zero]; rfl) (by rfl) 26 (.tmp 7) (by rfl) _ (by rfl) ldX ?_; try simp only [Act.put, List.setIfInBounds_toArray, List.set_cons_zero, List.set_cons_succ]) | (refine ord_load hO _ _ (by simp only [List.getElem?_cons_succ, List.getElem?_cons_zero]; rfl) (by rfl) 26 (.tmp 8) (by rfl) _ (by rfl) ldY ?_; try simp only [Act.put, List.setIfInBounds_toArray, List.set_cons_zero, List.set_cons_succ]) | (refine ord_take hO _ ?_ (by simp only [List.getElem?_cons_succ, List.getElem?_cons_zero]; rfl) (by rfl) ?_ ?_; rotate_left; (· (intro u hu0 hu; (try go_simp); (try with_reducible rfl))); try simp only [Act.put, List.setIfInBounds_toArray, List.set_cons_zero, List.set_cons_succ]) | (refine ord_skip _ (by simp only [List.getElem?_cons_succ, List.getElem?_cons_zero]; rfl) (by rfl) ?_; try simp only [Act.put, List.setIfInBounds_toArray, List.set_cons_zero, List.set_cons_succ]) | (refine ord_call hO _ ?_ (by simp only [List.getElem?_cons_succ, List.getElem?_cons_zero]; rfl) (by rfl) ?_ ?_; rotate_left; (· (intro u hu0 hu; go_simp; (try refine quiet_enter ?_); (fail))); try simp only [Act.put, List.setIfInBounds_toArray, List.set_cons_zero, List.set_cons_succ]))
  (refine ord_move _ (by simp only [List.getElem?_cons_succ, List.getElem?_cons_zero]; rfl) (by rfl) (fun u hu K hK => ?_); go_simp)
  refine hK.out _ _ (grows_alloc _ _) ?_
  clear hK K hO
  have hM9 := made_has u a
  have hO := Grows.trans hu (grows_alloc u (.cells (madeCells #[.int .u8 0] a) 5))
  clear hu hmk
  generalize u.alloc (.cells (madeCells #[.int .u8 0] a) 5) = w9 at *
  generalize u.heap.size = g9 at *
  repeat (first | (refine ord_load hO _ _ (by simp only [List.getElem?_cons_succ, List.getElem?_cons_zero]; rfl) (by rfl) 26 (.tmp 7) (by rfl) _ (by rfl) ldX ?_; try simp only [Act.put, List.setIfInBounds_toArray, List.set_cons_zero, List.set_cons_succ]) | (refine ord_load hO _ _ (by simp only [List.getElem?_cons_succ, List.getElem?_cons_zero]; rfl) (by rfl) 26 (.tmp 8) (by rfl) _ (by rfl) ldY ?_; try simp only [Act.put, List.setIfInBounds_toArray, List.set_cons_zero, List.set_cons_succ]) | (refine ord_take hO _ ?_ (by simp only [List.getElem?_cons_succ, List.getElem?_cons_zero]; rfl) (by rfl) ?_ ?_; rotate_left; (· (intro u hu0 hu; (try go_simp); (try with_reducible rfl))); try simp only [Act.put, List.setIfInBounds_toArray, List.set_cons_zero, List.set_cons_succ]) | (refine ord_skip _ (by simp only [List.getElem?_cons_succ, List.getElem?_cons_zero]; rfl) (by rfl) ?_; try simp only [Act.put, List.setIfInBounds_toArray, List.set_cons_zero, List.set_cons_succ]) | (refine ord_call hO _ ?_ (by simp only [List.getElem?_cons_succ, List.getElem?_cons_zero]; rfl) (by rfl) ?_ ?_; rotate_left; (· (intro u hu0 hu; go_simp; (try refine quiet_enter ?_); (first | exact HRS.out u _ a (hM9.later hu) | exact lives_any u (HKY.out u hu0)))); try simp only [Act.put, List.setIfInBounds_toArray, List.set_cons_zero, List.set_cons_succ]))
  (refine ord_done (fun u hu => ?_); simp only [List.drop_succ_cons, List.drop_zero])
  have hfin := Grows.trans hg08 (Grows.trans hgd (Grows.trans hO hu))
  clear ldX ldY q1 q2
  go_wp2_with fail
  refine NoPanic.normal ?_
  go_wp2_with fail
  go_ret
  exact ⟨rfl, hfin⟩
end Go.Proofs.YtfpgnihibgmeeaaDoor
