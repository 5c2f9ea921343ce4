/-
  The walks of PathRow and PathParents.
-/
import Derived.Test.YtjdgdpofnpajmaaPaG
namespace Go.Proofs.Ytjdgdpofnpajmaa
open Go.RowKit
set_option linter.unusedVariables false

theorem made_len (zs : List Int) : (madeOf zs).length ≤ 150 := namesOf_join zs 6
theorem wrap_small7 {c : Int} (h : -1 ≤ c ∧ c ≤ 1) : IntKind.wrap .i64 (-c) = -c := by rw [IntKind.wrap_i64]; omega

set_option maxHeartbeats 2000000 in
theorem pathrow_walk (A1 : Option Addr) (n1 c1 : Nat) (zs1 : List Int) (A2 : Option Addr) (n2 c2 : Nat) (zs2 : List Int) (A3 : Option Addr) (n3 c3 : Nat) (zs3 : List Int) (w : World) (hl1 : zs1.length = n1) (hr1 : Lies w w.heap.size A1 (zs1.map zv)) (hc1 : n1 ≤ maxLen) (hz1 : ∀ z ∈ zs1, -9223372036854775808 ≤ z ∧ z ≤ 9223372036854775807) (hl2 : zs2.length = n2) (hr2 : Lies w w.heap.size A2 (zs2.map zv)) (hc2 : n2 ≤ maxLen) (hz2 : ∀ z ∈ zs2, -9223372036854775808 ≤ z ∧ z ≤ 9223372036854775807) (hl3 : zs3.length = n3) (hr3 : Lies w w.heap.size A3 (zs3.map zv)) (hc3 : n3 ≤ maxLen) (hz3 : ∀ z ∈ zs3, -9223372036854775808 ≤ z ∧ z ≤ 9223372036854775807) :
    Calls Try.prog 6 #[.slice A1 n1 c1, .slice A2 n2 c2, .slice A3 n3 c3] w fun e w' => e = .returned (.bool true) ∧ Grows w w' := by
  have M1 : ∀ u, Lies u u.heap.size A1 (zs1.map zv) → Calls Try.prog 20 #[.slice A1 n1 c1] u fun e w' => e = .returned (tv (madeOf zs1)) ∧ Grows u w' := fun u hu => made_any7 A1 n1 c1 zs1 u hl1 hu hc1 hz1
  have M2 : ∀ u, Lies u u.heap.size A2 (zs2.map zv) → Calls Try.prog 20 #[.slice A2 n2 c2] u fun e w' => e = .returned (tv (madeOf zs2)) ∧ Grows u w' := fun u hu => made_any7 A2 n2 c2 zs2 u hl2 hu hc2 hz2
  have M3 : ∀ u, Lies u u.heap.size A3 (zs3.map zv) → Calls Try.prog 20 #[.slice A3 n3 c3] u fun e w' => e = .returned (tv (madeOf zs3)) ∧ Grows u w' := fun u hu => made_any7 A3 n3 c3 zs3 u hl3 hu hc3 hz3
  have lx := made_len zs1
  generalize madeOf zs1 = x at *
  clear hl1 hc1 hz1
  have ly := made_len zs2
  generalize madeOf zs2 = y at *
  clear hl2 hc2 hz2
  have lz := made_len zs3
  generalize madeOf zs3 = z at *
  clear hl3 hc3 hz3
  have Cxy := fun u => compare_any x y u (by omega) (by omega)
  have Cyz := fun u => compare_any y z u (by omega) (by omega)
  have Cyx := fun u => compare_any y x u (by omega) (by omega)
  have Cxz := fun u => compare_any x z u (by omega) (by omega)
  have Rxy := fun u => rcompare_any x y u (by omega) (by omega)
  have Uxy := fun u => under_any x y u (by omega) (by omega)
  have Vxy := fun u => runder_any x y u (by omega) (by omega)
  have Uyx := fun u => under_any y x u (by omega) (by omega)
  have Vyx := fun u => runder_any y x u (by omega) (by omega)
  have LV := fun u => lives7 u
  have e1 : ∀ t, binOp .eql t (tv x) (tv y) = (pure (.bool (x == y)) : Sem Value) := fun t => run_teq (P := Try.prog) t x y
  have ha := compare_anti x y
  have he := compare_eq x y
  have ht := compare_trans x y z
  have hv := cmpL_val (piecesOf x) (piecesOf y)
  change compareOf x y = -1 ∨ compareOf x y = 0 ∨ compareOf x y = 1 at hv
  rw [ha] at Cyx
  clear ha
  generalize compareOf x y = cxy at *
  generalize compareOf y z = cyz at *
  generalize compareOf x z = cxz at *
  generalize underOf x y = uxy at *
  generalize underOf y x = uyx at *
  have hgr := Grows.refl w
  replace M1 := Lib.hid M1
  replace M2 := Lib.hid M2
  replace M3 := Lib.hid M3
  replace Cxy := Lib.hid Cxy
  replace Cyz := Lib.hid Cyz
  replace Cyx := Lib.hid Cyx
  replace Cxz := Lib.hid Cxz
  replace Rxy := Lib.hid Rxy
  replace Uxy := Lib.hid Uxy
  replace Vxy := Lib.hid Vxy
  replace Uyx := Lib.hid Uyx
  replace Vyx := Lib.hid Vyx
  replace LV := Lib.hid LV
  have fin : ∀ b1 : Bool, (x == y) = b1 → (cxy = 0 ↔ b1 = true) → (∃ t, t = cyz) → Calls Try.prog 6 #[.slice A1 n1 c1, .slice A2 n2 c2, .slice A3 n3 c3] w fun e w' => e = .returned (.bool true) ∧ Grows w w' := fun b1 hb1 hb2 _ => by
    rw [hb1] at e1
    clear he
    have HT := Lib.hid ht
    clear ht hb1
    rcases hv with rfl | rfl | rfl
    · obtain rfl : b1 = false := by cases b1 <;> simp at hb2 <;> rfl
      clear hb2
      by_cases hq : 0 < cyz
      · go_enter Try.func6, Try.ntmps6
        go_wp2_with (first
      | (go_at_call 20; with_reducible refine (M1.out _ (hr1.later hgr)).mono ?_; rintro e w1 ⟨rfl, hg⟩; replace hgr := grow_trans hgr hg; clear hg)
      | (go_at_call 20; with_reducible refine (M2.out _ (hr2.later hgr)).mono ?_; rintro e w1 ⟨rfl, hg⟩; replace hgr := grow_trans hgr hg; clear hg)
      | (go_at_call 20; with_reducible refine (M3.out _ (hr3.later hgr)).mono ?_; rintro e w1 ⟨rfl, hg⟩; replace hgr := grow_trans hgr hg; clear hg)
      | (go_at_call 21; with_reducible refine (Cxy.out _).mono ?_; rintro e w1 ⟨rfl, hg⟩; replace hgr := grow_trans hgr hg; clear hg)
      | (go_at_call 21; with_reducible refine (Cyz.out _).mono ?_; rintro e w1 ⟨rfl, hg⟩; replace hgr := grow_trans hgr hg; clear hg)
      | (go_at_call 21; with_reducible refine (Cyx.out _).mono ?_; rintro e w1 ⟨rfl, hg⟩; replace hgr := grow_trans hgr hg; clear hg)
      | (go_at_call 21; with_reducible refine (Cxz.out _).mono ?_; rintro e w1 ⟨rfl, hg⟩; replace hgr := grow_trans hgr hg; clear hg)
      | (go_at_call 22; with_reducible refine (Rxy.out _).mono ?_; rintro e w1 ⟨rfl, hg⟩; replace hgr := grow_trans hgr hg; clear hg)
      | (go_at_call 23; with_reducible refine (Uxy.out _).mono ?_; rintro e w1 ⟨rfl, hg⟩; replace hgr := grow_trans hgr hg; clear hg)
      | (go_at_call 23; with_reducible refine (Uyx.out _).mono ?_; rintro e w1 ⟨rfl, hg⟩; replace hgr := grow_trans hgr hg; clear hg)
      | (go_at_call 24; with_reducible refine (Vxy.out _).mono ?_; rintro e w1 ⟨rfl, hg⟩; replace hgr := grow_trans hgr hg; clear hg)
      | (go_at_call 24; with_reducible refine (Vyx.out _).mono ?_; rintro e w1 ⟨rfl, hg⟩; replace hgr := grow_trans hgr hg; clear hg)
      | (go_at_call 13; with_reducible refine (LV.out _).mono ?_; rintro e w1 ⟨rfl, hg⟩; replace hgr := grow_trans hgr hg; clear hg))
        go_ret
        exact ⟨rfl, hgr⟩
      · have hq2 : cxz ≤ 0 := HT.out (by omega) (by omega)
        have hq3 : cyz ≤ 0 := by omega
        go_enter Try.func6, Try.ntmps6
        go_wp2_with (first
      | (go_at_call 20; with_reducible refine (M1.out _ (hr1.later hgr)).mono ?_; rintro e w1 ⟨rfl, hg⟩; replace hgr := grow_trans hgr hg; clear hg)
      | (go_at_call 20; with_reducible refine (M2.out _ (hr2.later hgr)).mono ?_; rintro e w1 ⟨rfl, hg⟩; replace hgr := grow_trans hgr hg; clear hg)
      | (go_at_call 20; with_reducible refine (M3.out _ (hr3.later hgr)).mono ?_; rintro e w1 ⟨rfl, hg⟩; replace hgr := grow_trans hgr hg; clear hg)
      | (go_at_call 21; with_reducible refine (Cxy.out _).mono ?_; rintro e w1 ⟨rfl, hg⟩; replace hgr := grow_trans hgr hg; clear hg)
      | (go_at_call 21; with_reducible refine (Cyz.out _).mono ?_; rintro e w1 ⟨rfl, hg⟩; replace hgr := grow_trans hgr hg; clear hg)
      | (go_at_call 21; with_reducible refine (Cyx.out _).mono ?_; rintro e w1 ⟨rfl, hg⟩; replace hgr := grow_trans hgr hg; clear hg)
      | (go_at_call 21; with_reducible refine (Cxz.out _).mono ?_; rintro e w1 ⟨rfl, hg⟩; replace hgr := grow_trans hgr hg; clear hg)
      | (go_at_call 22; with_reducible refine (Rxy.out _).mono ?_; rintro e w1 ⟨rfl, hg⟩; replace hgr := grow_trans hgr hg; clear hg)
      | (go_at_call 23; with_reducible refine (Uxy.out _).mono ?_; rintro e w1 ⟨rfl, hg⟩; replace hgr := grow_trans hgr hg; clear hg)
      | (go_at_call 23; with_reducible refine (Uyx.out _).mono ?_; rintro e w1 ⟨rfl, hg⟩; replace hgr := grow_trans hgr hg; clear hg)
      | (go_at_call 24; with_reducible refine (Vxy.out _).mono ?_; rintro e w1 ⟨rfl, hg⟩; replace hgr := grow_trans hgr hg; clear hg)
      | (go_at_call 24; with_reducible refine (Vyx.out _).mono ?_; rintro e w1 ⟨rfl, hg⟩; replace hgr := grow_trans hgr hg; clear hg)
      | (go_at_call 13; with_reducible refine (LV.out _).mono ?_; rintro e w1 ⟨rfl, hg⟩; replace hgr := grow_trans hgr hg; clear hg))
        go_ret
        exact ⟨rfl, hgr⟩
    · obtain rfl : b1 = true := by cases b1 <;> simp at hb2 <;> rfl
      clear hb2
      by_cases hq : 0 < cyz
      · go_enter Try.func6, Try.ntmps6
        go_wp2_with (first
      | (go_at_call 20; with_reducible refine (M1.out _ (hr1.later hgr)).mono ?_; rintro e w1 ⟨rfl, hg⟩; replace hgr := grow_trans hgr hg; clear hg)
      | (go_at_call 20; with_reducible refine (M2.out _ (hr2.later hgr)).mono ?_; rintro e w1 ⟨rfl, hg⟩; replace hgr := grow_trans hgr hg; clear hg)
      | (go_at_call 20; with_reducible refine (M3.out _ (hr3.later hgr)).mono ?_; rintro e w1 ⟨rfl, hg⟩; replace hgr := grow_trans hgr hg; clear hg)
      | (go_at_call 21; with_reducible refine (Cxy.out _).mono ?_; rintro e w1 ⟨rfl, hg⟩; replace hgr := grow_trans hgr hg; clear hg)
      | (go_at_call 21; with_reducible refine (Cyz.out _).mono ?_; rintro e w1 ⟨rfl, hg⟩; replace hgr := grow_trans hgr hg; clear hg)
      | (go_at_call 21; with_reducible refine (Cyx.out _).mono ?_; rintro e w1 ⟨rfl, hg⟩; replace hgr := grow_trans hgr hg; clear hg)
      | (go_at_call 21; with_reducible refine (Cxz.out _).mono ?_; rintro e w1 ⟨rfl, hg⟩; replace hgr := grow_trans hgr hg; clear hg)
      | (go_at_call 22; with_reducible refine (Rxy.out _).mono ?_; rintro e w1 ⟨rfl, hg⟩; replace hgr := grow_trans hgr hg; clear hg)
      | (go_at_call 23; with_reducible refine (Uxy.out _).mono ?_; rintro e w1 ⟨rfl, hg⟩; replace hgr := grow_trans hgr hg; clear hg)
      | (go_at_call 23; with_reducible refine (Uyx.out _).mono ?_; rintro e w1 ⟨rfl, hg⟩; replace hgr := grow_trans hgr hg; clear hg)
      | (go_at_call 24; with_reducible refine (Vxy.out _).mono ?_; rintro e w1 ⟨rfl, hg⟩; replace hgr := grow_trans hgr hg; clear hg)
      | (go_at_call 24; with_reducible refine (Vyx.out _).mono ?_; rintro e w1 ⟨rfl, hg⟩; replace hgr := grow_trans hgr hg; clear hg)
      | (go_at_call 13; with_reducible refine (LV.out _).mono ?_; rintro e w1 ⟨rfl, hg⟩; replace hgr := grow_trans hgr hg; clear hg))
        go_ret
        exact ⟨rfl, hgr⟩
      · have hq2 : cxz ≤ 0 := HT.out (by omega) (by omega)
        have hq3 : cyz ≤ 0 := by omega
        go_enter Try.func6, Try.ntmps6
        go_wp2_with (first
      | (go_at_call 20; with_reducible refine (M1.out _ (hr1.later hgr)).mono ?_; rintro e w1 ⟨rfl, hg⟩; replace hgr := grow_trans hgr hg; clear hg)
      | (go_at_call 20; with_reducible refine (M2.out _ (hr2.later hgr)).mono ?_; rintro e w1 ⟨rfl, hg⟩; replace hgr := grow_trans hgr hg; clear hg)
      | (go_at_call 20; with_reducible refine (M3.out _ (hr3.later hgr)).mono ?_; rintro e w1 ⟨rfl, hg⟩; replace hgr := grow_trans hgr hg; clear hg)
      | (go_at_call 21; with_reducible refine (Cxy.out _).mono ?_; rintro e w1 ⟨rfl, hg⟩; replace hgr := grow_trans hgr hg; clear hg)
      | (go_at_call 21; with_reducible refine (Cyz.out _).mono ?_; rintro e w1 ⟨rfl, hg⟩; replace hgr := grow_trans hgr hg; clear hg)
      | (go_at_call 21; with_reducible refine (Cyx.out _).mono ?_; rintro e w1 ⟨rfl, hg⟩; replace hgr := grow_trans hgr hg; clear hg)
      | (go_at_call 21; with_reducible refine (Cxz.out _).mono ?_; rintro e w1 ⟨rfl, hg⟩; replace hgr := grow_trans hgr hg; clear hg)
      | (go_at_call 22; with_reducible refine (Rxy.out _).mono ?_; rintro e w1 ⟨rfl, hg⟩; replace hgr := grow_trans hgr hg; clear hg)
      | (go_at_call 23; with_reducible refine (Uxy.out _).mono ?_; rintro e w1 ⟨rfl, hg⟩; replace hgr := grow_trans hgr hg; clear hg)
      | (go_at_call 23; with_reducible refine (Uyx.out _).mono ?_; rintro e w1 ⟨rfl, hg⟩; replace hgr := grow_trans hgr hg; clear hg)
      | (go_at_call 24; with_reducible refine (Vxy.out _).mono ?_; rintro e w1 ⟨rfl, hg⟩; replace hgr := grow_trans hgr hg; clear hg)
      | (go_at_call 24; with_reducible refine (Vyx.out _).mono ?_; rintro e w1 ⟨rfl, hg⟩; replace hgr := grow_trans hgr hg; clear hg)
      | (go_at_call 13; with_reducible refine (LV.out _).mono ?_; rintro e w1 ⟨rfl, hg⟩; replace hgr := grow_trans hgr hg; clear hg))
        go_ret
        exact ⟨rfl, hgr⟩
    · obtain rfl : b1 = false := by cases b1 <;> simp at hb2 <;> rfl
      clear hb2
      go_enter Try.func6, Try.ntmps6
      go_wp2_with (first
      | (go_at_call 20; with_reducible refine (M1.out _ (hr1.later hgr)).mono ?_; rintro e w1 ⟨rfl, hg⟩; replace hgr := grow_trans hgr hg; clear hg)
      | (go_at_call 20; with_reducible refine (M2.out _ (hr2.later hgr)).mono ?_; rintro e w1 ⟨rfl, hg⟩; replace hgr := grow_trans hgr hg; clear hg)
      | (go_at_call 20; with_reducible refine (M3.out _ (hr3.later hgr)).mono ?_; rintro e w1 ⟨rfl, hg⟩; replace hgr := grow_trans hgr hg; clear hg)
      | (go_at_call 21; with_reducible refine (Cxy.out _).mono ?_; rintro e w1 ⟨rfl, hg⟩; replace hgr := grow_trans hgr hg; clear hg)
      | (go_at_call 21; with_reducible refine (Cyz.out _).mono ?_; rintro e w1 ⟨rfl, hg⟩; replace hgr := grow_trans hgr hg; clear hg)
      | (go_at_call 21; with_reducible refine (Cyx.out _).mono ?_; rintro e w1 ⟨rfl, hg⟩; replace hgr := grow_trans hgr hg; clear hg)
      | (go_at_call 21; with_reducible refine (Cxz.out _).mono ?_; rintro e w1 ⟨rfl, hg⟩; replace hgr := grow_trans hgr hg; clear hg)
      | (go_at_call 22; with_reducible refine (Rxy.out _).mono ?_; rintro e w1 ⟨rfl, hg⟩; replace hgr := grow_trans hgr hg; clear hg)
      | (go_at_call 23; with_reducible refine (Uxy.out _).mono ?_; rintro e w1 ⟨rfl, hg⟩; replace hgr := grow_trans hgr hg; clear hg)
      | (go_at_call 23; with_reducible refine (Uyx.out _).mono ?_; rintro e w1 ⟨rfl, hg⟩; replace hgr := grow_trans hgr hg; clear hg)
      | (go_at_call 24; with_reducible refine (Vxy.out _).mono ?_; rintro e w1 ⟨rfl, hg⟩; replace hgr := grow_trans hgr hg; clear hg)
      | (go_at_call 24; with_reducible refine (Vyx.out _).mono ?_; rintro e w1 ⟨rfl, hg⟩; replace hgr := grow_trans hgr hg; clear hg)
      | (go_at_call 13; with_reducible refine (LV.out _).mono ?_; rintro e w1 ⟨rfl, hg⟩; replace hgr := grow_trans hgr hg; clear hg))
      go_ret
      exact ⟨rfl, hgr⟩
  by_cases hxy : x = y
  · exact fin true (by rw [beq_iff_eq]; exact hxy) (by rw [he]; simp [hxy]) ⟨_, rfl⟩
  · exact fin false (by rw [beq_eq_false_iff_ne]; exact hxy) (by rw [he]; simp [hxy]) ⟨_, rfl⟩
end Go.Proofs.Ytjdgdpofnpajmaa
