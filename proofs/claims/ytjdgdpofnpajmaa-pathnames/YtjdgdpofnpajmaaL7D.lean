/-
  The walk of PathNames.
-/
import Derived.Test.YtjdgdpofnpajmaaL7B
import Derived.Test.YtjdgdpofnpajmaaRFil
import Derived.Test.YtjdgdpofnpajmaaOrf
import Derived.Lib.SlBytesConst
namespace Go.Proofs.Ytjdgdpofnpajmaa
open Go.RowKit
set_option linter.unusedVariables false

theorem six_len {s' b' f' x : List UInt8} {k : Nat} (h : [s', b', f', [46], [46, 46], [46, 46, 46]][k]? = some x) (h1 : s'.length ≤ 1000) (h2 : b'.length ≤ 1000) (h3 : f'.length ≤ 1000) : x.length ≤ 1000000 := by
  have hm := List.mem_of_getElem? h
  simp only [List.mem_cons, List.not_mem_nil, or_false] at hm
  rcases hm with rfl | rfl | rfl | rfl | rfl | rfl
  · omega
  · omega
  · omega
  · simp
  · simp
  · simp

set_option maxHeartbeats 4000000 in
theorem pathnames_walk (s : List UInt8) (x : UInt8) (at_ n : Int) (w : World) (hat : -9223372036854775808 ≤ at_ ∧ at_ ≤ 9223372036854775807) (hn : -9223372036854775808 ≤ n ∧ n ≤ 9223372036854775807) :
    Calls Try.prog 3 #[tv s, .int .u8 (x.toNat : Int), .int .i64 at_, .int .i64 n] w fun e w' => e = .returned (.bool true) ∧ Grows w w' := by
  have LV := fun u => lives7 u
  have SH : ∀ u, Calls Try.prog 10 #[tv s, .int .i64 40] u fun e w' => e = .returned (tv (s.take 40)) ∧ Grows u w' := fun u => short_any s 40 u (by omega)
  have hsl : (s.take 40).length ≤ 1000 := by simp; omega
  have R26 : ∀ u, Calls Try.prog 9 #[.int .i64 n, .int .i64 26] u fun e w' => e = .returned (.int .i64 (around n 26 : Int)) ∧ u = w' := fun u => around_any n 26 u hn (by omega)
  have R31 : ∀ u, Calls Try.prog 9 #[.int .i64 n, .int .i64 31] u fun e w' => e = .returned (.int .i64 (around n 31 : Int)) ∧ Grows u w' := fun u => (around_any n 31 u hn (by omega)).mono (fun e w' h => ⟨h.1, h.2 ▸ Grows.refl _⟩)
  have k1 : around n 26 < 26 := around_lt n (by omega)
  have k3 : around n 31 < 31 := around_lt n (by omega)
  generalize around n 26 = a1 at *
  generalize around n 31 = a3 at *
  generalize s.take 40 = s' at *
  have F1 := fun u hu => fill_own (some ⟨w.heap.size, 0, none⟩) 3 3 (1 + a1) [97, 98, 46] u rfl hu (by unfold maxLen; omega) (by omega)
  have hm1 : 0 < 1 + a1 := by omega
  have hm2 : 1 + a1 ≤ 26 := by omega
  have hc1 : (((1 + a1 : Nat) : Int)) = 1 + (a1 : Int) := by omega
  rw [hc1] at F1
  have hnew : Lies (w.alloc (.cells #[.int .u8 97, .int .u8 98, .int .u8 46] 5 (3, 4))) (w.heap.size + 1) (some ⟨w.heap.size, 0, none⟩) ([97, 98, 46].map bv) := fun j u hu =>
    ⟨⟨w.heap.size, 0, none⟩, rfl, Nat.lt_succ_self _, by rw [add_plain, Nat.zero_add, World.cell?_alloc_mark]; show ([bv 97, bv 98, bv 46].toArray)[j]? = some u; rw [List.getElem?_toArray]; exact hu⟩
  have cvt : (convert 22 22 (.slice (some ⟨w.heap.size, 0, none⟩) 3 3)).run Try.prog (w.alloc (.cells #[.int .u8 97, .int .u8 98, .int .u8 46] 5)) = .ok (.slice (some ⟨w.heap.size, 0, none⟩) 3 3) (w.alloc (.cells #[.int .u8 97, .int .u8 98, .int .u8 46] 5 (3, 4))) := Lib.run_convert_bytes_const w 22 5 _ 3 3 Try.underlying22 Try.underlying5
  have hga := grows_alloc w (.cells #[.int .u8 97, .int .u8 98, .int .u8 46] 5 (3, 4))
  have hw1 : IntKind.i64.wrap (1 + (a1 : Int)) = 1 + (a1 : Int) := by rw [IntKind.wrap_i64]; omega
  obtain ⟨m, hm⟩ : ∃ m, m = 1 + a1 := ⟨_, rfl⟩
  rw [← hm] at F1 hm1 hm2
  have FC := Lib.hid (F1 (w.alloc (.cells #[.int .u8 97, .int .u8 98, .int .u8 46] 5 (3, 4))) (by rw [World.size_alloc]; exact hnew))
  have HGA := Lib.hid hga
  clear F1 hnew hc1 hm hga
  replace LV := Lib.hid LV
  replace SH := Lib.hid SH
  replace R26 := Lib.hid R26
  replace R31 := Lib.hid R31
  go_enter Try.func3, Try.ntmps3
  go_wp2_with (go_at_call 9; with_reducible refine (R26.out _).mono ?_; rintro e w' ⟨rfl, rfl⟩)
  refine FC.out.mono ?_
  rintro e w1 ⟨l, A1, c1, hl, rfl, hcc, hcm, hown, hg1⟩
  obtain ⟨g, c1', hv, hcc', hgb, hbox⟩ := own_box hown hm1
  injection hv with hv1 hv2 hv3
  subst hv1
  subst hv3
  have RA := Lib.hid (around_any at_ m w1 hat ⟨hm1, by omega⟩)
  have k2 := around_lt at_ hm1
  obtain ⟨a2, ha2⟩ : ∃ a2, a2 = around at_ m := ⟨_, rfl⟩
  rw [← ha2] at RA k2
  obtain ⟨y, hy⟩ : ∃ y, l[a2]? = some y := ⟨_, List.getElem?_eq_getElem (by omega)⟩
  have cx := hbox.cell hy
  have fx := hbox.free a2
  have q0 : (0 : Int) ≤ (a2 : Int) := Int.natCast_nonneg _
  have q1 : (a2 : Int) < (m : Int) := by omega
  have HB := Lib.hid hbox
  have HLl := Lib.hid hl
  clear hbox hy ha2 hown hl cvt
  go_wp2_with (go_at_call 9; with_reducible refine RA.out.mono ?_; rintro e w' ⟨rfl, rfl⟩)
  have hg01 : Grows w w1 := grow_trans HGA.out hg1
  have hbx := HB.out.set_ (show a2 < l.length by rw [HLl.out]; exact k2) x
  have hg2 : Grows w (w1.setCell ⟨g, a2, none⟩ (bv x)) := Below.setCell hg01 (p := ⟨g, a2, none⟩) (by have := HGA.out.size; show w.heap.size ≤ g; omega) _
  have HLb : Hid ((l.set a2 x).length = m) := by show _ = _; rw [List.length_set, HLl.out]
  clear hg01 hg1 cx fx HB HLl HGA FC RA R26
  change Code.wp _ _ _ _ (w1.setCell ⟨g, a2, none⟩ (bv x))
  generalize w1.setCell ⟨g, a2, none⟩ (bv x) = w2 at *
  generalize l.set a2 x = b' at *
  refine wp_region_soft (B := w2.heap.size) 10 [(0, true), (1, true), (2, true), (3, true), (6, true), (7, true), (4, false), (5, false), (8, false), (9, true)] (by kernel_rfl) (by kernel_rfl) ?_
  have SHs := Lib.hid (fun u (hu : w2.heap.size ≤ u.heap.size) => soft_calls hu (SH.out u))
  have R3s := Lib.hid (fun u (hu : w2.heap.size ≤ u.heap.size) => soft_calls hu (R31.out u))
  have hgd : Grows w2 w2.drew := (Grows.refl w2).drew
  have hbd := (hbx.later hgd).lies
  have hBs : w2.heap.size ≤ w2.drew.heap.size := hgd.size
  have hO : Soft w2.heap.size w2.drew w2.drew := Soft.refl w2.drew
  have hS0 : Soft w2.heap.size w2 w2.drew := Soft.of_grows (Nat.le_refl _) hgd
  clear hbx hgd
  generalize w2.drew = wd at *
  have cv1 : ∀ u, Soft w2.heap.size wd u → (convert 22 9 (.slice (some ⟨g, 0, none⟩) m c1)).run Try.prog u = .ok (tv b') u := fun u h =>
    run_string_of u 22 5 Try.underlying22 Try.underlying5 9 Try.underlying9 _ _ m c1 b' HLb.out (h.lies hbd (Nat.le_refl _))
  repeat (first | (refine ors_take hO _ ?_ (by simp only [List.getElem?_cons_succ, List.getElem?_cons_zero]; rfl) (by rfl) ?_ ?_; rotate_left; (· (intro u hu0 hu; (try go_simp); (try with_reducible rfl))); try simp only [Act.put, List.setIfInBounds_toArray, List.set_cons_zero, List.set_cons_succ]) | (refine ors_skip _ (by simp only [List.getElem?_cons_succ, List.getElem?_cons_zero]; rfl) (by rfl) ?_; try simp only [Act.put, List.setIfInBounds_toArray, List.set_cons_zero, List.set_cons_succ]) | (refine ors_call hO _ ?_ (by simp only [List.getElem?_cons_succ, List.getElem?_cons_zero]; rfl) (by rfl) ?_ ?_; rotate_left; (· (intro u hu0 hu; go_simp; (try refine quiet_soft ?_); (first | with_reducible exact SHs.out u (Nat.le_trans hBs hu0.size) | with_reducible exact R3s.out u (Nat.le_trans hBs hu0.size)))); try simp only [Act.put, List.setIfInBounds_toArray, List.set_cons_zero, List.set_cons_succ]))
  clear hO cv1
  (refine ors_move _ (by simp only [List.getElem?_cons_succ, List.getElem?_cons_zero]; rfl) (by rfl) (fun u hu K hK => ?_); go_simp)
  refine hK.out _ _ (Soft.of_grows (Nat.le_trans hBs hu.size) (grows_alloc _ _)) ?_
  clear hK K
  have hn2 : Lies (u.alloc (.cells #[.int .u8 120] 5)) (u.alloc (.cells #[.int .u8 120] 5)).heap.size (some ⟨u.heap.size, 0, none⟩) ([120].map bv) := by rw [World.size_alloc]; exact Lies.new u 5 [bv 120]
  have hgb3 : w2.heap.size ≤ u.heap.size := Nat.le_trans hBs hu.size
  have hSu := Soft.trans (Soft.trans hS0 hu) (Soft.of_grows hgb3 (grows_alloc u (.cells #[.int .u8 120] 5)))
  have hbu := (Soft.trans hu (Soft.of_grows hgb3 (grows_alloc u (.cells #[.int .u8 120] 5)))).lies hbd (Nat.le_refl _)
  clear hu hS0 hbd
  generalize u.alloc (.cells #[.int .u8 120] 5) = w3 at *
  generalize u.heap.size = b3 at *
  (refine ors_move _ (by simp only [List.getElem?_cons_succ, List.getElem?_cons_zero]; rfl) (by rfl) (fun u hu K hK => ?_); go_simp)
  obtain ⟨w3', hmk, hsm⟩ := run_mark (P := Try.prog) (B := w2.heap.size) u 22 5 b3 1 1 hgb3 Try.underlying22 Try.underlying5
  simp only [hmk, Result.andThen_ok]
  refine hK.out _ _ hsm ?_
  clear hK K
  have hn3 := hsm.lies_later (hu.lies_later hn2)
  have hSv := Soft.trans hSu (Soft.trans hu hsm)
  clear hmk hu hsm hn2 hSu
  (refine ors_move _ (by simp only [List.getElem?_cons_succ, List.getElem?_cons_zero]; rfl) (by rfl) (fun u hu K hK => ?_); go_simp)
  refine (fill_any (some ⟨b3, 0, none⟩) 1 1 a3 [120] u rfl (hu.lies_later hn3) (by unfold maxLen; omega) (by omega)).mono ?_
  rintro e w4 ⟨f', A4, c4, hl4, rfl, hc4, hm4, hL4, hg4⟩
  have hsg : Soft w2.heap.size u w4 := Soft.of_grows (by have := hSv.size; have := hu.size; omega) hg4
  refine hK.out _ _ hsg ?_
  clear hK K
  have hSw := Soft.trans hSv (Soft.trans hu hsg)
  clear hu hg4 hsg hSv hn3
  have hO : Soft w2.heap.size w4 w4 := Soft.refl w4
  have HL4 := Lib.hid hl4
  clear hl4
  have cv2 : ∀ u, Soft w2.heap.size w4 u → (convert 22 9 (.slice A4 a3 c4)).run Try.prog u = .ok (tv f') u := fun u h =>
    run_string_of u 22 5 Try.underlying22 Try.underlying5 9 Try.underlying9 _ A4 a3 c4 f' HL4.out (h.lies hL4 (Nat.le_refl _))
  repeat (first | (refine ors_take hO _ ?_ (by simp only [List.getElem?_cons_succ, List.getElem?_cons_zero]; rfl) (by rfl) ?_ ?_; rotate_left; (· (intro u hu0 hu; (try go_simp); (try with_reducible rfl))); try simp only [Act.put, List.setIfInBounds_toArray, List.set_cons_zero, List.set_cons_succ]) | (refine ors_skip _ (by simp only [List.getElem?_cons_succ, List.getElem?_cons_zero]; rfl) (by rfl) ?_; try simp only [Act.put, List.setIfInBounds_toArray, List.set_cons_zero, List.set_cons_succ]))
  clear hO cv2
  (refine ors_done (fun u hu => ?_); simp only [List.drop_succ_cons, List.drop_zero])
  have hg05 : Grows w u := by
    have h1 : Below w2.heap.size w2 u := (Soft.trans hSw hu).below
    exact grow_trans hg2 h1
  clear hu hL4 hSw hg2
  go_wp2_with fail
  refine NoPanic.normal ?_
  have hga := grows_alloc u (.cells #[tv s', tv b', tv f', .string ⟨#[46]⟩, .string ⟨#[46, 46]⟩, .string ⟨#[46, 46, 46]⟩] 9)
  have ta : Texts (u.alloc (.cells #[tv s', tv b', tv f', .string ⟨#[46]⟩, .string ⟨#[46, 46]⟩, .string ⟨#[46, 46, 46]⟩] 9)) (some ⟨u.heap.size, 0, none⟩) 6 6 [s', b', f', [46], [46, 46], [46, 46, 46]] := ⟨rfl, Nat.le_refl _, by unfold maxLen; omega, by rw [World.size_alloc]; exact Lies.new u 9 [tv s', tv b', tv f', tv [46], tv [46, 46], tv [46, 46, 46]], .inr ⟨_, _, rfl⟩⟩
  have hg06 := Grows.trans hg05 hga
  clear hg05 hga
  change Exit.then _ _ _ _ (u.alloc (.cells #[tv s', tv b', tv f', .string ⟨#[46]⟩, .string ⟨#[46, 46]⟩, .string ⟨#[46, 46, 46]⟩] 9))
  generalize u.alloc (.cells #[tv s', tv b', tv f', .string ⟨#[46]⟩, .string ⟨#[46, 46]⟩, .string ⟨#[46, 46, 46]⟩] 9) = w6 at *
  generalize u.heap.size = ba at *
  go_wp2_with fail
  go_loopw [11] (fun i wr => ∃ j : Nat, j ≤ 6 ∧ i = .int .i64 j ∧ Grows w6 wr) (fun i _ => 6 - (intOf i).toNat)
  case atStart => exact ⟨0, by omega, rfl, Grows.refl _⟩
  case round =>
    obtain ⟨j, hj, rfl, hg7⟩ := hrel
    have ta7 := ta.later hg7
    have hg07 := grow_trans hg06 hg7
    by_cases hlt : j < 6
    · obtain ⟨ad, z, e, hz, cz⟩ := texts_at ta7 hlt
      injection e with e
      subst e
      rw [add_plain, Nat.zero_add] at cz
      have lz := six_len hz hsl (by rw [HLb.out]; omega) (by rw [HL4.out]; omega)
      have N1 := Lib.hid (fun u => name_any z u)
      have N2 := Lib.hid (fun u => rname_any z u lz)
      generalize nameB z = t at *
      have q0 : (0 : Int) ≤ (j : Int) := Int.natCast_nonneg _
      have q1 : (j : Int) < 6 := by omega
      clear lz hz ta7
      go_wp2_with fail
      refine wp_region_ord 11 [(0, true), (1, true), (2, true), (3, true), (4, true), (5, true), (6, true), (7, true), (8, true), (9, true), (10, true)] (by kernel_rfl) (by kernel_rfl) ?_
      have hgd : Grows wr wr.drew := (Grows.refl wr).drew
      have hcd := hcell_later cz hgd
      have hg7d := grow_trans hg7 hgd
      have hO := Grows.refl wr.drew
      clear cz hgd
      generalize wr.drew = wd' at *
      have ld : ∀ u, Grows wd' u → u.cell? ⟨ba, j, none⟩ = some (tv z) := fun u h => hcell_later hcd h
      clear hcd
      repeat (first | (refine ord_take hO _ ?_ (by simp only [List.getElem?_cons_succ, List.getElem?_cons_zero]; rfl) (by rfl) ?_ ?_; rotate_left; (· (intro u hu0 hu; (try go_simp); (try with_reducible rfl))); try simp only [Act.put, List.setIfInBounds_toArray, List.set_cons_zero, List.set_cons_succ]) | (refine ord_skip _ (by simp only [List.getElem?_cons_succ, List.getElem?_cons_zero]; rfl) (by rfl) ?_; try simp only [Act.put, List.setIfInBounds_toArray, List.set_cons_zero, List.set_cons_succ]) | (refine ord_call hO _ ?_ (by simp only [List.getElem?_cons_succ, List.getElem?_cons_zero]; rfl) (by rfl) ?_ ?_; rotate_left; (· (intro u hu0 hu; go_simp; (try refine quiet_enter ?_); (first | with_reducible exact N1.out u | with_reducible exact N2.out u))); try simp only [Act.put, List.setIfInBounds_toArray, List.set_cons_zero, List.set_cons_succ]))
      clear hO ld
      (refine ord_done (fun u hu => ?_); simp only [List.drop_succ_cons, List.drop_zero])
      have hgf := grow_trans hg7d hu
      go_wp2_with fail
      refine NoPanic.normal ?_
      go_wp2_with fail
      go_roundw
      case rel => exact ⟨j + 1, by omega, by go_num, hgf⟩
      case measure => simp [intOf]; omega
    · obtain rfl : j = 6 := by omega
      go_wp2_with (go_at_call 13; refine (LV.out _).mono ?_; rintro e w8 ⟨rfl, hg8⟩)
      go_ret
      exact ⟨rfl, grow_trans hg07 hg8⟩
end Go.Proofs.Ytjdgdpofnpajmaa
