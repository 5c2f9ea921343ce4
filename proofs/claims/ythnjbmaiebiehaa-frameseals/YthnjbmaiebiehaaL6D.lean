/-
  The walk of FrameSeals.
-/
import Derived.Test.YthnjbmaiebiehaaL6A
import Derived.Test.YthnjbmaiebiehaaFrF
import Derived.Test.YthnjbmaiebiehaaFrI
import Derived.Test.YthnjbmaiebiehaaL5F
namespace Go.Proofs.Ythnjbmaiebiehaa
open Go.RowKit
set_option linter.unusedVariables false

set_option maxRecDepth 20000 in
set_option maxHeartbeats 8000000 in
theorem frameseals_walk (A : Option Addr) (n c : Nat) (bs : List UInt8) (A' : Option Addr) (n' c' : Nat) (zs : List Int) (w : World) (hl : bs.length = n) (hr : Lies w w.heap.size A (bs.map bv)) (hc : n ≤ c) (hm : c ≤ maxLen)
    (hl' : zs.length = n') (hr' : Lies w w.heap.size A' (zs.map zv)) (hc' : n' ≤ maxLen) (hz : ∀ z ∈ zs, -9223372036854775808 ≤ z ∧ z ≤ 9223372036854775807) :
    Calls Try.prog 3 #[.slice A n c, .slice A' n' c'] w fun e w' => e = .returned (.bool true) ∧ Grows w w' := by
  go_enter Try.func3, Try.ntmps3
  go_wp2_with fail
  refine (few_bytes A n c 150 bs w hl hr hc (by omega) hm).mono ?_
  rintro e w1 ⟨A1, c1, rfl, hc1, hown1, hL1, hg1⟩
  have HL1 : Hid ((bs.take 150).length = min n 150) := by show _ = _; rw [List.length_take, hl, Nat.min_comm]
  have hn1 : min n 150 ≤ 400 := by omega
  clear hown1 hr hl
  generalize min n 150 = n1 at *
  generalize bs.take 150 = l1 at *
  go_wp2_with fail
  refine (made_any A' n' c' zs w1 hl' (hr'.later hg1) hc' hz).mono ?_
  rintro e w3 ⟨l3, n3, c3, A3, HL3, hn3, rfl, hc3, hown3, hg3⟩
  have hL3 := Lies.of_own hown3
  have hn3 : n3 ≤ 400 := by omega
  have hL13 := hL1.later hg3
  have hg03 := Grows.trans hg1 hg3
  clear hown3 hL1 hg1 hg3 hr' hl' hz
  have hbox := Has.new w3 22 [.slice A1 n1 c1, .slice A3 n3 c3]
  have hga := grows_alloc w3 (.cells #[.slice A1 n1 c1, .slice A3 n3 c3] 22)
  have hg04 := Grows.trans hg03 hga
  have hL14 := hL13.later hga
  have hL34 := hL3.later hga
  go_wp2_with fail
  change Code.wp _ _ _ _ (w3.alloc (.cells #[.slice A1 n1 c1, .slice A3 n3 c3] 22))
  clear hga hL13 hL3 hg03
  generalize w3.alloc (.cells #[.slice A1 n1 c1, .slice A3 n3 c3] 22) = w4 at *
  generalize w3.heap.size = b at *
  go_loopw [6, 7, 8, 9, 10, 11] (fun q _ _ _ _ _ wr => ∃ k : Nat, k ≤ 2 ∧ q = iv k ∧ Grows w4 wr) (fun q _ _ _ _ _ _ => 2 - (intOf q).toNat)
  case atStart => exact ⟨0, by omega, rfl, Grows.refl _⟩
  case round =>
    obtain ⟨k, hk, rfl, hgr⟩ := hrel
    by_cases hk2 : k < 2
    · obtain ⟨Ak, nk, ck, lk, HLk, hck, hmk, hLk, hcell⟩ := two_rows (M := 400) (hbox.later hgr) HL1 HL3 (hL14.later hgr) (hL34.later hgr) hc1 hc3 hn1 hn3 k hk2
      have hk2' : (k : Int) < 2 := by omega
      go_wp2_with fail
      refine (seal_out Ak nk ck lk wr HLk.out hLk hck (by omega)).mono ?_
      rintro e w5 ⟨f, fn, c5, A5, HS, HFn, h10, hfn, rfl, hc5, _, hL5, hg5⟩
      have hc5' := hcell_later hcell hg5
      have hLk5 := hLk.later hg5
      have HOP := Lib.hid (open_seal lk (nk : Int) (by rw [HLk.out]; omega))
      rw [HS.out, HLk.out, if_neg (by omega)] at HOP
      clear hcell hLk
      go_wp2_with fail
      refine (open_any A5 fn c5 f (nk : Int) w5 HFn.out hL5 hc5 (by omega)).mono ?_
      rintro e w6 ⟨x, er, xn, c6, A6, HO, HXn, rfl, hc6, hL6, hg6⟩
      obtain ⟨rfl, rfl⟩ : lk = x ∧ 0 = er := by have := HOP.out.symm.trans HO.out; simpa using this
      have hc6' := hcell_later hc5' hg6
      have hLk6 := hLk5.later hg6
      have hL56 := hL5.later hg6
      have hgr6 := Grows.trans hgr (Grows.trans hg5 hg6)
      clear HO HOP hc5' hLk5 hL5 hg5 hg6
      have HLV : Hid (lenVal f = .tuple #[iv nk, .int .i64 0]) := by
        show _ = _
        unfold lenVal
        rw [← HS.out, if_pos (seal_form lk), seal_told lk (by rw [HLk.out]; omega), HLk.out]
      have HPV : Hid (pkVal f = .bool (decide (fn < nk + 10))) := by
        show _ = _
        have h := seal_len lk
        rw [HS.out, HFn.out, HLk.out] at h
        unfold pkVal
        rw [h.2.2, ← HS.out, seal_form lk]
        rfl
      have LE := Lib.hid (length_any A5 fn c5 f w6 HFn.out hL56 hc5 (by omega))
      rw [HLV.out] at LE
      go_wp2_with fail
      refine LE.out.mono ?_
      rintro e w7 ⟨rfl, hg7⟩
      have hc7' := hcell_later hc6' hg7
      have hLk7 := hLk6.later hg7
      have hL57 := hL56.later hg7
      have hL67 := hL6.later hg7
      have hgr7 := Grows.trans hgr6 hg7
      clear LE HLV hc6' hLk6 hL56 hL6 hgr6 hg7
      have RP : ∀ u : World, Lies u u.heap.size Ak (lk.map bv) → Calls Try.prog 13 #[.slice Ak nk ck] u fun e w' => ∃ (f : List UInt8) (fn c' : Nat) (A' : Option Addr), Hid (sealOf lk = f) ∧ Hid (f.length = fn) ∧ 10 ≤ fn ∧ fn ≤ nk + 10 ∧ e = .returned (.slice A' fn c') ∧ fn ≤ c' ∧ c' ≤ maxLen ∧ w'.ownsRow u.heap.size 5 1 (.slice A' fn c') fn (f.map bv) ∧ Lies w' w'.heap.size A' (f.map bv) ∧ Grows u w' := fun u hu => rseal_out Ak nk ck lk u HLk.out hu hck (by omega)
      have PK : ∀ u : World, Lies u u.heap.size A5 (f.map bv) → Calls Try.prog 14 #[.slice A5 fn c5] u fun e w' => e = .returned (.bool (decide (fn < nk + 10))) ∧ Grows u w' := fun u hu => by
        have := packed_any A5 fn c5 f u HFn.out hu hc5 (by omega)
        rwa [HPV.out] at this
      obtain ⟨t, ht⟩ : ∃ t, decide (fn < nk + 10) = t := ⟨_, rfl⟩
      have hd2 : decide ((fn : Int) < (nk : Int) + 10) = t := by rw [← ht]; congr 1; apply propext; omega
      have hd1 : decide ((nk : Int) + 10 < (fn : Int)) = false := by simp; omega
      have hw10 : IntKind.i64.wrap ((nk : Int) + 10) = (nk : Int) + 10 := by unfold IntKind.wrap; simp [IntKind.signed, IntKind.bits]; omega
      rw [ht] at PK
      have RP := Lib.hid RP
      have PK := Lib.hid PK
      clear HPV ht
      go_wp2_with fail
      refine wp_region_ord 61 [(0, true), (1, true), (2, true), (3, true), (4, true), (5, true), (6, false), (7, true), (8, true), (9, true), (10, true), (11, true), (12, true), (13, true), (14, true), (15, true), (16, true), (17, true), (18, true), (19, true), (20, true), (21, true), (22, true), (23, true), (24, true), (25, true), (26, true), (27, true), (28, true), (29, true), (30, true), (31, true), (32, true), (33, true), (34, true), (35, true), (36, true), (37, true), (38, true), (39, true), (40, true), (41, true), (42, true), (43, true), (44, true), (45, true), (46, true), (47, true), (48, true), (50, true), (51, true), (52, true), (53, true), (54, true), (55, true), (56, true), (57, true), (58, true), (49, false), (59, true), (60, true)] (by kernel_rfl) (by kernel_rfl) ?_
      have hgd : Grows w7 w7.drew := (Grows.refl w7).drew
      have hcd := hcell_later hc7' hgd
      have hLkd := hLk7.later hgd
      have hL5d := hL57.later hgd
      have hL6d := hL67.later hgd
      have hgrd := Grows.trans hgr7 hgd
      have hO := Grows.refl w7.drew
      clear hc7' hLk7 hL57 hL67 hgr7 hgd
      generalize w7.drew = wd at *
      have cv1 : ∀ u, Grows wd u → (convert 22 9 (.slice A5 fn c5)).run Try.prog u = .ok (.string ⟨f.toArray⟩) u := fun u h =>
        run_string_of u 22 5 Try.underlying22 Try.underlying5 9 Try.underlying9 _ A5 fn c5 f HFn.out (hL5d.below h)
      have ld : ∀ u, Grows wd u → u.cell? ⟨b, k, none⟩ = some (.slice Ak nk ck) := fun u h => hcell_later hcd h
      repeat (first | (refine ord_take hO _ ?_ (by simp only [List.getElem?_cons_succ, List.getElem?_cons_zero]; rfl) (by rfl) ?_ ?_; rotate_left; (· (intro u hu0 hu; (try go_simp); (try with_reducible rfl))); try simp only [Act.put, List.setIfInBounds_toArray, List.set_cons_zero, List.set_cons_succ]) | (refine ord_skip _ (by simp only [List.getElem?_cons_succ, List.getElem?_cons_zero]; rfl) (by rfl) ?_; try simp only [Act.put, List.setIfInBounds_toArray, List.set_cons_zero, List.set_cons_succ]))
      (refine ord_move _ (by simp only [List.getElem?_cons_succ, List.getElem?_cons_zero]; rfl) (by rfl) (fun u hu K hK => ?_); go_simp)
      refine (RP.out u (hLkd.later hu)).mono ?_
      rintro e w8 ⟨f8, fn8, c8, A8, HS8, HFn8, _, _, rfl, hc8, _, _, hL8, hg8⟩
      obtain rfl : f = f8 := by rw [← HS.out, ← HS8.out]
      refine hK.out _ _ hg8 ?_
      clear hK K
      have hgu := Grows.trans hu hg8
      have hcd := hcell_later hcd hgu
      have hLkd := hLkd.later hgu
      have hL5d := hL5d.later hgu
      have hL6d := hL6d.later hgu
      have hgrd := Grows.trans hgrd hgu
      clear cv1 ld hO hu hgu hg8 RP
      have cv2 : ∀ u, Grows w8 u → (convert 22 9 (.slice A8 fn8 c8)).run Try.prog u = .ok (.string ⟨f.toArray⟩) u := fun u h =>
        run_string_of u 22 5 Try.underlying22 Try.underlying5 9 Try.underlying9 _ A8 fn8 c8 f HFn8.out (hL8.below h)
      have cv3 : ∀ u, Grows w8 u → (convert 22 9 (.slice A6 xn c6)).run Try.prog u = .ok (.string ⟨lk.toArray⟩) u := fun u h =>
        run_string_of u 22 5 Try.underlying22 Try.underlying5 9 Try.underlying9 _ A6 xn c6 lk HXn.out (hL6d.below h)
      have cv4 : ∀ u, Grows w8 u → (convert 22 9 (.slice Ak nk ck)).run Try.prog u = .ok (.string ⟨lk.toArray⟩) u := fun u h =>
        run_string_of u 22 5 Try.underlying22 Try.underlying5 9 Try.underlying9 _ Ak nk ck lk HLk.out (hLkd.below h)
      have ld : ∀ u, Grows w8 u → u.cell? ⟨b, k, none⟩ = some (.slice Ak nk ck) := fun u h => hcell_later hcd h
      have hO := Grows.refl w8
      repeat (first | (refine ord_take hO _ ?_ (by simp only [List.getElem?_cons_succ, List.getElem?_cons_zero]; rfl) (by rfl) ?_ ?_; rotate_left; (· (intro u hu0 hu; (try go_simp); (try with_reducible rfl))); try simp only [Act.put, List.setIfInBounds_toArray, List.set_cons_zero, List.set_cons_succ]) | (refine ord_skip _ (by simp only [List.getElem?_cons_succ, List.getElem?_cons_zero]; rfl) (by rfl) ?_; try simp only [Act.put, List.setIfInBounds_toArray, List.set_cons_zero, List.set_cons_succ]))
      clear cv2 cv3 cv4 ld hO
      (refine ord_move _ (by simp only [List.getElem?_cons_succ, List.getElem?_cons_zero]; rfl) (by rfl) (fun u hu K hK => ?_); go_simp)
      refine (PK.out u (hL5d.later hu)).mono ?_
      rintro e w9 ⟨rfl, hg9⟩
      refine hK.out _ _ hg9 ?_
      clear hK K
      have hgf := Grows.trans hgrd (Grows.trans hu hg9)
      have hO := Grows.refl w9
      clear hu hg9 PK hcd hLkd hL5d hL6d hgrd
      repeat (first | (refine ord_take hO _ ?_ (by simp only [List.getElem?_cons_succ, List.getElem?_cons_zero]; rfl) (by rfl) ?_ ?_; rotate_left; (· (intro u hu0 hu; (try go_simp); (try with_reducible rfl))); try simp only [Act.put, List.setIfInBounds_toArray, List.set_cons_zero, List.set_cons_succ]) | (refine ord_skip _ (by simp only [List.getElem?_cons_succ, List.getElem?_cons_zero]; rfl) (by rfl) ?_; try simp only [Act.put, List.setIfInBounds_toArray, List.set_cons_zero, List.set_cons_succ]))
      clear hO
      (refine ord_done (fun u hu => ?_); simp only [List.drop_succ_cons, List.drop_zero])
      have hgu := Grows.trans hgf hu
      clear hgf hu
      refine NoPanic.normal ?_
      go_wp2_with fail
      go_roundw
      case rel => exact ⟨k + 1, by omega, by go_num, hgu⟩
      case measure => simp [intOf]; omega
    · have hk2' : ¬ ((k : Int) < 2) := by omega
      go_wp2_with fail
      refine (lives6_any _).mono ?_
      rintro e w9 ⟨rfl, hg9⟩
      go_wp2_with fail
      go_ret
      exact ⟨rfl, Grows.trans hg04 (Grows.trans hgr hg9)⟩
end Go.Proofs.Ythnjbmaiebiehaa
