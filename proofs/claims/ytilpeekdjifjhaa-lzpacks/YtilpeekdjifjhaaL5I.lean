/-
  The walk of LzPacks.
-/
import Derived.Test.YtilpeekdjifjhaaL5F
import Derived.Test.YtilpeekdjifjhaaL5H
namespace Go.Proofs.Ytilpeekdjifjhaa
open Go.RowKit
set_option linter.unusedVariables false

set_option maxRecDepth 20000 in
set_option maxHeartbeats 4000000 in
theorem lzpacks_walk (A : Option Addr) (n c : Nat) (bs : List UInt8) (A' : Option Addr) (n' c' : Nat) (zs : List Int) (w : World) (hl : bs.length = n) (hr : Lies w w.heap.size A (bs.map bv)) (hc : n ≤ c) (hm : c ≤ maxLen)
    (hl' : zs.length = n') (hr' : Lies w w.heap.size A' (zs.map zv)) (hc' : n' ≤ maxLen) (hz : ∀ z ∈ zs, -9223372036854775808 ≤ z ∧ z ≤ 9223372036854775807) :
    Calls Try.prog 4 #[.slice A n c, .slice A' n' c'] w fun e w' => e = .returned (.bool true) ∧ Grows w w' := by
  go_enter Try.func4, Try.ntmps4
  go_wp2_with fail
  refine (few_bytes A n c 200 bs w hl hr hc (by omega) hm).mono ?_
  rintro e w1 ⟨A1, c1, rfl, hc1, hown1, hL1, hg1⟩
  have HL1 : Hid ((bs.take 200).length = min n 200) := by show _ = _; rw [List.length_take, hl, Nat.min_comm]
  have hn1 : min n 200 ≤ 400 := by omega
  clear hown1 hr hl
  generalize min n 200 = n1 at *
  generalize bs.take 200 = l1 at *
  go_wp2_with fail
  refine (made_any A' n' c' zs w1 hl' (hr'.later hg1) hc' hz).mono ?_
  rintro e w3 ⟨l3, n3, c3, A3, HL3, hn3, rfl, hc3, hown3, hg3⟩
  have hL3 := Lies.of_own hown3
  have hn3 : n3 ≤ 400 := by omega
  have hL13 := hL1.later hg3
  have hg03 := Grows.trans hg1 hg3
  clear hown3 hL1 hg1 hg3 hr' hl' hz
  have hbox := Has.new w3 22 [.slice A1 n1 c1, .slice A3 n3 c3]
  have hga := grows_alloc w3 (.cells #[.slice A1 n1 c1, .slice A3 n3 c3] 22)
  have hg04 := Grows.trans hg03 hga
  have hL14 := hL13.later hga
  have hL34 := hL3.later hga
  go_wp2_with fail
  change Code.wp _ _ _ _ (w3.alloc (.cells #[.slice A1 n1 c1, .slice A3 n3 c3] 22))
  clear hga hL13 hL3 hg03
  generalize w3.alloc (.cells #[.slice A1 n1 c1, .slice A3 n3 c3] 22) = w4 at *
  generalize w3.heap.size = b at *
  go_loopw [6, 7, 8, 9] (fun q _ _ _ wr => ∃ k : Nat, k ≤ 2 ∧ q = iv k ∧ Grows w4 wr) (fun q _ _ _ _ => 2 - (intOf q).toNat)
  case atStart => exact ⟨0, by omega, rfl, Grows.refl _⟩
  case round =>
    obtain ⟨k, hk, rfl, hgr⟩ := hrel
    by_cases hk2 : k < 2
    · obtain ⟨Ak, nk, ck, lk, HLk, hck, hmk, hLk, hcell⟩ := two_rows (M := 400) (hbox.later hgr) HL1 HL3 (hL14.later hgr) (hL34.later hgr) hc1 hc3 hn1 hn3 k hk2
      have hk2' : (k : Int) < 2 := by omega
      go_wp2_with fail
      refine (pack_out Ak nk ck lk wr HLk.out hLk hck (by omega)).mono ?_
      rintro e w5 ⟨p, pn, c5, A5, HP, HPN, hpn, rfl, hc5, hL5, hg5⟩
      have hc5' := hcell_later hcell hg5
      have hLk5 := hLk.later hg5
      have HUP := Lib.hid (unpack_pack lk (nk : Int) (by omega))
      rw [HP.out, HLk.out, if_pos (by omega)] at HUP
      have hun := unpack_out A5 pn c5 p (nk : Int) w5 HPN.out hL5 hc5 (by omega) ⟨by omega, by omega⟩
      rw [HUP.out] at hun
      clear hcell hLk
      go_wp2_with fail
      refine hun.mono ?_
      rintro e w6 ⟨l', er, ln, c6, A6, HU, HLn, rfl, hc6, hL6, hg6⟩
      obtain ⟨rfl, rfl⟩ : lk = l' ∧ 0 = er := by have := HU.out; simpa using this
      have hc6' := hcell_later hc5' hg6
      have hLk6 := hLk5.later hg6
      have hL56 := hL5.later hg6
      have hgr6 := Grows.trans hgr (Grows.trans hg5 hg6)
      clear hun hc5' hLk5 hL5 hg5 hg6 HU
      have RP : ∀ u : World, Lies u u.heap.size Ak (lk.map bv) → Calls Try.prog 16 #[.slice Ak nk ck] u fun e w' => ∃ (p : List UInt8) (pn c' : Nat) (A' : Option Addr), Hid (packOf lk = p) ∧ Hid (p.length = pn) ∧ pn ≤ nk + (nk + 127) / 128 ∧ e = .returned (.slice A' pn c') ∧ pn ≤ c' ∧ c' ≤ maxLen ∧ Lies u u.heap.size Ak (lk.map bv) ∧ Lies w' w'.heap.size A' (p.map bv) ∧ Grows u w' := fun u hu => (rpack_out Ak nk ck lk u HLk.out hu hck (by omega)).mono fun e w' ⟨p, pn, c', A', h1, h2, h3, h4, h5, h6, h7, h8⟩ => ⟨p, pn, c', A', h1, h2, h3, h4, h5, h6, hu, h7, h8⟩
      have RP := Lib.hid RP
      have s1 : ((k : Int) < 2) := hk2'
      have s2 : k < 2 := hk2
      go_wp2_with fail
      refine wp_region_ord 41 [(0, true), (1, true), (2, true), (3, true), (4, true), (5, true), (6, false), (7, true), (8, true), (9, true), (10, true), (11, true), (12, true), (13, true), (14, true), (15, true), (16, true), (17, true), (18, true), (19, true), (20, true), (21, true), (22, true), (23, true), (24, true), (25, true), (26, true), (27, true), (28, true), (29, true), (30, true), (31, true), (32, true), (33, true), (34, true), (35, true), (36, true), (37, true), (38, true), (39, true), (40, true)] (by kernel_rfl) (by kernel_rfl) ?_
      have hgd : Grows w6 w6.drew := (Grows.refl w6).drew
      have hcd := hcell_later hc6' hgd
      have hLkd := hLk6.later hgd
      have hL5d := hL56.later hgd
      have hL6d := hL6.later hgd
      have hgrd := Grows.trans hgr6 hgd
      have hO := Grows.refl w6.drew
      clear hc6' hLk6 hL56 hL6 hgr6 hgd
      generalize w6.drew = wd at *
      have cv1 : ∀ u, Grows wd u → (convert 22 9 (.slice A5 pn c5)).run Try.prog u = .ok (.string ⟨p.toArray⟩) u := fun u h =>
        run_string_of u 22 5 Try.underlying22 Try.underlying5 9 Try.underlying9 _ A5 pn c5 p HPN.out (hL5d.below h)
      have ld : ∀ u, Grows wd u → u.cell? ⟨b, k, none⟩ = some (.slice Ak nk ck) := fun u h => hcell_later hcd h
      repeat (first | (refine ord_take hO _ ?_ (by simp only [List.getElem?_cons_succ, List.getElem?_cons_zero]; rfl) (by rfl) ?_ ?_; rotate_left; (· (intro u hu0 hu; (try go_simp); (try with_reducible rfl))); try simp only [Act.put, List.setIfInBounds_toArray, List.set_cons_zero, List.set_cons_succ]) | (refine ord_skip _ (by simp only [List.getElem?_cons_succ, List.getElem?_cons_zero]; rfl) (by rfl) ?_; try simp only [Act.put, List.setIfInBounds_toArray, List.set_cons_zero, List.set_cons_succ]))
      (refine ord_move _ (by simp only [List.getElem?_cons_succ, List.getElem?_cons_zero]; rfl) (by rfl) (fun u hu K hK => ?_); go_simp)
      refine (RP.out u (hLkd.later hu)).mono ?_
      rintro e w7 ⟨p', pn', c7, A7, HP7, HPN7, hpn7, rfl, hc7, _, _, hL7, hg7⟩
      obtain rfl : p = p' := by rw [← HP.out, ← HP7.out]
      refine hK.out _ _ hg7 ?_
      clear hK K
      have hgu := Grows.trans hu hg7
      have hcell := hcell_later hcd hgu
      have hLk7 := hLkd.later hgu
      have hL67 := hL6d.later hgu
      have hgr7 := Grows.trans hgrd hgu
      clear cv1 ld hO hu hgu hcd hLkd hL6d hL5d hgrd hg7
      have cv2 : ∀ u, Grows w7 u → (convert 22 9 (.slice A7 pn' c7)).run Try.prog u = .ok (.string ⟨p.toArray⟩) u := fun u h =>
        run_string_of u 22 5 Try.underlying22 Try.underlying5 9 Try.underlying9 _ A7 pn' c7 p HPN7.out (hL7.below h)
      have cv3 : ∀ u, Grows w7 u → (convert 22 9 (.slice A6 ln c6)).run Try.prog u = .ok (.string ⟨lk.toArray⟩) u := fun u h =>
        run_string_of u 22 5 Try.underlying22 Try.underlying5 9 Try.underlying9 _ A6 ln c6 lk HLn.out (hL67.below h)
      have cv4 : ∀ u, Grows w7 u → (convert 22 9 (.slice Ak nk ck)).run Try.prog u = .ok (.string ⟨lk.toArray⟩) u := fun u h =>
        run_string_of u 22 5 Try.underlying22 Try.underlying5 9 Try.underlying9 _ Ak nk ck lk HLk.out (hLk7.below h)
      have ld : ∀ u, Grows w7 u → u.cell? ⟨b, k, none⟩ = some (.slice Ak nk ck) := fun u h => hcell_later hcell h
      have hO := Grows.refl w7
      repeat (first | (refine ord_take hO _ ?_ (by simp only [List.getElem?_cons_succ, List.getElem?_cons_zero]; rfl) (by rfl) ?_ ?_; rotate_left; (· (intro u hu0 hu; (try go_simp); (try with_reducible rfl))); try simp only [Act.put, List.setIfInBounds_toArray, List.set_cons_zero, List.set_cons_succ]) | (refine ord_skip _ (by simp only [List.getElem?_cons_succ, List.getElem?_cons_zero]; rfl) (by rfl) ?_; try simp only [Act.put, List.setIfInBounds_toArray, List.set_cons_zero, List.set_cons_succ]))
      clear hO cv2 cv3 cv4 ld
      (refine ord_done (fun u hu => ?_); simp only [List.drop_succ_cons, List.drop_zero])
      have v1 : IntKind.i64.wrap ((nk : Int) + 127) = ((nk + 127 : Nat) : Int) := wrap_eq (by omega) (by omega)
      have v2 : IntKind.i64.wrap (((nk + 127 : Nat) : Int).tdiv 128) = (((nk + 127) / 128 : Nat) : Int) := wrap_eq (by rw [Int.tdiv_eq_ediv_of_nonneg (by omega)]; omega) (by omega)
      have v3 : IntKind.i64.wrap ((nk : Int) + (((nk + 127) / 128 : Nat) : Int)) = ((nk + (nk + 127) / 128 : Nat) : Int) := wrap_eq (by omega) (by omega)
      have hdec : decide (IntKind.i64.wrap ((nk : Int) + IntKind.i64.wrap ((IntKind.i64.wrap ((nk : Int) + 127)).tdiv 128)) < (pn : Int)) = false := by rw [v1, v2, v3, decide_eq_false_iff_not]; omega
      clear v1 v2 v3
      rw [hdec]
      clear hdec
      have hgu := Grows.trans hgr7 hu
      refine NoPanic.normal ?_
      go_wp2_with fail
      go_roundw
      case rel => exact ⟨k + 1, by omega, by go_num, hgu⟩
      case measure => simp [intOf]; omega
    · have hk2' : ¬ ((k : Int) < 2) := by omega
      go_wp2_with fail
      refine (lives5_any _).mono ?_
      rintro e w9 ⟨rfl, hg9⟩
      go_wp2_with fail
      go_ret
      exact ⟨rfl, Grows.trans hg04 (Grows.trans hgr hg9)⟩
end Go.Proofs.Ytilpeekdjifjhaa
