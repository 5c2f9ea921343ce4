/-
  The walk of the law HexaTexts: the law returns true, and nothing that was there has turned.
-/
import Derived.Test.YtgkoopnbphohaaaRef
import Derived.Test.YtgkoopnbphohaaaSched
namespace Go.Proofs.Ytgkoopnbphohaaa
open Go.RowKit
set_option linter.unusedVariables false
set_option linter.unusedSimpArgs false

theorem digN_hexD : ∀ k : Fin 16, digN (hexD k.val).toNat = some k.val := by decide +kernel
theorem pairN_hex (b : UInt8) : pairN (hexD (b.toNat / 16)).toNat (hexD (b.toNat % 16)).toNat = some b.toNat := by
  have hb := b.toNat_lt
  have h1 := digN_hexD ⟨b.toNat / 16, by omega⟩
  have h2 := digN_hexD ⟨b.toNat % 16, by omega⟩
  simp only at h1 h2
  simp only [pairN, h1, h2]
  congr 1
  omega
theorem hexOf_get (l : List UInt8) (k : Nat) (b : UInt8) (h : l[k]? = some b) : (hexOf l)[2 * k]? = some (hexD (b.toNat / 16)) ∧ (hexOf l)[2 * k + 1]? = some (hexD (b.toNat % 16)) := by
  have hk : k < l.length := by
    rcases Nat.lt_or_ge k l.length with hlt | hge
    · exact hlt
    · rw [List.getElem?_eq_none hge] at h; cases h
  have e : l = l.take k ++ (b :: l.drop (k + 1)) := by
    rw [List.getElem?_eq_getElem hk] at h
    injection h with h
    rw [← h, ← List.drop_eq_getElem_cons hk, List.take_append_drop]
  have hl : (hexOf (l.take k)).length = 2 * k := by rw [hexOf_length, List.length_take]; omega
  rw [e, hexOf_append]
  constructor
  · rw [List.getElem?_append_right (by omega), hl, Nat.sub_self]
    rfl
  · rw [List.getElem?_append_right (by omega), hl, show 2 * k + 1 - 2 * k = 1 from by omega]
    rfl
theorem pref_hex (l : List UInt8) : ∀ k, k ≤ l.length → pref (hexOf l) k = some (l.take k)
  | 0, _ => by simp [pref]
  | k + 1, hk => by
    have ih := pref_hex l k (by omega)
    have hb : l[k]? = some l[k] := List.getElem?_eq_getElem (by omega)
    obtain ⟨g1, g2⟩ := hexOf_get l k l[k] hb
    have hp : pairAt (hexOf l) k = some l[k] := by
      unfold pairAt
      rw [List.getD, List.getD, g1, g2]
      simp only [Option.getD_some]
      rw [pairN_hex]
      simp
    simp only [pref, ih, hp]
    rw [List.take_add_one, hb]
    rfl
/-- What is told in digits is read as it was. -/
theorem unhex_hex (l : List UInt8) : unhex (hexOf l) = some l := by
  unfold unhex
  rw [hexOf_length, if_neg (by omega), show 2 * l.length / 2 = l.length from by omega, pref_hex l _ (Nat.le_refl _), List.take_length]

set_option maxHeartbeats 2000000 in
theorem texts_walk (a0 : Option Addr) (len0 cap0 : Nat) (bs0 : List UInt8) (w : World) (hl0 : bs0.length = len0)
    (hr0 : Lies w w.heap.size a0 (bs0.map bv)) (hc0 : len0 ≤ cap0) (hm0 : cap0 ≤ maxLen) :
    Calls Try.prog 3 #[.slice a0 len0 cap0] w fun e w' => e = .returned (.bool true) ∧ Below w.heap.size w w' := by
  have HL0 := Lib.hid hl0
  clear hl0
  go_enter Try.func3, Try.ntmps3
  go_wp2_with fail
  refine (few_bytes a0 len0 cap0 40 bs0 w HL0.out hr0 hc0 (by omega) hm0).mono ?_
  rintro e w1 ⟨A1, c1, rfl, hk1, hown1, hL1, hb1⟩
  have hn0 : min len0 40 ≤ 40 := Nat.min_le_right _ _
  have e0 : (bs0.take 40).length = min len0 40 := by rw [List.length_take, HL0.out]; omega
  have E0 := Lib.hid e0
  have EX := Lib.hid (rfl : bs0.take 40 = bs0.take 40)
  clear e0 hown1
  revert EX
  generalize hx : bs0.take 40 = x at *
  intro EX
  have HX := Lib.hid hx
  clear hx EX
  generalize hn : min len0 40 = n0 at *
  have HN := Lib.hid hn
  clear hn
  go_wp2_with fail
  refine (text_any A1 n0 c1 x w1 E0.out hL1 (by omega)).mono ?_
  rintro e w2 ⟨rfl, hb2⟩
  go_wp2_with fail
  refine (parse_any (hexOf x) w2 (by rw [hexOf_length, E0.out]; omega)).mono ?_
  rw [unhex_hex]
  rintro e w3 ⟨hb3, v3, rfl, hown3⟩
  obtain ⟨A3, c3, rfl, hk3⟩ := own_form hown3
  have hL3 := Lies.of_own hown3
  have hb13 := hb2.trans (hb3.mono hb2.size)
  have hL1' := (hL1.below hb13).mono hb13.size
  have hb03 := hb1.trans (hb13.mono hb1.size)
  have hr0' := (hr0.below hb03).mono hb03.size
  clear hown3 hL1 hr0
  go_wp2_with fail
  refine wp_region_sched [(0, true), (1, true), (2, false), (3, true), (4, true), (5, true), (6, true), (7, true), (8, true), (9, true), (10, true), (11, true), (12, true), (13, true), (14, true), (15, true), (16, true), (17, true), (18, true), (19, false), (20, true), (21, true), (22, true), (23, true), (24, false), (25, true), (26, true)] (by kernel_rfl) (by kernel_rfl) ?_
  have hs0 : Grows w3 w3.drew := (Grows.refl _).drew
  have hL1d := hL1'.later hs0
  have hL3d := hL3.later hs0
  have hr0d := hr0'.later hs0
  have hb0d := grow_trans hb03 hs0
  clear hs0 hL1' hL3 hr0' hb03 hb13 hb3
  generalize w3.drew = wd at *
  have cv1 : ∀ u, Grows wd u → (convert 22 9 (.slice A1 n0 c1)).run Try.prog u = .ok (.string ⟨x.toArray⟩) u := fun u h =>
    run_string_of u 22 5 Try.underlying22 Try.underlying5 9 Try.underlying9 _ A1 n0 c1 x E0.out (hL1d.below h)
  have cv3 : ∀ u, Grows wd u → (convert 22 9 (.slice A3 x.length c3)).run Try.prog u = .ok (.string ⟨x.toArray⟩) u := fun u h =>
    run_string_of u 22 5 Try.underlying22 Try.underlying5 9 Try.underlying9 _ A3 x.length c3 x rfl (hL3d.below h)
  repeat (first | (refine sched_take _ ?_ (by simp only [List.getElem?_cons_succ, List.getElem?_cons_zero]; rfl) (by rfl) ?_ ?_; rotate_left; (· (intro u hu0 hu; (try go_simp); (try with_reducible rfl))); try simp only [Act.put, List.setIfInBounds_toArray, List.set_cons_zero, List.set_cons_succ]) | (refine sched_skip _ (by simp only [List.getElem?_cons_succ, List.getElem?_cons_zero]; rfl) (by rfl) ?_; try simp only [Act.put, List.setIfInBounds_toArray, List.set_cons_zero, List.set_cons_succ]))
  (refine sched_move _ (by simp only [List.getElem?_cons_succ, List.getElem?_cons_zero]; rfl) (by rfl) (fun K hK => ?_); go_simp)
  refine (rtext_any A1 n0 c1 x _ E0.out hL1d (by omega)).mono ?_
  rintro e w4 ⟨rfl, hb4⟩
  refine hK.out _ _ hb4 ?_
  clear hK K
  repeat (first | (refine sched_take _ ?_ (by simp only [List.getElem?_cons_succ, List.getElem?_cons_zero]; rfl) (by rfl) ?_ ?_; rotate_left; (· (intro u hu0 hu; (try go_simp); (try with_reducible rfl))); try simp only [Act.put, List.setIfInBounds_toArray, List.set_cons_zero, List.set_cons_succ]) | (refine sched_skip _ (by simp only [List.getElem?_cons_succ, List.getElem?_cons_zero]; rfl) (by rfl) ?_; try simp only [Act.put, List.setIfInBounds_toArray, List.set_cons_zero, List.set_cons_succ]))
  (refine sched_move _ (by simp only [List.getElem?_cons_succ, List.getElem?_cons_zero]; rfl) (by rfl) (fun K hK => ?_); go_simp)
  refine (few_bytes a0 len0 cap0 40 bs0 _ HL0.out (hr0d.later hb4) hc0 (by omega) hm0).mono ?_
  rw [HN.out, HX.out]
  rintro e w5 ⟨A5, c5, rfl, hk5, hown5, hL5, hb5⟩
  refine hK.out _ _ hb5 ?_
  clear hK K hown5
  have cv5 : ∀ u, Grows w5 u → (convert 22 9 (.slice A5 n0 c5)).run Try.prog u = .ok (.string ⟨x.toArray⟩) u := fun u h =>
    run_string_of u 22 5 Try.underlying22 Try.underlying5 9 Try.underlying9 _ A5 n0 c5 x E0.out (hL5.below h)
  repeat (first | (refine sched_take _ ?_ (by simp only [List.getElem?_cons_succ, List.getElem?_cons_zero]; rfl) (by rfl) ?_ ?_; rotate_left; (· (intro u hu0 hu; (try go_simp); (try with_reducible rfl))); try simp only [Act.put, List.setIfInBounds_toArray, List.set_cons_zero, List.set_cons_succ]) | (refine sched_skip _ (by simp only [List.getElem?_cons_succ, List.getElem?_cons_zero]; rfl) (by rfl) ?_; try simp only [Act.put, List.setIfInBounds_toArray, List.set_cons_zero, List.set_cons_succ]))
  (refine sched_move _ (by simp only [List.getElem?_cons_succ, List.getElem?_cons_zero]; rfl) (by rfl) (fun K hK => ?_); go_simp)
  refine (lives_any _).mono ?_
  rintro e w6 ⟨rfl, hb6⟩
  refine hK.out _ _ hb6 ?_
  clear hK K
  repeat (first | (refine sched_take _ ?_ (by simp only [List.getElem?_cons_succ, List.getElem?_cons_zero]; rfl) (by rfl) ?_ ?_; rotate_left; (· (intro u hu0 hu; (try go_simp); (try with_reducible rfl))); try simp only [Act.put, List.setIfInBounds_toArray, List.set_cons_zero, List.set_cons_succ]) | (refine sched_skip _ (by simp only [List.getElem?_cons_succ, List.getElem?_cons_zero]; rfl) (by rfl) ?_; try simp only [Act.put, List.setIfInBounds_toArray, List.set_cons_zero, List.set_cons_succ]))
  refine sched_done (NoPanic.normal ?_)
  go_wp2
  go_ret
  exact ⟨rfl, grow_trans hb0d (grow_trans hb4 (grow_trans hb5 hb6))⟩
end Go.Proofs.Ytgkoopnbphohaaa
