/-
  Contracts of the reference's Put and Take of layer 3.
-/
import Derived.Test.YtglaiccjhdgfbaaCrcC
namespace Go.Proofs.Ytglaiccjhdgfbaa
open Go.RowKit
set_option linter.unusedVariables false

set_option maxHeartbeats 1000000 in
theorem rput_any (A : Option Addr) (n c : Nat) (bs : List UInt8) (w : World) (hl : bs.length = n) (hr : Lies w w.heap.size A (bs.map bv)) (hn : n ≤ 1000000000000) :
    Calls Try.prog 16 #[.slice A n c] w fun e w' => ∃ v, e = .returned v ∧ w'.ownsRow w.heap.size 5 1 v (n + 4) ((bs ++ four (crcOf bs)).map bv) ∧ Grows w w' := by
  obtain ⟨i0, hi0, hz0, hz1, hz2⟩ := info_parts byte_info
  have HL := Lib.hid hl
  clear hl
  have hs : crcOf bs < 4294967296 := cmore_lt (s := 0) (by omega) bs
  go_enter Try.func16, Try.ntmps16
  go_wp2_with fail
  refine (rmore_any 0 A n c bs w (by omega) HL.out hr hn).mono ?_
  rintro e w' ⟨rfl, rfl⟩
  have HSX : Hid (cmore 0 bs = crcOf bs) := rfl
  have HS0 : Hid (crcOf bs = crcOf bs / 2 ^ (8 * 0)) := by show _ = _; simp
  generalize cmore 0 bs = sx at *
  obtain rfl : sx = crcOf bs := HSX.out
  go_wp2_with (at_builtin; refine wpList_append_src _ rfl (.tmp 8) (.tmp 9) _ rfl w.heap.size 5 i0 _ 1 Try.underlying22 hi0 hz0 hz1 hz2 rfl (.slice none 0 0) 0 [] rfl (World.ownsRow_nil _ _ _ _) w.heap.size A n c (bs.map bv) rfl (by rw [List.length_map]; exact HL.out) hr (bv_one bs) (by unfold maxLen; omega) (by omega) (Nat.le_refl _) ?_; intro v1 w1 hown1 hg1 hat1)
  have hgr1 : Grows w w1 := (Grows.refl w).grown hg1 (Nat.le_refl _) (by simp [Value.ownBlock])
  rw [Nat.zero_add, List.nil_append] at hown1
  clear hg1 hat1 HSX
  generalize hsx : crcOf bs = s at *
  have HSX := Lib.hid hsx
  clear hsx
  go_loopw [3, 4, 5] (fun x v i wr => ∃ k : Nat, k ≤ 4 ∧ i = .int .i64 k ∧ x = uv (s / 2 ^ (8 * k)) ∧ wr.ownsRow w.heap.size 5 1 v (n + k) ((bs ++ (four s).take k).map bv) ∧ Grows w wr) (fun _ _ i _ => 4 - (intOf i).toNat)
  case atStart => exact ⟨0, by omega, rfl, by rw [← HS0.out], by simpa using hown1, hgr1⟩
  case round =>
    clear hown1 hgr1 HS0
    obtain ⟨k, hk, rfl, rfl, hown, hgr⟩ := hrel
    by_cases hlt : k < 4
    · have HF := Lib.hid (four_take s k hlt)
      have HD : Hid (s / 2 ^ (8 * (k + 1)) = s / 2 ^ (8 * k) / 256) := by show _ = _; rw [show 8 * (k + 1) = 8 * k + 8 by omega, Nat.pow_add, Nat.div_div_eq_div_mul]
      have hq : s / 2 ^ (8 * k) < 4294967296 := Nat.lt_of_le_of_lt (Nat.div_le_self _ _) hs
      generalize s / 2 ^ (8 * k) = q at *
      have hnew := Lies.new wr 5 [bv (UInt8.ofNat q)]
      go_wp2_with (at_builtin; refine wpList_append_src _ rfl (.tmp 15) (.tmp 19) _ rfl w.heap.size 5 i0 _ 1 Try.underlying22 hi0 hz0 hz1 hz2 rfl _ (n + k) _ rfl (hown.alloc _) _ _ 1 1 [bv (UInt8.ofNat q)] rfl rfl hnew (by simp [Value.oneCell']) (by unfold maxLen; omega) (by omega) (by rw [World.size_alloc]; have := hgr.size; omega) ?_; intro v' w' hown' hg' hat')
      have hb2 : Below w.heap.size wr w' := ((Below.refl _ wr).alloc hgr.size _).grown hg' (by rw [World.size_alloc]; have := hgr.size; omega) (own_ge hown)
      rw [show [bv (UInt8.ofNat q)] = [UInt8.ofNat q].map bv from rfl, ← List.map_append, List.append_assoc, ← HF.out] at hown'
      go_roundw
      case rel => exact ⟨k + 1, by omega, by go_num, by rw [HD.out]; rfl, hown', Below.trans hgr hb2⟩
      case measure => simp [intOf]; omega
    · obtain rfl : k = 4 := by omega
      rw [List.take_of_length_le (by rw [four_len]; exact Nat.le_refl _)] at hown
      go_wp2
      go_ret
      exact ⟨_, rfl, by rw [HSX.out]; exact hown, hgr⟩

theorem takeOf_put (bs : List UInt8) (m : Nat) (hl : bs.length = m + 4) : takeOf bs = if bs.take m ++ four (crcOf (bs.take m)) = bs then (bs.take m, 0) else ([], 7) := by
  unfold takeOf
  rw [hl, if_neg (by omega), show m + 4 - 4 = m by omega]
  have h : bs.take m ++ four (crcOf (bs.take m)) = bs ↔ bs.drop m = four (crcOf (bs.take m)) := by
    constructor
    · intro h
      have h2 := List.take_append_drop m bs
      exact (List.append_cancel_left (h.trans h2.symm)).symm
    · intro h
      rw [← h, List.take_append_drop]
  simp only [h]

set_option maxHeartbeats 1000000 in
theorem rtake_any (A : Option Addr) (n c : Nat) (bs : List UInt8) (w : World) (hl : bs.length = n) (hr : Lies w w.heap.size A (bs.map bv)) (hc : n ≤ c) (hn : n ≤ 1000000000000) :
    Calls Try.prog 19 #[.slice A n c] w fun e w' => ∃ A' c', e = .returned (.tuple #[.slice A' (takeOf bs).1.length c', .int .i64 ((takeOf bs).2 : Int)]) ∧ Lies w' w'.heap.size A' ((takeOf bs).1.map bv) ∧ Grows w w' := by
  by_cases h4 : n < 4
  · have ht : takeOf bs = ([], 2) := by unfold takeOf; rw [if_pos (by omega)]
    rw [ht]
    clear ht
    go_enter Try.func19, Try.ntmps19
    go_wp2
    go_ret2
    exact ⟨none, 0, rfl, Lies.empty, Grows.refl _⟩
  · obtain ⟨m, rfl⟩ : ∃ m, n = m + 4 := ⟨n - 4, by omega⟩
    have HTK := Lib.hid (takeOf_put bs m hl)
    have HB := Lib.hid hl
    clear hl h4
    have hm4 : ((m + 4 : Nat) : Int) - 4 = (m : Int) := by omega
    have ct := run_cut_to (P := Try.prog) Try.underlying22 byte_one A (m + 4) c m .i64 (by omega)
    have hrt : Lies w w.heap.size A ((bs.take m).map bv) := by rw [List.map_take]; exact hr.take m
    have HT : Hid ((bs.take m).length = m) := by show _ = _; rw [List.length_take, HB.out]; omega
    have HCT := Lib.hid ct
    clear ct
    go_enter Try.func19, Try.ntmps19
    go_wp2_with fail
    refine wp_region_ord 10 [(0, true), (1, true), (2, true), (3, true), (4, true), (7, true), (8, true), (5, false), (6, true), (9, true)] (by kernel_rfl) (by kernel_rfl) ?_
    have hgd : Grows w w.drew := (Grows.refl w).drew
    have hLT := hrt.later hgd
    have hLA := hr.later hgd
    have ct := HCT.out
    have hO := Grows.refl w.drew
    have hwm : IntKind.i64.wrap (m : Int) = (m : Int) := IntWalk.i64_in _ (by omega)
    clear hrt hr
    generalize w.drew = wd at *
    generalize htk : bs.take m = tk at *
    have HTKK := Lib.hid htk
    clear htk
    have cv1 : ∀ u, Grows wd u → (convert 22 9 (.slice A (m + 4) c)).run Try.prog u = .ok (.string ⟨bs.toArray⟩) u := fun u h =>
      run_string_of u 22 5 Try.underlying22 Try.underlying5 9 Try.underlying9 _ A (m + 4) c bs HB.out (hLA.below h)
    repeat (first | (refine ord_cut hO _ _ (by simp only [List.getElem?_cons_succ, List.getElem?_cons_zero]; rfl) (by rfl) 22 (.tmp 7) none (some (.tmp 10)) none (by rfl) ct ?_; try simp only [Act.put, List.setIfInBounds_toArray, List.set_cons_zero, List.set_cons_succ]) | (refine ord_take hO _ ?_ (by simp only [List.getElem?_cons_succ, List.getElem?_cons_zero]; rfl) (by rfl) ?_ ?_; rotate_left; (· (intro u hu0 hu; (try go_simp); (try with_reducible rfl))); try simp only [Act.put, List.setIfInBounds_toArray, List.set_cons_zero, List.set_cons_succ]) | (refine ord_skip _ (by simp only [List.getElem?_cons_succ, List.getElem?_cons_zero]; rfl) (by rfl) ?_; try simp only [Act.put, List.setIfInBounds_toArray, List.set_cons_zero, List.set_cons_succ]))
    (refine ord_move _ (by simp only [List.getElem?_cons_succ, List.getElem?_cons_zero]; rfl) (by rfl) (fun u hu K hK => ?_); go_simp)
    refine (rput_any A m c tk u HT.out (hLT.later hu) (by omega)).mono ?_
    rintro e w1 ⟨v1, rfl, hown1, hg1⟩
    obtain ⟨A1, c1, rfl, hc1⟩ := own_form hown1
    refine hK.out _ _ hg1 ?_
    clear hK K
    have hL1 := Lies.of_own hown1
    have hl1 : (tk ++ four (crcOf tk)).length = m + 4 := by rw [List.length_append, HT.out, four_len]
    have HL1 := Lib.hid hl1
    clear hown1 hl1
    generalize hpt : tk ++ four (crcOf tk) = pt at *
    have HPT := Lib.hid hpt
    clear hpt
    have cv2 : ∀ u, Grows w1 u → (convert 22 9 (.slice A1 (m + 4) c1)).run Try.prog u = .ok (.string ⟨pt.toArray⟩) u := fun u h =>
      run_string_of u 22 5 Try.underlying22 Try.underlying5 9 Try.underlying9 _ A1 (m + 4) c1 pt HL1.out (hL1.below h)
    have hg01 := Grows.trans hgd (Grows.trans hu hg1)
    have hLA1 := hLA.later (Grows.trans hu hg1)
    have hLT1 := hLT.later (Grows.trans hu hg1)
    have hO := Grows.refl w1
    clear hu hLA hLT cv1 hgd hL1
    repeat (first | (refine ord_take hO _ ?_ (by simp only [List.getElem?_cons_succ, List.getElem?_cons_zero]; rfl) (by rfl) ?_ ?_; rotate_left; (· (intro u hu0 hu; (try go_simp); (try with_reducible rfl))); try simp only [Act.put, List.setIfInBounds_toArray, List.set_cons_zero, List.set_cons_succ]) | (refine ord_skip _ (by simp only [List.getElem?_cons_succ, List.getElem?_cons_zero]; rfl) (by rfl) ?_; try simp only [Act.put, List.setIfInBounds_toArray, List.set_cons_zero, List.set_cons_succ]))
    (refine ord_done (fun u hu => ?_); simp only [List.drop_succ_cons, List.drop_zero])
    have hgu := Grows.trans hg01 hu
    have hLTu := hLT1.later hu
    have ct := HCT.out
    clear hO cv2 hg01 hLT1 hLA1 hu hg1
    refine NoPanic.normal ?_
    generalize hq : (pt == bs) = q
    cases q with
    | true =>
      have HK : Hid (takeOf bs = (tk, 0)) := by show _ = _; rw [HTK.out, if_pos (by simpa using hq)]
      clear hq
      go_wp2_with (with_reducible refine wpList_cut rfl 22 (.tmp 17) none (some (.tmp 20)) none rfl _ (HCT.out _) ?_)
      go_ret2
      rw [HK.out]
      exact ⟨_, c, by rw [HT.out]; rfl, hLTu, hgu⟩
    | false =>
      have HK : Hid (takeOf bs = ([], 7)) := by show _ = _; rw [HTK.out, if_neg (by simpa using hq)]
      clear hq
      go_wp2_with fail
      go_ret2
      rw [HK.out]
      exact ⟨none, 0, rfl, Lies.empty, hgu⟩
end Go.Proofs.Ytglaiccjhdgfbaa
