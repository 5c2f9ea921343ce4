/-
  The walk of CutBounds: chunks together are the bytes; each but the last one has from Min to Max bytes, that one at most Max.
-/
import Derived.Test.YtkgkkobdpgnicaaDoorCutP
namespace Go.Proofs.YtkgkkobdpgnicaaDoor
open Go.RowKit
set_option linter.unusedVariables false

theorem flat_take (l : List (List UInt8)) {k : Nat} {x : List UInt8} (hx : l[k]? = some x) : (l.take (k + 1)).flatten = (l.take k).flatten ++ x := by
  have hk := (List.getElem?_eq_some_iff.1 hx).1
  rw [List.take_succ_eq_append_getElem hk, List.flatten_append, (List.getElem?_eq_some_iff.1 hx).2]
  simp
theorem flat_le (l : List (List UInt8)) (k : Nat) : (l.take k).flatten.length ≤ l.flatten.length := by
  have := congrArg List.flatten (List.take_append_drop k l)
  rw [List.flatten_append] at this
  have := congrArg List.length this
  rw [List.length_append] at this
  omega

set_option maxRecDepth 20000 in
set_option maxHeartbeats 4000000 in
theorem bounds_walk (A : Option Addr) (n c : Nat) (bs : List UInt8) (a b d : Int) (w : World) (hs : Starts w) (hl : bs.length = n) (hr : Lies w w.heap.size A (bs.map bv)) (hnc : n ≤ c) (hcm : c ≤ maxLen) (ha : I64 a) (hb : I64 b) (hd : I64 d) :
    Calls Tryd.prog 6 #[.slice A n c, pz a b d] w fun e w' => e = .returned (.bool true) ∧ Grows w w' := by
  have hp := goodP_ok a b d
  have FW := Lib.hid (fun u (h : Grows w u) => few_bytes A n c 200 bs u hl (hr.later h) hnc (by decide) hcm)
  have GD := Lib.hid (fun u => good_any a b d u ha hb hd)
  have CO := Lib.hid (fun u A' n' c' bs' (h1 : bs'.length = n') (h2 : n' ≤ c') (h3 : Lies u u.heap.size A' (bs'.map bv)) (h4 : Starts u) (h5 : n' ≤ 1000000) => collect_any (goodP a b d) hp A' n' c' bs' u h1 h2 h3 h4 h5)
  have hN := Has.new w 23 [.int .i64 a, .int .i64 b, .int .i64 d]
  have g1 := grows_alloc w (.cells [.int .i64 a, .int .i64 b, .int .i64 d].toArray 23)
  have hpz : pz a b d = .agg #[.int .i64 a, .int .i64 b, .int .i64 d] := rfl
  generalize goodP a b d = p at *
  rw [hpz] at *
  have hpp : pv p = .agg #[.int .i64 p.mn, .int .i64 p.av, .int .i64 p.mx] := rfl
  rw [hpp] at *
  go_enter Tryd.func6, Tryd.ntmps6
  go_wp2_with fail
  refine (FW.out _ g1).mono ?_
  rintro e w1 ⟨A1, c1, rfl, hc1, hown1, hL1, hg1⟩
  have hN1 := hN.later hg1
  have P0 := hN1.cell (k := 0) rfl
  have P1 := hN1.cell (k := 1) rfl
  have P2 := hN1.cell (k := 2) rfl
  have gw1 : Grows w w1 := Grows.trans g1 hg1
  have HL1 : Hid ((bs.take 200).length = min n 200) := by show _ = _; rw [List.length_take, hl, Nat.min_comm]
  have hm1 : min n 200 ≤ 200 := Nat.min_le_right _ _
  generalize bs.take 200 = own at *
  generalize min n 200 = m1 at *
  clear FW hown1 hg1 g1 hN hN1
  go_wp2_with fail
  refine (GD.out _).mono ?_
  rintro e w2 ⟨rfl, hg2⟩
  have gw2 := Grows.trans gw1 hg2
  have hL2 := hL1.later hg2
  have hR := Has.new w2 23 [.int .i64 0, .int .i64 0, .int .i64 0]
  have hga := grows_alloc w2 (.cells [.int .i64 0, .int .i64 0, .int .i64 0].toArray 23)
  clear GD hg2 hL1
  go_wp2_with (refine wpList_storev rfl 23 (.tmp 6) (.tmp 13) rfl w2.heap.size _ [.int .i64 p.mn, .int .i64 p.av, .int .i64 p.mx] 3 rfl rfl hR rfl rfl prm_size (prm_one _ _ _) ?_; intro w3 hbox3 hbel3; have hg3 : Grows w2 w3 := hbel3 _ _ (Nat.le_refl _) hga; have Q0 := hbox3.cell (k := 0) rfl; have Q1 := hbox3.cell (k := 1) rfl; have Q2 := hbox3.cell (k := 2) rfl)
  have gw3 := Grows.trans gw2 hg3
  have hL3 := hL2.later hg3
  refine (CO.out w3 A1 m1 c1 own HL1.out hc1 hL3 (hs.later gw3) (by omega)).mono ?_
  rintro e w4 ⟨v4, rfl, hpc, hg4⟩
  have gw4 := Grows.trans gw3 hg4
  have hL4 := hL3.later hg4
  have hbox4 := hbox3.later hg4
  have hmx : Hid (∀ x ∈ chunksOf p own, x.length ≤ p.mx) := chunk_max hp own
  have hmn : Hid (∀ (i : Nat) (x : List UInt8), (chunksOf p own)[i]? = some x → i + 1 < (chunksOf p own).length → p.mn ≤ x.length) := fun i x => chunk_min hp own i x
  have hne : Hid (∀ x ∈ chunksOf p own, x ≠ []) := chunk_ne p own
  have hfl : Hid ((chunksOf p own).flatten = own) := chunks_flat p own
  have hcl : (chunksOf p own).length ≤ 1000000 := by have := chunks_len p own; rw [HL1.out] at this; omega
  generalize chunksOf p own = cs at *
  obtain ⟨es, hrow, heach⟩ := hpc
  obtain ⟨A4, c4, rfl, hc4⟩ := own_form hrow
  have hEL := Lies.of_own hrow
  replace heach := heach.mono (ok' := fun k => k < w4.heap.size) (fun k hk _ => hk)
  clear CO Q0 Q1 Q2 hg4 hL3 hbox3 hbel3 hg3 hR hga hL2 hrow P0 P1 P2
  obtain ⟨N, hN⟩ : ∃ N, N = cs.length := ⟨_, rfl⟩
  rw [← hN] at hcl hc4 ⊢
  have HN := Lib.hid hN
  clear hN
  go_wp2_with fail
  go_loopw [8, 9] (fun al i wr => ∃ k : Nat, k ≤ N ∧ i = .int .i64 (k : Int) ∧ wr.ownsRow w4.heap.size 5 1 al (cs.take k).flatten.length ((cs.take k).flatten.map bv) ∧ Grows w4 wr) (fun _ i _ => N - (intOf i).toNat)
  case atStart => exact ⟨0, Nat.zero_le _, rfl, by rw [List.take_zero]; exact World.ownsRow_nil _ _ _ _, Grows.refl _⟩
  case round =>
    obtain ⟨k, hk, rfl, hown, hg⟩ := hrel
    obtain ⟨A7, c7, rfl, hc7⟩ := own_form hown
    by_cases hlt : k < N
    · obtain ⟨x, hx⟩ : ∃ x, cs[k]? = some x := ⟨_, List.getElem?_eq_getElem (by rw [← HN.out]; exact hlt)⟩
      obtain ⟨Ax, cx, ex, hxc, hLx⟩ := heach.2 k x hx
      obtain ⟨ad, rfl, _, c1x⟩ := hEL.at_ ex
      have hmem := List.mem_of_getElem? hx
      have hx1 := hmx.out x hmem
      have hx2 := hmn.out k x hx
      have hx3 := List.length_pos_iff.2 (hne.out x hmem)
      have hfx := flat_take cs hx
      have HFT : Hid ((cs.take (k + 1)).flatten = (cs.take k).flatten ++ x) := hfx
      have hfle := flat_le cs (k + 1)
      rw [hfl.out, hfx, List.length_append, HL1.out] at hfle
      have hc1w := hcell_later c1x hg
      have hLxw := (hLx.lies (B := w4.heap.size) (fun q hq => hq)).later hg
      obtain ⟨i0, hi0, hz0, hz1, hz2⟩ := info_parts byte_info
      have hbw := hbox4.later hg
      have hw64 : IntKind.i64.wrap ((k : Int) + 1) = (k : Int) + 1 := IntWalk.i64_in _ (by omega)
      have hki : (k : Int) < (N : Int) := by omega
      have hsz := hg.size
      rw [← HN.out] at hx2
      clear hfx hx ex hmem
      generalize (cs.take k).flatten = fl at *
      go_wp2_with (at_builtin; refine wpList_append_src _ rfl (.tmp 23) (.tmp 27) _ rfl w4.heap.size 5 i0 _ 1 Tryd.underlying35 hi0 hz0 hz1 hz2 rfl _ fl.length _ rfl hown _ Ax x.length cx (x.map bv) rfl (by rw [List.length_map]) hLxw (bv_one x) (by unfold maxLen; omega) (by omega) hsz ?_; intro v5 w5 hown5 gq5 hat5)
      have hg5 : Grows w4 w5 := Below.grown hg gq5 hsz (own_ge hown)
      rw [← List.map_append, ← List.length_append] at hown5
      have hb5 := hbox4.later hg5
      have hc5 := hcell_later c1x hg5
      have f1 : ∀ u, Grows w5.drew u → u.cell? (ad.add k) = some (.slice Ax x.length cx) := fun u h => hcell_later hc5 (Grows.trans (Grows.refl w5).drew h)
      have f2 : ∀ u, Grows w5.drew u → u.cell? ⟨w2.heap.size, 2, none⟩ = some (.int .i64 (p.mx : Int)) := fun u h => (hb5.later (Grows.trans (Grows.refl w5).drew h)).cell (k := 2) rfl
      have f3 : ∀ u, Grows w5.drew u → u.cell? ⟨w2.heap.size, 0, none⟩ = some (.int .i64 (p.mn : Int)) := fun u h => (hb5.later (Grows.trans (Grows.refl w5).drew h)).cell (k := 0) rfl
      have hO := Grows.refl w5.drew
      clear gq5 hown hc1w hLxw hbw hb5 hc5 hat5
      generalize x.length = L at *
      have e1 : decide ((L : Int) > (p.mx : Int)) = false := by simp; omega
      have e1' : decide (p.mx < L) = false := by simp; omega
      have e2 : ((L : Int) == 0) = false := by simp; omega
      by_cases hkN : k + 1 < N
      · have e3 : decide ((k : Int) + 1 < (N : Int)) = true := by simp; omega
        have hx2' := hx2 hkN
        have e4 : decide ((L : Int) < (p.mn : Int)) = false := by simp; omega
        have e4' : decide (L < p.mn) = false := by simp; omega
        refine wp_region_ord 33 [(0, true), (1, true), (2, true), (3, true), (4, true), (5, true), (6, true), (7, true), (8, true), (9, true), (10, true), (11, true), (12, true), (13, true), (14, true), (15, true), (16, true), (17, true), (18, true), (19, true), (20, true), (21, true), (22, true), (23, true), (24, true), (25, true), (26, true), (27, true), (28, true), (29, true), (30, true), (31, true), (32, true)] (by kernel_rfl) (by kernel_rfl) ?_
        repeat (first | (refine ord_take hO _ ?_ (by simp only [List.getElem?_cons_succ, List.getElem?_cons_zero]; rfl) (by rfl) ?_ ?_; rotate_left; (· (intro u hu0 hu; (try go_simp); (try with_reducible rfl))); try simp only [Act.put, List.setIfInBounds_toArray, List.set_cons_zero, List.set_cons_succ]) | (refine ord_skip _ (by simp only [List.getElem?_cons_succ, List.getElem?_cons_zero]; rfl) (by rfl) ?_; try simp only [Act.put, List.setIfInBounds_toArray, List.set_cons_zero, List.set_cons_succ]))
        refine ord_done (fun w6 hu => ?_); simp only [List.drop_succ_cons, List.drop_zero]
        have hg6 := Grows.trans hg5 (Grows.trans (Grows.refl w5).drew hu)
        have hown6 := own_later hown5 (Grows.trans (Grows.refl w5).drew hu)
        clear f1 f2 f3 hO hu
        go_wp2_with fail
        refine NoPanic.normal ?_
        go_wp2_with fail
        go_roundw
        case rel => exact ⟨k + 1, by omega, by go_num, by rw [HFT.out]; exact hown6, hg6⟩
        case measure => simp [intOf]; omega
      · have e3 : decide ((k : Int) + 1 < (N : Int)) = false := by simp; omega
        refine wp_region_ord 33 [(0, true), (1, true), (2, true), (3, true), (4, true), (5, true), (6, true), (7, true), (8, true), (9, true), (10, true), (11, true), (12, true), (13, true), (14, true), (15, true), (16, true), (17, true), (18, true), (19, true), (20, true), (21, true), (22, true), (23, true), (24, true), (25, true), (26, true), (27, true), (28, true), (29, true), (30, true), (31, true), (32, true)] (by kernel_rfl) (by kernel_rfl) ?_
        repeat (first | (refine ord_take hO _ ?_ (by simp only [List.getElem?_cons_succ, List.getElem?_cons_zero]; rfl) (by rfl) ?_ ?_; rotate_left; (· (intro u hu0 hu; (try go_simp); (try with_reducible rfl))); try simp only [Act.put, List.setIfInBounds_toArray, List.set_cons_zero, List.set_cons_succ]) | (refine ord_skip _ (by simp only [List.getElem?_cons_succ, List.getElem?_cons_zero]; rfl) (by rfl) ?_; try simp only [Act.put, List.setIfInBounds_toArray, List.set_cons_zero, List.set_cons_succ]))
        refine ord_done (fun w6 hu => ?_); simp only [List.drop_succ_cons, List.drop_zero]
        have hg6 := Grows.trans hg5 (Grows.trans (Grows.refl w5).drew hu)
        have hown6 := own_later hown5 (Grows.trans (Grows.refl w5).drew hu)
        clear f1 f2 f3 hO hu
        go_wp2_with fail
        refine NoPanic.normal ?_
        go_wp2_with fail
        go_roundw
        case rel => exact ⟨k + 1, by omega, by go_num, by rw [HFT.out]; exact hown6, hg6⟩
        case measure => simp [intOf]; omega
    · have hkN : k = N := by omega
      subst hkN
      have hall : (cs.take k).flatten = own := by rw [List.take_of_length_le (by rw [← HN.out]; exact Nat.le_refl _), hfl.out]
      rw [hall, HL1.out] at hown hc7
      rw [hall]
      have d1 : decide ((k : Int) < (k : Int)) = false := by simp
      have hL7 := Lies.of_own hown
      have hL1w := hL4.later hg
      have gw7 := Grows.trans gw4 hg
      rw [HL1.out]
      have cv1 := run_string_of (P := Tryd.prog) wr 35 5 Tryd.underlying35 Tryd.underlying5 9 Tryd.underlying9 _ A7 m1 c7 own HL1.out hL7
      have cv2 := run_string_of (P := Tryd.prog) wr 35 5 Tryd.underlying35 Tryd.underlying5 9 Tryd.underlying9 _ A1 m1 c1 own HL1.out hL1w
      have LV := Lib.hid (lives10_any wr (hs.later gw7))
      go_wp2_with fail
      refine LV.out.mono ?_
      rintro e w8 ⟨rfl, hg8⟩
      have gw8 := Grows.trans gw7 hg8
      go_wp2_with fail
      go_ret
      exact ⟨rfl, gw8⟩
end Go.Proofs.YtkgkkobdpgnicaaDoor
