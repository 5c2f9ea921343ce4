/-
  Contract of (*knife).next: along bytes to the next cut.
-/
import Derived.Test.YtkgkkobdpgnicaaDoorCutC
namespace Go.Proofs.YtkgkkobdpgnicaaDoor
open Go.RowKit
set_option linter.unusedVariables false

/-- What a knife has behind it when it has gone along b. -/
def behind (p : Prm) (l b : List UInt8) : List UInt8 := if (scan p l b).2 = true then [] else l ++ b
theorem mask_zero (h av : Nat) (hh : h < 4294967296) (hp : powOf av ≤ 4096) : bits .and .u32 (h : Int) ((powOf av - 1 : Nat) : Int) = ((h % powOf av : Nat) : Int) := by
  rw [u32_and_nat _ _ hh (by omega)]
  unfold powOf
  rw [and_pow]

set_option maxRecDepth 20000 in
set_option maxHeartbeats 2000000 in
theorem next_any (b rb B : Nat) (p : Prm) (l : List UInt8) (A : Option Addr) (n c : Nat) (bs : List UInt8) (w : World) (hp : p.Ok) (K : Knife w b rb p l) (hs : Starts w)
    (hl : bs.length = n) (hr : Lies w B A (bs.map bv)) (hb : B ≤ b) (hrb : B ≤ rb) (hn : l.length + n ≤ 1000000000000) :
    Calls Tryd.prog 36 #[.pointer (some ⟨b, 0, none⟩), .slice A n c] w fun e w' =>
      e = .returned (.tuple #[.int .i64 ((scan p l bs).1 : Int), .bool (scan p l bs).2]) ∧ Knife w' b rb p (behind p l bs) ∧ Turns (KB b rb) w w' := by
  have hne := K.ne
  have hkb := K.kb
  have hkr := K.kr
  have hpw : powOf p.av ≤ 4096 := by have := powOf_le (n := p.av) (by have := hp.mn; have := hp.av; omega); have := hp.mx; have := hp.top; omega
  have hc4 := K.has.cell (k := 4) rfl
  have HK := Lib.hid K
  have HR := Lib.hid hr
  have HL := Lib.hid hl
  clear K hr hl
  have h0n : (0 : Int) ≤ n := by omega
  go_enter Tryd.func36, Tryd.ntmps36
  go_wp2_with fail
  go_loopw [17] (fun i wr => ∃ k : Nat, k ≤ n ∧ i = .int .i64 (k : Int) ∧ Knife wr b rb p (l ++ bs.take k) ∧ Turns (KB b rb) w wr ∧ Hid (∀ j, 1 ≤ j → j ≤ k → cutAt p (l ++ bs.take j) = false)) (fun i _ => n - (intOf i).toNat)
  case atStart => exact ⟨0, Nat.zero_le _, rfl, by rw [List.take_zero, List.append_nil]; exact HK.out, Turns.refl _ _, fun j h1 h2 => by omega⟩
  case round =>
    obtain ⟨k, hk, rfl, K1, T1, HNO⟩ := hrel
    by_cases hlt : k < n
    · obtain ⟨x, hx⟩ : ∃ x, bs[k]? = some x := ⟨_, List.getElem?_eq_getElem (by rw [HL.out]; exact hlt)⟩
      have HTK : Hid (l ++ bs.take (k + 1) = (l ++ bs.take k) ++ [x]) := by
        show _ = _
        have hkl : k < bs.length := by rw [HL.out]; exact hlt
        rw [List.take_succ_eq_append_getElem hkl, List.append_assoc, (List.getElem?_eq_some_iff.1 hx).2]
      have hlen : (l ++ bs.take k).length = l.length + k := by rw [List.length_append, List.length_take, HL.out]; omega
      have hlen1 : (l ++ bs.take (k + 1)).length = l.length + k + 1 := by rw [List.length_append, List.length_take, HL.out]; omega
      obtain ⟨ad, hA, hab, hcx⟩ := HR.out.at_ (j := k) (u := bv x) (by rw [List.getElem?_map, hx]; rfl)
      subst hA
      have hcx1 := T1.cell hcx (fun h => by rw [add_block] at h; rcases h with h | h <;> omega)
      have hs1 := hs.turned T1 (fun h => by rcases h with h | h <;> omega)
      have A1 : Hid (Calls Tryd.prog 51 #[.pointer (some ⟨rb, 0, none⟩), bv x] wr fun e w' => e = .returned (uv (hashOf (l ++ bs.take (k + 1)))) ∧ Rolls w' rb (l ++ bs.take (k + 1)) ∧ Turns (fun k => k = rb) wr w') := by
        have := add_any rb (l ++ bs.take k) x wr K1.roll hs1 hkr
        rwa [← HTK.out] at this
      have hx8 : bv x = .int .u8 (x.toNat : Int) := rfl
      rw [hx8] at hcx1 A1
      have hh := hashOf_lt (l ++ bs.take (k + 1))
      have hK1 := K1.has
      rw [hlen] at hK1
      have HEQ : Hid (∀ m, (l ++ bs.take (k + 1)).length = m → m = l.length + k + 1) := fun m h => by rw [← h]; exact hlen1
      obtain ⟨L, hL⟩ : ∃ L, L = l ++ bs.take (k + 1) := ⟨_, rfl⟩
      rw [← hL] at A1 hh hlen1
      have HLL := Lib.hid hL
      clear hL hx hlen HEQ HTK
      have hki : (k : Int) < (n : Int) := by omega
      go_wp2_with fail
      refine A1.out.mono ?_
      rintro e w2 ⟨rfl, hr2, T2⟩
      have hb2 := hK1.turned T2 hne
      have hc5 := hb2.cell (k := 5) rfl
      have hf5 := hb2.free 5
      have hb3 := hb2.set_ (k := 5) (by simp) (.int .i64 ((l.length + k + 1 : Nat) : Int))
      have hr3 : Rolls (w2.setCell ⟨b, 5, none⟩ (.int .i64 ((l.length + k + 1 : Nat) : Int))) rb L := hr2.turned (Turns.of_set (S := fun k => k = b) w2 _ rfl) (fun h => hne h.symm)
      have T3 : Turns (KB b rb) w (w2.setCell ⟨b, 5, none⟩ (.int .i64 ((l.length + k + 1 : Nat) : Int))) := (T1.trans (T2.mono fun _ _ h => .inr h)).trans (Turns.of_set w2 _ (.inl rfl))
      have K3 : Knife (w2.setCell ⟨b, 5, none⟩ (.int .i64 ((l.length + k + 1 : Nat) : Int))) b rb p L := ⟨by rw [hlen1]; exact hb3, hr3, hne, hkb, hkr⟩
      clear hb3 hr3 hr2 T2 hK1
      rw [show ((l.length + k + 1 : Nat) : Int) = ((l.length + k : Nat) : Int) + 1 by omega] at K3 T3
      generalize hm : l.length + k = m at *
      have hw64 : IntKind.i64.wrap ((m : Int) + 1) = (m : Int) + 1 := IntWalk.i64_in _ (by omega)
      have HM := Lib.hid hm
      clear hm
      go_wp2_with fail
      generalize w2.setCell ⟨b, 5, none⟩ (.int .i64 ((m : Int) + 1)) = w3 at *
      clear hc5 hf5 hb2 hcx1 K1 T1 hw64
      have hK3 := K3.has
      rw [hlen1] at hK3
      have HK3 := Lib.hid hK3
      have HHS := Lib.hid (show ∀ u, Grows w3 u → Knife u b rb p L ∧ Turns (KB b rb) w u from fun u h => ⟨K3.later h, T3.trans (Turns.of_grows h)⟩)
      clear hK3 K3 T3
      have hgd := (Grows.refl w3).drew
      have f0 : ∀ u, Grows w3.drew u → u.cell? ⟨b, 0, none⟩ = some (.int .i64 (p.mn : Int)) := fun u h => (HK3.out.later (Grows.trans hgd h)).cell (k := 0) rfl
      have f2 : ∀ u, Grows w3.drew u → u.cell? ⟨b, 2, none⟩ = some (.int .i64 (p.mx : Int)) := fun u h => (HK3.out.later (Grows.trans hgd h)).cell (k := 2) rfl
      have f3 : ∀ u, Grows w3.drew u → u.cell? ⟨b, 3, none⟩ = some (.int .u32 ((powOf p.av - 1 : Nat) : Int)) := fun u h => (HK3.out.later (Grows.trans hgd h)).cell (k := 3) rfl
      have f5 : ∀ u, Grows w3.drew u → u.cell? ⟨b, 5, none⟩ = some (.int .i64 ((m : Int) + 1)) := fun u h => (HK3.out.later (Grows.trans hgd h)).cell (k := 5) (by simp)
      have hmz := mask_zero (hashOf L) p.av hh hpw
      have HCUT : Hid (cutAt p L = (decide (m + 1 = p.mx) || (decide (p.mn ≤ m + 1) && decide (hashOf L % powOf p.av = 0)))) := by
        show _ = _
        unfold cutAt
        rw [hlen1]; rfl
      have hO := Grows.refl w3.drew
      generalize hashOf L = h at *
      generalize h % powOf p.av = r at *
      generalize powOf p.av - 1 = mk at *
      by_cases hA : m + 1 = p.mx
      · have hcut : cutAt p L = true := by rw [HCUT.out]; simp [hA]
        have e1 : (((m : Int) + 1) == (p.mx : Int)) = true := by simp; omega
        refine wp_region_ord 31 [(0, true), (1, true), (2, true), (3, true), (4, true), (5, true), (6, true), (7, true), (8, true), (9, true), (10, true), (11, true), (12, true), (13, true), (14, true), (15, true), (16, true), (17, true), (18, true), (19, true), (20, true), (21, true), (22, true), (23, true), (24, true), (25, true), (26, true), (27, true), (28, true), (29, true), (30, true)] (by kernel_rfl) (by kernel_rfl) ?_
        repeat (first | (refine ord_take hO _ ?_ (by simp only [List.getElem?_cons_succ, List.getElem?_cons_zero]; rfl) (by rfl) ?_ ?_; rotate_left; (· (intro u hu0 hu; (try go_simp); (try with_reducible rfl))); try simp only [Act.put, List.setIfInBounds_toArray, List.set_cons_zero, List.set_cons_succ]) | (refine ord_skip _ (by simp only [List.getElem?_cons_succ, List.getElem?_cons_zero]; rfl) (by rfl) ?_; try simp only [Act.put, List.setIfInBounds_toArray, List.set_cons_zero, List.set_cons_succ]))
        refine ord_done (fun w4 hu => ?_); simp only [List.drop_succ_cons, List.drop_zero]
        obtain ⟨K4, T4⟩ := HHS.out w4 (Grows.trans hgd hu)
        clear f0 f2 f3 f5 hO hu hgd
        go_wp2_with fail
        refine NoPanic.normal ?_
        go_wp2_with fail
        refine (lift_any b rb p L w4 K4).mono ?_
        rintro e w5 ⟨rfl, K5, T5⟩
        have T6 := T4.trans T5
        have hcv : IntKind.i64.wrap ((k : Int) + 1) = (k : Int) + 1 := IntWalk.i64_in _ (by omega)
        go_wp2_with fail
        go_ret2
        have hsc : scan p l bs = (k + 1, true) := scan_find p bs l (k + 1) (by omega) (by rw [HL.out]; omega) (fun j h1 h2 => HNO.out j h1 (by omega)) (by rw [← HLL.out]; exact hcut)
        refine ⟨by rw [hsc]; rfl, ?_, T6⟩
        unfold behind
        rw [hsc, if_pos rfl]
        exact K5
      · have e1 : (((m : Int) + 1) == (p.mx : Int)) = false := by simp; omega
        by_cases hB : p.mn ≤ m + 1
        · have e2 : decide (((m : Int) + 1) ≥ (p.mn : Int)) = true := by simp; omega
          by_cases hC : r = 0
          · have hcut : cutAt p L = true := by rw [HCUT.out]; simp [hB, hC]
            have e3 : ((r : Int) == 0) = true := by simp; omega
            refine wp_region_ord 31 [(0, true), (1, true), (2, true), (3, true), (4, true), (5, true), (6, true), (7, true), (8, true), (9, true), (10, true), (11, true), (12, true), (13, true), (14, true), (15, true), (16, true), (17, true), (18, true), (19, true), (20, true), (21, true), (22, true), (23, true), (24, true), (25, true), (26, true), (27, true), (28, true), (29, true), (30, true)] (by kernel_rfl) (by kernel_rfl) ?_
            repeat (first | (refine ord_take hO _ ?_ (by simp only [List.getElem?_cons_succ, List.getElem?_cons_zero]; rfl) (by rfl) ?_ ?_; rotate_left; (· (intro u hu0 hu; (try go_simp); (try with_reducible rfl))); try simp only [Act.put, List.setIfInBounds_toArray, List.set_cons_zero, List.set_cons_succ]) | (refine ord_skip _ (by simp only [List.getElem?_cons_succ, List.getElem?_cons_zero]; rfl) (by rfl) ?_; try simp only [Act.put, List.setIfInBounds_toArray, List.set_cons_zero, List.set_cons_succ]))
            refine ord_done (fun w4 hu => ?_); simp only [List.drop_succ_cons, List.drop_zero]
            obtain ⟨K4, T4⟩ := HHS.out w4 (Grows.trans hgd hu)
            clear f0 f2 f3 f5 hO hu hgd
            go_wp2_with fail
            refine NoPanic.normal ?_
            go_wp2_with fail
            refine (lift_any b rb p L w4 K4).mono ?_
            rintro e w5 ⟨rfl, K5, T5⟩
            have T6 := T4.trans T5
            have hcv : IntKind.i64.wrap ((k : Int) + 1) = (k : Int) + 1 := IntWalk.i64_in _ (by omega)
            go_wp2_with fail
            go_ret2
            have hsc : scan p l bs = (k + 1, true) := scan_find p bs l (k + 1) (by omega) (by rw [HL.out]; omega) (fun j h1 h2 => HNO.out j h1 (by omega)) (by rw [← HLL.out]; exact hcut)
            refine ⟨by rw [hsc]; rfl, ?_, T6⟩
            unfold behind
            rw [hsc, if_pos rfl]
            exact K5
          · have hcut : cutAt p L = false := by rw [HCUT.out]; simp [hA, hC]
            have e3 : ((r : Int) == 0) = false := by simp; omega
            refine wp_region_ord 31 [(0, true), (1, true), (2, true), (3, true), (4, true), (5, true), (6, true), (7, true), (8, true), (9, true), (10, true), (11, true), (12, true), (13, true), (14, true), (15, true), (16, true), (17, true), (18, true), (19, true), (20, true), (21, true), (22, true), (23, true), (24, true), (25, true), (26, true), (27, true), (28, true), (29, true), (30, true)] (by kernel_rfl) (by kernel_rfl) ?_
            repeat (first | (refine ord_take hO _ ?_ (by simp only [List.getElem?_cons_succ, List.getElem?_cons_zero]; rfl) (by rfl) ?_ ?_; rotate_left; (· (intro u hu0 hu; (try go_simp); (try with_reducible rfl))); try simp only [Act.put, List.setIfInBounds_toArray, List.set_cons_zero, List.set_cons_succ]) | (refine ord_skip _ (by simp only [List.getElem?_cons_succ, List.getElem?_cons_zero]; rfl) (by rfl) ?_; try simp only [Act.put, List.setIfInBounds_toArray, List.set_cons_zero, List.set_cons_succ]))
            refine ord_done (fun w4 hu => ?_); simp only [List.drop_succ_cons, List.drop_zero]
            obtain ⟨K4, T4⟩ := HHS.out w4 (Grows.trans hgd hu)
            clear f0 f2 f3 f5 hO hu hgd
            go_wp2_with fail
            refine NoPanic.normal ?_
            go_wp2_with fail
            go_roundw
            case rel => exact ⟨k + 1, by omega, by go_num, by rw [← HLL.out]; exact K4, T4, fun j h1 h2 => by
              rcases Nat.lt_or_ge k j with h | h
              · obtain rfl : j = k + 1 := by omega
                rw [← HLL.out]; exact hcut
              · exact HNO.out j h1 h⟩
            case measure => simp [intOf]; omega
        · have hcut : cutAt p L = false := by rw [HCUT.out]; simp [hA, hB]
          have e2 : decide (((m : Int) + 1) ≥ (p.mn : Int)) = false := by simp; omega
          refine wp_region_ord 31 [(0, true), (1, true), (2, true), (3, true), (4, true), (5, true), (6, true), (7, true), (8, true), (9, true), (10, true), (11, true), (12, true), (13, true), (14, true), (15, true), (16, true), (17, true), (18, true), (19, true), (20, true), (21, true), (22, true), (23, true), (24, true), (25, true), (26, true), (27, true), (28, true), (29, true), (30, true)] (by kernel_rfl) (by kernel_rfl) ?_
          repeat (first | (refine ord_take hO _ ?_ (by simp only [List.getElem?_cons_succ, List.getElem?_cons_zero]; rfl) (by rfl) ?_ ?_; rotate_left; (· (intro u hu0 hu; (try go_simp); (try with_reducible rfl))); try simp only [Act.put, List.setIfInBounds_toArray, List.set_cons_zero, List.set_cons_succ]) | (refine ord_skip _ (by simp only [List.getElem?_cons_succ, List.getElem?_cons_zero]; rfl) (by rfl) ?_; try simp only [Act.put, List.setIfInBounds_toArray, List.set_cons_zero, List.set_cons_succ]))
          refine ord_done (fun w4 hu => ?_); simp only [List.drop_succ_cons, List.drop_zero]
          obtain ⟨K4, T4⟩ := HHS.out w4 (Grows.trans hgd hu)
          clear f0 f2 f3 f5 hO hu hgd
          go_wp2_with fail
          refine NoPanic.normal ?_
          go_wp2_with fail
          go_roundw
          case rel => exact ⟨k + 1, by omega, by go_num, by rw [← HLL.out]; exact K4, T4, fun j h1 h2 => by
            rcases Nat.lt_or_ge k j with h | h
            · obtain rfl : j = k + 1 := by omega
              rw [← HLL.out]; exact hcut
            · exact HNO.out j h1 h⟩
          case measure => simp [intOf]; omega
    · have hkn : k = n := by omega
      subst hkn
      have d1 : decide ((k : Int) < (k : Int)) = false := by simp
      go_wp2_with fail
      go_ret2
      have hsc : scan p l bs = (bs.length, false) := scan_none p bs l (fun j h1 h2 => HNO.out j h1 (by rw [HL.out] at h2; exact h2))
      refine ⟨by rw [hsc, HL.out]; rfl, ?_, T1⟩
      unfold behind
      rw [hsc, if_neg (by simp)]
      rwa [List.take_of_length_le (by rw [HL.out]; exact Nat.le_refl _)] at K1
end Go.Proofs.YtkgkkobdpgnicaaDoor
