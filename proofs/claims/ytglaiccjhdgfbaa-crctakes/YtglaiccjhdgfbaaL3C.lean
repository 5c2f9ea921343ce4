/-
  The walk of the law CrcTakes.
-/
import Derived.Test.YtglaiccjhdgfbaaL3A
import Derived.Test.YtglaiccjhdgfbaaCrcD
import Derived.Test.YtglaiccjhdgfbaaRAro
namespace Go.Proofs.Ytglaiccjhdgfbaa
open Go.RowKit
set_option linter.unusedVariables false

/-- At block g lie k slices of bytes, each of at most a hundred. -/
def Rows_ (w : World) (g k : Nat) : Prop := ∀ r, r < k → ∃ (A : Option Addr) (n c : Nat) (l : List UInt8), w.cell? ⟨g, r, none⟩ = some (.slice A n c) ∧ l.length = n ∧ Lies w w.heap.size A (l.map bv) ∧ n ≤ c ∧ n ≤ 100
theorem Rows_.later {w w' : World} {g k : Nat} (h : Rows_ w g k) (hg : Grows w w') : Rows_ w' g k := fun r hr => by
  obtain ⟨A, n, c, l, hc, hl, hL, h1, h2⟩ := h r hr
  exact ⟨A, n, c, l, hcell_later hc hg, hl, hL.later hg, h1, h2⟩

set_option maxHeartbeats 4000000 in
theorem crctakes_walk (A : Option Addr) (n c : Nat) (bs : List UInt8) (m : Int) (y : Nat) (w : World) (hl : bs.length = n) (hr : Lies w w.heap.size A (bs.map bv)) (hc : n ≤ c) (hm : c ≤ maxLen)
    (hi : -9223372036854775808 ≤ m ∧ m ≤ 9223372036854775807) (hy : y < 256) :
    Calls Try.prog 5 #[.slice A n c, .int .i64 m, .int .u8 (y : Int)] w fun e w' => e = .returned (.bool true) ∧ Grows w w' := by
  obtain ⟨i0, hi0, hz0, hz1, hz2⟩ := info_parts byte_info
  have HL := Lib.hid hl
  clear hl
  obtain ⟨yb, hyb⟩ : ∃ yb : UInt8, yb.toNat = y := ⟨UInt8.ofNat y, by rw [UInt8.toNat_ofNat']; omega⟩
  subst hyb
  go_enter Try.func5, Try.ntmps5
  go_wp2_with fail
  refine (few_bytes A n c 20 bs w HL.out hr hc (by omega) hm).mono ?_
  rintro e w1 ⟨A1, c1, rfl, hc1, hown1, hL1, hg1⟩
  have HL1 := Lib.hid (min_take (m := 20) HL.out)
  have hmin : min n 20 ≤ 20 := Nat.min_le_right _ _
  clear hown1
  generalize min n 20 = n1 at *
  generalize bs.take 20 = l at *
  go_wp2_with fail
  refine (put_any A1 n1 c1 l w1 HL1.out hL1 (by omega)).mono ?_
  rintro e w2 ⟨v2, rfl, hown2, hg2⟩
  have HP : Hid ((l ++ four (crcOf l)).length = n1 + 4) := by show _ = _; rw [List.length_append, HL1.out, four_len]
  obtain ⟨g, cp, rfl, hcp, hmp, hgb, hh⟩ := own_has hown2 (by omega)
  have hLp := hh.lies
  have hL2 := hL1.later hg2
  have hr2 := hr.later (Grows.trans hg1 hg2)
  have hg02 := Grows.trans hg1 hg2
  clear hown2 hh hgb hL1 hr hg1 hg2
  have RP : ∀ u : World, Lies u u.heap.size A1 (l.map bv) → Calls Try.prog 16 #[.slice A1 n1 c1] u fun e w' => ∃ v, e = .returned v ∧ w'.ownsRow u.heap.size 5 1 v (n1 + 4) ((l ++ four (crcOf l)).map bv) ∧ Grows u w' := fun u hu => rput_any A1 n1 c1 l u HL1.out hu (by omega)
  have RP := Lib.hid RP
  generalize l ++ four (crcOf l) = p at *
  generalize (some ⟨g, 0, none⟩ : Option Addr) = Ap at *
  go_wp2_with fail
  refine wp_region_ord 11 [(0, true), (1, true), (2, true), (3, false), (4, true), (5, true), (6, true), (7, true), (8, true), (9, true), (10, true)] (by kernel_rfl) (by kernel_rfl) ?_
  have hgd : Grows w2 w2.drew := (Grows.refl w2).drew
  have hLp' := hLp.later hgd
  have hL2' := hL2.later hgd
  have hr2' := hr2.later hgd
  have hg02' := Grows.trans hg02 hgd
  have hO := Grows.refl w2.drew
  clear hLp hL2 hr2 hg02 hgd
  generalize w2.drew = wd at *
  have cv1 : ∀ u, Grows wd u → (convert 22 9 (.slice Ap (n1 + 4) cp)).run Try.prog u = .ok (.string ⟨p.toArray⟩) u := fun u h =>
    run_string_of u 22 5 Try.underlying22 Try.underlying5 9 Try.underlying9 _ Ap (n1 + 4) cp p HP.out (hLp'.below h)
  repeat (first | (refine ord_take hO _ ?_ (by simp only [List.getElem?_cons_succ, List.getElem?_cons_zero]; rfl) (by rfl) ?_ ?_; rotate_left; (· (intro u hu0 hu; (try go_simp); (try with_reducible rfl))); try simp only [Act.put, List.setIfInBounds_toArray, List.set_cons_zero, List.set_cons_succ]) | (refine ord_skip _ (by simp only [List.getElem?_cons_succ, List.getElem?_cons_zero]; rfl) (by rfl) ?_; try simp only [Act.put, List.setIfInBounds_toArray, List.set_cons_zero, List.set_cons_succ]))
  (refine ord_move _ (by simp only [List.getElem?_cons_succ, List.getElem?_cons_zero]; rfl) (by rfl) (fun u hu K hK => ?_); go_simp)
  refine (RP.out u (hL2'.later hu)).mono ?_
  rintro e w3 ⟨v3, rfl, hown3, hg3⟩
  obtain ⟨A3, c3, rfl, hc3⟩ := own_form hown3
  refine hK.out _ _ hg3 ?_
  clear hK K
  have hL3 := Lies.of_own hown3
  have cv2 : ∀ u, Grows w3 u → (convert 22 9 (.slice A3 (n1 + 4) c3)).run Try.prog u = .ok (.string ⟨p.toArray⟩) u := fun u h =>
    run_string_of u 22 5 Try.underlying22 Try.underlying5 9 Try.underlying9 _ A3 (n1 + 4) c3 p HP.out (hL3.below h)
  have hgu := Grows.trans hu hg3
  have hLp := hLp'.later hgu
  have hr2 := hr2'.later hgu
  have hg02 := Grows.trans hg02' hgu
  have hO := Grows.refl w3
  clear cv1 hLp' hr2' hL2' hg02' hgu hu hown3 hL3 hg3
  repeat (first | (refine ord_take hO _ ?_ (by simp only [List.getElem?_cons_succ, List.getElem?_cons_zero]; rfl) (by rfl) ?_ ?_; rotate_left; (· (intro u hu0 hu; (try go_simp); (try with_reducible rfl))); try simp only [Act.put, List.setIfInBounds_toArray, List.set_cons_zero, List.set_cons_succ]) | (refine ord_skip _ (by simp only [List.getElem?_cons_succ, List.getElem?_cons_zero]; rfl) (by rfl) ?_; try simp only [Act.put, List.setIfInBounds_toArray, List.set_cons_zero, List.set_cons_succ]))
  (refine ord_done (fun u hu => ?_); simp only [List.drop_succ_cons, List.drop_zero])
  have hLp' := hLp.later hu
  have hr2' := hr2.later hu
  have hg02' := Grows.trans hg02 hu
  clear cv2 hLp hr2 hg02 hu hO
  generalize hwu : u = w4 at *
  clear hwu
  refine NoPanic.normal ?_
  go_wp2_with fail
  refine (around_any m (n1 + 4) w4 hi (by omega)).mono ?_
  rintro e w' ⟨rfl, rfl⟩
  have hk := around_lt m (m := n1 + 4) (by omega)
  generalize around m (n1 + 4) = k at *
  have HMN : Hid (min (n1 + 4) 60 = n1 + 4) := by show _ = _; omega
  have HTP : Hid (p.take 60 = p) := List.take_of_length_le (show p.length ≤ 60 by rw [HP.out]; omega)
  go_wp2_with fail
  refine (few_bytes Ap (n1 + 4) cp 60 p w4 HP.out hLp' hcp (by omega) hmp).mono ?_
  rw [HMN.out, HTP.out]
  rintro e w5 ⟨A5, c5, rfl, hc5, hown5, hL5, hg5⟩
  obtain ⟨g5, c5', e5, _, hm5, hgb5, hh5⟩ := own_has hown5 (by omega)
  injection e5 with e5a e5b e5c
  subst e5a e5c
  have hfr := hh5.free k
  obtain ⟨x, hx⟩ : ∃ x, p[k]? = some x := ⟨_, List.getElem?_eq_getElem (by rw [HP.out]; exact hk)⟩
  have cx := hh5.cell (k := k) (u := bv x) (by rw [List.getElem?_map, hx]; rfl)
  have hset := hh5.set_ (k := k) (by rw [List.length_map, HP.out]; exact hk) (bv yb)
  rw [← List.map_set] at hset
  have HPS : Hid ((p.set k yb).length = n1 + 4) := by show _ = _; rw [List.length_set]; exact HP.out
  have hgs : Below w4.heap.size w4 (w5.setCell ⟨g5, k, none⟩ (bv yb)) := Below.setCell hg5 (p := ⟨g5, k, none⟩) hgb5 _
  have HSET := Lib.hid hset
  have HGS := Lib.hid hgs
  clear hset hgs hh5 hx hown5 hL5 hgb5 hg5
  have k0 : (k : Int) < (n1 : Int) + 4 := by omega
  go_wp2_with fail
  change Calls _ _ _ (w5.setCell ⟨g5, k, none⟩ (bv yb)) _
  clear cx hfr
  generalize w5.setCell ⟨g5, k, none⟩ (bv yb) = w6 at *
  have hLq := HSET.out.lies
  generalize p.set k yb = q at *
  generalize (some ⟨g5, 0, none⟩ : Option Addr) = Aq at *
  have hLp := hLp'.later HGS.out
  have hr2 := hr2'.later HGS.out
  have hg06 := Grows.trans hg02' HGS.out
  clear hLp' hr2' hg02' HGS HSET
  refine (few_bytes Ap (n1 + 4) cp 60 p w6 HP.out hLp hcp (by omega) hmp).mono ?_
  rw [HMN.out, HTP.out]
  rintro e w7 ⟨A7, c7, rfl, hc7, hown7, hL7, hg7⟩
  have hnew := Lies.new w7 5 [bv yb]
  have hsz := hg7.size
  go_wp2_with (at_builtin; refine wpList_append_src _ rfl (.tmp 44) (.tmp 46) _ rfl w6.heap.size 5 i0 _ 1 Try.underlying22 hi0 hz0 hz1 hz2 rfl (.slice A7 (n1 + 4) c7) (n1 + 4) _ rfl (hown7.alloc _) _ _ 1 1 [bv yb] rfl rfl hnew (by simp [Value.oneCell']) (by unfold maxLen; omega) (by omega) (by rw [World.size_alloc]; omega) ?_; intro v8 w8 hown8 hg8 hat8)
  have hb8 : Below w6.heap.size w7 w8 := ((Below.refl _ w7).alloc hg7.size _).grown hg8 (by rw [World.size_alloc]; omega) (own_ge hown7)
  have hg68 : Grows w6 w8 := Below.trans hg7 hb8
  rw [show [bv yb] = [yb].map bv from rfl, ← List.map_append] at hown8
  obtain ⟨A8, c8, rfl, hc8⟩ := own_form hown8
  have hLr := Lies.of_own hown8
  have HR : Hid ((p ++ [yb]).length = n1 + 5) := by show _ = _; rw [List.length_append, HP.out]; rfl
  have hLp8 := hLp.later hg68
  have hLq8 := hLq.later hg68
  have hr8 := hr2.later hg68
  have hg08 := Grows.trans hg06 hg68
  clear hown7 hL7 hnew hown8 hg8 hat8 hb8 hg7 hsz hLp hLq hr2 hg06 hg68
  generalize p ++ [yb] = q2 at *
  have ct := run_cut_to (P := Try.prog) Try.underlying22 byte_one Ap (n1 + 4) cp k .i64 (by omega)
  refine wp_region_ord 8 [(0, true), (2, true), (3, true), (4, true), (5, true), (6, true), (7, true), (1, false)] (by kernel_rfl) (by kernel_rfl) ?_
  have hgd : Grows w8 w8.drew := (Grows.refl w8).drew
  have hLp := hLp8.later hgd
  have hLq := hLq8.later hgd
  have hLr' := hLr.later hgd
  have hr9 := hr8.later hgd
  have hg09 := Grows.trans hg08 hgd
  have hO := Grows.refl w8.drew
  clear hLp8 hLq8 hLr hr8 hg08 hgd
  generalize w8.drew = w9 at *
  repeat (first | (refine ord_cut hO _ _ (by simp only [List.getElem?_cons_succ, List.getElem?_cons_zero]; rfl) (by rfl) 22 (.tmp 52) none (some (.tmp 53)) none (by rfl) ct ?_; try simp only [Act.put, List.setIfInBounds_toArray, List.set_cons_zero, List.set_cons_succ]) | (refine ord_take hO _ ?_ (by simp only [List.getElem?_cons_succ, List.getElem?_cons_zero]; rfl) (by rfl) ?_ ?_; rotate_left; (· (intro u hu0 hu; (try go_simp); (try with_reducible rfl))); try simp only [Act.put, List.setIfInBounds_toArray, List.set_cons_zero, List.set_cons_succ]) | (refine ord_skip _ (by simp only [List.getElem?_cons_succ, List.getElem?_cons_zero]; rfl) (by rfl) ?_; try simp only [Act.put, List.setIfInBounds_toArray, List.set_cons_zero, List.set_cons_succ]))
  (refine ord_move _ (by simp only [List.getElem?_cons_succ, List.getElem?_cons_zero]; rfl) (by rfl) (fun u hu K hK => ?_); go_simp)
  refine (few_bytes A n c 40 bs u HL.out (hr9.later hu) hc (by omega) hm).mono ?_
  rintro e w10 ⟨A10, c10, rfl, hc10, hown10, hL10, hg10⟩
  refine hK.out _ _ hg10 ?_
  clear hK K hown10
  have HT10 := Lib.hid (min_take (m := 40) HL.out)
  have hmin10 : min n 40 ≤ 40 := Nat.min_le_right _ _
  generalize min n 40 = n10 at *
  generalize bs.take 40 = l10 at *
  have hg9 := Grows.trans hu hg10
  have hO := Grows.refl w10
  repeat (first | (refine ord_cut hO _ _ (by simp only [List.getElem?_cons_succ, List.getElem?_cons_zero]; rfl) (by rfl) 22 (.tmp 52) none (some (.tmp 53)) none (by rfl) ct ?_; try simp only [Act.put, List.setIfInBounds_toArray, List.set_cons_zero, List.set_cons_succ]) | (refine ord_take hO _ ?_ (by simp only [List.getElem?_cons_succ, List.getElem?_cons_zero]; rfl) (by rfl) ?_ ?_; rotate_left; (· (intro u hu0 hu; (try go_simp); (try with_reducible rfl))); try simp only [Act.put, List.setIfInBounds_toArray, List.set_cons_zero, List.set_cons_succ]) | (refine ord_skip _ (by simp only [List.getElem?_cons_succ, List.getElem?_cons_zero]; rfl) (by rfl) ?_; try simp only [Act.put, List.setIfInBounds_toArray, List.set_cons_zero, List.set_cons_succ]))
  (refine ord_done (fun u hu => ?_); simp only [List.drop_succ_cons, List.drop_zero])
  have hgA := Grows.trans hg9 hu
  have hrow : Rows_ (u.alloc (.cells #[.slice A10 n10 c10, .slice Ap (n1 + 4) cp, .slice Aq (n1 + 4) c5, .slice Ap k cp, .slice A8 (n1 + 4 + 1) c8] 22)) u.heap.size 5 := by
    have hgB := grows_alloc u (.cells #[.slice A10 n10 c10, .slice Ap (n1 + 4) cp, .slice Aq (n1 + 4) c5, .slice Ap k cp, .slice A8 (n1 + 4 + 1) c8] 22)
    have hN := Lies.new u 22 [.slice A10 n10 c10, .slice Ap (n1 + 4) cp, .slice Aq (n1 + 4) c5, .slice Ap k cp, .slice A8 (n1 + 4 + 1) c8]
    have hcell : ∀ j v, [Value.slice A10 n10 c10, .slice Ap (n1 + 4) cp, .slice Aq (n1 + 4) c5, .slice Ap k cp, .slice A8 (n1 + 4 + 1) c8][j]? = some v → _ := fun j v hv => hN.cells j v hv
    have hg2 := Grows.trans hgA hgB
    have hp2 := hLp.later hg2
    intro r hr
    match r, hr with
    | 0, _ => exact ⟨A10, n10, c10, l10, by have := hcell 0 _ rfl; rwa [add_plain] at this, HT10.out, hL10.later (Grows.trans hu hgB), hc10, by omega⟩
    | 1, _ => exact ⟨Ap, n1 + 4, cp, p, by have := hcell 1 _ rfl; rwa [add_plain] at this, HP.out, hp2, hcp, by omega⟩
    | 2, _ => exact ⟨Aq, n1 + 4, c5, q, by have := hcell 2 _ rfl; rwa [add_plain] at this, HPS.out, hLq.later hg2, hc5, by omega⟩
    | 3, _ => exact ⟨Ap, k, cp, p.take k, by have := hcell 3 _ rfl; rwa [add_plain] at this, by rw [List.length_take, HP.out]; omega, by rw [List.map_take]; exact hp2.take k, by omega, by omega⟩
    | 4, _ => exact ⟨A8, n1 + 4 + 1, c8, q2, by have := hcell 4 _ rfl; rwa [add_plain] at this, HR.out, hLr'.later hg2, hc8, by omega⟩
  have hg0u := Grows.trans (Grows.trans hg09 hgA) (grows_alloc u (.cells #[.slice A10 n10 c10, .slice Ap (n1 + 4) cp, .slice Aq (n1 + 4) c5, .slice Ap k cp, .slice A8 (n1 + 4 + 1) c8] 22))
  have HRW := Lib.hid hrow
  have HG0 := Lib.hid hg0u
  clear hrow hg0u hgA hg9 hu hg10 hL10 hr9 hg09 hLp hLq hLr' hO
  go_wp2_with fail
  refine NoPanic.normal ?_
  go_wp2_with fail
  change Code.wp _ _ _ _ (u.alloc (.cells #[.slice A10 n10 c10, .slice Ap (n1 + 4) cp, .slice Aq (n1 + 4) c5, .slice Ap k cp, .slice A8 (n1 + 4 + 1) c8] 22))
  generalize u.alloc (.cells #[.slice A10 n10 c10, .slice Ap (n1 + 4) cp, .slice Aq (n1 + 4) c5, .slice Ap k cp, .slice A8 (n1 + 4 + 1) c8] 22) = wl at *
  generalize u.heap.size = gl at *
  go_loopw [13, 14, 15, 16, 17] (fun i _ _ _ _ wr => ∃ j : Nat, j ≤ 5 ∧ i = .int .i64 j ∧ Grows wl wr) (fun i _ _ _ _ _ => 5 - (intOf i).toNat)
  case atStart => exact ⟨0, Nat.zero_le _, rfl, Grows.refl _⟩
  case round =>
    obtain ⟨j, hj, rfl, hgr⟩ := hrel
    by_cases hlt : j < 5
    · obtain ⟨Aj, nj, cj, lj, hcell, hlj, hLj, hcj, hnj⟩ := HRW.out.later hgr j hlt
      have HLJ := Lib.hid hlj
      clear hlj
      have k1 : (j : Int) < 5 := by omega
      go_wp2_with fail
      refine (take_any Aj nj cj lj wr HLJ.out hLj hcj (by omega)).mono ?_
      rintro e w1' ⟨A1', c1', rfl, hL1', hg1'⟩
      have hcell2 := hcell_later hcell hg1'
      clear hcell
      go_wp2_with fail
      refine (rtake_any Aj nj cj lj w1' HLJ.out (hLj.later hg1') hcj (by omega)).mono ?_
      rintro e w2' ⟨A2', c2', rfl, hL2', hg2'⟩
      have hL1'' := hL1'.later hg2'
      clear hcell2 hL1'
      generalize (takeOf lj).1 = tl at *
      generalize (takeOf lj).2 = te at *
      have cv1 := run_string_of (P := Try.prog) w2' 22 5 Try.underlying22 Try.underlying5 9 Try.underlying9 _ A1' tl.length c1' tl rfl hL1''
      have cv2 := run_string_of (P := Try.prog) w2' 22 5 Try.underlying22 Try.underlying5 9 Try.underlying9 _ A2' tl.length c2' tl rfl hL2'
      go_wp2_with fail
      go_roundw
      case rel => exact ⟨j + 1, by omega, by go_num, Grows.trans hgr (Grows.trans hg1' hg2')⟩
      case measure => simp [intOf]; omega
    · go_wp2_with fail
      refine (lives3_any _).mono ?_
      rintro e w9 ⟨rfl, hg9⟩
      go_wp2_with fail
      go_ret
      exact ⟨rfl, Grows.trans HG0.out (Grows.trans hgr hg9)⟩
end Go.Proofs.Ytglaiccjhdgfbaa
