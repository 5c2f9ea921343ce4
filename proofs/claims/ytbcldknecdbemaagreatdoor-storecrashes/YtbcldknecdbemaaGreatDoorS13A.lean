/-
  The walk of the law StoreSizes.
-/
import Derived.Test.YtbcldknecdbemaaGreatDoorQ19
import Derived.Test.YtbcldknecdbemaaGreatDoorQ14
import Derived.Test.YtbcldknecdbemaaGreatDoorQ1
namespace Go.Proofs.YtbcldknecdbemaaGreatDoor
open Go.RowKit
set_option linter.unusedVariables false
set_option maxRecDepth 20000

theorem made_has (u : World) (k : Nat) : Has (u.alloc (.cells (madeCells #[.int .u8 0] k) 5)) u.heap.size ((List.replicate k (0 : UInt8)).map bv) := by
  have e : madeCells #[.int .u8 0] k = ((List.replicate k (0 : UInt8)).map bv).toArray := by
    rw [made_one, List.map_replicate]; rfl
  rw [e]
  exact Has.new _ _ _
theorem lies_in_of {w : World} {g : Nat} {vs : List Value} {ok : Nat → Prop} (h : Has w g vs) (hk : ok g) : LiesIn ok w (some ⟨g, 0, none⟩) vs := fun j u hu => ⟨_, rfl, hk, by rw [add_plain, Nat.zero_add]; exact h.cell hu⟩

set_option maxHeartbeats 4000000 in
theorem storesizes_walk (z : Int) (w : World) (hk : Keys w) (hz0 : -9223372036854775808 ≤ z ∧ z ≤ 9223372036854775807) :
    Calls Tryz.prog 7 #[rv z] w fun e w' => e = .returned (.bool true) ∧ Below w.heap.size w w' := by
  have B0 := begin_any 10000 w (by omega)
  have AR := fun u => around_any z 12 u hz0 (by omega)
  have hlt := around_lt z (m := 12) (by omega)
  generalize around z 12 = r at *
  obtain ⟨k, hkk⟩ : ∃ k, k = 4090 + r := ⟨_, rfl⟩
  have hke : (4090 : Int) + (r : Int) = (k : Int) := by omega
  have hk1 : k ≤ 4101 := by omega
  clear hkk hlt
  have hbl : (List.replicate k (0 : UInt8)).length = k := List.length_replicate
  have PU := fun (u : World) (a m : Nat) (X : Nat → Prop) (A : Option Addr) (hd : Dsk u a m X (newD 10000)) (hX : ∀ k, X k → k < u.heap.size) (hk : Keys u) (hr : LiesIn (fun k => k < u.heap.size ∧ ¬ (m ≤ k ∧ ¬ X k)) u A ((List.replicate k (0 : UInt8)).map bv)) => sput_any a m X (newD 10000) u A k k (List.replicate k 0) hd hX hk hbl hr (Nat.le_refl _) (by omega) (by decide) (by decide) (by decide)
  unfold PutOut at PU
  obtain ⟨R0, hR0⟩ : ∃ R, R = putD (newD 10000) (List.replicate k 0) := ⟨_, rfl⟩
  rw [← hR0] at PU
  have hnl := putD_len (newD 10000) (List.replicate k 0)
  rw [← hR0] at hnl
  have HR0 := Lib.hid hR0
  obtain ⟨D', nm, er⟩ := R0
  simp only at PU hnl
  clear hR0
  have hnl2 : (nm.map bv).length = 32 := by rw [List.length_map]; exact hnl
  have z4 := zero32_len
  obtain ⟨i0, hi0, hz0', hz1, hz2⟩ := info_parts byte_info
  have hmk : ∀ u : World, (Instr.makeSlice 27 (.int .i64 (k : Int)) (.int .i64 (k : Int))).run Tryz.prog u = _ := fun u => run_make_row 27 5 i0 _ Tryz.underlying27 hi0 hz0' hz1 rfl .i64 .i64 k (by rw [hz2]; omega) (by omega) u
  have hkp := hk.pos
  have HBL := Lib.hid hbl
  clear hbl
  generalize hD0 : newD 10000 = D0 at *
  have HD0 := Lib.hid hD0
  clear hD0
  go_enter Tryz.func7, Tryz.ntmps7
  go_wp2_with fail
  refine B0.mono ?_
  rintro e w1 ⟨bw, a, rfl, hb, d1, hbw, g1⟩
  generalize hme : w.heap.size = m at *
  have HM := Lib.hid hme
  clear hme B0
  have hkm : ¬ (m ≤ 1) := by omega
  have hbl := hb.lt
  go_wp2_with fail
  refine (AR w1).mono ?_
  rintro e w1 ⟨rfl, rfl⟩
  have gd := (Grows.refl w1).drew
  have cw1 : ∀ u, Turns (fun q => m ≤ q ∧ ¬ q = bw) w1.drew u → u.cell? ⟨bw, 0, none⟩ = some (.pointer (some ⟨a, 0, none⟩)) := fun u h => ((hb.later gd).turned h (fun e => e.2 rfl)).cell (k := 0) rfl
  have hO := Turns.refl (fun q => m ≤ q ∧ ¬ q = bw) w1.drew
  have hkm2 : ¬ (m ≤ 1 ∧ ¬ 1 = bw) := fun h => hkm h.1
  have T1 : Turns (fun q => m ≤ q) w w1.drew := Turns.of_grows (Grows.trans g1 gd)
  have d1 := d1.later gd
  have hb := hb.later gd
  have hs1 := gd.size
  clear AR
  go_wp2_with fail
  refine wp_region_planc (S := fun q => m ≤ q ∧ ¬ q = bw) 13 (.take 0 (.take 1 (.take 2 (.take 3 (.take 4 (.two 5 (.two 6 (.take 7 (.take 8 (.take 9 (.one 10 (.one 11 (.take 12 .fin)))))) 10 (.one 6 (.take 7 (.take 8 (.take 9 (.one 11 (.take 12 .fin))))))) 10 (.one 5 (.one 6 (.take 7 (.take 8 (.take 9 (.one 11 (.take 12 .fin))))))))))))) (by kernel_rfl) (by kernel_rfl) ?_
  generalize w1.drew = w2 at *
  repeat (refine planc_take hO _ ?_ (by simp only [List.getElem?_cons_succ, List.getElem?_cons_zero]; rfl) (by rfl) ?_ ?_; rotate_left; (· (intro u hu0 hu; (try go_simp); (try with_reducible rfl))); try simp only [Act.put, List.setIfInBounds_toArray, List.set_cons_zero, List.set_cons_succ])
  refine planc_two _ _ (by simp only [List.getElem?_cons_succ, List.getElem?_cons_zero]; rfl) (by simp only [List.getElem?_cons_succ, List.getElem?_cons_zero]; rfl) (by rfl) (by rfl) (fun u hu K hK => ?_) (fun u hu K hK => ?_)
  · have hus := hu.size
    have dR := (d1.later hu).more (X' := fun q => q = bw ∨ q = u.heap.size) (fun q h => h.imp id (fun e => Nat.le_of_eq e.symm))
    go_simp
    refine hK.out _ _ (Turns.of_grows (grows_alloc _ _)) ?_
    clear hK K
    have hR := made_has u k
    have g3 := grows_alloc u (.cells (madeCells #[.int .u8 0] k) 5)
    generalize u.alloc (.cells (madeCells #[.int .u8 0] k) 5) = w3 at *
    generalize u.heap.size = R at *
    refine planc_two _ _ (by simp only [List.getElem?_cons_succ, List.getElem?_cons_zero]; rfl) (by simp only [List.getElem?_cons_succ, List.getElem?_cons_zero]; rfl) (by rfl) (by rfl) (fun u2 hu2 K hK => ?_) (fun u2 hu2 K hK => ?_)
    · go_simp
      have G2 := Grows.trans hu (Grows.trans g3 hu2)
      have hu2s := hu2.size
      have hRl := hR.lt
      refine (PU u2 a m (fun q => q = bw ∨ q = R) (some ⟨R, 0, none⟩) (dR.later (Grows.trans g3 hu2)) (fun q h => by rcases h with h | h <;> omega) (hk.turned (T1.trans (Turns.of_grows G2)) hkm) (lies_in_of (hR.later hu2) ⟨by omega, fun h => h.2 (.inr rfl)⟩)).mono ?_
      rintro e w4 ⟨rfl, d4, t4, _⟩
      refine hK.out _ _ (t4.mono fun q _ e => ⟨e.1, fun h => e.2 (.inl h)⟩) ?_
      clear hK K
      have hb4 := (hb.later G2).turned t4 (fun e => e.2 (.inl rfl))
      have T4 := (T1.trans (Turns.of_grows G2)).trans (t4.mono fun q _ e => e.1)
      have hO4 := Turns.refl (fun q => m ≤ q ∧ ¬ q = bw) w4
      have t4s := t4.size
      repeat (refine planc_take hO4 _ ?_ (by simp only [List.getElem?_cons_succ, List.getElem?_cons_zero]; rfl) (by rfl) ?_ ?_; rotate_left; (· (intro u hu0 hu; (try go_simp); (try with_reducible rfl))); try simp only [Act.put, List.setIfInBounds_toArray, List.set_cons_zero, List.set_cons_succ])
      refine planc_move _ (by simp only [List.getElem?_cons_succ, List.getElem?_cons_zero]; rfl) (by rfl) (fun u5 hu5 K hK => ?_)
      have hu5s := hu5.size
      have d5 := (d4.later hu5).more (X' := fun q => (q = bw ∨ q = R) ∨ q = u5.heap.size) (fun q h => h.imp id (fun e => Nat.le_of_eq e.symm))
      go_simp
      refine hK.out _ _ (Turns.of_grows (grows_alloc _ _)) ?_
      clear hK K
      change wpPlanC _ _ _ _ _ _ _ (u5.alloc (.cells (zero32.map bv).toArray 46))
      have hz := Has.new u5 46 (zero32.map bv)
      have g6 := grows_alloc u5 (.cells (zero32.map bv).toArray 46)
      generalize u5.alloc (.cells (zero32.map bv).toArray 46) = w6 at *
      generalize u5.heap.size = B5 at *
      have d6 := d5.later g6
      have hb6 := (hb4.later hu5).later g6
      have T6 := (T4.trans (Turns.of_grows hu5)).trans (Turns.of_grows g6)
      have n5 : ¬ bw = B5 := by omega
      have hS5 : m ≤ B5 ∧ ¬ B5 = bw := ⟨by omega, fun e => n5 e.symm⟩
      have x5 : (B5 = bw ∨ B5 = R) ∨ B5 = B5 := .inr rfl
      clear d5 d4 hb4 T4 t4 hO4
      refine planc_storeT _ (by simp only [List.getElem?_cons_succ, List.getElem?_cons_zero]; rfl) (by rfl) 46 (.tmp 5) (.tmp 23) rfl B5 (zero32.map bv) (nm.map bv) 32 rfl rfl hz z4 hnl2 Hx.dig_size (bv_one _) hS5 (fun u7 w7 hu7 b7 t7 => ?_)
      have hO7 := Turns.refl (fun q => m ≤ q ∧ ¬ q = bw) w7
      repeat (refine planc_take hO7 _ ?_ (by simp only [List.getElem?_cons_succ, List.getElem?_cons_zero]; rfl) (by rfl) ?_ ?_; rotate_left; (· (intro u hu0 hu; (try go_simp); (try with_reducible rfl))); try simp only [Act.put, List.setIfInBounds_toArray, List.set_cons_zero, List.set_cons_succ])
      refine planc_done (fun w8 hu8 => ?_)
      simp only [List.drop_succ_cons, List.drop_zero]
      have b5 := b7.later hu8
      have d8 := ((d6.later hu7).turned t7 (fun q e h => h.2 (by rw [e]; exact x5))).later hu8
      have hb8 := ((hb6.later hu7).turned t7 n5).later hu8
      have T8 := ((T6.trans (Turns.of_grows hu7)).trans (t7.mono fun q _ e => by rw [e]; exact hS5.1)).trans (Turns.of_grows hu8)
      have k8 : Keys w8 := hk.turned T8 hkm
      clear hz d6 hb6 t7 b7 hO7 T6
      go_wp2_with fail
      refine NoPanic.normal ?_
      clear hmk cw1
      have G8 : Grows w w8 := T8.grows fun q hq => by have := HM.out; omega
      by_cases hbig : 4096 < k
      · have hp : putD (newD 10000) (List.replicate k 0) = (newD 10000, zero32, 3) := by unfold putD; rw [if_pos (by rw [List.length_replicate]; exact hbig)]
        rw [HD0.out] at hp
        have hq := HR0.out.trans hp
        simp only [Prod.mk.injEq] at hq
        obtain ⟨rfl, rfl, rfl⟩ := hq
        have hse : D'.seen = [] := by rw [← HD0.out]; rfl
        have hi : (4096 : Int) < (k : Int) := by omega
        have ld8 := dig_load (l := zero32) rfl b5
        have cw8 := hb8.cell (k := 0) rfl
        have heq : ∀ u, (binOp .eql 46 (dv zero32) (.agg #[Value.int .u8 0, Value.int .u8 0, Value.int .u8 0, Value.int .u8 0, Value.int .u8 0, Value.int .u8 0, Value.int .u8 0, Value.int .u8 0, Value.int .u8 0, Value.int .u8 0, Value.int .u8 0, Value.int .u8 0, Value.int .u8 0, Value.int .u8 0, Value.int .u8 0, Value.int .u8 0, Value.int .u8 0, Value.int .u8 0, Value.int .u8 0, Value.int .u8 0, Value.int .u8 0, Value.int .u8 0, Value.int .u8 0, Value.int .u8 0, Value.int .u8 0, Value.int .u8 0, Value.int .u8 0, Value.int .u8 0, Value.int .u8 0, Value.int .u8 0, Value.int .u8 0, Value.int .u8 0])).run Tryz.prog u = .ok (.bool true) u := fun u => Hx.eql_dig zero32 zero32 rfl rfl u
        have LS : Calls Tryz.prog 26 #[.pointer (some ⟨a, 0, none⟩), .string ⟨#[]⟩] w8 fun e w' => ∃ A' c', e = .returned (.slice A' 0 c') ∧ Grows w8 w' := (list_d a m _ _ w8 [] d8 (by rw [hse]; show (0 : Nat) ≤ _; omega)).mono fun e w' ⟨v, h1, h2, h3⟩ => by
          rw [hse] at h2
          obtain ⟨A', c', h4, _⟩ := own_form h2
          exact ⟨A', c', by rw [h1, h4]; rfl, h3⟩
        clear PU hnl2 hp
        go_wp2_with (refine wpList_loadg (by rfl) 46 (.tmp 5) rfl _ rfl _ ld8 ?_)
        refine LS.mono ?_
        rintro e w9 ⟨A9, c9, rfl, g9⟩
        clear LS ld8 heq
        go_wp2_with fail
        refine (lives13_any w9 (k8.later g9)).mono ?_
        rintro e w10 ⟨rfl, g10⟩
        go_wp2_with fail
        go_ret
        exact ⟨rfl, Grows.trans G8 (Grows.trans g9 g10)⟩
      · have hbl := HBL.out
        have hp := put_first (List.replicate k 0) 10000 (by omega) (by omega)
        have hgw := get_whole (b := List.replicate k 0) (room := 10000) (by omega) (-1) (by decide)
        have hwt := still_wt (List.replicate k 0) 10000 (-1) (placeB (shaOf (List.replicate k 0)))
        rw [HD0.out] at hp
        have hq := HR0.out.trans hp
        simp only [Prod.mk.injEq] at hq
        obtain ⟨rfl, rfl, rfl⟩ := hq
        have hi : ¬ (4096 : Int) < (k : Int) := by omega
        have hi2 : (k : Int) ≤ 4096 := by omega
        have GT := fun (u : World) (h : Grows w8 u) => sget_any a m _ _ u (shaOf (List.replicate k 0)) (d8.later h) (k8.later h) (by omega) (shaOf_len _)
        unfold GetOut at GT
        rw [hgw, hbl] at GT
        generalize shaOf (List.replicate k 0) = nm at *
        have gd8 := (Grows.refl w8).drew
        have cw8 : ∀ u, Grows w8.drew u → u.cell? ⟨bw, 0, none⟩ = some (.pointer (some ⟨a, 0, none⟩)) := fun u h => hcell_later (hb8.cell (k := 0) rfl) (Grows.trans gd8 h)
        have ld8 : ∀ u, Grows w8.drew u → (Instr.loadAt 46 (.pointer (some ⟨B5, 0, none⟩))).run Tryz.prog u = .ok (dv nm) u := fun u h => dig_load hnl (b5.later (Grows.trans gd8 h))
        clear PU hp hgw hwt hbl
        go_wp2_with fail
        refine wp_region_ord 11 [(0, true), (1, true), (2, true), (3, true), (4, true), (5, false), (6, true), (7, true), (8, true), (9, true), (10, true)] (by kernel_rfl) (by kernel_rfl) ?_
        have hO := Grows.refl w8.drew
        repeat (first | (refine ord_load hO _ _ (by simp only [List.getElem?_cons_succ, List.getElem?_cons_zero]; rfl) (by rfl) 46 (.tmp 5) (by rfl) _ (by rfl) ld8 ?_; try simp only [Act.put, List.setIfInBounds_toArray, List.set_cons_zero, List.set_cons_succ]) | (refine ord_take hO _ ?_ (by simp only [List.getElem?_cons_succ, List.getElem?_cons_zero]; rfl) (by rfl) ?_ ?_; rotate_left; (· (intro u hu0 hu; (try go_simp); (try with_reducible rfl))); try simp only [Act.put, List.setIfInBounds_toArray, List.set_cons_zero, List.set_cons_succ]) | (refine ord_skip _ (by simp only [List.getElem?_cons_succ, List.getElem?_cons_zero]; rfl) (by rfl) ?_; try simp only [Act.put, List.setIfInBounds_toArray, List.set_cons_zero, List.set_cons_succ]))
        (refine ord_move _ (by simp only [List.getElem?_cons_succ, List.getElem?_cons_zero]; rfl) (by rfl) (fun u hu K hK => ?_); go_simp)
        have gu := Grows.trans gd8 hu
        refine (GT u gu).mono ?_
        rintro e w9 ⟨A9, c9, rfl, hc9, hL9, g9⟩
        refine hK.out _ _ g9 ?_
        clear hK K hO cw8 ld8
        have hO := Grows.refl w9
        repeat (first | (refine ord_take hO _ ?_ (by simp only [List.getElem?_cons_succ, List.getElem?_cons_zero]; rfl) (by rfl) ?_ ?_; rotate_left; (· (intro u hu0 hu; (try go_simp); (try with_reducible rfl))); try simp only [Act.put, List.setIfInBounds_toArray, List.set_cons_zero, List.set_cons_succ]) | (refine ord_skip _ (by simp only [List.getElem?_cons_succ, List.getElem?_cons_zero]; rfl) (by rfl) ?_; try simp only [Act.put, List.setIfInBounds_toArray, List.set_cons_zero, List.set_cons_succ]))
        refine ord_done (fun w10 hu10 => ?_)
        simp only [List.drop_succ_cons, List.drop_zero]
        have G10 := Grows.trans G8 (Grows.trans gu (Grows.trans g9 hu10))
        have k10 := k8.later (Grows.trans gu (Grows.trans g9 hu10))
        clear hO
        go_wp2_with fail
        refine NoPanic.normal ?_
        go_wp2_with fail
        refine (lives13_any w10 k10).mono ?_
        rintro e w11 ⟨rfl, g11⟩
        go_wp2_with fail
        go_ret
        exact ⟨rfl, Grows.trans G10 g11⟩

    · have hu2s := hu2.size
      have d3 := (dR.later (Grows.trans g3 hu2)).more (X' := fun q => (q = bw ∨ q = R) ∨ q = u2.heap.size) (fun q h => h.imp id (fun e => Nat.le_of_eq e.symm))
      have G2 := Grows.trans hu (Grows.trans g3 hu2)
      have hRl := hR.lt
      have hR2 := hR.later hu2
      go_simp
      refine hK.out _ _ (Turns.of_grows (grows_alloc _ _)) ?_
      clear hK K
      change wpPlanC _ _ _ _ _ _ _ (u2.alloc (.cells (zero32.map bv).toArray 46))
      have hz := Has.new u2 46 (zero32.map bv)
      have g4 := grows_alloc u2 (.cells (zero32.map bv).toArray 46)
      generalize u2.alloc (.cells (zero32.map bv).toArray 46) = w4 at *
      generalize u2.heap.size = B5 at *
      refine planc_move _ (by simp only [List.getElem?_cons_succ, List.getElem?_cons_zero]; rfl) (by rfl) (fun u5 hu5 K hK => ?_)
      go_simp
      have G5 := Grows.trans G2 (Grows.trans g4 hu5)
      have hu5s := hu5.size
      have hBl := hz.lt
      refine (PU u5 a m (fun q => (q = bw ∨ q = R) ∨ q = B5) (some ⟨R, 0, none⟩) (d3.later (Grows.trans g4 hu5)) (fun q h => by rcases h with (h | h) | h <;> omega) (hk.turned (T1.trans (Turns.of_grows G5)) hkm) (lies_in_of ((hR2.later g4).later hu5) ⟨by omega, fun h => h.2 (.inl (.inr rfl))⟩)).mono ?_
      rintro e w6 ⟨rfl, d6, t6, _⟩
      refine hK.out _ _ (t6.mono fun q _ e => ⟨e.1, fun h => e.2 (.inl (.inl h))⟩) ?_
      clear hK K
      have hb6 := (hb.later G5).turned t6 (fun e => e.2 (.inl (.inl rfl)))
      have T6 := (T1.trans (Turns.of_grows G5)).trans (t6.mono fun q _ e => e.1)
      have hz := (hz.later hu5).turned t6 (fun e => e.2 (.inr rfl))
      have hO4 := Turns.refl (fun q => m ≤ q ∧ ¬ q = bw) w6
      repeat (refine planc_take hO4 _ ?_ (by simp only [List.getElem?_cons_succ, List.getElem?_cons_zero]; rfl) (by rfl) ?_ ?_; rotate_left; (· (intro u hu0 hu; (try go_simp); (try with_reducible rfl))); try simp only [Act.put, List.setIfInBounds_toArray, List.set_cons_zero, List.set_cons_succ])
      have n5 : ¬ bw = B5 := by omega
      have hS5 : m ≤ B5 ∧ ¬ B5 = bw := ⟨by omega, fun e => n5 e.symm⟩
      have x5 : (B5 = bw ∨ B5 = R) ∨ B5 = B5 := .inr rfl
      clear d3 t6 hO4
      refine planc_storeT _ (by simp only [List.getElem?_cons_succ, List.getElem?_cons_zero]; rfl) (by rfl) 46 (.tmp 5) (.tmp 23) rfl B5 (zero32.map bv) (nm.map bv) 32 rfl rfl hz z4 hnl2 Hx.dig_size (bv_one _) hS5 (fun u7 w7 hu7 b7 t7 => ?_)
      have hO7 := Turns.refl (fun q => m ≤ q ∧ ¬ q = bw) w7
      repeat (refine planc_take hO7 _ ?_ (by simp only [List.getElem?_cons_succ, List.getElem?_cons_zero]; rfl) (by rfl) ?_ ?_; rotate_left; (· (intro u hu0 hu; (try go_simp); (try with_reducible rfl))); try simp only [Act.put, List.setIfInBounds_toArray, List.set_cons_zero, List.set_cons_succ])
      refine planc_done (fun w8 hu8 => ?_)
      simp only [List.drop_succ_cons, List.drop_zero]
      have b5 := b7.later hu8
      have d8 := ((d6.later hu7).turned t7 (fun q e h => h.2 (by rw [e]; exact x5))).later hu8
      have hb8 := ((hb6.later hu7).turned t7 n5).later hu8
      have T8 := ((T6.trans (Turns.of_grows hu7)).trans (t7.mono fun q _ e => by rw [e]; exact hS5.1)).trans (Turns.of_grows hu8)
      have k8 : Keys w8 := hk.turned T8 hkm
      clear hz d6 hb6 t7 b7 hO7 T6
      go_wp2_with fail
      refine NoPanic.normal ?_
      clear hmk cw1
      have G8 : Grows w w8 := T8.grows fun q hq => by have := HM.out; omega
      by_cases hbig : 4096 < k
      · have hp : putD (newD 10000) (List.replicate k 0) = (newD 10000, zero32, 3) := by unfold putD; rw [if_pos (by rw [List.length_replicate]; exact hbig)]
        rw [HD0.out] at hp
        have hq := HR0.out.trans hp
        simp only [Prod.mk.injEq] at hq
        obtain ⟨rfl, rfl, rfl⟩ := hq
        have hse : D'.seen = [] := by rw [← HD0.out]; rfl
        have hi : (4096 : Int) < (k : Int) := by omega
        have ld8 := dig_load (l := zero32) rfl b5
        have cw8 := hb8.cell (k := 0) rfl
        have heq : ∀ u, (binOp .eql 46 (dv zero32) (.agg #[Value.int .u8 0, Value.int .u8 0, Value.int .u8 0, Value.int .u8 0, Value.int .u8 0, Value.int .u8 0, Value.int .u8 0, Value.int .u8 0, Value.int .u8 0, Value.int .u8 0, Value.int .u8 0, Value.int .u8 0, Value.int .u8 0, Value.int .u8 0, Value.int .u8 0, Value.int .u8 0, Value.int .u8 0, Value.int .u8 0, Value.int .u8 0, Value.int .u8 0, Value.int .u8 0, Value.int .u8 0, Value.int .u8 0, Value.int .u8 0, Value.int .u8 0, Value.int .u8 0, Value.int .u8 0, Value.int .u8 0, Value.int .u8 0, Value.int .u8 0, Value.int .u8 0, Value.int .u8 0])).run Tryz.prog u = .ok (.bool true) u := fun u => Hx.eql_dig zero32 zero32 rfl rfl u
        have LS : Calls Tryz.prog 26 #[.pointer (some ⟨a, 0, none⟩), .string ⟨#[]⟩] w8 fun e w' => ∃ A' c', e = .returned (.slice A' 0 c') ∧ Grows w8 w' := (list_d a m _ _ w8 [] d8 (by rw [hse]; show (0 : Nat) ≤ _; omega)).mono fun e w' ⟨v, h1, h2, h3⟩ => by
          rw [hse] at h2
          obtain ⟨A', c', h4, _⟩ := own_form h2
          exact ⟨A', c', by rw [h1, h4]; rfl, h3⟩
        clear PU hnl2 hp
        go_wp2_with (refine wpList_loadg (by rfl) 46 (.tmp 5) rfl _ rfl _ ld8 ?_)
        refine LS.mono ?_
        rintro e w9 ⟨A9, c9, rfl, g9⟩
        clear LS ld8 heq
        go_wp2_with fail
        refine (lives13_any w9 (k8.later g9)).mono ?_
        rintro e w10 ⟨rfl, g10⟩
        go_wp2_with fail
        go_ret
        exact ⟨rfl, Grows.trans G8 (Grows.trans g9 g10)⟩
      · have hbl := HBL.out
        have hp := put_first (List.replicate k 0) 10000 (by omega) (by omega)
        have hgw := get_whole (b := List.replicate k 0) (room := 10000) (by omega) (-1) (by decide)
        have hwt := still_wt (List.replicate k 0) 10000 (-1) (placeB (shaOf (List.replicate k 0)))
        rw [HD0.out] at hp
        have hq := HR0.out.trans hp
        simp only [Prod.mk.injEq] at hq
        obtain ⟨rfl, rfl, rfl⟩ := hq
        have hi : ¬ (4096 : Int) < (k : Int) := by omega
        have hi2 : (k : Int) ≤ 4096 := by omega
        have GT := fun (u : World) (h : Grows w8 u) => sget_any a m _ _ u (shaOf (List.replicate k 0)) (d8.later h) (k8.later h) (by omega) (shaOf_len _)
        unfold GetOut at GT
        rw [hgw, hbl] at GT
        generalize shaOf (List.replicate k 0) = nm at *
        have gd8 := (Grows.refl w8).drew
        have cw8 : ∀ u, Grows w8.drew u → u.cell? ⟨bw, 0, none⟩ = some (.pointer (some ⟨a, 0, none⟩)) := fun u h => hcell_later (hb8.cell (k := 0) rfl) (Grows.trans gd8 h)
        have ld8 : ∀ u, Grows w8.drew u → (Instr.loadAt 46 (.pointer (some ⟨B5, 0, none⟩))).run Tryz.prog u = .ok (dv nm) u := fun u h => dig_load hnl (b5.later (Grows.trans gd8 h))
        clear PU hp hgw hwt hbl
        go_wp2_with fail
        refine wp_region_ord 11 [(0, true), (1, true), (2, true), (3, true), (4, true), (5, false), (6, true), (7, true), (8, true), (9, true), (10, true)] (by kernel_rfl) (by kernel_rfl) ?_
        have hO := Grows.refl w8.drew
        repeat (first | (refine ord_load hO _ _ (by simp only [List.getElem?_cons_succ, List.getElem?_cons_zero]; rfl) (by rfl) 46 (.tmp 5) (by rfl) _ (by rfl) ld8 ?_; try simp only [Act.put, List.setIfInBounds_toArray, List.set_cons_zero, List.set_cons_succ]) | (refine ord_take hO _ ?_ (by simp only [List.getElem?_cons_succ, List.getElem?_cons_zero]; rfl) (by rfl) ?_ ?_; rotate_left; (· (intro u hu0 hu; (try go_simp); (try with_reducible rfl))); try simp only [Act.put, List.setIfInBounds_toArray, List.set_cons_zero, List.set_cons_succ]) | (refine ord_skip _ (by simp only [List.getElem?_cons_succ, List.getElem?_cons_zero]; rfl) (by rfl) ?_; try simp only [Act.put, List.setIfInBounds_toArray, List.set_cons_zero, List.set_cons_succ]))
        (refine ord_move _ (by simp only [List.getElem?_cons_succ, List.getElem?_cons_zero]; rfl) (by rfl) (fun u hu K hK => ?_); go_simp)
        have gu := Grows.trans gd8 hu
        refine (GT u gu).mono ?_
        rintro e w9 ⟨A9, c9, rfl, hc9, hL9, g9⟩
        refine hK.out _ _ g9 ?_
        clear hK K hO cw8 ld8
        have hO := Grows.refl w9
        repeat (first | (refine ord_take hO _ ?_ (by simp only [List.getElem?_cons_succ, List.getElem?_cons_zero]; rfl) (by rfl) ?_ ?_; rotate_left; (· (intro u hu0 hu; (try go_simp); (try with_reducible rfl))); try simp only [Act.put, List.setIfInBounds_toArray, List.set_cons_zero, List.set_cons_succ]) | (refine ord_skip _ (by simp only [List.getElem?_cons_succ, List.getElem?_cons_zero]; rfl) (by rfl) ?_; try simp only [Act.put, List.setIfInBounds_toArray, List.set_cons_zero, List.set_cons_succ]))
        refine ord_done (fun w10 hu10 => ?_)
        simp only [List.drop_succ_cons, List.drop_zero]
        have G10 := Grows.trans G8 (Grows.trans gu (Grows.trans g9 hu10))
        have k10 := k8.later (Grows.trans gu (Grows.trans g9 hu10))
        clear hO
        go_wp2_with fail
        refine NoPanic.normal ?_
        go_wp2_with fail
        refine (lives13_any w10 k10).mono ?_
        rintro e w11 ⟨rfl, g11⟩
        go_wp2_with fail
        go_ret
        exact ⟨rfl, Grows.trans G10 g11⟩

  · have hus := hu.size
    have d3 := (d1.later hu).more (X' := fun q => q = bw ∨ q = u.heap.size) (fun q h => h.imp id (fun e => Nat.le_of_eq e.symm))
    go_simp
    refine hK.out _ _ (Turns.of_grows (grows_alloc _ _)) ?_
    clear hK K
    change wpPlanC _ _ _ _ _ _ _ (u.alloc (.cells (zero32.map bv).toArray 46))
    have hz := Has.new u 46 (zero32.map bv)
    have g3 := grows_alloc u (.cells (zero32.map bv).toArray 46)
    generalize u.alloc (.cells (zero32.map bv).toArray 46) = w3 at *
    generalize u.heap.size = B5 at *
    have d3 := d3.later g3
    have hBl := hz.lt
    refine planc_move _ (by simp only [List.getElem?_cons_succ, List.getElem?_cons_zero]; rfl) (by rfl) (fun u2 hu2 K hK => ?_)
    have hu2s := hu2.size
    have d4 := (d3.later hu2).more (X' := fun q => (q = bw ∨ q = B5) ∨ q = u2.heap.size) (fun q h => h.imp id (fun e => Nat.le_of_eq e.symm))
    go_simp
    refine hK.out _ _ (Turns.of_grows (grows_alloc _ _)) ?_
    clear hK K
    have hR := made_has u2 k
    have g4 := grows_alloc u2 (.cells (madeCells #[.int .u8 0] k) 5)
    generalize u2.alloc (.cells (madeCells #[.int .u8 0] k) 5) = w4 at *
    generalize u2.heap.size = R at *
    have G4 := Grows.trans hu (Grows.trans g3 (Grows.trans hu2 g4))
    have d4 := d4.later g4
    have hRl := hR.lt
    refine planc_move _ (by simp only [List.getElem?_cons_succ, List.getElem?_cons_zero]; rfl) (by rfl) (fun u5 hu5 K hK => ?_)
    go_simp
    have G5 := Grows.trans G4 hu5
    have hu5s := hu5.size
    refine (PU u5 a m (fun q => (q = bw ∨ q = B5) ∨ q = R) (some ⟨R, 0, none⟩) (d4.later hu5) (fun q h => by rcases h with (h | h) | h <;> omega) (hk.turned (T1.trans (Turns.of_grows G5)) hkm) (lies_in_of (hR.later hu5) ⟨by omega, fun h => h.2 (.inr rfl)⟩)).mono ?_
    rintro e w6 ⟨rfl, d6, t6, _⟩
    refine hK.out _ _ (t6.mono fun q _ e => ⟨e.1, fun h => e.2 (.inl (.inl h))⟩) ?_
    clear hK K
    have hb6 := (hb.later G5).turned t6 (fun e => e.2 (.inl (.inl rfl)))
    have T6 := (T1.trans (Turns.of_grows G5)).trans (t6.mono fun q _ e => e.1)
    have hz := ((hz.later (Grows.trans hu2 g4)).later hu5).turned t6 (fun e => e.2 (.inl (.inr rfl)))
    have hO4 := Turns.refl (fun q => m ≤ q ∧ ¬ q = bw) w6
    repeat (refine planc_take hO4 _ ?_ (by simp only [List.getElem?_cons_succ, List.getElem?_cons_zero]; rfl) (by rfl) ?_ ?_; rotate_left; (· (intro u hu0 hu; (try go_simp); (try with_reducible rfl))); try simp only [Act.put, List.setIfInBounds_toArray, List.set_cons_zero, List.set_cons_succ])
    have n5 : ¬ bw = B5 := by omega
    have hS5 : m ≤ B5 ∧ ¬ B5 = bw := ⟨by omega, fun e => n5 e.symm⟩
    have x5 : (B5 = bw ∨ B5 = B5) ∨ B5 = R := .inl (.inr rfl)
    clear d3 d4 t6 hO4
    refine planc_storeT _ (by simp only [List.getElem?_cons_succ, List.getElem?_cons_zero]; rfl) (by rfl) 46 (.tmp 5) (.tmp 23) rfl B5 (zero32.map bv) (nm.map bv) 32 rfl rfl hz z4 hnl2 Hx.dig_size (bv_one _) hS5 (fun u7 w7 hu7 b7 t7 => ?_)
    have hO7 := Turns.refl (fun q => m ≤ q ∧ ¬ q = bw) w7
    repeat (refine planc_take hO7 _ ?_ (by simp only [List.getElem?_cons_succ, List.getElem?_cons_zero]; rfl) (by rfl) ?_ ?_; rotate_left; (· (intro u hu0 hu; (try go_simp); (try with_reducible rfl))); try simp only [Act.put, List.setIfInBounds_toArray, List.set_cons_zero, List.set_cons_succ])
    refine planc_done (fun w8 hu8 => ?_)
    simp only [List.drop_succ_cons, List.drop_zero]
    have b5 := b7.later hu8
    have d8 := ((d6.later hu7).turned t7 (fun q e h => h.2 (by rw [e]; exact x5))).later hu8
    have hb8 := ((hb6.later hu7).turned t7 n5).later hu8
    have T8 := ((T6.trans (Turns.of_grows hu7)).trans (t7.mono fun q _ e => by rw [e]; exact hS5.1)).trans (Turns.of_grows hu8)
    have k8 : Keys w8 := hk.turned T8 hkm
    clear hz d6 hb6 t7 b7 hO7 T6
    go_wp2_with fail
    refine NoPanic.normal ?_
    clear hmk cw1
    have G8 : Grows w w8 := T8.grows fun q hq => by have := HM.out; omega
    by_cases hbig : 4096 < k
    · have hp : putD (newD 10000) (List.replicate k 0) = (newD 10000, zero32, 3) := by unfold putD; rw [if_pos (by rw [List.length_replicate]; exact hbig)]
      rw [HD0.out] at hp
      have hq := HR0.out.trans hp
      simp only [Prod.mk.injEq] at hq
      obtain ⟨rfl, rfl, rfl⟩ := hq
      have hse : D'.seen = [] := by rw [← HD0.out]; rfl
      have hi : (4096 : Int) < (k : Int) := by omega
      have ld8 := dig_load (l := zero32) rfl b5
      have cw8 := hb8.cell (k := 0) rfl
      have heq : ∀ u, (binOp .eql 46 (dv zero32) (.agg #[Value.int .u8 0, Value.int .u8 0, Value.int .u8 0, Value.int .u8 0, Value.int .u8 0, Value.int .u8 0, Value.int .u8 0, Value.int .u8 0, Value.int .u8 0, Value.int .u8 0, Value.int .u8 0, Value.int .u8 0, Value.int .u8 0, Value.int .u8 0, Value.int .u8 0, Value.int .u8 0, Value.int .u8 0, Value.int .u8 0, Value.int .u8 0, Value.int .u8 0, Value.int .u8 0, Value.int .u8 0, Value.int .u8 0, Value.int .u8 0, Value.int .u8 0, Value.int .u8 0, Value.int .u8 0, Value.int .u8 0, Value.int .u8 0, Value.int .u8 0, Value.int .u8 0, Value.int .u8 0])).run Tryz.prog u = .ok (.bool true) u := fun u => Hx.eql_dig zero32 zero32 rfl rfl u
      have LS : Calls Tryz.prog 26 #[.pointer (some ⟨a, 0, none⟩), .string ⟨#[]⟩] w8 fun e w' => ∃ A' c', e = .returned (.slice A' 0 c') ∧ Grows w8 w' := (list_d a m _ _ w8 [] d8 (by rw [hse]; show (0 : Nat) ≤ _; omega)).mono fun e w' ⟨v, h1, h2, h3⟩ => by
        rw [hse] at h2
        obtain ⟨A', c', h4, _⟩ := own_form h2
        exact ⟨A', c', by rw [h1, h4]; rfl, h3⟩
      clear PU hnl2 hp
      go_wp2_with (refine wpList_loadg (by rfl) 46 (.tmp 5) rfl _ rfl _ ld8 ?_)
      refine LS.mono ?_
      rintro e w9 ⟨A9, c9, rfl, g9⟩
      clear LS ld8 heq
      go_wp2_with fail
      refine (lives13_any w9 (k8.later g9)).mono ?_
      rintro e w10 ⟨rfl, g10⟩
      go_wp2_with fail
      go_ret
      exact ⟨rfl, Grows.trans G8 (Grows.trans g9 g10)⟩
    · have hbl := HBL.out
      have hp := put_first (List.replicate k 0) 10000 (by omega) (by omega)
      have hgw := get_whole (b := List.replicate k 0) (room := 10000) (by omega) (-1) (by decide)
      have hwt := still_wt (List.replicate k 0) 10000 (-1) (placeB (shaOf (List.replicate k 0)))
      rw [HD0.out] at hp
      have hq := HR0.out.trans hp
      simp only [Prod.mk.injEq] at hq
      obtain ⟨rfl, rfl, rfl⟩ := hq
      have hi : ¬ (4096 : Int) < (k : Int) := by omega
      have hi2 : (k : Int) ≤ 4096 := by omega
      have GT := fun (u : World) (h : Grows w8 u) => sget_any a m _ _ u (shaOf (List.replicate k 0)) (d8.later h) (k8.later h) (by omega) (shaOf_len _)
      unfold GetOut at GT
      rw [hgw, hbl] at GT
      generalize shaOf (List.replicate k 0) = nm at *
      have gd8 := (Grows.refl w8).drew
      have cw8 : ∀ u, Grows w8.drew u → u.cell? ⟨bw, 0, none⟩ = some (.pointer (some ⟨a, 0, none⟩)) := fun u h => hcell_later (hb8.cell (k := 0) rfl) (Grows.trans gd8 h)
      have ld8 : ∀ u, Grows w8.drew u → (Instr.loadAt 46 (.pointer (some ⟨B5, 0, none⟩))).run Tryz.prog u = .ok (dv nm) u := fun u h => dig_load hnl (b5.later (Grows.trans gd8 h))
      clear PU hp hgw hwt hbl
      go_wp2_with fail
      refine wp_region_ord 11 [(0, true), (1, true), (2, true), (3, true), (4, true), (5, false), (6, true), (7, true), (8, true), (9, true), (10, true)] (by kernel_rfl) (by kernel_rfl) ?_
      have hO := Grows.refl w8.drew
      repeat (first | (refine ord_load hO _ _ (by simp only [List.getElem?_cons_succ, List.getElem?_cons_zero]; rfl) (by rfl) 46 (.tmp 5) (by rfl) _ (by rfl) ld8 ?_; try simp only [Act.put, List.setIfInBounds_toArray, List.set_cons_zero, List.set_cons_succ]) | (refine ord_take hO _ ?_ (by simp only [List.getElem?_cons_succ, List.getElem?_cons_zero]; rfl) (by rfl) ?_ ?_; rotate_left; (· (intro u hu0 hu; (try go_simp); (try with_reducible rfl))); try simp only [Act.put, List.setIfInBounds_toArray, List.set_cons_zero, List.set_cons_succ]) | (refine ord_skip _ (by simp only [List.getElem?_cons_succ, List.getElem?_cons_zero]; rfl) (by rfl) ?_; try simp only [Act.put, List.setIfInBounds_toArray, List.set_cons_zero, List.set_cons_succ]))
      (refine ord_move _ (by simp only [List.getElem?_cons_succ, List.getElem?_cons_zero]; rfl) (by rfl) (fun u hu K hK => ?_); go_simp)
      have gu := Grows.trans gd8 hu
      refine (GT u gu).mono ?_
      rintro e w9 ⟨A9, c9, rfl, hc9, hL9, g9⟩
      refine hK.out _ _ g9 ?_
      clear hK K hO cw8 ld8
      have hO := Grows.refl w9
      repeat (first | (refine ord_take hO _ ?_ (by simp only [List.getElem?_cons_succ, List.getElem?_cons_zero]; rfl) (by rfl) ?_ ?_; rotate_left; (· (intro u hu0 hu; (try go_simp); (try with_reducible rfl))); try simp only [Act.put, List.setIfInBounds_toArray, List.set_cons_zero, List.set_cons_succ]) | (refine ord_skip _ (by simp only [List.getElem?_cons_succ, List.getElem?_cons_zero]; rfl) (by rfl) ?_; try simp only [Act.put, List.setIfInBounds_toArray, List.set_cons_zero, List.set_cons_succ]))
      refine ord_done (fun w10 hu10 => ?_)
      simp only [List.drop_succ_cons, List.drop_zero]
      have G10 := Grows.trans G8 (Grows.trans gu (Grows.trans g9 hu10))
      have k10 := k8.later (Grows.trans gu (Grows.trans g9 hu10))
      clear hO
      go_wp2_with fail
      refine NoPanic.normal ?_
      go_wp2_with fail
      refine (lives13_any w10 k10).mono ?_
      rintro e w11 ⟨rfl, g11⟩
      go_wp2_with fail
      go_ret
      exact ⟨rfl, Grows.trans G10 g11⟩

end Go.Proofs.YtbcldknecdbemaaGreatDoor
