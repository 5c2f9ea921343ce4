/-
  The walk of CutSizes: bytes' chunks, their sizes and digests, are the document's.
-/
import Derived.Test.YtnokloedbckijaaDoorK5
import Derived.Test.YtnokloedbckijaaDoorK3
namespace Go.Proofs.YtnokloedbckijaaDoor
open Go.RowKit
set_option linter.unusedVariables false
set_option maxRecDepth 20000

set_option maxHeartbeats 4000000 in
theorem cutsizes_walk (A : Option Addr) (n c : Nat) (bs : List UInt8) (a b d : Int) (w : World) (hs : Starts w) (hky : Keys w) (hl : bs.length = n) (hr : Lies w w.heap.size A (bs.map bv)) (hnc : n ≤ c) (hcm : c ≤ maxLen) (ha : I64 a) (hb : I64 b) (hd : I64 d) :
    Calls Tryd.prog 3 #[.slice A n c, pz a b d] w fun e w' => e = .returned (.bool true) ∧ Grows w w' := by
  have hp := goodP_ok a b d
  have FW := Lib.hid (fun u (h : Grows w u) => few_bytes A n c 150 bs u hl (hr.later h) hnc (by decide) hcm)
  have GD := Lib.hid (fun u => good_any a b d u ha hb hd)
  have CO := Lib.hid (fun u A' n' c' bs' (h1 : bs'.length = n') (h2 : n' ≤ c') (h3 : Lies u u.heap.size A' (bs'.map bv)) (h4 : Starts u) (h5 : n' ≤ 1000000) => collect_any (goodP a b d) hp A' n' c' bs' u h1 h2 h3 h4 h5)
  have CH := Lib.hid (fun u A' n' c' bs' (h1 : bs'.length = n') (h2 : n' ≤ c') (h3 : Lies u u.heap.size A' (bs'.map bv)) (h5 : n' ≤ 1000000) => rchunks_any (goodP a b d) hp A' n' c' bs' u h1 h2 h3 h5)
  have IT := Lib.hid (fun u A' n' c' bs' (h1 : bs'.length = n') (h2 : n' ≤ c') (h3 : Lies u u.heap.size A' (bs'.map bv)) (h4 : Starts u) (h6 : Keys u) (h5 : n' ≤ 1000000) => items_any (goodP a b d) hp A' n' c' bs' u h1 h2 h3 h4 h6 h5)
  have RI := Lib.hid (fun u A' n' c' bs' (h1 : bs'.length = n') (h2 : n' ≤ c') (h3 : Lies u u.heap.size A' (bs'.map bv)) (h5 : n' ≤ 1000000) => ritems_any (goodP a b d) hp A' n' c' bs' u h1 h2 h3 h5)
  have SI := Lib.hid (fun u A' n' c' bs' (h1 : bs'.length = n') (h2 : n' ≤ c') (h3 : Lies u u.heap.size A' (bs'.map bv)) (h4 : Starts u) (h5 : n' ≤ 1000000) => sizes_any (goodP a b d) hp A' n' c' bs' u h1 h2 h3 h4 h5)
  have hN := Has.new w 24 [.int .i64 a, .int .i64 b, .int .i64 d]
  have g1 := grows_alloc w (.cells [.int .i64 a, .int .i64 b, .int .i64 d].toArray 24)
  have hpz : pz a b d = .agg #[.int .i64 a, .int .i64 b, .int .i64 d] := rfl
  generalize goodP a b d = p at *
  rw [hpz] at *
  have hpp : pv p = .agg #[.int .i64 p.mn, .int .i64 p.av, .int .i64 p.mx] := rfl
  rw [hpp] at *
  go_enter Tryd.func3, Tryd.ntmps3
  go_wp2_with fail
  refine (FW.out _ g1).mono ?_
  rintro e w1 ⟨A1, c1, rfl, hc1, hown1, hL1, hg1⟩
  have hN1 := hN.later hg1
  have P0 := hN1.cell (k := 0) rfl
  have P1 := hN1.cell (k := 1) rfl
  have P2 := hN1.cell (k := 2) rfl
  have gw1 : Grows w w1 := Grows.trans g1 hg1
  have HL1 : Hid ((bs.take 150).length = min n 150) := by show _ = _; rw [List.length_take, hl, Nat.min_comm]
  have hm1 : min n 150 ≤ 150 := Nat.min_le_right _ _
  generalize bs.take 150 = own at *
  generalize min n 150 = m1 at *
  clear FW hown1 hg1 g1 hN hN1
  go_wp2_with fail
  refine (GD.out _).mono ?_
  rintro e w2 ⟨rfl, hg2⟩
  have gw2 := Grows.trans gw1 hg2
  have hL2 := hL1.later hg2
  have hR := Has.new w2 24 [.int .i64 0, .int .i64 0, .int .i64 0]
  have hga := grows_alloc w2 (.cells [.int .i64 0, .int .i64 0, .int .i64 0].toArray 24)
  clear GD hg2 hL1 P0 P1 P2
  go_wp2_with (refine wpList_storev rfl 24 (.tmp 6) (.tmp 16) rfl w2.heap.size _ [.int .i64 p.mn, .int .i64 p.av, .int .i64 p.mx] 3 rfl rfl hR rfl rfl prm_size (prm_one _ _ _) ?_; intro w3 hbox3 hbel3; have hg3 : Grows w2 w3 := hbel3 _ _ (Nat.le_refl _) hga; have Q0 := hbox3.cell (k := 0) rfl; have Q1 := hbox3.cell (k := 1) rfl; have Q2 := hbox3.cell (k := 2) rfl)
  have gw3 := Grows.trans gw2 hg3
  have hL3 := hL2.later hg3
  -- the document's chunks
  refine (CH.out w3 A1 m1 c1 own HL1.out hc1 hL3 (by omega)).mono ?_
  rintro e w4 ⟨v4, es, rfl, hown4, heach4, hg4⟩
  obtain ⟨A4, c4, rfl, hc4⟩ := own_form hown4
  have hcl : (chunksOf p own).length ≤ 1000000 := by have := chunks_len p own; rw [HL1.out] at this; omega
  have hcl' := hcl
  have gw4 := Grows.trans gw3 hg4
  have hL4 := hL3.later hg4
  have hb4 := hbox3.later hg4
  have q0 := hb4.cell (k := 0) rfl
  have q1 := hb4.cell (k := 1) rfl
  have q2 := hb4.cell (k := 2) rfl
  have HP4 : Pcl w4 (.slice A4 (chunksOf p own).length c4) (chunksOf p own) := ⟨A4, c4, es, rfl, hc4, Lies.of_own hown4, heach4.mono (ok' := fun k => k < w4.heap.size) (fun k hk _ => hk)⟩
  have hEL := Lies.of_own hown4
  replace heach4 := heach4.mono (ok' := fun k => k < w4.heap.size) (fun k hk _ => hk)
  clear CH Q0 Q1 Q2 hg3 hg4 hL3 hbox3 hbel3 hR hga hL2 hown4
  have HCS := Lib.hid (rfl : itemsOf p own = itemsOf p own)
  obtain ⟨N, hN⟩ : ∃ N, N = (chunksOf p own).length := ⟨_, rfl⟩
  have HN := Lib.hid hN
  rw [← hN] at hcl hc4 HP4 ⊢
  clear hN
  go_wp2_with fail
  refine (IT.out w4 A1 m1 c1 own HL1.out hc1 hL4 (hs.later gw4) (hky.later gw4) (by omega)).mono ?_
  rintro e w5 ⟨v5, rfl, hown5, hg5⟩
  obtain ⟨A5, c5, rfl, hc5⟩ := own_form (show World.ownsRow _ _ _ _ _ _ _ from hown5)
  have hil : (itemsOf p own).length = N := by rw [itemsOf, List.length_map, HN.out]
  have hok : ∀ it ∈ itemsOf p own, it.1.length = 32 := fun it hi => by
    obtain ⟨x, _, rfl⟩ := List.mem_map.1 hi
    exact itemOf_ok x
  have hR5 := (Recs.of_own (rs := (itemsOf p own).map icells) (fun r hr => by obtain ⟨it, hi, rfl⟩ := List.mem_map.1 hr; exact icells_len (hok it hi)) (by decide) (show World.ownsRow _ _ _ _ _ _ _ from hown5)).1
  have gw5 := Grows.trans gw4 hg5
  have hL5 := hL4.later hg5
  have hb5 := hb4.later hg5
  have r0 := hb5.cell (k := 0) rfl
  have r1 := hb5.cell (k := 1) rfl
  have r2 := hb5.cell (k := 2) rfl
  have g45 := hg5
  clear IT q0 q1 q2 hown5 hg5
  have HIL := Lib.hid hil
  have EI := Lib.hid (fun A2 c2 u (hg : Grows w5 u) (h2 : Recs u A2 33 ((itemsOf p own).map icells)) => rsameitems_any A5 N c5 (itemsOf p own) A2 N c2 (itemsOf p own) u HIL.out HIL.out (by unfold maxLen; omega) (by unfold maxLen; omega) hok hok (hR5.later hg) h2)
  rw [hil] at hc5 ⊢
  clear hil
  go_wp2_with fail
  refine (SI.out w5 A1 m1 c1 own HL1.out hc1 hL5 (hs.later gw5) (by omega)).mono ?_
  rintro e w6 ⟨v6, rfl, hown6, hg6⟩
  rw [← HN.out] at hown6
  obtain ⟨A6, c6, rfl, hc6⟩ := own_form hown6
  have hL6o := Lies.of_own hown6
  have gw6 := Grows.trans gw5 hg6
  have hL6 := hL5.later hg6
  have hb6 := hb5.later hg6
  have s0 := hb6.cell (k := 0) rfl
  have s1 := hb6.cell (k := 1) rfl
  have s2 := hb6.cell (k := 2) rfl
  clear SI r0 r1 r2
  go_wp2_with fail
  refine (RI.out w6 A1 m1 c1 own HL1.out hc1 hL6 (by omega)).mono ?_
  rintro e w7 ⟨v7, rfl, hown7, hg7⟩
  obtain ⟨A7, c7, rfl, hc7⟩ := own_form (show World.ownsRow _ _ _ _ _ _ _ from hown7)
  have hR7 := (Recs.of_own (rs := (itemsOf p own).map icells) (fun r hr => by obtain ⟨it, hi, rfl⟩ := List.mem_map.1 hr; exact icells_len (hok it hi)) (by decide) (show World.ownsRow _ _ _ _ _ _ _ from hown7)).1
  rw [HIL.out] at hc7 ⊢
  have g57 := Grows.trans hg6 hg7
  have gw7 := Grows.trans gw6 hg7
  clear RI hown7
  go_wp2_with fail
  refine (EI.out A7 c7 w7 g57 hR7).mono ?_
  rintro e w8 ⟨rfl, hg8⟩
  have hbe : (itemsOf p own == itemsOf p own) = true := beq_self_eq_true _
  rw [hbe]
  have gw8 := Grows.trans gw7 hg8
  have hg48 := Grows.trans hg7 hg8
  have hL8 := (hL6.later hg7).later hg8
  have hb8 := hb6.later hg48
  have t0 := hb8.cell (k := 0) rfl
  have t1 := hb8.cell (k := 1) rfl
  have t2 := hb8.cell (k := 2) rfl
  have hL8o := hL6o.later hg48
  have g48 : Grows w4 w8 := Grows.trans g45 (Grows.trans hg6 hg48)
  have hEL8 := hEL.later g48
  have d0 : ((N : Int) == (N : Int)) = true := by simp
  clear EI hR7 s0 s1 s2 hbe
  go_wp2_with fail
  go_loopw [12] (fun i wr => ∃ k : Nat, k ≤ N ∧ i = .int .i64 (k : Int) ∧ Grows w8 wr) (fun i _ => N - (intOf i).toNat)
  case atStart => exact ⟨0, Nat.zero_le _, rfl, Grows.refl _⟩
  case round =>
    obtain ⟨k, hk, rfl, hg⟩ := hrel
    by_cases hlt : k < N
    · obtain ⟨x, hx⟩ : ∃ x, (chunksOf p own)[k]? = some x := ⟨_, List.getElem?_eq_getElem (by rw [← HN.out]; exact hlt)⟩
      obtain ⟨Ax, cx, ex, hxc, hLx⟩ := heach4.2 k x hx
      obtain ⟨ad, rfl, _, c1x⟩ := hEL8.at_ ex
      obtain ⟨bd, rfl, _, c2x⟩ := hL8o.at_ (j := k) (u := lenV x) (by rw [List.getElem?_map, hx]; rfl)
      have hgd := Grows.trans hg (Grows.refl wr).drew
      have hO := Grows.refl wr.drew
      have f1 : ∀ u, Grows wr.drew u → u.cell? (ad.add k) = some (.slice Ax x.length cx) := fun u h => hcell_later c1x (Grows.trans hgd h)
      have f2 : ∀ u, Grows wr.drew u → u.cell? (bd.add k) = some (.int .i64 (x.length : Int)) := fun u h => hcell_later c2x (Grows.trans hgd h)
      have hki : (k : Int) < (N : Int) := by omega
      clear hx ex hLx hxc c1x c2x
      generalize x.length = xl at *
      go_wp2_with fail
      refine wp_region_ord 10 [(0, true), (1, true), (2, true), (3, true), (4, true), (5, true), (6, true), (7, true), (8, true), (9, true)] (by kernel_rfl) (by kernel_rfl) ?_
      repeat (first | (refine ord_take hO _ ?_ (by simp only [List.getElem?_cons_succ, List.getElem?_cons_zero]; rfl) (by rfl) ?_ ?_; rotate_left; (· (intro u hu0 hu; (try go_simp); (try with_reducible rfl))); try simp only [Act.put, List.setIfInBounds_toArray, List.set_cons_zero, List.set_cons_succ]) | (refine ord_skip _ (by simp only [List.getElem?_cons_succ, List.getElem?_cons_zero]; rfl) (by rfl) ?_; try simp only [Act.put, List.setIfInBounds_toArray, List.set_cons_zero, List.set_cons_succ]))
      refine ord_done (fun w9 hu => ?_)
      simp only [List.drop_succ_cons, List.drop_zero]
      have hg9 := Grows.trans hgd hu
      clear hO hu f1 f2
      go_wp2_with fail
      refine NoPanic.normal ?_
      go_wp2_with fail
      go_roundw
      case rel => exact ⟨k + 1, by omega, by go_num, hg9⟩
      case measure => simp [intOf]; omega
    · obtain rfl : k = N := by omega
      have d1 : decide ((k : Int) < (k : Int)) = false := by simp
      have gwr := Grows.trans gw8 hg
      have hbr := hb8.later hg
      have z0 := hbr.cell (k := 0) rfl
      have z1 := hbr.cell (k := 1) rfl
      have z2 := hbr.cell (k := 2) rfl
      have COx := Lib.hid (CO.out wr A1 m1 c1 own HL1.out hc1 (hL8.later hg) (hs.later gwr) (by omega))
      have SE := Lib.hid (fun va vb u (h1 : Pcl u va (chunksOf p own)) (h2 : Pcl u vb (chunksOf p own)) => same_eq va vb (chunksOf p own) u h1 h2 hcl')
      have LV := Lib.hid (fun u (h : Grows w u) => lives10_any u (hs.later h))
      clear t0 t1 t2 CO
      go_wp2_with fail
      refine COx.out.mono ?_
      rintro e w10 ⟨va, rfl, hva, hg10⟩
      have gw10 := Grows.trans gwr hg10
      have hP10 := HP4.later (Grows.trans g48 (Grows.trans hg hg10))
      clear z0 z1 z2
      go_wp2_with fail
      refine (SE.out va _ w10 hva.pcl hP10).mono ?_
      rintro e w11 ⟨rfl, hg11⟩
      go_wp2_with fail
      refine (LV.out w11 (Grows.trans gw10 hg11)).mono ?_
      rintro e w12 ⟨rfl, hg12⟩
      have gw12 := Grows.trans gw10 (Grows.trans hg11 hg12)
      go_wp2_with fail
      go_ret
      exact ⟨rfl, gw12⟩
end Go.Proofs.YtnokloedbckijaaDoor
