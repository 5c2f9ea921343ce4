/-
  The walk of CutAgain: where the same bytes stand behind a cut, the same chunks do.
-/
import Derived.Test.YtkgkkobdpgnicaaDoorCutR
import Derived.Test.YtkgkkobdpgnicaaDoorL10A
namespace Go.Proofs.YtkgkkobdpgnicaaDoor
open Go.RowKit
set_option linter.unusedVariables false

theorem own_cap {w : World} {base : Nat} {e : TypeId} {size : Nat} {A : Option Addr} {n c : Nat} {xs : List Value} (h : w.ownsRow base e size (.slice A n c) n xs) : c ≤ maxLen := by
  rcases h.2 with ⟨hv, _⟩ | ⟨g, cap, cur, hv, _, _, _, hm, _⟩
  · injection hv with _ _ e; subst e; exact Nat.zero_le _
  · injection hv with _ _ e; subst e; exact hm
theorem Pcl.take {w : World} {A : Option Addr} {n c : Nat} {l : List (List UInt8)} (h : Pcl w (.slice A n c) l) {k : Nat} (hk : k ≤ l.length) : Pcl w (.slice A k c) (l.take k) := by
  obtain ⟨A', c', es, e, h2, h3, h4⟩ := h
  injection e with e1 e2 e3
  subst e1 e2 e3
  exact ⟨A, c, es.take k, by rw [List.length_take, Nat.min_eq_left hk], by rw [List.length_take]; omega, h3.take k, h4.take_ k⟩
theorem Each.drop_ {ok : Nat → Prop} {w : World} {es : List Value} {l : List (List UInt8)} (h : Each ok w es l) (k : Nat) : Each ok w (es.drop k) (l.drop k) := by
  refine ⟨by rw [List.length_drop, List.length_drop, h.1], fun i x hx => ?_⟩
  rw [List.getElem?_drop] at hx ⊢
  exact h.2 _ x hx
theorem Pcl.drop {w : World} {A : Option Addr} {n c : Nat} {l : List (List UInt8)} (h : Pcl w (.slice A n c) l) {k : Nat} (hk : k ≤ l.length) : Pcl w (.slice (cutA A c k 1) (n - k) (c - k)) (l.drop k) := by
  obtain ⟨A', c', es, e, h2, h3, h4⟩ := h
  injection e with e1 e2 e3
  subst e1 e2 e3
  refine ⟨cutA A c k 1, c - k, es.drop k, by rw [List.length_drop], by rw [List.length_drop]; omega, cutA_lies h3 (by rw [h4.1]; exact h2), h4.drop_ k⟩
theorem Pcl.form {w : World} {v : Value} {l : List (List UInt8)} (h : Pcl w v l) : ∃ A c, v = .slice A l.length c ∧ l.length ≤ c := let ⟨A, c, _, e, h2, _⟩ := h; ⟨A, c, e, h2⟩

set_option maxRecDepth 20000 in
set_option maxHeartbeats 4000000 in
theorem again_walk (A : Option Addr) (n c : Nat) (bs : List UInt8) (A' : Option Addr) (n' c' : Nat) (bs' : List UInt8) (a b d : Int) (w : World) (hs : Starts w) (hl : bs.length = n) (hr : Lies w w.heap.size A (bs.map bv)) (hnc : n ≤ c) (hcm : c ≤ maxLen)
    (hl' : bs'.length = n') (hr' : Lies w w.heap.size A' (bs'.map bv)) (hnc' : n' ≤ c') (hcm' : c' ≤ maxLen) (ha : I64 a) (hb : I64 b) (hd : I64 d) :
    Calls Tryd.prog 7 #[.slice A n c, .slice A' n' c', pz a b d] w fun e w' => e = .returned (.bool true) ∧ Grows w w' := by
  have hp := goodP_ok a b d
  have F80 := Lib.hid (fun u (h : Grows w u) => few_bytes A' n' c' 80 bs' u hl' (hr'.later h) hnc' (by decide) hcm')
  have F60 := Lib.hid (fun u (h : Grows w u) => few_bytes A n c 60 bs u hl (hr.later h) hnc (by decide) hcm)
  have GD := Lib.hid (fun u => good_any a b d u ha hb hd)
  have CO := Lib.hid (fun u A' n' c' bs' (h1 : bs'.length = n') (h2 : n' ≤ c') (h3 : Lies u u.heap.size A' (bs'.map bv)) (h4 : Starts u) (h5 : n' ≤ 1000000) => collect_any (goodP a b d) hp A' n' c' bs' u h1 h2 h3 h4 h5)
  have hN := Has.new w 23 [.int .i64 a, .int .i64 b, .int .i64 d]
  have g1 := grows_alloc w (.cells [.int .i64 a, .int .i64 b, .int .i64 d].toArray 23)
  have P0 := hN.cell (k := 0) rfl
  have P1 := hN.cell (k := 1) rfl
  have P2 := hN.cell (k := 2) rfl
  have hpz : pz a b d = .agg #[.int .i64 a, .int .i64 b, .int .i64 d] := rfl
  generalize goodP a b d = p at *
  rw [hpz] at *
  have hpp : pv p = .agg #[.int .i64 p.mn, .int .i64 p.av, .int .i64 p.mx] := rfl
  rw [hpp] at *
  go_enter Tryd.func7, Tryd.ntmps7
  go_wp2_with fail
  refine (GD.out _).mono ?_
  rintro e w2 ⟨rfl, hg2⟩
  have gw2 := Grows.trans g1 hg2
  have hR := Has.new w2 23 [.int .i64 0, .int .i64 0, .int .i64 0]
  have hga := grows_alloc w2 (.cells [.int .i64 0, .int .i64 0, .int .i64 0].toArray 23)
  clear GD hg2 P0 P1 P2 g1 hN
  go_wp2_with (refine wpList_storev rfl 23 (.tmp 7) (.tmp 17) rfl w2.heap.size _ [.int .i64 p.mn, .int .i64 p.av, .int .i64 p.mx] 3 rfl rfl hR rfl rfl prm_size (prm_one _ _ _) ?_; intro w3 hbox3 hbel3)
  have hg3 : Grows w2 w3 := hbel3 _ _ (Nat.le_refl _) hga
  have gw3 := Grows.trans gw2 hg3
  refine (F80.out _ gw3).mono ?_
  rintro e w4 ⟨A1, c1, rfl, hc1, hown1, hL1, hg4⟩
  have HL1 : Hid ((bs'.take 80).length = min n' 80) := by show _ = _; rw [List.length_take, hl', Nat.min_comm]
  have hm1 : min n' 80 ≤ 80 := Nat.min_le_right _ _
  generalize bs'.take 80 = tl at *
  generalize min n' 80 = m1 at *
  have gw4 : Grows w w4 := Grows.trans gw3 hg4
  have hbox4 := hbox3.later hg4
  clear F80 hg3 hR hga hbel3 hbox3
  go_wp2_with fail
  refine (F60.out _ gw4).mono ?_
  rintro e w5 ⟨A2, c2, rfl, hc2, hown2, hL2, hg5⟩
  have HL2 : Hid ((bs.take 60).length = min n 60) := by show _ = _; rw [List.length_take, hl, Nat.min_comm]
  have hm2 : min n 60 ≤ 60 := Nat.min_le_right _ _
  generalize bs.take 60 = hd_ at *
  generalize min n 60 = m2 at *
  have gw5 : Grows w w5 := Grows.trans gw4 hg5
  have hbox5 := hbox4.later hg5
  have hL15 := hL1.later hg5
  have Q0 := hbox5.cell (k := 0) rfl
  have Q1 := hbox5.cell (k := 1) rfl
  have Q2 := hbox5.cell (k := 2) rfl
  have hc2m := own_cap hown2
  clear F60 hbox4 hown1 hown2 hL1 hg4 hg5
  go_wp2_with fail
  refine (CO.out w5 A2 m2 c2 hd_ HL2.out hc2 hL2 (hs.later gw5) (by omega)).mono ?_
  rintro e w6 ⟨v6, rfl, hpc6, hg6⟩
  have gw6 := Grows.trans gw5 hg6
  have hP6 := hpc6.pcl
  obtain ⟨A6, c6, rfl, hc6⟩ := hP6.form
  have HAG := Lib.hid (fun k (hk : k + 1 ≤ (chunksOf p hd_).length) => chunks_again p hd_ tl k hk)
  have HFL : Hid ((chunksOf p hd_).flatten = hd_) := chunks_flat p hd_
  have hcl := chunks_len p hd_
  rw [HL2.out] at hcl
  generalize hcs : chunksOf p hd_ = cs at *
  clear hcs hpc6 Q0 Q1 Q2
  have hL26 := hL2.later hg6
  have hL16 := hL15.later hg6
  have hbox6 := hbox5.later hg6
  clear hL2 hL15 hbox5 hg6
  obtain ⟨N, hN⟩ : ∃ N, N = cs.length := ⟨_, rfl⟩
  rw [← hN] at hcl hc6 ⊢
  have hP6' := Lib.hid hP6
  obtain ⟨A6', c6', es, ee, _, hEL, heach⟩ := hP6
  injection ee with e1 e2 e3
  subst e1
  have HNN := Lib.hid hN
  clear hN e2 e3
  have hfl := fun k => flat_le cs k
  rw [HFL.out, HL2.out] at hfl
  have hfl := Lib.hid hfl
  go_wp2_with fail
  go_loopw [11, 12] (fun x i wr => ∃ k : Nat, k ≤ N - 1 ∧ i = .int .i64 (k : Int) ∧ x = .int .i64 ((cs.take k).flatten.length : Int) ∧ w6 = wr) (fun _ i _ => N - (intOf i).toNat)
  case atStart => exact ⟨0, Nat.zero_le _, rfl, rfl, rfl⟩
  case round =>
    obtain ⟨k, hk, rfl, rfl, rfl⟩ := hrel
    have hw64 : IntKind.i64.wrap ((k : Int) + 1) = (k : Int) + 1 := IntWalk.i64_in _ (by omega)
    by_cases hlt : k + 1 < N
    · obtain ⟨x, hx⟩ : ∃ x, cs[k]? = some x := ⟨_, List.getElem?_eq_getElem (by rw [← HNN.out]; omega)⟩
      obtain ⟨Ax, cx, ex, hxc, hLx⟩ := heach.2 k x hx
      obtain ⟨ad, rfl, _, c1x⟩ := hEL.at_ ex
      have hfx := flat_take cs hx
      have hf1 := hfl.out k
      have hf2 := hfl.out (k + 1)
      rw [hfx, List.length_append] at hf2
      have HFT : Hid ((cs.take (k + 1)).flatten.length = (cs.take k).flatten.length + x.length) := by show _ = _; rw [hfx, List.length_append]
      have e1 : decide ((k : Int) + 1 < (N : Int)) = true := by simp; omega
      have hki : (k : Int) < (N : Int) := by omega
      clear hfx hx
      generalize (cs.take k).flatten.length = y at *
      generalize x.length = xn at *
      have hw2 : IntKind.i64.wrap ((y : Int) + (xn : Int)) = (y : Int) + (xn : Int) := IntWalk.i64_in _ (by omega)
      go_wp2_with fail
      go_roundw
      case rel => exact ⟨k + 1, by omega, by go_num, by rw [HFT.out]; exact congrArg (Value.int .i64) (by omega), by first | rfl | trivial⟩
      case measure => simp [intOf]; omega
    · have hkK : k = N - 1 := by omega
      have e1 : decide ((k : Int) + 1 < (N : Int)) = false := by simp; omega
      have hKl : k ≤ cs.length := by rw [← HNN.out]; omega
      have HKN := Lib.hid hkK
      have hkN : k ≤ N := by omega
      -- what stands behind the beginning's cuts
      have hpre : ((cs.take k).flatten).length ≤ m2 := hfl.out k
      have htake : Hid (hd_.take (cs.take k).flatten.length = (cs.take k).flatten) := by
        show _ = _
        have := congrArg List.flatten (List.take_append_drop k cs)
        rw [List.flatten_append, HFL.out] at this
        rw [← this, List.take_left]
      have hchunk : Hid (chunksOf p ((cs.take k).flatten ++ tl) = cs.take k ++ chunksOf p tl) := by
        show _ = _
        rcases Nat.eq_zero_or_pos N with h0 | h0
        · have : k = 0 := by omega
          subst this
          rw [List.take_zero]; rfl
        · exact HAG.out k (by rw [← HNN.out]; omega)
      have hTL : Hid ((cs.take k).length = k) := by show _ = _; rw [List.length_take, Nat.min_eq_left hKl]
      have hlf : Hid (((cs.take k).flatten).length = ((cs.take k).flatten).length) := rfl
      clear hkK hk
      have hLpre := hL26.take ((cs.take k).flatten.length)
      rw [← List.map_take, htake.out] at hLpre
      generalize hfl_ : (cs.take k).flatten = fl at *
      clear hfl_ hlf
      obtain ⟨fn, hfn⟩ : ∃ q, q = fl.length := ⟨_, rfl⟩
      rw [← hfn] at hpre ⊢
      have HFN := Lib.hid hfn
      clear hfn
      have FB := Lib.hid (few_bytes A2 fn c2 60 fl w6 HFN.out.symm hLpre (by omega) (by decide) hc2m)
      have hmin60 : Hid (min fn 60 = fn) := by show _ = _; omega
      rw [hmin60.out, List.take_of_length_le (by rw [← HFN.out]; omega)] at FB
      have hct : ∀ u : World, (Instr.sliceAt 35 (.slice A2 m2 c2) none (some (.int .i64 (fn : Int))) none).run Tryd.prog u = .ok (.slice A2 fn c2) u := fun u => run_cutK_to (P := Tryd.prog) Tryd.underlying35 byte_size A2 m2 c2 fn .i64 (by omega) u
      obtain ⟨i0, hi0, hz0, hz1, hz2⟩ := info_parts byte_info
      go_wp2_with fail
      refine FB.out.mono ?_
      rintro e w7 ⟨A7, c7, rfl, hc7, hown7, hL7, hg7⟩
      have gw7 : Grows w w7 := Grows.trans gw6 hg7
      have hL17 := hL16.later hg7
      have hbox7 := hbox6.later hg7
      have hP7 := hP6'.out.later hg7
      clear FB hct hLpre hL26
      go_wp2_with (at_builtin; refine wpList_append_src _ rfl (.tmp 42) (.tmp 43) _ rfl w6.heap.size 5 i0 _ 1 Tryd.underlying35 hi0 hz0 hz1 hz2 rfl _ fn _ rfl hown7 _ A1 m1 c1 (tl.map bv) rfl (by rw [List.length_map]; exact HL1.out) hL17 (bv_one tl) (by unfold maxLen; omega) (by omega) hg7.size ?_; intro v8 w8 hown8 gq8 hat8; obtain ⟨A8, c8, rfl, hc8⟩ := own_form hown8; have hg8 : Grows w6 w8 := Below.grown hg7 gq8 hg7.size (own_ge hown7); have hL8 := Lies.of_own hown8; have hbox8 := hbox6.later hg8; have Q0 := hbox8.cell (k := 0) rfl; have Q1 := hbox8.cell (k := 1) rfl; have Q2 := hbox8.cell (k := 2) rfl)
      have gw8 : Grows w w8 := Grows.trans gw6 hg8
      have HL8 : Hid ((fl ++ tl).length = fn + m1) := by show _ = _; rw [List.length_append, ← HFN.out, HL1.out]
      rw [← List.map_append] at hL8
      refine (CO.out w8 A8 (fn + m1) c8 (fl ++ tl) HL8.out hc8 hL8 (hs.later gw8) (by omega)).mono ?_
      rintro e w9 ⟨v9, rfl, hpc9, hg9⟩
      rw [hchunk.out] at hpc9
      have hP9 := hpc9.pcl
      obtain ⟨A9, c9, rfl, hc9⟩ := hP9.form
      have gw9 := Grows.trans gw8 hg9
      have hP69 := hP6'.out.later (Grows.trans hg8 hg9)
      have hL19 := hL16.later (Grows.trans hg8 hg9)
      have hbox9 := hbox8.later hg9
      have hctl := chunks_len p tl
      rw [HL1.out] at hctl
      have CT := Lib.hid (fun u (h : Grows w9 u) => CO.out u A1 m1 c1 tl HL1.out hc1 (hL19.later h) (hs.later (Grows.trans gw9 h)) (by omega))
      generalize hct_ : chunksOf p tl = ct at *
      clear hct_ hchunk
      have hlen9 : (cs.take k ++ ct).length = k + ct.length := by rw [List.length_append, hTL.out]
      rw [hlen9] at hc9
      have hp9 := Lib.hid hP9
      rw [hlen9] at hp9
      have S1a : Hid (Pcl w9 (.slice A9 k c9) (cs.take k)) := by
        have := hp9.out.take (k := k) (by rw [hlen9]; omega)
        rw [List.take_append_of_le_length (by rw [hTL.out]; exact Nat.le_refl _), List.take_of_length_le (by rw [hTL.out]; exact Nat.le_refl _)] at this
        exact this
      have S1b : Hid (Pcl w9 (.slice A6 k c6) (cs.take k)) := hP69.take hKl
      have S2a : Hid (Pcl w9 (.slice (cutA A9 c9 k 1) (k + ct.length - k) (c9 - k)) ct) := by
        have := hp9.out.drop (k := k) (by rw [hlen9]; omega)
        rw [List.drop_append_of_le_length (by rw [hTL.out]; exact Nat.le_refl _), List.drop_eq_nil_of_le (by rw [hTL.out]; exact Nat.le_refl _), List.nil_append] at this
        exact this
      rw [Nat.add_sub_cancel_left] at S2a
      rw [hlen9]
      have HM : Hid (ct.length ≤ m1) := hctl
      obtain ⟨M, hM⟩ : ∃ M, M = ct.length := ⟨_, rfl⟩
      rw [← hM] at hlen9 hc9 hp9 S2a hctl ⊢
      clear hM
      have hw3 : IntKind.i64.wrap ((N : Int) - 1) = (N : Int) - 1 := IntWalk.i64_in _ (by omega)
      have hmax : (if (N : Int) - 1 < 0 then 0 else (N : Int) - 1) = (k : Int) := by have := HKN.out; split <;> omega
      have hmax2 : (if 0 < (N : Int) - 1 then (N : Int) - 1 else 0) = (k : Int) := by have := HKN.out; split <;> omega
      clear Q0 Q1 Q2 hP9 hpc9 hg9 hP69 gq8 hat8 hown8 hL8 hc8 hbox8 hown7 hL7 hL17 hP7 hbox7 hg7 hg8
      have hgd : Grows w9 w9.drew := (Grows.refl w9).drew
      have t1 : ∀ u : World, (Instr.sliceAt 42 (.slice A9 (k + M) c9) none (some (.int .i64 (k : Int))) none).run Tryd.prog u = .ok (.slice A9 k c9) u := fun u => run_cutK_to (P := Tryd.prog) Tryd.underlying42 slc_size A9 (k + M) c9 k .i64 (by omega) u
      have t2 : ∀ u : World, (Instr.sliceAt 42 (.slice A6 N c6) none (some (.int .i64 (k : Int))) none).run Tryd.prog u = .ok (.slice A6 k c6) u := fun u => run_cutK_to (P := Tryd.prog) Tryd.underlying42 slc_size A6 N c6 k .i64 (by omega) u
      have t3 : ∀ u : World, (Instr.sliceAt 42 (.slice A9 (k + M) c9) (some (.int .i64 (k : Int))) none none).run Tryd.prog u = .ok (.slice (cutA A9 c9 k 1) M (c9 - k)) u := fun u => by
        have := run_cutK_from (P := Tryd.prog) Tryd.underlying42 slc_size A9 (k + M) c9 k .i64 (by omega) hc9 u
        rwa [Nat.add_sub_cancel_left] at this
      have ldP : ∀ u, Grows w9.drew u → (Instr.loadAt 23 (.pointer (some ⟨w2.heap.size, 0, none⟩))).run Tryd.prog u = .ok (.agg #[.int .i64 p.mn, .int .i64 p.av, .int .i64 p.mx]) u := fun u h =>
        (hbox9.later (Grows.trans hgd h)).load (P := Tryd.prog) Tryd.underlying23 rfl prm_size
      have SM1 : Hid (∀ u, Grows w9.drew u → Calls Tryd.prog 24 #[.slice A9 k c9, .slice A6 k c6] u fun e w' => e = .returned (.bool true) ∧ Grows u w') := fun u h =>
        same_eq _ _ _ u (S1a.out.later (Grows.trans hgd h)) (S1b.out.later (Grows.trans hgd h)) (by rw [hTL.out]; omega)
      have hgen : Hid (Grows w9 w9.drew) := hgd
      have hO := Grows.refl w9.drew
      go_wp2_with fail
      refine wp_region_ord 20 [(0, true), (1, true), (2, true), (3, true), (4, true), (5, true), (6, true), (7, true), (8, true), (9, true), (10, true), (11, true), (12, true), (13, false), (14, true), (15, true), (16, true), (17, true), (18, true), (19, true)] (by kernel_rfl) (by kernel_rfl) ?_
      generalize hwd : w9.drew = wd at *
      clear hwd
      repeat (first | (refine ord_load hO _ _ (by simp only [List.getElem?_cons_succ, List.getElem?_cons_zero]; rfl) (by rfl) 23 (.tmp 7) (by rfl) _ (by rfl) ldP ?_; try simp only [Act.put, List.setIfInBounds_toArray, List.set_cons_zero, List.set_cons_succ]) | (refine ord_take hO _ ?_ (by simp only [List.getElem?_cons_succ, List.getElem?_cons_zero]; rfl) (by rfl) ?_ ?_; rotate_left; (· (intro u hu0 hu; (try go_simp); (try with_reducible rfl))); try simp only [Act.put, List.setIfInBounds_toArray, List.set_cons_zero, List.set_cons_succ]) | (refine ord_skip _ (by simp only [List.getElem?_cons_succ, List.getElem?_cons_zero]; rfl) (by rfl) ?_; try simp only [Act.put, List.setIfInBounds_toArray, List.set_cons_zero, List.set_cons_succ]) | (refine ord_call hO _ ?_ (by simp only [List.getElem?_cons_succ, List.getElem?_cons_zero]; rfl) (by rfl) ?_ ?_; rotate_left; (· (intro u hu0 hu; go_simp; (try refine quiet_enter ?_); (with_reducible exact SM1.out u hu0))); try simp only [Act.put, List.setIfInBounds_toArray, List.set_cons_zero, List.set_cons_succ]))
      (refine ord_move _ (by simp only [List.getElem?_cons_succ, List.getElem?_cons_zero]; rfl) (by rfl) (fun u hu K hK => ?_); go_simp)
      refine (CT.out u (Grows.trans hgen.out hu)).mono ?_
      rintro e w10 ⟨v10, rfl, hpc10, hg10⟩
      refine hK.out _ _ hg10 ?_
      clear hK K hO ldP SM1 t1 t2 t3
      have hg9' : Grows w9 w10 := Grows.trans hgen.out (Grows.trans hu hg10)
      have SM2 : Hid (∀ u, Grows w10 u → Calls Tryd.prog 24 #[.slice (cutA A9 c9 k 1) M (c9 - k), v10] u fun e w' => e = .returned (.bool true) ∧ Grows u w') := fun u h =>
        same_eq _ _ ct u (S2a.out.later (Grows.trans hg9' h)) (hpc10.pcl.later h) (by have h1 := HM.out; omega)
      have LV : Hid (∀ u, Grows w10 u → Calls Tryd.prog 19 #[] u fun e w' => e = .returned (.bool true) ∧ Grows u w') := fun u h => lives10_any u (hs.later (Grows.trans gw9 (Grows.trans hg9' h)))
      have hO := Grows.refl w10
      clear hu
      repeat (first | (refine ord_take hO _ ?_ (by simp only [List.getElem?_cons_succ, List.getElem?_cons_zero]; rfl) (by rfl) ?_ ?_; rotate_left; (· (intro u hu0 hu; (try go_simp); (try with_reducible rfl))); try simp only [Act.put, List.setIfInBounds_toArray, List.set_cons_zero, List.set_cons_succ]) | (refine ord_skip _ (by simp only [List.getElem?_cons_succ, List.getElem?_cons_zero]; rfl) (by rfl) ?_; try simp only [Act.put, List.setIfInBounds_toArray, List.set_cons_zero, List.set_cons_succ]) | (refine ord_call hO _ ?_ (by simp only [List.getElem?_cons_succ, List.getElem?_cons_zero]; rfl) (by rfl) ?_ ?_; rotate_left; (· (intro u hu0 hu; go_simp; (try refine quiet_enter ?_); (first | with_reducible exact SM2.out u hu0 | with_reducible exact LV.out u hu0))); try simp only [Act.put, List.setIfInBounds_toArray, List.set_cons_zero, List.set_cons_succ]))
      refine ord_done (fun w11 hu => ?_); simp only [List.drop_succ_cons, List.drop_zero]
      have gw11 := Grows.trans gw9 (Grows.trans hg9' hu)
      clear hu hO
      go_wp2_with fail
      refine NoPanic.normal ?_
      go_wp2_with fail
      go_ret
      exact ⟨rfl, gw11⟩
end Go.Proofs.YtkgkkobdpgnicaaDoor
