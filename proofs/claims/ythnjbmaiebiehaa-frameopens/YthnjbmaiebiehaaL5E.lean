/-
  Contract of the reference's Match.
-/
import Derived.Test.YthnjbmaiebiehaaLzB
import Derived.Test.YthnjbmaiebiehaaOrd
namespace Go.Proofs.Ythnjbmaiebiehaa
open Go.RowKit
set_option linter.unusedVariables false

theorem m_desc : (Try.prog.underlying 59).map (·.isRow) = some true := by kernel_rfl
theorem m_size : (Try.prog.info? 59).map (·.size) = some 2 := by kernel_rfl
abbrev mv (t : Nat × Nat) : Value := .agg #[iv t.1, iv t.2]
theorem bestTo_succ (b : List UInt8) (i k : Nat) : bestTo b i (k + 1) = bstep b i (bestTo b i k) (k + 1) := rfl

set_option maxRecDepth 20000 in
set_option maxHeartbeats 2000000 in
theorem rmatch_any (A : Option Addr) (n c : Nat) (p : Int) (bs : List UInt8) (w : World) (hl : bs.length = n) (hr : Lies w w.heap.size A (bs.map bv)) (hn : n ≤ 1000000000000) :
    Calls Try.prog 34 #[.slice A n c, .int .i64 p] w fun e w' => e = .returned (mv (matchAt bs p)) ∧ Grows w w' := by
  obtain ⟨td, htd, htr⟩ := Option.map_eq_some_iff.1 m_desc
  have hz : ∀ v, matchAt bs p = (0, 0) → v = Value.agg #[.int .i64 0, .int .i64 0] → Ending.returned v = .returned (mv (matchAt bs p)) := fun v h1 h2 => by rw [h1, h2]; rfl
  by_cases hp : p < 0
  · have HX : Hid (matchAt bs p = (0, 0)) := by show _ = _; unfold matchAt; rw [if_pos hp]
    go_enter Try.func34, Try.ntmps34
    go_wp2
    refine bodyPost_ret (res_has (vs := [.int .i64 0, .int .i64 0]) rfl _ rfl htd htr m_size ((Has.new w 59 _).later (grows_alloc _ _))) rfl ?_
    exact ⟨hz _ HX.out rfl, Grows.trans (grows_alloc w _) (grows_alloc _ _)⟩
  · obtain ⟨i, rfl⟩ : ∃ i : Nat, p = (i : Int) := ⟨p.toNat, by omega⟩
    clear hp
    by_cases hi : i < n
    · have HX : Hid (matchAt bs (i : Int) = bestTo bs i (min i 1024)) := by show _ = _; rw [matchAt_nat]; unfold matchOf; rw [if_pos (by omega)]
      have HL := Lib.hid hl
      clear hl hz
      have g1 : ¬ ((i : Int) < 0) := by omega
      have g2 : ¬ ((n : Int) ≤ (i : Int)) := by omega
      go_enter Try.func34, Try.ntmps34
      have hb0' := (Has.new w 59 [.int .i64 0, .int .i64 0]).later (grows_alloc _ (.cells #[.int .i64 0, .int .i64 0] 59))
      have hb1' : Has ((w.alloc (.cells #[.int .i64 0, .int .i64 0] 59)).alloc (.cells #[.int .i64 0, .int .i64 0] 59)) (w.heap.size + 1) [iv 0, iv 0] := by
        have := Has.new (w.alloc (.cells #[.int .i64 0, .int .i64 0] 59)) 59 [.int .i64 0, .int .i64 0]
        rw [World.size_alloc] at this
        exact this
      have hgw : Grows w ((w.alloc (.cells #[.int .i64 0, .int .i64 0] 59)).alloc (.cells #[.int .i64 0, .int .i64 0] 59)) := Grows.trans (grows_alloc w _) (grows_alloc _ _)
      go_wp2
      change Code.wp _ _ _ _ ((w.alloc (.cells #[.int .i64 0, .int .i64 0] 59)).alloc (.cells #[.int .i64 0, .int .i64 0] 59))
      generalize (w.alloc (.cells #[.int .i64 0, .int .i64 0] 59)).alloc (.cells #[.int .i64 0, .int .i64 0] 59) = w0 at *
      go_loopw [6, 7] (fun q _ wr => ∃ (d x y : Nat), q = iv d ∧ 1 ≤ d ∧ d ≤ i + 1 ∧ d ≤ 1025 ∧ Hid ((x, y) = bestTo bs i (d - 1)) ∧ Has wr (w.heap.size + 1) [iv x, iv y] ∧ Has wr w.heap.size [.int .i64 0, .int .i64 0] ∧ Grows w wr) (fun q _ _ => 1025 - (intOf q).toNat)
      case atStart => exact ⟨1, 0, 0, rfl, by omega, by omega, by omega, rfl, hb1', hb0', hgw⟩
      case round =>
        clear hb0' hb1' hgw
        obtain ⟨d, x, y, rfl, hd1, hdi, hd1024, HB, hb1, hb0, hgr⟩ := hrel
        by_cases hdd : d ≤ i ∧ d ≤ 1024
        · obtain ⟨d1, d2⟩ := hdd
          have d2' : (d : Int) ≤ 1024 := by omega
          have d3' : decide ((d : Int) ≤ 1024) = true := by simpa using d2'
          have HBS : Hid (bestTo bs i d = if 4 ≤ mlen bs i d ∧ x < mlen bs i d then (mlen bs i d, d) else (x, y)) := by
            show _ = _
            rw [show d = d - 1 + 1 by omega, bestTo_succ, ← HB.out]; rfl
          have HW131 := mlen_le bs i d
          have HM : Hid (mgo bs i d (131 - 0) 0 = mlen bs i d) := rfl
          generalize mlen bs i d = want at *
          go_wp2_with fail
          go_loopw [7] (fun q wv => ∃ t : Nat, q = iv t ∧ t ≤ 131 ∧ i + t ≤ n ∧ Hid (mgo bs i d (131 - t) t = want) ∧ Grows wr wv) (fun q _ => 131 - (intOf q).toNat)
          case atStart => exact ⟨0, rfl, by omega, by omega, HM.out, Grows.refl _⟩
          case round =>
            obtain ⟨t, rfl, ht, hit, HK, hgv⟩ := hrel
            by_cases hit' : i + t < n
            · by_cases ht' : t < 131
              · obtain ⟨bx, hx⟩ : ∃ x, bs[i + t]? = some x := ⟨_, List.getElem?_eq_getElem (by rw [HL.out]; omega)⟩
                obtain ⟨by_, hy⟩ : ∃ y, bs[i + t - d]? = some y := ⟨_, List.getElem?_eq_getElem (by rw [HL.out]; omega)⟩
                obtain ⟨ad, eA, _, cx⟩ := (hr.later (Grows.trans hgr hgv)).at_ (j := i + t) (u := bv bx) (by rw [List.getElem?_map, hx]; rfl)
                obtain ⟨ad', eA', _, cy⟩ := (hr.later (Grows.trans hgr hgv)).at_ (j := i + t - d) (u := bv by_) (by rw [List.getElem?_map, hy]; rfl)
                obtain rfl : ad = ad' := by rw [eA] at eA'; injection eA'
                subst eA
                have k0 : (0 : Int) ≤ (i : Int) + (t : Int) := by omega
                have k1 : (i : Int) + (t : Int) < (n : Int) := by omega
                have k2 : (0 : Int) ≤ (i : Int) + (t : Int) - (d : Int) := by omega
                have k3 : (i : Int) + (t : Int) - (d : Int) < (n : Int) := by omega
                have t1 : ((i : Int) + (t : Int)).toNat = i + t := by omega
                have t2 : ((i : Int) + (t : Int) - (d : Int)).toNat = i + t - d := by omega
                have l1 : (t : Int) < 131 := by omega
                by_cases hxy : bx = by_
                · have hb : ((bx.toNat : Int) == (by_.toNat : Int)) = true := by simp [hxy]
                  have HS : Hid (mgo bs i d (131 - (t + 1)) (t + 1) = want) := by
                    show _ = _
                    rw [← mgo_go (by omega) (by rw [HL.out]; omega) (by rw [hx, hy, hxy])]; exact HK.out
                  clear hx hy HK hxy
                  go_wp2
                  go_quiet (fail)
                  go_wp2
                  go_roundw
                  case rel => exact ⟨t + 1, by go_num, by omega, by omega, HS.out, below_draws hgv⟩
                  case measure => simp [intOf]; omega
                · have hb : ((bx.toNat : Int) == (by_.toNat : Int)) = false := by
                    rw [beq_eq_false_iff_ne]
                    intro e; exact hxy (UInt8.toNat_inj.1 (by omega))
                  have HS : Hid (t = want) := by
                    show _ = _
                    rw [← HK.out, mgo_end (fun h => by have := h.2.2; rw [hx, hy] at this; injection this with this; exact hxy this)]
                  clear hx hy HK hxy
                  obtain rfl : t = want := HS.out
                  clear HS
                  have hmlw : t ≤ 131 := HW131
                  have hbv := hb1.later hgv
                  have f0 : wr.cell? ⟨w.heap.size + 1, 0, none⟩ = some (iv x) := hbv.cell rfl
                  have hbr := hb0.later hgv
                  have hgg := Grows.trans hgr hgv
                  clear hb1 hb0 hgv
                  by_cases q3 : 3 < t
                  · by_cases qx : x < t
                    · have HN : Hid ((t, d) = bestTo bs i d) := by show _ = _; rw [HBS.out, if_pos ⟨by omega, qx⟩]
                      go_wp2
                      go_quiet (fail)
                      go_wp2_with (refine wpList_storev rfl 59 (.tmp 5) (.tmp 65) rfl (w.heap.size + 1) [iv x, iv y] [iv t, iv d] 2 rfl rfl hbv.drawn rfl rfl m_size (by simp [Value.oneCell']) ?_; intro w5 hb5 hbel5)
                      go_roundw
                      case rel =>
                        have hg5 : Grows w w5 := hbel5 w.heap.size w (by omega) (below_draws hgg)
                        exact ⟨d + 1, t, d, by go_num, by omega, by omega, by omega, HN.out, hb5, (hbr.drawn).below (hbel5 (w.heap.size + 1) _ (Nat.le_refl _) (Below.refl _ _)) (by omega), hg5⟩
                      case measure => simp [intOf]; omega
                    · have HN : Hid ((x, y) = bestTo bs i d) := by show _ = _; rw [HBS.out, if_neg (by omega)]
                      go_wp2
                      go_quiet (fail)
                      go_wp2_with fail
                      go_roundw
                      case rel => exact ⟨d + 1, x, y, by go_num, by omega, by omega, by omega, HN.out, hbv.drawn, hbr.drawn, (below_draws hgg)⟩
                      case measure => simp [intOf]; omega
                  · have HN : Hid ((x, y) = bestTo bs i d) := by show _ = _; rw [HBS.out, if_neg (by omega)]
                    go_wp2
                    go_quiet (fail)
                    go_wp2_with fail
                    go_roundw
                    case rel => exact ⟨d + 1, x, y, by go_num, by omega, by omega, by omega, HN.out, hbv.drawn, hbr.drawn, (below_draws hgg)⟩
                    case measure => simp [intOf]; omega
              · have HS : Hid (t = want) := by
                  show _ = _
                  rw [← HK.out, mgo_end (fun h => by omega)]
                obtain rfl : t = want := HS.out
                clear HS HK
                have l1 : decide ((t : Int) < 131) = false := by rw [decide_eq_false_iff_not]; omega
                have l0 : (i : Int) + (t : Int) < (n : Int) := by omega
                have hmlw : t ≤ 131 := HW131
                have hbv := hb1.later hgv
                have f0 : wr.cell? ⟨w.heap.size + 1, 0, none⟩ = some (iv x) := hbv.cell rfl
                have hbr := hb0.later hgv
                have hgg := Grows.trans hgr hgv
                clear hb1 hb0 hgv
                by_cases q3 : 3 < t
                · by_cases qx : x < t
                  · have HN : Hid ((t, d) = bestTo bs i d) := by show _ = _; rw [HBS.out, if_pos ⟨by omega, qx⟩]
                    go_wp2
                    go_quiet (fail)
                    go_wp2_with (refine wpList_storev rfl 59 (.tmp 5) (.tmp 65) rfl (w.heap.size + 1) [iv x, iv y] [iv t, iv d] 2 rfl rfl hbv.drawn rfl rfl m_size (by simp [Value.oneCell']) ?_; intro w5 hb5 hbel5)
                    go_roundw
                    case rel =>
                      have hg5 : Grows w w5 := hbel5 w.heap.size w (by omega) (below_draws hgg)
                      exact ⟨d + 1, t, d, by go_num, by omega, by omega, by omega, HN.out, hb5, (hbr.drawn).below (hbel5 (w.heap.size + 1) _ (Nat.le_refl _) (Below.refl _ _)) (by omega), hg5⟩
                    case measure => simp [intOf]; omega
                  · have HN : Hid ((x, y) = bestTo bs i d) := by show _ = _; rw [HBS.out, if_neg (by omega)]
                    go_wp2
                    go_quiet (fail)
                    go_wp2_with fail
                    go_roundw
                    case rel => exact ⟨d + 1, x, y, by go_num, by omega, by omega, by omega, HN.out, hbv.drawn, hbr.drawn, (below_draws hgg)⟩
                    case measure => simp [intOf]; omega
                · omega
            · have HS : Hid (t = want) := by
                show _ = _
                rw [← HK.out, mgo_end (fun h => by have := h.2.1; rw [HL.out] at this; omega)]
              obtain rfl : t = want := HS.out
              clear HS HK
              have l1 : decide ((i : Int) + (t : Int) < (n : Int)) = false := by rw [decide_eq_false_iff_not]; omega
              have hmlw : t ≤ 131 := HW131
              have hbv := hb1.later hgv
              have f0 : wr.cell? ⟨w.heap.size + 1, 0, none⟩ = some (iv x) := hbv.cell rfl
              have hbr := hb0.later hgv
              have hgg := Grows.trans hgr hgv
              clear hb1 hb0 hgv
              by_cases q3 : 3 < t
              · by_cases qx : x < t
                · have HN : Hid ((t, d) = bestTo bs i d) := by show _ = _; rw [HBS.out, if_pos ⟨by omega, qx⟩]
                  go_wp2
                  go_quiet (fail)
                  go_wp2_with (refine wpList_storev rfl 59 (.tmp 5) (.tmp 65) rfl (w.heap.size + 1) [iv x, iv y] [iv t, iv d] 2 rfl rfl hbv.drawn rfl rfl m_size (by simp [Value.oneCell']) ?_; intro w5 hb5 hbel5)
                  go_roundw
                  case rel =>
                    have hg5 : Grows w w5 := hbel5 w.heap.size w (by omega) (below_draws hgg)
                    exact ⟨d + 1, t, d, by go_num, by omega, by omega, by omega, HN.out, hb5, (hbr.drawn).below (hbel5 (w.heap.size + 1) _ (Nat.le_refl _) (Below.refl _ _)) (by omega), hg5⟩
                  case measure => simp [intOf]; omega
                · have HN : Hid ((x, y) = bestTo bs i d) := by show _ = _; rw [HBS.out, if_neg (by omega)]
                  go_wp2
                  go_quiet (fail)
                  go_wp2_with fail
                  go_roundw
                  case rel => exact ⟨d + 1, x, y, by go_num, by omega, by omega, by omega, HN.out, hbv.drawn, hbr.drawn, (below_draws hgg)⟩
                  case measure => simp [intOf]; omega
              · have HN : Hid ((x, y) = bestTo bs i d) := by show _ = _; rw [HBS.out, if_neg (by omega)]
                go_wp2
                go_quiet (fail)
                go_wp2_with fail
                go_roundw
                case rel => exact ⟨d + 1, x, y, by go_num, by omega, by omega, by omega, HN.out, hbv.drawn, hbr.drawn, (below_draws hgg)⟩
                case measure => simp [intOf]; omega
        · have HN : Hid (matchAt bs (i : Int) = (x, y)) := by
            show _ = _
            rw [HX.out, HB.out]
            congr 1
            omega
          have hld := hb1.load htd htr m_size
          by_cases hdi' : d ≤ i
          · have hdn : ¬ (d ≤ 1024) := fun h => hdd ⟨hdi', h⟩
            have l1 : ¬ ((d : Int) ≤ 1024) := by omega
            clear hdd
            go_wp2_with (first
              | (with_reducible refine wpList_loads rfl 59 (.tmp 5) rfl _ rfl _ hld ?_)
              | (refine wpList_storev rfl 59 (.tmp 4) (.tmp 66) rfl w.heap.size [.int .i64 0, .int .i64 0] [iv x, iv y] 2 rfl rfl hb0 rfl rfl m_size (by simp [Value.oneCell']) ?_; intro w5 hb5 hbel5))
            refine bodyPost_ret (res_has (vs := [iv x, iv y]) rfl _ rfl htd htr m_size hb5) rfl ?_
            exact ⟨by rw [HN.out], hbel5 w.heap.size w (Nat.le_refl _) hgr⟩
          · have l1 : ¬ ((d : Int) ≤ (i : Int)) := by omega
            clear hdd
            go_wp2_with (first
              | (with_reducible refine wpList_loads rfl 59 (.tmp 5) rfl _ rfl _ hld ?_)
              | (refine wpList_storev rfl 59 (.tmp 4) (.tmp 66) rfl w.heap.size [.int .i64 0, .int .i64 0] [iv x, iv y] 2 rfl rfl hb0 rfl rfl m_size (by simp [Value.oneCell']) ?_; intro w5 hb5 hbel5))
            refine bodyPost_ret (res_has (vs := [iv x, iv y]) rfl _ rfl htd htr m_size hb5) rfl ?_
            exact ⟨by rw [HN.out], hbel5 w.heap.size w (Nat.le_refl _) hgr⟩
    · have HX : Hid (matchAt bs (i : Int) = (0, 0)) := by show _ = _; rw [matchAt_nat]; unfold matchOf; rw [if_neg (by omega)]
      have g1 : ¬ ((i : Int) < 0) := by omega
      go_enter Try.func34, Try.ntmps34
      go_wp2
      refine bodyPost_ret (res_has (vs := [.int .i64 0, .int .i64 0]) rfl _ rfl htd htr m_size ((Has.new w 59 _).later (grows_alloc _ _))) rfl ?_
      exact ⟨hz _ HX.out rfl, Grows.trans (grows_alloc w _) (grows_alloc _ _)⟩
end Go.Proofs.Ythnjbmaiebiehaa
