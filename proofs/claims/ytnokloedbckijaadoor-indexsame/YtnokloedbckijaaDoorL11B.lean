/-
  The walk of IndexSame: whether two indexes are the same is told as the document says.
-/
import Derived.Test.YtnokloedbckijaaDoorJ6
namespace Go.Proofs.YtnokloedbckijaaDoor
open Go.RowKit
set_option linter.unusedVariables false
set_option maxRecDepth 20000

/-- An index that lies there: its data, where its items are, their room. -/
abbrev Ent3 := Ixd × Option Addr × Nat
def ent3 (t : Ent3) : List Value := xcells t.1 t.2.1 t.2.2
structure Lying (w : World) (t : Ent3) : Prop where
  ok : t.1.Ok
  few : t.1.its.length ≤ maxLen
  recs : Recs w t.2.1 33 (t.1.its.map icells)
theorem Lying.later {w w' : World} {t : Ent3} (h : Lying w t) (hg : Grows w w') : Lying w' t := ⟨h.ok, h.few, h.recs.later hg⟩
theorem goodX_few (x : Ixd) : (goodX x).its.length ≤ 6 := by show ((x.its.take 6).map _).length ≤ 6; simp; omega
theorem xcells_parts (x : Ixd) (A : Option Addr) (c : Nat) : xcells x A c = [.int .i64 x.a, .int .i64 x.b, .int .i64 x.c] ++ (x.im.map bv ++ [.slice A x.its.length c]) := rfl

set_option maxHeartbeats 8000000 in
theorem same_pair (ti tk : Ent3) (u : World) (hi : Lying u ti) (hk : Lying u tk) :
    (Calls Tryd.prog 41 #[.agg (ent3 ti).toArray, .agg (ent3 tk).toArray] u fun e w' => e = .returned (.bool (sameX ti.1 tk.1)) ∧ Grows u w') ∧
    (Calls Tryd.prog 22 #[.agg (ent3 ti).toArray, .agg (ent3 tk).toArray] u fun e w' => e = .returned (.bool (sameX ti.1 tk.1)) ∧ Grows u w') ∧
    (Calls Tryd.prog 35 #[.agg (ent3 ti).toArray] u fun e w' => e = .returned (.agg (ent3 ti).toArray) ∧ Grows u w') ∧
    (Calls Tryd.prog 35 #[.agg (ent3 tk).toArray] u fun e w' => e = .returned (.agg (ent3 tk).toArray) ∧ Grows u w') :=
  ⟨same_any11 ti.1 tk.1 ti.2.1 tk.2.1 ti.2.2 tk.2.2 u hi.ok hk.ok hi.recs hk.recs hi.few hk.few, rsame_any11 ti.1 tk.1 ti.2.1 tk.2.1 ti.2.2 tk.2.2 u hi.ok hk.ok hi.recs hk.recs hi.few hk.few,
    of_any11 ti.1 ti.2.1 ti.2.2 u hi.ok.im, of_any11 tk.1 tk.2.1 tk.2.2 u hk.ok.im⟩

set_option maxHeartbeats 16000000 in
theorem same_walk (x y : Ixd) (A B : Option Addr) (c d : Nat) (w : World) (hs : Starts w) (hky : Keys w) (hx : x.Ok) (hy : y.Ok) (hI : Recs w A 33 (x.its.map icells)) (hJ : Recs w B 33 (y.its.map icells)) (hn : x.its.length ≤ maxLen) (hm : y.its.length ≤ maxLen) :
    Calls Tryd.prog 10 #[xval x A c, xval y B d] w fun e w' => e = .returned (.bool true) ∧ Grows w w' := by
  have LV := Lib.hid (fun u (h : Grows w u) => lives11_any u (hs.later h) (hky.later h))
  have GX := Lib.hid (fun u (h : Grows w u) => good11_any x A c u hx (hI.later h) hn)
  have GY := Lib.hid (fun u (h : Grows w u) => good11_any y B d u hy (hJ.later h) hm)
  have hgxo := goodX_ok hx
  have hgyo := goodX_ok hy
  have hfx := goodX_few x
  have hfy := goodX_few y
  have hb := Has.new w 49 (xcells x A c)
  have g1 := grows_alloc w (.cells (xcells x A c).toArray 49)
  have hd := Has.new (w.alloc (.cells (xcells x A c).toArray 49)) 49 (xcells y B d)
  have g2 := grows_alloc (w.alloc (.cells (xcells x A c).toArray 49)) (.cells (xcells y B d).toArray 49)
  rw [World.size_alloc] at hd
  have hb2 := hb.later g2
  have hg := Grows.trans g1 g2
  have hvl := xcells_len hx.im A c
  have hul := xcells_len hy.im B d
  clear hb g1 g2
  generalize goodX x = gx at *
  generalize goodX y = gy at *
  unfold xval
  unfold xval at GX GY
  generalize xcells x A c = vs at *
  generalize xcells y B d = us at *
  have ld2 := hb2.load Tryd.underlying49 rfl (by rw [hvl]; exact rx_size)
  go_enter Tryd.func10, Tryd.ntmps10
  go_wp2_with (first | (change wpList _ _ _ _ _ ((w.alloc (.cells vs.toArray 49)).alloc (.cells us.toArray 49)); generalize (w.alloc (.cells vs.toArray 49)).alloc (.cells us.toArray 49) = w2 at *) | (with_reducible refine wpList_loads rfl 49 (.tmp 2) rfl _ rfl _ ld2 ?_))
  refine (GX.out w2 hg).mono ?_
  rintro e w3 ⟨A1, c1, rfl, hc1, hcm1, hown1, hg3⟩
  have hg03 := Grows.trans hg hg3
  have hd3 := hd.later hg3
  have hZ3 := Has.new w3 49 zcells
  have hz3 := grows_alloc w3 (.cells zcells.toArray 49)
  have hvxl := xcells_len hgxo.im A1 c1
  have hvxo := xcells_one gx A1 c1
  have hs3 := hg03.size
  generalize hvx : xcells gx A1 c1 = vx at *
  have HVX := Lib.hid hvx
  clear hvx ld2 hb2 hd
  go_wp2_with (first | (refine wpList_storeT rfl 49 (.tmp 5) (.tmp 13) rfl w3.heap.size zcells vx 36 rfl rfl hZ3 zcells_len hvxl rx_size hvxo ?_; intro w4 hbox4 ht4; have hg34 : Grows w3 w4 := turns_grow hz3 ht4 (Nat.le_refl _); have hg04 := Grows.trans hg03 hg34; have hd4 := hd3.later hg34; have ld4 := hd4.load Tryd.underlying49 rfl (by rw [hul]; exact rx_size)) | (with_reducible refine wpList_loads rfl 49 (.tmp 3) rfl _ rfl _ ld4 ?_))
  refine (GY.out w4 hg04).mono ?_
  rintro e w5 ⟨A2, c2, rfl, hc2, hcm2, hown2, hg5⟩
  have hg45 := hg5
  have hg05 := Grows.trans hg04 hg5
  have hb5 := hbox4.later hg5
  have hZ5 := Has.new w5 49 zcells
  have hz5 := grows_alloc w5 (.cells zcells.toArray 49)
  have hvyl := xcells_len hgyo.im A2 c2
  have hvyo := xcells_one gy A2 c2
  have hy35 := xc_its hgyo.im A2 c2
  have hIy : ∀ {u : World} {b : Nat}, Has u b (xcells gy A2 c2) → (Instr.loadAt 42 (.pointer (some ⟨b, 3, none⟩))).run Tryd.prog u = .ok (dv gy.im) u := fun h => img_load h hgyo.im
  generalize hvy : xcells gy A2 c2 = vy at *
  have HVY := Lib.hid hvy
  have hbl5 := hb5.lt
  clear hvy ld4 hd3 hd4 hZ3 hz3 ht4 GX GY hbox4
  have hx35 : vx[35]? = some (.slice A1 gx.its.length c1) := by rw [← HVX.out]; exact xc_its hgxo.im A1 c1
  have hvxs : vx.set 35 (.slice A2 gy.its.length c2) = xcells ⟨gx.a, gx.b, gx.c, gx.im, gy.its⟩ A2 c2 := by rw [← HVX.out]; exact xc_set gx A1 c1 gy.its A2 c2 hgxo.im
  have hvxp : vx = [.int .i64 gx.a, .int .i64 gx.b, .int .i64 gx.c] ++ (gx.im.map bv ++ [.slice A1 gx.its.length c1]) := by rw [← HVX.out]; rfl
  have hvw : [.int .i64 gx.a, .int .i64 gx.b, .int .i64 gx.c] ++ (gy.im.map bv ++ [.slice A1 gx.its.length c1]) = xcells ⟨gx.a, gx.b, gx.c, gy.im, gx.its⟩ A1 c1 := rfl
  have hvzl := xcells_len (x := ⟨gx.a, gx.b, gx.c, gx.im, gy.its⟩) hgxo.im A2 c2
  have hvwl := xcells_len (x := ⟨gx.a, gx.b, gx.c, gy.im, gx.its⟩) hgyo.im A1 c1
  have himx : (gx.im.map bv).length = 32 := by rw [List.length_map]; exact hgxo.im
  have himy : (gy.im.map bv).length = 32 := by rw [List.length_map]; exact hgyo.im
  generalize hvzz : xcells ⟨gx.a, gx.b, gx.c, gx.im, gy.its⟩ A2 c2 = vz at *
  generalize hvww : xcells ⟨gx.a, gx.b, gx.c, gy.im, gx.its⟩ A1 c1 = vw at *
  have HVZ := Lib.hid hvzz
  have HVW := Lib.hid hvww
  have HVXS := Lib.hid hvxs
  have HVXP := Lib.hid hvxp
  have HVWP := Lib.hid hvw
  have HSL : ∀ u, (Instr.buildSlice 62 4 #[(0, .agg vx.toArray), (1, .agg vy.toArray), (2, .agg vz.toArray), (3, .agg vw.toArray)]).run Tryd.prog u = .ok (.slice (some ⟨u.heap.size, 0, none⟩) 4 4) (u.alloc (.cells [vx, vy, vz, vw].flatten.toArray 49)) := fun u =>
    slice_rx u [vx, vy, vz, vw] (fun r hr => by simp at hr; rcases hr with rfl | rfl | rfl | rfl <;> assumption) (by simp) (by simp)
  clear hvzz hvww hvxs hvxp hvw
  go_wp2_with (first
    | (refine wpList_storeT rfl 49 (.tmp 6) (.tmp 15) rfl w5.heap.size zcells vy 36 rfl rfl hZ5 zcells_len hvyl rx_size hvyo ?_; intro w6 hbox6 ht6; have hg56 : Grows w5 w6 := turns_grow hz5 ht6 (Nat.le_refl _); have hb6 := hb5.later hg56; have ld6 := hb6.load Tryd.underlying49 rfl (by rw [hvxl]; exact rx_size); have hZ6 := Has.new w6 49 zcells; have hz6 := grows_alloc w6 (.cells zcells.toArray 49); have hbl6 := hbox6.lt)
    | (with_reducible refine wpList_loads rfl 49 (.tmp 5) rfl _ rfl _ ld6 ?_)
    | (refine wpList_storeT rfl 49 (.tmp 7) (.tmp 16) rfl w6.heap.size zcells vx 36 rfl rfl hZ6 zcells_len hvxl rx_size hvxo ?_; intro w7 hbox7 ht7; have hg67 : Grows w6 w7 := turns_grow hz6 ht7 (Nat.le_refl _); have hy7 := hbox6.later hg67; have hx7 := hb6.later hg67; have hc6 := hy7.cell hy35; have hf7 := hbox7.free 35; have hc7 := hbox7.cell hx35; have htS := Turns.of_set (S := fun q => q = w6.heap.size) (b := w6.heap.size) (o := 35) w7 (.slice A2 gy.its.length c2) rfl; have hzS := hbox7.set_ (k := 35) (by rw [hvxl]; decide) (.slice A2 gy.its.length c2); have hxS := hx7.turned htS (by omega); have hyS := hy7.turned htS (by omega))
    | (change wpList _ _ _ _ _ (w7.setCell ⟨w6.heap.size, 35, none⟩ (.slice A2 gy.its.length c2)); have hg58 : Grows w6 (w7.setCell ⟨w6.heap.size, 35, none⟩ (.slice A2 gy.its.length c2)) := turns_grow hg67 htS (Nat.le_refl _); generalize w7.setCell ⟨w6.heap.size, 35, none⟩ (.slice A2 gy.its.length c2) = w8 at *; have ld8 := hxS.load Tryd.underlying49 rfl (by rw [hvxl]; exact rx_size); have hZ8 := Has.new w8 49 zcells; have hz8 := grows_alloc w8 (.cells zcells.toArray 49); have hbl8 := hzS.lt)
    | (with_reducible refine wpList_loads rfl 49 (.tmp 5) rfl _ rfl _ ld8 ?_)
    | (refine wpList_storeT rfl 49 (.tmp 8) (.tmp 20) rfl w8.heap.size zcells vx 36 rfl rfl hZ8 zcells_len hvxl rx_size hvxo ?_; intro w9 hbox9 ht9; have hg89 : Grows w8 w9 := turns_grow hz8 ht9 (Nat.le_refl _); have hx9 := hxS.later hg89; have hy9 := hyS.later hg89; have hz9 := hzS.later hg89; have hbl9 := hbox9.lt; have hIm := hIy hy9; rw [HVXP.out] at hbox9)
    | (with_reducible refine wpList_loads rfl 42 (.tmp 21) rfl _ rfl _ hIm ?_)
    | (refine wpList_storeM rfl 42 (.tmp 23) (.tmp 22) rfl w8.heap.size 3 _ _ _ (gy.im.map bv) 32 rfl rfl hbox9 rfl himx himy dig_size2 (bv_one _) ?_; intro w10 hbox10 ht10; rw [HVWP.out] at hbox10; have hx10 := hx9.turned ht10 (by omega); have hy10 := hy9.turned ht10 (by omega); have hz10 := hz9.turned ht10 (by omega); rw [HVXS.out] at hz10; have lx := hx10.load Tryd.underlying49 rfl (by rw [hvxl]; exact rx_size); have ly := hy10.load Tryd.underlying49 rfl (by rw [hvyl]; exact rx_size); have lz := hz10.load Tryd.underlying49 rfl (by rw [hvzl]; exact rx_size); have lw := hbox10.load Tryd.underlying49 rfl (by rw [hvwl]; exact rx_size))
    | (with_reducible refine wpList_loads rfl 49 (.tmp 5) rfl _ rfl _ lx ?_)
    | (with_reducible refine wpList_loads rfl 49 (.tmp 6) rfl _ rfl _ ly ?_)
    | (with_reducible refine wpList_loads rfl 49 (.tmp 7) rfl _ rfl _ lz ?_)
    | (with_reducible refine wpList_loads rfl 49 (.tmp 8) rfl _ rfl _ lw ?_)
    | (refine wpList_bslice rfl 62 4 _ rfl _ _ _ HSL ?_ ?_; (· go_simp)))
  have g59 : Grows w5 w9 := Grows.trans hg56 (Grows.trans hg58 hg89)
  have g58' : w5.heap.size ≤ w8.heap.size := (Grows.trans hg56 hg58).size
  have g510 : Grows w5 w10 := turns_grow g59 ht10 g58'
  have g310 := Grows.trans (Grows.trans hg34 hg45) g510
  have g010 := Grows.trans hg05 g510
  have hfl : [vx, vy, vz, vw].flatten = vx ++ (vy ++ (vz ++ vw)) := by simp
  have hga := grows_alloc w10 (.cells (vx ++ (vy ++ (vz ++ vw))).toArray 49)
  have hLn := Lies.new w10 49 (vx ++ (vy ++ (vz ++ vw)))
  have R1 := (OwnIt.recs hown1 (fun it hi => (hgxo.its it hi).1)).later (Grows.trans g310 hga)
  have R2 := (OwnIt.recs hown2 (fun it hi => (hgyo.its it hi).1)).later (Grows.trans g510 hga)
  have hHR : Recs (w10.alloc (.cells (vx ++ (vy ++ (vz ++ vw))).toArray 49)) (some ⟨w10.heap.size, 0, none⟩) 36 [vx, vy, vz, vw] := ⟨fun r hr => by simp at hr; rcases hr with rfl | rfl | rfl | rfl <;> assumption, by rw [hfl]; exact hLn.mono (by simp)⟩
  have g011 := Grows.trans g010 hga
  change Code.wp _ _ _ _ (w10.alloc (.cells (vx ++ (vy ++ (vz ++ vw))).toArray 49))
  generalize w10.alloc (.cells (vx ++ (vy ++ (vz ++ vw))).toArray 49) = w11 at *
  have hES : ∀ i, i < 4 → ∃ t : Ent3, [vx, vy, vz, vw][i]? = some (ent3 t) ∧ Lying w11 t := fun i hi => by
    match i, hi with
    | 0, _ => exact ⟨(gx, A1, c1), by rw [ent3, HVX.out]; rfl, hgxo, by unfold maxLen; show gx.its.length ≤ _; omega, R1⟩
    | 1, _ => exact ⟨(gy, A2, c2), by rw [ent3, HVY.out]; rfl, hgyo, by unfold maxLen; show gy.its.length ≤ _; omega, R2⟩
    | 2, _ => exact ⟨(⟨gx.a, gx.b, gx.c, gx.im, gy.its⟩, A2, c2), by rw [ent3, HVZ.out]; rfl, ⟨hgxo.a, hgxo.b, hgxo.c, hgxo.im, hgyo.its⟩, by unfold maxLen; show gy.its.length ≤ _; omega, R2⟩
    | 3, _ => exact ⟨(⟨gx.a, gx.b, gx.c, gy.im, gx.its⟩, A1, c1), by rw [ent3, HVW.out]; rfl, ⟨hgxo.a, hgxo.b, hgxo.c, hgyo.im, hgxo.its⟩, by unfold maxLen; show gx.its.length ≤ _; omega, R1⟩
  have hES := Lib.hid hES
  have LVx := Lib.hid (fun u (h : Grows w11 u) => LV.out u (Grows.trans g011 h))
  generalize w10.heap.size = br at *
  clear hIy HVX HVY HVZ HVW HVXS HVXP HVWP HSL R1 R2 hLn lx ly lz lw hIm ld6 ld8 hx10 hy10 hz10 hbox10 hx9 hy9 hz9 hbox9 hxS hyS hzS hc6 hf7 hc7 hZ8 hz8 hZ6 hz6 hZ5 hz5 hown1 hown2 LV
  go_loopw [10] (fun i wr => ∃ k : Nat, k ≤ 4 ∧ i = .int .i64 (k : Int) ∧ Grows w11 wr) (fun i _ => 4 - (intOf i).toNat)
  case atStart => exact ⟨0, by omega, rfl, Grows.refl _⟩
  case round =>
    obtain ⟨k, hk, rfl, hg1⟩ := hrel
    rename World => wa
    by_cases hk4 : k < 4
    · obtain ⟨ti, hti, hLi⟩ := hES.out k hk4
      have q1 : (k : Int) < 4 := by omega
      go_wp2_with fail
      go_loopw [11] (fun i wr => ∃ m : Nat, m ≤ 4 ∧ i = .int .i64 (m : Int) ∧ Grows w11 wr) (fun i _ => 4 - (intOf i).toNat)
      case atStart => exact ⟨0, by omega, rfl, hg1⟩
      case round =>
        obtain ⟨m, hm, rfl, hg2⟩ := hrel
        by_cases hm4 : m < 4
        · obtain ⟨tk, htk, hLk⟩ := hES.out m hm4
          have q2 : (m : Int) < 4 := by omega
          have hgd := Grows.trans hg2 (Grows.refl wr).drew
          have hO := Grows.refl wr.drew
          obtain ⟨ad, had, _, cxi⟩ := hHR.at_ (by decide) hti
          obtain ⟨ad2, had2, _, cxk⟩ := hHR.at_ (by decide) htk
          injection had with had
          injection had2 with had2
          subst had had2
          have hli : (ent3 ti).length = 36 := xcells_len hLi.ok.im _ _
          have hlk : (ent3 tk).length = 36 := xcells_len hLk.ok.im _ _
          have ldi : ∀ u, Grows wr.drew u → (Instr.loadAt 49 (.pointer (some ⟨br, k * 36, none⟩))).run Tryd.prog u = .ok (.agg (ent3 ti).toArray) u := fun u hu =>
            load_any u _ _ (ent3 ti) _ (fun j v hv => by have := hcell_later (cxi j v hv) (Grows.trans hgd hu); rw [add_plain] at this ⊢; rwa [Nat.zero_add] at this) Tryd.underlying49 rfl (by rw [hli]; exact rx_size)
          have ldk : ∀ u, Grows wr.drew u → (Instr.loadAt 49 (.pointer (some ⟨br, m * 36, none⟩))).run Tryd.prog u = .ok (.agg (ent3 tk).toArray) u := fun u hu =>
            load_any u _ _ (ent3 tk) _ (fun j v hv => by have := hcell_later (cxk j v hv) (Grows.trans hgd hu); rw [add_plain] at this ⊢; rwa [Nat.zero_add] at this) Tryd.underlying49 rfl (by rw [hlk]; exact rx_size)
          have SP := fun u (h : Grows wr.drew u) => same_pair ti tk u (hLi.later (Grows.trans hgd h)) (hLk.later (Grows.trans hgd h))
          have H1 := Lib.hid (fun u (h : Grows wr.drew u) => (SP u h).1)
          have H2 := Lib.hid (fun u (h : Grows wr.drew u) => (SP u h).2.1)
          have H3 := Lib.hid (fun u (h : Grows wr.drew u) => (SP u h).2.2.1)
          have H4 := Lib.hid (fun u (h : Grows wr.drew u) => (SP u h).2.2.2)
          generalize sameX ti.1 tk.1 = q at *
          generalize ent3 ti = ei at *
          generalize ent3 tk = ek at *
          clear SP hti htk hLi hLk cxi cxk
          go_wp2_with fail
          refine wp_region_ord 21 [(0, true), (1, true), (2, true), (3, true), (4, true), (5, true), (6, true), (7, true), (8, true), (9, true), (10, true), (11, true), (12, true), (13, true), (14, true), (15, true), (16, true), (17, true), (18, true), (19, true), (20, true)] (by kernel_rfl) (by kernel_rfl) ?_
          repeat (first | (refine ord_load hO _ _ (by simp only [List.getElem?_cons_succ, List.getElem?_cons_zero]; rfl) (by rfl) 49 (.tmp 39) (by rfl) _ (by rfl) ldi ?_; try simp only [Act.put, List.setIfInBounds_toArray, List.set_cons_zero, List.set_cons_succ]) | (refine ord_load hO _ _ (by simp only [List.getElem?_cons_succ, List.getElem?_cons_zero]; rfl) (by rfl) 49 (.tmp 44) (by rfl) _ (by rfl) ldk ?_; try simp only [Act.put, List.setIfInBounds_toArray, List.set_cons_zero, List.set_cons_succ]) | (refine ord_load hO _ _ (by simp only [List.getElem?_cons_succ, List.getElem?_cons_zero]; rfl) (by rfl) 49 (.tmp 50) (by rfl) _ (by rfl) ldi ?_; try simp only [Act.put, List.setIfInBounds_toArray, List.set_cons_zero, List.set_cons_succ]) | (refine ord_load hO _ _ (by simp only [List.getElem?_cons_succ, List.getElem?_cons_zero]; rfl) (by rfl) 49 (.tmp 54) (by rfl) _ (by rfl) ldk ?_; try simp only [Act.put, List.setIfInBounds_toArray, List.set_cons_zero, List.set_cons_succ]) | (refine ord_take hO _ ?_ (by simp only [List.getElem?_cons_succ, List.getElem?_cons_zero]; rfl) (by rfl) ?_ ?_; rotate_left; (· (intro u hu0 hu; (try go_simp); (try with_reducible rfl))); try simp only [Act.put, List.setIfInBounds_toArray, List.set_cons_zero, List.set_cons_succ]) | (refine ord_skip _ (by simp only [List.getElem?_cons_succ, List.getElem?_cons_zero]; rfl) (by rfl) ?_; try simp only [Act.put, List.setIfInBounds_toArray, List.set_cons_zero, List.set_cons_succ]) | (refine ord_call hO _ ?_ (by simp only [List.getElem?_cons_succ, List.getElem?_cons_zero]; rfl) (by rfl) ?_ ?_; rotate_left; (· (intro u hu0 hu; go_simp; (try refine quiet_enter ?_); (first | (with_reducible exact H3.out u hu) | (with_reducible exact H4.out u hu) | (with_reducible exact H1.out u hu) | (with_reducible exact H2.out u hu)))); try simp only [Act.put, List.setIfInBounds_toArray, List.set_cons_zero, List.set_cons_succ]))
          refine ord_done (fun w9x hu => ?_)
          simp only [List.drop_succ_cons, List.drop_zero]
          have hg4 := Grows.trans hgd hu
          clear hO hu ldi ldk H1 H2 H3 H4
          go_wp2_with fail
          refine NoPanic.normal ?_
          go_wp2_with fail
          go_roundw
          case rel => exact ⟨m + 1, by omega, by go_num, hg4⟩
          case measure => simp [intOf]; omega
        · obtain rfl : m = 4 := by omega
          go_wp2_with fail
          go_roundw
          case rel => exact ⟨k + 1, by omega, by go_num, hg2⟩
          case measure => simp [intOf]; omega
    · obtain rfl : k = 4 := by omega
      go_wp2_with fail
      refine (LVx.out wa hg1).mono ?_
      rintro e w12 ⟨rfl, hg12⟩
      go_wp2_with fail
      go_ret
      exact ⟨rfl, Grows.trans g011 (Grows.trans hg1 hg12)⟩
end Go.Proofs.YtnokloedbckijaaDoor
