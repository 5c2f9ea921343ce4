/-
  The walk of IndexMay: which indexes may be, and the bytes of those, is told as the document says.
-/
import Derived.Test.YtnokloedbckijaaDoorM1
namespace Go.Proofs.YtnokloedbckijaaDoor
open Go.RowKit
set_option linter.unusedVariables false
set_option maxRecDepth 20000

theorem flat_set : ∀ (l : List Itm) (r : Nat) (nm : List UInt8) (z q : Int), (∀ it ∈ l, it.1.length = 32) → l[r]? = some (nm, z) → ((l.map icells).flatten).set (r * 33 + 32) (.int .i64 q) = ((l.set r (nm, q)).map icells).flatten
  | [], r, nm, z, q, _, h => by simp at h
  | x :: l, 0, nm, z, q, ho, h => by
    have hx : x = (nm, z) := by simpa using h
    subst hx
    have h1 : nm.length = 32 := ho (nm, z) (by simp)
    rw [List.map_cons, List.flatten_cons, List.set_cons_zero, List.map_cons, List.flatten_cons, Nat.zero_mul, Nat.zero_add, List.set_append_left _ _ (by rw [icells_len h1]; decide)]
    congr 1
    unfold icells
    rw [List.set_append_right _ _ (by simp [h1])]
    simp [h1]
  | x :: l, r + 1, nm, z, q, ho, h => by
    have h1 := icells_len (ho x (by simp))
    have ih := flat_set l r nm z q (fun it hi => ho it (by simp [hi])) (by simpa using h)
    rw [List.map_cons, List.flatten_cons, List.set_cons_succ, List.map_cons, List.flatten_cons, List.set_append_right _ _ (by rw [h1]; omega), h1, show (r + 1) * 33 + 32 - 33 = r * 33 + 32 by omega, ih]
/-- What the law asks of one index. -/
structure MayP (u0 : World) (t : Ent3) : Prop where
  rmay : ∀ u, Grows u0 u → Calls Tryd.prog 33 #[.agg (ent3 t).toArray] u fun e w' => e = .returned (.bool (mayI t.1)) ∧ Grows u w'
  may : ∀ u, Grows u0 u → Calls Tryd.prog 25 #[.agg (ent3 t).toArray] u fun e w' => e = .returned (.bool (mayI t.1)) ∧ Grows u w'
  of_ : ∀ u, Grows u0 u → Calls Tryd.prog 35 #[.agg (ent3 t).toArray] u fun e w' => e = .returned (.agg (ent3 t).toArray) ∧ Grows u w'
  no : mayI t.1 = false → ∀ u, Grows u0 u → Calls Tryd.prog 34 #[.agg (ent3 t).toArray] u fun e w' => e = .returned (.tuple #[.slice none 0 0, .int .i64 1]) ∧ Grows u w'
  ok : mayI t.1 = true → ∃ (bys : List UInt8) (tt : Int), bys.length ≤ 1000000 ∧
    (∀ u, Grows u0 u → Calls Tryd.prog 34 #[.agg (ent3 t).toArray] u fun e w' => ∃ v, e = .returned (.tuple #[v, .int .i64 0]) ∧ w'.ownsRow u.heap.size 5 1 v bys.length (bys.map bv) ∧ Grows u w') ∧
    (∀ u, Grows u0 u → Calls Tryd.prog 36 #[.agg (ent3 t).toArray] u fun e w' => ∃ v, e = .returned v ∧ w'.ownsRow u.heap.size 5 1 v bys.length (bys.map bv) ∧ Grows u w') ∧
    (∀ u, Grows u0 u → Calls Tryd.prog 26 #[.agg (ent3 t).toArray] u fun e w' => e = .returned (.int .i64 tt) ∧ Grows u w') ∧
    (∀ u, Grows u0 u → Calls Tryd.prog 37 #[.agg (ent3 t).toArray] u fun e w' => e = .returned (.int .i64 tt) ∧ Grows u w')
theorem MayP.of_lying {w : World} {t : Ent3} (h : Lying w t) : MayP w t := by
  refine ⟨fun u hu => rmay11_any t.1 t.2.1 t.2.2 u h.ok (h.recs.later hu) h.few, fun u hu => imay_any t.1 t.2.1 t.2.2 u h.ok (h.recs.later hu) h.few, fun u hu => of_any11 t.1 t.2.1 t.2.2 u h.ok.im,
    fun hm u hu => write_no t.1 t.2.1 t.2.2 u h.ok (h.recs.later hu) h.few (fun hM => by rw [mayI_true hM] at hm; cases hm), fun hm => ?_⟩
  have hM := mayI_iff.1 hm
  have hzz : ∀ it ∈ t.1.its, 1 ≤ it.2 ∧ it.2 ≤ 1000000000 := fun it hi => by
    obtain ⟨j, hj⟩ := List.mem_iff_getElem?.1 hi
    obtain ⟨u1, u2, _⟩ := hM.sizes j it hj
    have := (mayZ_iff.1 hM.prm).2.2.2
    exact ⟨u1, by omega⟩
  have hfew := hM.few
  refine ⟨ixAll t.1, total t.1.its, ?_, fun u hu => write_ok t.1 t.2.1 t.2.2 u h.ok (h.recs.later hu) hM, fun u hu => rbytes11_any t.1 t.2.1 t.2.2 u h.ok (h.recs.later hu) hM,
    fun u hu => total_any t.1 t.2.1 t.2.2 u h.ok.im (fun it hi => (h.ok.its it hi).1) (h.recs.later hu) hzz (by omega), fun u hu => rtotal_any t.1 t.2.1 t.2.2 u h.ok.im (fun it hi => (h.ok.its it hi).1) (h.recs.later hu) hzz (by omega)⟩
  unfold ixAll
  rw [List.length_append, ixBytes_len h.ok, four_len]
  omega

set_option maxHeartbeats 16000000 in
theorem maylaw_walk (x : Ixd) (A : Option Addr) (c : Nat) (at_ n : Int) (w : World) (hs : Starts w) (hky : Keys w) (hx : x.Ok) (hI : Recs w A 33 (x.its.map icells)) (hnc : x.its.length ≤ c) (hcm : c ≤ maxLen) (hat : I64 at_) (hn : I64 n) :
    Calls Tryd.prog 6 #[xval x A c, .int .i64 at_, .int .i64 n] w fun e w' => e = .returned (.bool true) ∧ Grows w w' := by
  have LV := Lib.hid (fun u (h : Grows w u) => lives11_any u (hs.later h) (hky.later h))
  have GX := Lib.hid (fun u (h : Grows w u) => good11_any x A c u hx (hI.later h) (Nat.le_trans hnc hcm))
  have FX := Lib.hid (fun u (h : Grows w u) => few11_any x A c u hx (hI.later h) hnc hcm)
  have hfxo := fewX_ok hx
  have hgxo := goodX_ok hx
  have hfx := goodX_few x
  have hffx : (fewX x).its.length ≤ 8 := by show (x.its.take 8).length ≤ 8; simp; omega
  have FG := Lib.hid (fun (A' : Option Addr) (c' : Nat) (u : World) (h1 : Recs u A' 33 ((goodX x).its.map icells)) (h2 : (goodX x).its.length ≤ c') (h3 : c' ≤ maxLen) => few11_any (goodX x) A' c' u hgxo h1 h2 h3)
  have hfg : fewX (goodX x) = goodX x := by
    unfold fewX
    rw [List.take_of_length_le (by omega)]
  rw [hfg] at FG
  have hb := Has.new w 49 (xcells x A c)
  have hg := grows_alloc w (.cells (xcells x A c).toArray 49)
  have hvl := xcells_len hx.im A c
  generalize goodX x = gx at *
  unfold xval
  unfold xval at GX FX FG
  generalize xcells x A c = vs at *
  have ld2 := hb.load Tryd.underlying49 rfl (by rw [hvl]; exact rx_size)
  clear hfg
  go_enter Tryd.func6, Tryd.ntmps6
  go_wp2_with (first | (change wpList _ _ _ _ _ (w.alloc (.cells vs.toArray 49)); generalize w.alloc (.cells vs.toArray 49) = w2 at *) | (with_reducible refine wpList_loads rfl 49 (.tmp 3) rfl _ rfl _ ld2 ?_))
  refine (GX.out w2 hg).mono ?_
  rintro e w3 ⟨A1, c1, rfl, hc1, hcm1, hown1, hg3⟩
  have hg03 := Grows.trans hg hg3
  have hb3 := hb.later hg3
  have hbl3 := hb3.lt
  have hZ3 := Has.new w3 49 zcells
  have hz3 := grows_alloc w3 (.cells zcells.toArray 49)
  have hvxl := xcells_len hgxo.im A1 c1
  have hvxo := xcells_one gx A1 c1
  have FG1 := Lib.hid (FG.out A1 c1)
  have R3' := OwnIt.recs hown1 (fun it hi => (hgxo.its it hi).1)
  have R3 := OwnIt.recs hown1 (fun it hi => (hgxo.its it hi).1)
  generalize hvx : xcells gx A1 c1 = vx at *
  have HVX := Lib.hid hvx
  clear hvx ld2 hb FG
  go_wp2_with (first | (refine wpList_storeT rfl 49 (.tmp 7) (.tmp 15) rfl w3.heap.size zcells vx 36 rfl rfl hZ3 zcells_len hvxl rx_size hvxo ?_; intro w4 hbox4 ht4; have hg34 : Grows w3 w4 := turns_grow hz3 ht4 (Nat.le_refl _); have hg04 := Grows.trans hg03 hg34; have ld4 := hbox4.load Tryd.underlying49 rfl (by rw [hvxl]; exact rx_size)) | (with_reducible refine wpList_loads rfl 49 (.tmp 7) rfl _ rfl _ ld4 ?_))
  have R4 := R3.later hg34
  have hxl4 := hbox4.lt
  with_reducible refine (FG1.out w4 R4 hc1 hcm1).mono ?_
  rintro e w5 ⟨A3, c3, rfl, hcm3, hown3, hg5⟩
  have hg05 := Grows.trans hg04 hg5
  have hb5 := (hb3.later hg34).later hg5
  have hx5 := hbox4.later hg5
  have R5 := R4.later hg5
  have hZ5 := Has.new w5 49 zcells
  have hz5 := grows_alloc w5 (.cells zcells.toArray 49)
  have hvol := xcells_len hgxo.im A3 c3
  have hvoo := xcells_one gx A3 c3
  have hvo35 := xc_its hgxo.im A3 c3
  have hset2 : ∀ q : Int, (xcells gx A3 c3).set 2 (.int .i64 q) = xcells ⟨gx.a, gx.b, q, gx.im, gx.its⟩ A3 c3 := fun q => rfl
  have hx0 : (xcells gx A3 c3)[2]? = some (.int .i64 gx.c) := rfl
  generalize hvo : xcells gx A3 c3 = vo at *
  have HVO := Lib.hid hvo
  have hL3 := R3'.lies
  have hbl5 := hb5.lt
  have hxl5 := hx5.lt
  clear hvo ld4 hb3 hZ3 hz3 ht4 GX FG1 hbox4 R3 R3' R4
  obtain ⟨M, hM⟩ : ∃ M, M = gx.its.length := ⟨_, rfl⟩
  rw [← hM] at hvo35
  have HM := Lib.hid hM
  have hM6 : M ≤ 6 := by omega
  clear hM
  have hqI : I64 (n.tdiv 2) := by
    unfold I64 at hn ⊢
    rcases Int.le_total 0 n with h | h
    · rw [Int.tdiv_eq_ediv_of_nonneg h]; omega
    · rw [show n = -(-n) by omega, Int.neg_tdiv, Int.tdiv_eq_ediv_of_nonneg (by omega)]; omega
  have hs34 : w3.heap.size < w4.heap.size := hxl4
  have hs45 := hg5.size
  obtain ⟨q, hq⟩ : ∃ q, Int.tdiv n 2 = q := ⟨_, rfl⟩
  rw [hq] at hqI
  have hqw : IntKind.i64.wrap q = q := IntWalk.i64_in _ hqI
  have g35 := Grows.trans hg34 hg5
  by_cases hcond : 0 < M ∧ Int.tmod n 2 = 0
  · obtain ⟨hM0, hr0⟩ := hcond
    have e1 : (0 : Int) < (M : Int) := by omega
    go_wp2_with (refine wpList_storeT rfl 49 (.tmp 8) (.tmp 17) rfl w5.heap.size zcells vo 36 rfl rfl hZ5 zcells_len hvol rx_size hvoo ?_; intro w6 hbox6 ht6; have hg56 : Grows w5 w6 := turns_grow hz5 ht6 (Nat.le_refl _); have hc35 := hbox6.cell hvo35; have hc2 := hbox6.cell hx0; have hf2 := hbox6.free 2)
    have hown6 : OwnIt w4.heap.size w6 (.slice A3 gx.its.length c3) gx.its := own_turned (own_later hown3 hz5) ht6 (fun g hg h => by have := own_lt hown3 g hg; omega)
    obtain ⟨g, cap, cur, hv, hgb, hheap, _, _, _, _⟩ := (hown6.2).resolve_left (fun h => by have := h.2; rw [← HM.out] at this; omega)
    injection hv with hA3
    subst hA3
    have R6 := OwnIt.recs hown6 (fun it hi => (hgxo.its it hi).1)
    have hgl5 : g < w5.heap.size := own_lt hown3 g rfl
    have hal := around_lt at_ (m := M) hM0
    have AR := Lib.hid (fun u => (around_any at_ M u hat ⟨hM0, by omega⟩).mono (fun e w' h => (⟨h.1, by rw [← h.2]; exact Grows.refl _⟩ : e = Ending.returned (.int .i64 (around at_ M : Int)) ∧ Grows u w')))
    generalize around at_ M = r at *
    obtain ⟨⟨nm, z⟩, hit⟩ : ∃ it, gx.its[r]? = some it := ⟨_, List.getElem?_eq_getElem (by rw [← HM.out]; exact hal)⟩
    obtain ⟨adx, hadx, _, cx⟩ := R6.at_ (by decide) (i := r) (r := icells (nm, z)) (by rw [List.getElem?_map, hit]; rfl)
    injection hadx with hadx
    subst hadx
    have hlx := (hgxo.its _ (List.mem_of_getElem? hit)).1
    have hcz := cx 32 _ (ic_size hlx)
    rw [add_plain, Nat.zero_add] at hcz
    have hrM : (r : Int) < (M : Int) := by omega
    have hgd6 := (Grows.refl w6).drew
    have hO := Grows.refl w6.drew
    have f35 : ∀ u, Grows w6.drew u → u.cell? ⟨w5.heap.size, 35, none⟩ = some (.slice (some ⟨g, 0, none⟩) M c3) := fun u h => (hbox6.later (Grows.trans hgd6 h)).cell hvo35
    refine wp_region_ord 11 [(0, true), (1, true), (2, true), (3, true), (4, true), (5, true), (6, true), (7, true), (8, true), (9, true), (10, true)] (by kernel_rfl) (by kernel_rfl) ?_
    repeat (first | (refine ord_take hO _ ?_ (by simp only [List.getElem?_cons_succ, List.getElem?_cons_zero]; rfl) (by rfl) ?_ ?_; rotate_left; (· (intro u hu0 hu; (try go_simp); (try with_reducible rfl))); try simp only [Act.put, List.setIfInBounds_toArray, List.set_cons_zero, List.set_cons_succ]) | (refine ord_skip _ (by simp only [List.getElem?_cons_succ, List.getElem?_cons_zero]; rfl) (by rfl) ?_; try simp only [Act.put, List.setIfInBounds_toArray, List.set_cons_zero, List.set_cons_succ]) | (refine ord_call hO _ ?_ (by simp only [List.getElem?_cons_succ, List.getElem?_cons_zero]; rfl) (by rfl) ?_ ?_; rotate_left; (· (intro u hu0 hu; go_simp; (try refine quiet_enter ?_); (exact AR.out u))); try simp only [Act.put, List.setIfInBounds_toArray, List.set_cons_zero, List.set_cons_succ]))
    refine ord_done (fun u2 hu2 => ?_)
    simp only [List.drop_succ_cons, List.drop_zero]
    have hg62 := Grows.trans hgd6 hu2
    have hcz2 := hcell_later hcz hg62
    have hgl6 : g < w6.heap.size := (Array.getElem?_eq_some_iff.1 hheap).1
    have hh2 : u2.heap[g]? = some (.cells cur 61 (0, 0)) := (hg62.block g hgl6).trans hheap
    have hfr : ∀ j, u2.frozen? ⟨g, j, none⟩ = false := fun j => frozen_of_row u2 g j cur _ hh2
    have hfz := hfr (r * 33 + 32)
    clear f35 hO
    go_wp2_with fail
    refine NoPanic.normal ?_
    go_wp2_with fail
    have g52 := Grows.trans hg56 hg62
    have htS := Turns.of_set (S := fun k => k = g) (b := g) (o := r * 33 + 32) u2 (.int .i64 q) rfl
    have hb7 := (hb5.later g52).turned htS (by omega)
    have hx7 := (hx5.later g52).turned htS (by omega)
    have ho7 := (hbox6.later hg62).turned htS (by omega)
    have hRg := (R5.later g52).turned (hL3.below (Grows.trans g35 g52)) htS (fun k hk h => by omega)
    have R62 := R6.later hg62
    have hHas : Has u2 g (gx.its.map icells).flatten := ⟨Nat.lt_of_lt_of_le hgl6 hg62.size, fun j v hv => by
      obtain ⟨a', e', _, hc'⟩ := R62.lies j v hv
      injection e' with e'
      subst e'
      rw [add_plain] at hc'
      exact hc', hfr⟩
    have hfl : (gx.its.map icells).flatten.length = M * 33 := by rw [flat_len (k := 33) (fun r hr => by obtain ⟨y, hy, rfl⟩ := List.mem_map.1 hr; exact icells_len (hgxo.its y hy).1), List.length_map, HM.out]
    have hHas2 := hHas.set_ (k := r * 33 + 32) (by rw [hfl]; omega) (.int .i64 q)
    rw [flat_set gx.its r nm z q (fun it hi => (hgxo.its it hi).1) hit] at hHas2
    have hoits : ∀ it ∈ gx.its.set r (nm, q), it.1.length = 32 ∧ I64 it.2 := fun it hi => by
      rcases List.mem_or_eq_of_mem_set hi with h | rfl
      · exact hgxo.its it h
      · exact ⟨hlx, hqI⟩
    have hg07 : Grows w (u2.setCell ⟨g, r * 33 + 32, none⟩ (.int .i64 q)) := turns_grow (Grows.trans hg05 g52) htS (by have := hg04.size; omega)
    have hg57 : w5.heap.size ≤ (u2.setCell ⟨g, r * 33 + 32, none⟩ (.int .i64 q)).heap.size := Nat.le_trans g52.size htS.size
    change Code.wp _ _ _ _ (u2.setCell ⟨g, r * 33 + 32, none⟩ (.int .i64 q))
    generalize u2.setCell ⟨g, r * 33 + 32, none⟩ (.int .i64 q) = w7 at *
    obtain ⟨od, hod⟩ : ∃ od : Ixd, od = ⟨gx.a, gx.b, gx.c, gx.im, gx.its.set r (nm, q)⟩ := ⟨_, rfl⟩
    have hLg : Lying w7 (gx, A1, c1) := ⟨hgxo, by unfold maxLen; show gx.its.length ≤ _; omega, hRg⟩
    have hLo : Lying w7 (od, some ⟨g, 0, none⟩, c3) := ⟨by rw [hod]; exact ⟨hgxo.a, hgxo.b, hgxo.c, hgxo.im, hoits⟩, by rw [hod]; unfold maxLen; show (gx.its.set r (nm, q)).length ≤ _; rw [List.length_set]; omega, by
      rw [hod]
      exact ⟨fun y hy => by obtain ⟨it, hi, rfl⟩ := List.mem_map.1 hy; exact icells_len (hoits it hi).1, hHas2.lies⟩⟩
    obtain ⟨A3', hA3'⟩ : ∃ A3' : Option Addr, A3' = some ⟨g, 0, none⟩ := ⟨_, rfl⟩
    obtain ⟨vp, hvpe⟩ : ∃ vp, vp = vo := ⟨_, rfl⟩
    have hvp : vp = ent3 (od, A3', c3) := by
      rw [hvpe, ← HVO.out, hod, hA3']
      show xcells gx _ c3 = xcells ⟨gx.a, gx.b, gx.c, gx.im, gx.its.set r (nm, q)⟩ _ c3
      unfold xcells
      rw [List.length_set]
    have hvpl : vp.length = 36 := by rw [hvpe]; exact hvol
    rw [← hA3'] at hLo
    rw [← hvpe] at ho7
    have HVPE := Lib.hid hvpe
    clear hod hA3' hvpe hHas hHas2 hoits htS R62 hRg hcz hcz2 hfz hfr hh2 hheap hit cx AR hal R6 hown6 hgd6 hu2 hg62 g52
    clear hc35 hc2 hf2 hbox6 hZ5 hz5 hq hqw
    have hgd := (Grows.refl w7).drew
    have hO := Grows.refl w7.drew
    have l3 : ∀ u, Grows w7.drew u → (Instr.loadAt 49 (.pointer (some ⟨w.heap.size, 0, none⟩))).run Tryd.prog u = .ok (.agg vs.toArray) u := fun u h => (hb7.later (Grows.trans hgd h)).load Tryd.underlying49 rfl (by rw [hvl]; exact rx_size)
    have l7 : ∀ u, Grows w7.drew u → (Instr.loadAt 49 (.pointer (some ⟨w3.heap.size, 0, none⟩))).run Tryd.prog u = .ok (.agg vx.toArray) u := fun u h => (hx7.later (Grows.trans hgd h)).load Tryd.underlying49 rfl (by rw [hvxl]; exact rx_size)
    have l8 : ∀ u, Grows w7.drew u → (Instr.loadAt 49 (.pointer (some ⟨w5.heap.size, 0, none⟩))).run Tryd.prog u = .ok (.agg vp.toArray) u := fun u h => (ho7.later (Grows.trans hgd h)).load Tryd.underlying49 rfl (by rw [hvpl]; exact rx_size)
    refine wp_region_ord 6 [(0, true), (2, true), (3, true), (1, false), (4, false), (5, true)] (by kernel_rfl) (by kernel_rfl) ?_
    repeat (first | (refine ord_load hO _ _ (by simp only [List.getElem?_cons_succ, List.getElem?_cons_zero]; rfl) (by rfl) 49 (.tmp 3) (by rfl) _ (by rfl) l3 ?_; try simp only [Act.put, List.setIfInBounds_toArray, List.set_cons_zero, List.set_cons_succ]) | (refine ord_load hO _ _ (by simp only [List.getElem?_cons_succ, List.getElem?_cons_zero]; rfl) (by rfl) 49 (.tmp 7) (by rfl) _ (by rfl) l7 ?_; try simp only [Act.put, List.setIfInBounds_toArray, List.set_cons_zero, List.set_cons_succ]) | (refine ord_load hO _ _ (by simp only [List.getElem?_cons_succ, List.getElem?_cons_zero]; rfl) (by rfl) 49 (.tmp 8) (by rfl) _ (by rfl) l8 ?_; try simp only [Act.put, List.setIfInBounds_toArray, List.set_cons_zero, List.set_cons_succ]) | (refine ord_take hO _ ?_ (by simp only [List.getElem?_cons_succ, List.getElem?_cons_zero]; rfl) (by rfl) ?_ ?_; rotate_left; (· (intro u hu0 hu; (try go_simp); (try with_reducible rfl))); try simp only [Act.put, List.setIfInBounds_toArray, List.set_cons_zero, List.set_cons_succ]) | (refine ord_skip _ (by simp only [List.getElem?_cons_succ, List.getElem?_cons_zero]; rfl) (by rfl) ?_; try simp only [Act.put, List.setIfInBounds_toArray, List.set_cons_zero, List.set_cons_succ]))
    (refine ord_move _ (by simp only [List.getElem?_cons_succ, List.getElem?_cons_zero]; rfl) (by rfl) (fun u hu K hK => ?_); go_simp)
    refine (FX.out u (Grows.trans hg07 (Grows.trans hgd hu))).mono ?_
    rintro e w8 ⟨A8, c8, rfl, hcm8, hown8, hg8⟩
    refine hK.out _ _ hg8 ?_
    clear hK K l3 l7 l8 hO
    have hO := Grows.refl w8
    have hg78 : Grows w7 w8 := Grows.trans hgd (Grows.trans hu hg8)
    have hvzl := xcells_len hfxo.im A8 c8
    have R8 := OwnIt.recs hown8 (fun it hi => (hfxo.its it hi).1)
    generalize hvz : xcells (fewX x) A8 c8 = vz at *
    have HVZ := Lib.hid hvz
    have HSL : ∀ u, (Instr.buildSlice 62 3 #[(0, .agg vz.toArray), (1, .agg vx.toArray), (2, .agg vp.toArray)]).run Tryd.prog u = .ok (.slice (some ⟨u.heap.size, 0, none⟩) 3 3) (u.alloc (.cells [vz, vx, vp].flatten.toArray 49)) := fun u =>
      slice_rx u [vz, vx, vp] (fun r hr => by simp at hr; rcases hr with rfl | rfl | rfl <;> assumption) (by simp) (by simp)
    try repeat (first | (refine ord_take hO _ ?_ (by simp only [List.getElem?_cons_succ, List.getElem?_cons_zero]; rfl) (by rfl) ?_ ?_; rotate_left; (· (intro u hu0 hu; (try go_simp); (try with_reducible rfl))); try simp only [Act.put, List.setIfInBounds_toArray, List.set_cons_zero, List.set_cons_succ]) | (refine ord_skip _ (by simp only [List.getElem?_cons_succ, List.getElem?_cons_zero]; rfl) (by rfl) ?_; try simp only [Act.put, List.setIfInBounds_toArray, List.set_cons_zero, List.set_cons_succ]))
    refine ord_bslice _ (by simp only [List.getElem?_cons_succ, List.getElem?_cons_zero]; rfl) (by rfl) _ _ _ (by rfl) _ _ _ HSL ?_ (fun u9 hu9 => ?_)
    · go_simp
    simp only [Act.put, List.setIfInBounds_toArray, List.set_cons_zero, List.set_cons_succ]
    have hfl : [vz, vx, vp].flatten = vz ++ (vx ++ vp) := by simp
    have hga := grows_alloc u9 (.cells [vz, vx, vp].flatten.toArray 49)
    have hLn := Lies.new u9 49 [vz, vx, vp].flatten
    have hHR0 : Recs (u9.alloc (.cells [vz, vx, vp].flatten.toArray 49)) (some ⟨u9.heap.size, 0, none⟩) 36 [vz, vx, vp] := ⟨fun r hr => by simp at hr; rcases hr with rfl | rfl | rfl <;> assumption, hLn.mono (by simp)⟩
    have hg79 : Grows w7 (u9.alloc (.cells [vz, vx, vp].flatten.toArray 49)) := Grows.trans hg78 (Grows.trans hu9 hga)
    have hg89 : Grows w8 (u9.alloc (.cells [vz, vx, vp].flatten.toArray 49)) := Grows.trans hu9 hga
    generalize u9.alloc (.cells [vz, vx, vp].flatten.toArray 49) = wq at *
    generalize u9.heap.size = br at *
    clear hvz HSL hLn hga hfl hu9
    have hO := Grows.refl wq
    try repeat (first | (refine ord_take hO _ ?_ (by simp only [List.getElem?_cons_succ, List.getElem?_cons_zero]; rfl) (by rfl) ?_ ?_; rotate_left; (· (intro u hu0 hu; (try go_simp); (try with_reducible rfl))); try simp only [Act.put, List.setIfInBounds_toArray, List.set_cons_zero, List.set_cons_succ]) | (refine ord_skip _ (by simp only [List.getElem?_cons_succ, List.getElem?_cons_zero]; rfl) (by rfl) ?_; try simp only [Act.put, List.setIfInBounds_toArray, List.set_cons_zero, List.set_cons_succ]))
    refine ord_done (fun w11 hu11 => ?_)
    simp only [List.drop_succ_cons, List.drop_zero]
    have hHR := hHR0.later hu11
    have g011 := Grows.trans hg07 (Grows.trans hg79 hu11)
    have hES : ∀ i, i < 3 → ∃ t : Ent3, [vz, vx, vp][i]? = some (ent3 t) ∧ MayP w11 t := fun i hi => by
      match i, hi with
      | 0, _ => exact ⟨(fewX x, A8, c8), by rw [ent3, HVZ.out]; rfl, MayP.of_lying (w := w11) ⟨hfxo, by unfold maxLen; show (fewX x).its.length ≤ _; omega, R8.later (Grows.trans hg89 hu11)⟩⟩
      | 1, _ => exact ⟨(gx, A1, c1), by rw [ent3, HVX.out]; rfl, MayP.of_lying (hLg.later (Grows.trans hg79 hu11))⟩
      | 2, _ => exact ⟨(od, A3', c3), by rw [hvp]; rfl, MayP.of_lying (hLo.later (Grows.trans hg79 hu11))⟩
    have hES := Lib.hid hES
    have LVx := Lib.hid (fun u (h : Grows w11 u) => LV.out u (Grows.trans g011 h))
    clear R8 HVZ hown8 hHR0 hO hu11 hg89 hg79
    go_wp2_with fail
    refine NoPanic.normal ?_
    go_wp2_with fail
    go_loopw [10] (fun i wr => ∃ k : Nat, k ≤ 3 ∧ i = .int .i64 (k : Int) ∧ Grows w11 wr) (fun i _ => 3 - (intOf i).toNat)
    case atStart => exact ⟨0, by omega, rfl, Grows.refl _⟩
    case round =>
      obtain ⟨k, hk, rfl, hg1⟩ := hrel
      by_cases hk3 : k < 3
      · obtain ⟨t, ht, hP⟩ := hES.out k hk3
        have q1 : (k : Int) < 3 := by omega
        obtain ⟨ad, had, _, cx⟩ := hHR.at_ (by decide) ht
        injection had with had
        subst had
        have hel : (ent3 t).length = 36 := hHR.each _ (List.mem_of_getElem? ht)
        have ld : ∀ u, Grows w11 u → (Instr.loadAt 49 (.pointer (some ⟨br, k * 36, none⟩))).run Tryd.prog u = .ok (.agg (ent3 t).toArray) u := fun u hu =>
          load_any u _ _ (ent3 t) _ (fun j v hv => by have := hcell_later (cx j v hv) hu; rw [add_plain] at this ⊢; rwa [Nat.zero_add] at this) Tryd.underlying49 rfl (by rw [hel]; exact rx_size)
        have LD := Lib.hid ld
        have ldr := ld wr hg1
        have P1 := Lib.hid hP.rmay
        have P2 := Lib.hid hP.may
        have P3 := Lib.hid hP.of_
        have P4 := Lib.hid hP.no
        have P5 := Lib.hid hP.ok
        clear hP ld cx ht hel
        generalize ent3 t = et at *
        generalize mayI t.1 = qm at *
        cases qm with
        | true =>
          obtain ⟨bys, tt, hbl, W1, B1, T1, T2⟩ := P5.out rfl
          have W1 := Lib.hid W1
          have B1 := Lib.hid B1
          have T1 := Lib.hid T1
          have T2 := Lib.hid T2
          clear P4 P5
          go_wp2_with (with_reducible refine wpList_loads rfl 49 (.tmp 53) rfl _ rfl _ ldr ?_)
          with_reducible refine (P1.out wr hg1).mono ?_
          rintro e w12 ⟨rfl, hg12⟩
          have g12 := Grows.trans hg1 hg12
          have ld12 := LD.out w12 g12
          go_wp2_with (with_reducible refine wpList_loads rfl 49 (.tmp 59) rfl _ rfl _ ld12 ?_)
          with_reducible refine (P3.out w12 g12).mono ?_
          rintro e w13 ⟨rfl, hg13⟩
          have g13 := Grows.trans g12 hg13
          go_wp2_with fail
          with_reducible refine (W1.out w13 g13).mono ?_
          rintro e w14 ⟨v14, rfl, hown14, hg14⟩
          generalize hbn : bys.length = bn at *
          have HBN := Lib.hid hbn
          clear hbn
          obtain ⟨A14, c14, rfl, hc14⟩ := own_form hown14
          have g14 := Grows.trans g13 hg14
          have ld14 := LD.out w14 g14
          go_wp2_with (with_reducible refine wpList_loads rfl 49 (.tmp 67) rfl _ rfl _ ld14 ?_)
          with_reducible refine (P3.out w14 g14).mono ?_
          rintro e w15 ⟨rfl, hg15⟩
          have g15 := Grows.trans g14 hg15
          go_wp2_with fail
          with_reducible refine (P2.out w15 g15).mono ?_
          rintro e w16 ⟨rfl, hg16⟩
          have g16 := Grows.trans g15 hg16
          have hL16 := (Lies.of_own hown14).later (Grows.trans hg15 hg16)
          clear ld12 ld14 ldr hown14
          go_wp2_with (first | go_big_skip | fail)
          have hgd := Grows.trans g16 (Grows.refl w16).drew
          have hO := Grows.refl w16.drew
          have ldq : ∀ u, Grows w16.drew u → (Instr.loadAt 49 (.pointer (some ⟨br, k * 36, none⟩))).run Tryd.prog u = .ok (.agg et.toArray) u := fun u h => LD.out u (Grows.trans hgd h)
          have cv1 : ∀ u, Grows w16.drew u → (convert 22 9 (.slice A14 bn c14)).run Tryd.prog u = .ok (.string ⟨bys.toArray⟩) u := fun u h =>
            run_string_of u 22 5 Tryd.underlying22 Tryd.underlying5 9 Tryd.underlying9 _ A14 bn c14 bys HBN.out (hL16.later (Grows.trans (Grows.refl w16).drew h))
          refine wp_region_ord 26 [(0, true), (1, true), (2, true), (3, true), (4, true), (5, true), (6, true), (7, true), (8, false), (9, true), (10, true), (11, true), (12, true), (13, true), (14, true), (15, true), (16, true), (17, true), (18, true), (19, true), (20, true), (21, true), (22, true), (23, true), (24, true), (25, true)] (by kernel_rfl) (by kernel_rfl) ?_
          repeat (first | (refine ord_load hO _ _ (by simp only [List.getElem?_cons_succ, List.getElem?_cons_zero]; rfl) (by rfl) 49 (.tmp 85) (by rfl) _ (by rfl) ldq ?_; try simp only [Act.put, List.setIfInBounds_toArray, List.set_cons_zero, List.set_cons_succ]) | (refine ord_take hO _ ?_ (by simp only [List.getElem?_cons_succ, List.getElem?_cons_zero]; rfl) (by rfl) ?_ ?_; rotate_left; (· (intro u hu0 hu; (try go_simp); (try with_reducible rfl))); try simp only [Act.put, List.setIfInBounds_toArray, List.set_cons_zero, List.set_cons_succ]) | (refine ord_skip _ (by simp only [List.getElem?_cons_succ, List.getElem?_cons_zero]; rfl) (by rfl) ?_; try simp only [Act.put, List.setIfInBounds_toArray, List.set_cons_zero, List.set_cons_succ]))
          (refine ord_move _ (by simp only [List.getElem?_cons_succ, List.getElem?_cons_zero]; rfl) (by rfl) (fun u hu K hK => ?_); go_simp)
          with_reducible refine (B1.out u (Grows.trans hgd hu)).mono ?_
          rintro e w17 ⟨v17, rfl, hown17, hg17⟩
          obtain ⟨A17, c17, rfl, hc17⟩ := own_form hown17
          refine hK.out _ _ hg17 ?_
          have g17 := Grows.trans hgd (Grows.trans hu hg17)
          have hL17 := Lies.of_own hown17
          clear hK K ldq cv1 hO hown17 hu
          have hO := Grows.refl w17
          have ldq : ∀ u, Grows w17 u → (Instr.loadAt 49 (.pointer (some ⟨br, k * 36, none⟩))).run Tryd.prog u = .ok (.agg et.toArray) u := fun u h => LD.out u (Grows.trans g17 h)
          have cv2 : ∀ u, Grows w17 u → (convert 22 9 (.slice A17 bn c17)).run Tryd.prog u = .ok (.string ⟨bys.toArray⟩) u := fun u h =>
            run_string_of u 22 5 Tryd.underlying22 Tryd.underlying5 9 Tryd.underlying9 _ A17 bn c17 bys HBN.out (hL17.later h)
          have Z1 : Hid (∀ u, Grows w17 u → Calls Tryd.prog 35 #[.agg et.toArray] u fun e w' => e = .returned (.agg et.toArray) ∧ Grows u w') := fun u h => P3.out u (Grows.trans g17 h)
          have Z2 : Hid (∀ u, Grows w17 u → Calls Tryd.prog 26 #[.agg et.toArray] u fun e w' => e = .returned (.int .i64 tt) ∧ Grows u w') := fun u h => T1.out u (Grows.trans g17 h)
          have Z3 : Hid (∀ u, Grows w17 u → Calls Tryd.prog 37 #[.agg et.toArray] u fun e w' => e = .returned (.int .i64 tt) ∧ Grows u w') := fun u h => T2.out u (Grows.trans g17 h)
          repeat (first | (refine ord_load hO _ _ (by simp only [List.getElem?_cons_succ, List.getElem?_cons_zero]; rfl) (by rfl) 49 (.tmp 93) (by rfl) _ (by rfl) ldq ?_; try simp only [Act.put, List.setIfInBounds_toArray, List.set_cons_zero, List.set_cons_succ]) | (refine ord_load hO _ _ (by simp only [List.getElem?_cons_succ, List.getElem?_cons_zero]; rfl) (by rfl) 49 (.tmp 99) (by rfl) _ (by rfl) ldq ?_; try simp only [Act.put, List.setIfInBounds_toArray, List.set_cons_zero, List.set_cons_succ]) | (refine ord_take hO _ ?_ (by simp only [List.getElem?_cons_succ, List.getElem?_cons_zero]; rfl) (by rfl) ?_ ?_; rotate_left; (· (intro u hu0 hu; (try go_simp); (try with_reducible rfl))); try simp only [Act.put, List.setIfInBounds_toArray, List.set_cons_zero, List.set_cons_succ]) | (refine ord_skip _ (by simp only [List.getElem?_cons_succ, List.getElem?_cons_zero]; rfl) (by rfl) ?_; try simp only [Act.put, List.setIfInBounds_toArray, List.set_cons_zero, List.set_cons_succ]) | (refine ord_call hO _ ?_ (by simp only [List.getElem?_cons_succ, List.getElem?_cons_zero]; rfl) (by rfl) ?_ ?_; rotate_left; (· (intro u hu0 hu; go_simp; (try refine quiet_enter ?_); (first | (with_reducible exact Z1.out u hu) | (with_reducible exact Z2.out u hu) | (with_reducible exact Z3.out u hu)))); try simp only [Act.put, List.setIfInBounds_toArray, List.set_cons_zero, List.set_cons_succ]))
          refine ord_done (fun w18 hu => ?_)
          simp only [List.drop_succ_cons, List.drop_zero]
          have g18 := Grows.trans g17 hu
          clear hO hu ldq cv2 Z1 Z2 Z3
          go_wp2_with fail
          refine NoPanic.normal ?_
          go_wp2_with (first | go_big_skip | fail)
          go_roundw
          case rel => exact ⟨k + 1, by omega, by go_num, g18⟩
          case measure => simp [intOf]; omega
        | false =>
          have W1 := Lib.hid (P4.out rfl)
          clear P4 P5
          go_wp2_with (with_reducible refine wpList_loads rfl 49 (.tmp 53) rfl _ rfl _ ldr ?_)
          with_reducible refine (P1.out wr hg1).mono ?_
          rintro e w12 ⟨rfl, hg12⟩
          have g12 := Grows.trans hg1 hg12
          have ld12 := LD.out w12 g12
          go_wp2_with (with_reducible refine wpList_loads rfl 49 (.tmp 59) rfl _ rfl _ ld12 ?_)
          with_reducible refine (P3.out w12 g12).mono ?_
          rintro e w13 ⟨rfl, hg13⟩
          have g13 := Grows.trans g12 hg13
          go_wp2_with fail
          with_reducible refine (W1.out w13 g13).mono ?_
          rintro e w14 ⟨rfl, hg14⟩
          have g14 := Grows.trans g13 hg14
          have ld14 := LD.out w14 g14
          go_wp2_with (with_reducible refine wpList_loads rfl 49 (.tmp 67) rfl _ rfl _ ld14 ?_)
          with_reducible refine (P3.out w14 g14).mono ?_
          rintro e w15 ⟨rfl, hg15⟩
          have g15 := Grows.trans g14 hg15
          go_wp2_with fail
          with_reducible refine (P2.out w15 g15).mono ?_
          rintro e w16 ⟨rfl, hg16⟩
          have g16 := Grows.trans g15 hg16
          clear ld12 ld14 ldr
          go_wp2_with (first | go_big_skip | fail)
          have hgd := Grows.trans g16 (Grows.refl w16).drew
          have hO := Grows.refl w16.drew
          refine wp_region_ord 26 [(0, true), (1, true), (2, true), (3, true), (4, true), (5, true), (6, true), (7, true), (8, false), (9, true), (10, true), (11, true), (12, true), (13, true), (14, true), (15, true), (16, true), (17, true), (18, true), (19, true), (20, true), (21, true), (22, true), (23, true), (24, true), (25, true)] (by kernel_rfl) (by kernel_rfl) ?_
          repeat (first | (refine ord_take hO _ ?_ (by simp only [List.getElem?_cons_succ, List.getElem?_cons_zero]; rfl) (by rfl) ?_ ?_; rotate_left; (· (intro u hu0 hu; (try go_simp); (try with_reducible rfl))); try simp only [Act.put, List.setIfInBounds_toArray, List.set_cons_zero, List.set_cons_succ]) | (refine ord_skip _ (by simp only [List.getElem?_cons_succ, List.getElem?_cons_zero]; rfl) (by rfl) ?_; try simp only [Act.put, List.setIfInBounds_toArray, List.set_cons_zero, List.set_cons_succ]))
          (refine ord_pass _ (by simp only [List.getElem?_cons_succ, List.getElem?_cons_zero]; rfl) (by rfl) (fun u hu => ?_); try simp only [Act.put, List.setIfInBounds_toArray, List.set_cons_zero, List.set_cons_succ])
          have hgu := Grows.trans hgd hu
          clear hO
          have hO := Grows.refl u
          repeat (first | (refine ord_take hO _ ?_ (by simp only [List.getElem?_cons_succ, List.getElem?_cons_zero]; rfl) (by rfl) ?_ ?_; rotate_left; (· (intro u hu0 hu; (try go_simp); (try with_reducible rfl))); try simp only [Act.put, List.setIfInBounds_toArray, List.set_cons_zero, List.set_cons_succ]) | (refine ord_skip _ (by simp only [List.getElem?_cons_succ, List.getElem?_cons_zero]; rfl) (by rfl) ?_; try simp only [Act.put, List.setIfInBounds_toArray, List.set_cons_zero, List.set_cons_succ]))
          refine ord_done (fun w18 hu2 => ?_)
          simp only [List.drop_succ_cons, List.drop_zero]
          have g18 := Grows.trans hgu hu2
          clear hO hu hu2
          go_wp2_with fail
          refine NoPanic.normal ?_
          go_wp2_with (first | go_big_skip | fail)
          go_roundw
          case rel => exact ⟨k + 1, by omega, by go_num, g18⟩
          case measure => simp [intOf]; omega
      · obtain rfl : k = 3 := by omega
        go_wp2_with fail
        refine (LVx.out wr hg1).mono ?_
        rintro e w12 ⟨rfl, hg12⟩
        go_wp2_with fail
        go_ret
        exact ⟨rfl, Grows.trans g011 (Grows.trans hg1 hg12)⟩
  · by_cases hM0 : 0 < M
    · have hr0 : ¬ Int.tmod n 2 = 0 := fun h => hcond ⟨hM0, h⟩
      have e1 : (0 : Int) < (M : Int) := by omega
      have e2 : (Int.tmod n 2 == 0) = false := by simp [hr0]
      clear hcond hr0
      go_wp2_with (refine wpList_storeT rfl 49 (.tmp 8) (.tmp 17) rfl w5.heap.size zcells vo 36 rfl rfl hZ5 zcells_len hvol rx_size hvoo ?_; intro w6 hbox6 ht6; have hg56 : Grows w5 w6 := turns_grow hz5 ht6 (Nat.le_refl _); have hc35 := hbox6.cell hvo35; have hc2 := hbox6.cell hx0; have hf2 := hbox6.free 2)
      have htS := Turns.of_set (S := fun k => k = w5.heap.size) (b := w5.heap.size) (o := 2) w6 (.int .i64 q) rfl
      have hb7 := (hb5.later hg56).turned htS (by omega)
      have hx7 := (hx5.later hg56).turned htS (by omega)
      have ho7 := hbox6.set_ (k := 2) (by omega) (.int .i64 q)
      have hRg := (R5.later hg56).turned (R5.lies.below hg56) htS (fun k hk h => by omega)
      have R3o := OwnIt.recs hown3 (fun it hi => (hgxo.its it hi).1)
      have hRo := (R3o.later hg56).turned (R3o.lies.below hg56) htS (fun k hk h => by omega)
      have hg07 : Grows w (w6.setCell ⟨w5.heap.size, 2, none⟩ (.int .i64 q)) := turns_grow (Grows.trans hg05 hg56) htS (by have := hg05.size; omega)
      change Code.wp _ _ _ _ (w6.setCell ⟨w5.heap.size, 2, none⟩ (.int .i64 q))
      generalize w6.setCell ⟨w5.heap.size, 2, none⟩ (.int .i64 q) = w7 at *
      obtain ⟨od, hod⟩ : ∃ od : Ixd, od = ⟨gx.a, gx.b, q, gx.im, gx.its⟩ := ⟨_, rfl⟩
      have hLg : Lying w7 (gx, A1, c1) := ⟨hgxo, by unfold maxLen; show gx.its.length ≤ _; omega, hRg⟩
      have hLo : Lying w7 (od, A3, c3) := ⟨by rw [hod]; exact ⟨hgxo.a, hgxo.b, hqI, hgxo.im, hgxo.its⟩, by rw [hod]; unfold maxLen; show gx.its.length ≤ _; omega, by rw [hod]; exact hRo⟩
      obtain ⟨A3', hA3'⟩ : ∃ A3' : Option Addr, A3' = A3 := ⟨_, rfl⟩
      obtain ⟨vp, hvpe⟩ : ∃ vp, vp = vo.set 2 (.int .i64 q) := ⟨_, rfl⟩
      have hvp : vp = ent3 (od, A3', c3) := by rw [hvpe, hset2 q, hod, hA3']; rfl
      have hvpl : vp.length = 36 := by rw [hvpe, List.length_set]; exact hvol
      rw [← hA3'] at hLo
      rw [← hvpe] at ho7
      clear hod hA3' hvpe htS hRg hRo R3o
      clear hc35 hc2 hf2 hbox6 hZ5 hz5 hq hqw
      have hgd := (Grows.refl w7).drew
      have hO := Grows.refl w7.drew
      have l3 : ∀ u, Grows w7.drew u → (Instr.loadAt 49 (.pointer (some ⟨w.heap.size, 0, none⟩))).run Tryd.prog u = .ok (.agg vs.toArray) u := fun u h => (hb7.later (Grows.trans hgd h)).load Tryd.underlying49 rfl (by rw [hvl]; exact rx_size)
      have l7 : ∀ u, Grows w7.drew u → (Instr.loadAt 49 (.pointer (some ⟨w3.heap.size, 0, none⟩))).run Tryd.prog u = .ok (.agg vx.toArray) u := fun u h => (hx7.later (Grows.trans hgd h)).load Tryd.underlying49 rfl (by rw [hvxl]; exact rx_size)
      have l8 : ∀ u, Grows w7.drew u → (Instr.loadAt 49 (.pointer (some ⟨w5.heap.size, 0, none⟩))).run Tryd.prog u = .ok (.agg vp.toArray) u := fun u h => (ho7.later (Grows.trans hgd h)).load Tryd.underlying49 rfl (by rw [hvpl]; exact rx_size)
      refine wp_region_ord 6 [(0, true), (2, true), (3, true), (1, false), (4, false), (5, true)] (by kernel_rfl) (by kernel_rfl) ?_
      repeat (first | (refine ord_load hO _ _ (by simp only [List.getElem?_cons_succ, List.getElem?_cons_zero]; rfl) (by rfl) 49 (.tmp 3) (by rfl) _ (by rfl) l3 ?_; try simp only [Act.put, List.setIfInBounds_toArray, List.set_cons_zero, List.set_cons_succ]) | (refine ord_load hO _ _ (by simp only [List.getElem?_cons_succ, List.getElem?_cons_zero]; rfl) (by rfl) 49 (.tmp 7) (by rfl) _ (by rfl) l7 ?_; try simp only [Act.put, List.setIfInBounds_toArray, List.set_cons_zero, List.set_cons_succ]) | (refine ord_load hO _ _ (by simp only [List.getElem?_cons_succ, List.getElem?_cons_zero]; rfl) (by rfl) 49 (.tmp 8) (by rfl) _ (by rfl) l8 ?_; try simp only [Act.put, List.setIfInBounds_toArray, List.set_cons_zero, List.set_cons_succ]) | (refine ord_take hO _ ?_ (by simp only [List.getElem?_cons_succ, List.getElem?_cons_zero]; rfl) (by rfl) ?_ ?_; rotate_left; (· (intro u hu0 hu; (try go_simp); (try with_reducible rfl))); try simp only [Act.put, List.setIfInBounds_toArray, List.set_cons_zero, List.set_cons_succ]) | (refine ord_skip _ (by simp only [List.getElem?_cons_succ, List.getElem?_cons_zero]; rfl) (by rfl) ?_; try simp only [Act.put, List.setIfInBounds_toArray, List.set_cons_zero, List.set_cons_succ]))
      (refine ord_move _ (by simp only [List.getElem?_cons_succ, List.getElem?_cons_zero]; rfl) (by rfl) (fun u hu K hK => ?_); go_simp)
      refine (FX.out u (Grows.trans hg07 (Grows.trans hgd hu))).mono ?_
      rintro e w8 ⟨A8, c8, rfl, hcm8, hown8, hg8⟩
      refine hK.out _ _ hg8 ?_
      clear hK K l3 l7 l8 hO
      have hO := Grows.refl w8
      have hg78 : Grows w7 w8 := Grows.trans hgd (Grows.trans hu hg8)
      have hvzl := xcells_len hfxo.im A8 c8
      have R8 := OwnIt.recs hown8 (fun it hi => (hfxo.its it hi).1)
      generalize hvz : xcells (fewX x) A8 c8 = vz at *
      have HVZ := Lib.hid hvz
      have HSL : ∀ u, (Instr.buildSlice 62 3 #[(0, .agg vz.toArray), (1, .agg vx.toArray), (2, .agg vp.toArray)]).run Tryd.prog u = .ok (.slice (some ⟨u.heap.size, 0, none⟩) 3 3) (u.alloc (.cells [vz, vx, vp].flatten.toArray 49)) := fun u =>
        slice_rx u [vz, vx, vp] (fun r hr => by simp at hr; rcases hr with rfl | rfl | rfl <;> assumption) (by simp) (by simp)
      try repeat (first | (refine ord_take hO _ ?_ (by simp only [List.getElem?_cons_succ, List.getElem?_cons_zero]; rfl) (by rfl) ?_ ?_; rotate_left; (· (intro u hu0 hu; (try go_simp); (try with_reducible rfl))); try simp only [Act.put, List.setIfInBounds_toArray, List.set_cons_zero, List.set_cons_succ]) | (refine ord_skip _ (by simp only [List.getElem?_cons_succ, List.getElem?_cons_zero]; rfl) (by rfl) ?_; try simp only [Act.put, List.setIfInBounds_toArray, List.set_cons_zero, List.set_cons_succ]))
      refine ord_bslice _ (by simp only [List.getElem?_cons_succ, List.getElem?_cons_zero]; rfl) (by rfl) _ _ _ (by rfl) _ _ _ HSL ?_ (fun u9 hu9 => ?_)
      · go_simp
      simp only [Act.put, List.setIfInBounds_toArray, List.set_cons_zero, List.set_cons_succ]
      have hfl : [vz, vx, vp].flatten = vz ++ (vx ++ vp) := by simp
      have hga := grows_alloc u9 (.cells [vz, vx, vp].flatten.toArray 49)
      have hLn := Lies.new u9 49 [vz, vx, vp].flatten
      have hHR0 : Recs (u9.alloc (.cells [vz, vx, vp].flatten.toArray 49)) (some ⟨u9.heap.size, 0, none⟩) 36 [vz, vx, vp] := ⟨fun r hr => by simp at hr; rcases hr with rfl | rfl | rfl <;> assumption, hLn.mono (by simp)⟩
      have hg79 : Grows w7 (u9.alloc (.cells [vz, vx, vp].flatten.toArray 49)) := Grows.trans hg78 (Grows.trans hu9 hga)
      have hg89 : Grows w8 (u9.alloc (.cells [vz, vx, vp].flatten.toArray 49)) := Grows.trans hu9 hga
      generalize u9.alloc (.cells [vz, vx, vp].flatten.toArray 49) = wq at *
      generalize u9.heap.size = br at *
      clear hvz HSL hLn hga hfl hu9
      have hO := Grows.refl wq
      try repeat (first | (refine ord_take hO _ ?_ (by simp only [List.getElem?_cons_succ, List.getElem?_cons_zero]; rfl) (by rfl) ?_ ?_; rotate_left; (· (intro u hu0 hu; (try go_simp); (try with_reducible rfl))); try simp only [Act.put, List.setIfInBounds_toArray, List.set_cons_zero, List.set_cons_succ]) | (refine ord_skip _ (by simp only [List.getElem?_cons_succ, List.getElem?_cons_zero]; rfl) (by rfl) ?_; try simp only [Act.put, List.setIfInBounds_toArray, List.set_cons_zero, List.set_cons_succ]))
      refine ord_done (fun w11 hu11 => ?_)
      simp only [List.drop_succ_cons, List.drop_zero]
      have hHR := hHR0.later hu11
      have g011 := Grows.trans hg07 (Grows.trans hg79 hu11)
      have hES : ∀ i, i < 3 → ∃ t : Ent3, [vz, vx, vp][i]? = some (ent3 t) ∧ MayP w11 t := fun i hi => by
        match i, hi with
        | 0, _ => exact ⟨(fewX x, A8, c8), by rw [ent3, HVZ.out]; rfl, MayP.of_lying (w := w11) ⟨hfxo, by unfold maxLen; show (fewX x).its.length ≤ _; omega, R8.later (Grows.trans hg89 hu11)⟩⟩
        | 1, _ => exact ⟨(gx, A1, c1), by rw [ent3, HVX.out]; rfl, MayP.of_lying (hLg.later (Grows.trans hg79 hu11))⟩
        | 2, _ => exact ⟨(od, A3', c3), by rw [hvp]; rfl, MayP.of_lying (hLo.later (Grows.trans hg79 hu11))⟩
      have hES := Lib.hid hES
      have LVx := Lib.hid (fun u (h : Grows w11 u) => LV.out u (Grows.trans g011 h))
      clear R8 HVZ hown8 hHR0 hO hu11 hg89 hg79
      go_wp2_with fail
      refine NoPanic.normal ?_
      go_wp2_with fail
      go_loopw [10] (fun i wr => ∃ k : Nat, k ≤ 3 ∧ i = .int .i64 (k : Int) ∧ Grows w11 wr) (fun i _ => 3 - (intOf i).toNat)
      case atStart => exact ⟨0, by omega, rfl, Grows.refl _⟩
      case round =>
        obtain ⟨k, hk, rfl, hg1⟩ := hrel
        by_cases hk3 : k < 3
        · obtain ⟨t, ht, hP⟩ := hES.out k hk3
          have q1 : (k : Int) < 3 := by omega
          obtain ⟨ad, had, _, cx⟩ := hHR.at_ (by decide) ht
          injection had with had
          subst had
          have hel : (ent3 t).length = 36 := hHR.each _ (List.mem_of_getElem? ht)
          have ld : ∀ u, Grows w11 u → (Instr.loadAt 49 (.pointer (some ⟨br, k * 36, none⟩))).run Tryd.prog u = .ok (.agg (ent3 t).toArray) u := fun u hu =>
            load_any u _ _ (ent3 t) _ (fun j v hv => by have := hcell_later (cx j v hv) hu; rw [add_plain] at this ⊢; rwa [Nat.zero_add] at this) Tryd.underlying49 rfl (by rw [hel]; exact rx_size)
          have LD := Lib.hid ld
          have ldr := ld wr hg1
          have P1 := Lib.hid hP.rmay
          have P2 := Lib.hid hP.may
          have P3 := Lib.hid hP.of_
          have P4 := Lib.hid hP.no
          have P5 := Lib.hid hP.ok
          clear hP ld cx ht hel
          generalize ent3 t = et at *
          generalize mayI t.1 = qm at *
          cases qm with
          | true =>
            obtain ⟨bys, tt, hbl, W1, B1, T1, T2⟩ := P5.out rfl
            have W1 := Lib.hid W1
            have B1 := Lib.hid B1
            have T1 := Lib.hid T1
            have T2 := Lib.hid T2
            clear P4 P5
            go_wp2_with (with_reducible refine wpList_loads rfl 49 (.tmp 53) rfl _ rfl _ ldr ?_)
            with_reducible refine (P1.out wr hg1).mono ?_
            rintro e w12 ⟨rfl, hg12⟩
            have g12 := Grows.trans hg1 hg12
            have ld12 := LD.out w12 g12
            go_wp2_with (with_reducible refine wpList_loads rfl 49 (.tmp 59) rfl _ rfl _ ld12 ?_)
            with_reducible refine (P3.out w12 g12).mono ?_
            rintro e w13 ⟨rfl, hg13⟩
            have g13 := Grows.trans g12 hg13
            go_wp2_with fail
            with_reducible refine (W1.out w13 g13).mono ?_
            rintro e w14 ⟨v14, rfl, hown14, hg14⟩
            generalize hbn : bys.length = bn at *
            have HBN := Lib.hid hbn
            clear hbn
            obtain ⟨A14, c14, rfl, hc14⟩ := own_form hown14
            have g14 := Grows.trans g13 hg14
            have ld14 := LD.out w14 g14
            go_wp2_with (with_reducible refine wpList_loads rfl 49 (.tmp 67) rfl _ rfl _ ld14 ?_)
            with_reducible refine (P3.out w14 g14).mono ?_
            rintro e w15 ⟨rfl, hg15⟩
            have g15 := Grows.trans g14 hg15
            go_wp2_with fail
            with_reducible refine (P2.out w15 g15).mono ?_
            rintro e w16 ⟨rfl, hg16⟩
            have g16 := Grows.trans g15 hg16
            have hL16 := (Lies.of_own hown14).later (Grows.trans hg15 hg16)
            clear ld12 ld14 ldr hown14
            go_wp2_with (first | go_big_skip | fail)
            have hgd := Grows.trans g16 (Grows.refl w16).drew
            have hO := Grows.refl w16.drew
            have ldq : ∀ u, Grows w16.drew u → (Instr.loadAt 49 (.pointer (some ⟨br, k * 36, none⟩))).run Tryd.prog u = .ok (.agg et.toArray) u := fun u h => LD.out u (Grows.trans hgd h)
            have cv1 : ∀ u, Grows w16.drew u → (convert 22 9 (.slice A14 bn c14)).run Tryd.prog u = .ok (.string ⟨bys.toArray⟩) u := fun u h =>
              run_string_of u 22 5 Tryd.underlying22 Tryd.underlying5 9 Tryd.underlying9 _ A14 bn c14 bys HBN.out (hL16.later (Grows.trans (Grows.refl w16).drew h))
            refine wp_region_ord 26 [(0, true), (1, true), (2, true), (3, true), (4, true), (5, true), (6, true), (7, true), (8, false), (9, true), (10, true), (11, true), (12, true), (13, true), (14, true), (15, true), (16, true), (17, true), (18, true), (19, true), (20, true), (21, true), (22, true), (23, true), (24, true), (25, true)] (by kernel_rfl) (by kernel_rfl) ?_
            repeat (first | (refine ord_load hO _ _ (by simp only [List.getElem?_cons_succ, List.getElem?_cons_zero]; rfl) (by rfl) 49 (.tmp 85) (by rfl) _ (by rfl) ldq ?_; try simp only [Act.put, List.setIfInBounds_toArray, List.set_cons_zero, List.set_cons_succ]) | (refine ord_take hO _ ?_ (by simp only [List.getElem?_cons_succ, List.getElem?_cons_zero]; rfl) (by rfl) ?_ ?_; rotate_left; (· (intro u hu0 hu; (try go_simp); (try with_reducible rfl))); try simp only [Act.put, List.setIfInBounds_toArray, List.set_cons_zero, List.set_cons_succ]) | (refine ord_skip _ (by simp only [List.getElem?_cons_succ, List.getElem?_cons_zero]; rfl) (by rfl) ?_; try simp only [Act.put, List.setIfInBounds_toArray, List.set_cons_zero, List.set_cons_succ]))
            (refine ord_move _ (by simp only [List.getElem?_cons_succ, List.getElem?_cons_zero]; rfl) (by rfl) (fun u hu K hK => ?_); go_simp)
            with_reducible refine (B1.out u (Grows.trans hgd hu)).mono ?_
            rintro e w17 ⟨v17, rfl, hown17, hg17⟩
            obtain ⟨A17, c17, rfl, hc17⟩ := own_form hown17
            refine hK.out _ _ hg17 ?_
            have g17 := Grows.trans hgd (Grows.trans hu hg17)
            have hL17 := Lies.of_own hown17
            clear hK K ldq cv1 hO hown17 hu
            have hO := Grows.refl w17
            have ldq : ∀ u, Grows w17 u → (Instr.loadAt 49 (.pointer (some ⟨br, k * 36, none⟩))).run Tryd.prog u = .ok (.agg et.toArray) u := fun u h => LD.out u (Grows.trans g17 h)
            have cv2 : ∀ u, Grows w17 u → (convert 22 9 (.slice A17 bn c17)).run Tryd.prog u = .ok (.string ⟨bys.toArray⟩) u := fun u h =>
              run_string_of u 22 5 Tryd.underlying22 Tryd.underlying5 9 Tryd.underlying9 _ A17 bn c17 bys HBN.out (hL17.later h)
            have Z1 : Hid (∀ u, Grows w17 u → Calls Tryd.prog 35 #[.agg et.toArray] u fun e w' => e = .returned (.agg et.toArray) ∧ Grows u w') := fun u h => P3.out u (Grows.trans g17 h)
            have Z2 : Hid (∀ u, Grows w17 u → Calls Tryd.prog 26 #[.agg et.toArray] u fun e w' => e = .returned (.int .i64 tt) ∧ Grows u w') := fun u h => T1.out u (Grows.trans g17 h)
            have Z3 : Hid (∀ u, Grows w17 u → Calls Tryd.prog 37 #[.agg et.toArray] u fun e w' => e = .returned (.int .i64 tt) ∧ Grows u w') := fun u h => T2.out u (Grows.trans g17 h)
            repeat (first | (refine ord_load hO _ _ (by simp only [List.getElem?_cons_succ, List.getElem?_cons_zero]; rfl) (by rfl) 49 (.tmp 93) (by rfl) _ (by rfl) ldq ?_; try simp only [Act.put, List.setIfInBounds_toArray, List.set_cons_zero, List.set_cons_succ]) | (refine ord_load hO _ _ (by simp only [List.getElem?_cons_succ, List.getElem?_cons_zero]; rfl) (by rfl) 49 (.tmp 99) (by rfl) _ (by rfl) ldq ?_; try simp only [Act.put, List.setIfInBounds_toArray, List.set_cons_zero, List.set_cons_succ]) | (refine ord_take hO _ ?_ (by simp only [List.getElem?_cons_succ, List.getElem?_cons_zero]; rfl) (by rfl) ?_ ?_; rotate_left; (· (intro u hu0 hu; (try go_simp); (try with_reducible rfl))); try simp only [Act.put, List.setIfInBounds_toArray, List.set_cons_zero, List.set_cons_succ]) | (refine ord_skip _ (by simp only [List.getElem?_cons_succ, List.getElem?_cons_zero]; rfl) (by rfl) ?_; try simp only [Act.put, List.setIfInBounds_toArray, List.set_cons_zero, List.set_cons_succ]) | (refine ord_call hO _ ?_ (by simp only [List.getElem?_cons_succ, List.getElem?_cons_zero]; rfl) (by rfl) ?_ ?_; rotate_left; (· (intro u hu0 hu; go_simp; (try refine quiet_enter ?_); (first | (with_reducible exact Z1.out u hu) | (with_reducible exact Z2.out u hu) | (with_reducible exact Z3.out u hu)))); try simp only [Act.put, List.setIfInBounds_toArray, List.set_cons_zero, List.set_cons_succ]))
            refine ord_done (fun w18 hu => ?_)
            simp only [List.drop_succ_cons, List.drop_zero]
            have g18 := Grows.trans g17 hu
            clear hO hu ldq cv2 Z1 Z2 Z3
            go_wp2_with fail
            refine NoPanic.normal ?_
            go_wp2_with (first | go_big_skip | fail)
            go_roundw
            case rel => exact ⟨k + 1, by omega, by go_num, g18⟩
            case measure => simp [intOf]; omega
          | false =>
            have W1 := Lib.hid (P4.out rfl)
            clear P4 P5
            go_wp2_with (with_reducible refine wpList_loads rfl 49 (.tmp 53) rfl _ rfl _ ldr ?_)
            with_reducible refine (P1.out wr hg1).mono ?_
            rintro e w12 ⟨rfl, hg12⟩
            have g12 := Grows.trans hg1 hg12
            have ld12 := LD.out w12 g12
            go_wp2_with (with_reducible refine wpList_loads rfl 49 (.tmp 59) rfl _ rfl _ ld12 ?_)
            with_reducible refine (P3.out w12 g12).mono ?_
            rintro e w13 ⟨rfl, hg13⟩
            have g13 := Grows.trans g12 hg13
            go_wp2_with fail
            with_reducible refine (W1.out w13 g13).mono ?_
            rintro e w14 ⟨rfl, hg14⟩
            have g14 := Grows.trans g13 hg14
            have ld14 := LD.out w14 g14
            go_wp2_with (with_reducible refine wpList_loads rfl 49 (.tmp 67) rfl _ rfl _ ld14 ?_)
            with_reducible refine (P3.out w14 g14).mono ?_
            rintro e w15 ⟨rfl, hg15⟩
            have g15 := Grows.trans g14 hg15
            go_wp2_with fail
            with_reducible refine (P2.out w15 g15).mono ?_
            rintro e w16 ⟨rfl, hg16⟩
            have g16 := Grows.trans g15 hg16
            clear ld12 ld14 ldr
            go_wp2_with (first | go_big_skip | fail)
            have hgd := Grows.trans g16 (Grows.refl w16).drew
            have hO := Grows.refl w16.drew
            refine wp_region_ord 26 [(0, true), (1, true), (2, true), (3, true), (4, true), (5, true), (6, true), (7, true), (8, false), (9, true), (10, true), (11, true), (12, true), (13, true), (14, true), (15, true), (16, true), (17, true), (18, true), (19, true), (20, true), (21, true), (22, true), (23, true), (24, true), (25, true)] (by kernel_rfl) (by kernel_rfl) ?_
            repeat (first | (refine ord_take hO _ ?_ (by simp only [List.getElem?_cons_succ, List.getElem?_cons_zero]; rfl) (by rfl) ?_ ?_; rotate_left; (· (intro u hu0 hu; (try go_simp); (try with_reducible rfl))); try simp only [Act.put, List.setIfInBounds_toArray, List.set_cons_zero, List.set_cons_succ]) | (refine ord_skip _ (by simp only [List.getElem?_cons_succ, List.getElem?_cons_zero]; rfl) (by rfl) ?_; try simp only [Act.put, List.setIfInBounds_toArray, List.set_cons_zero, List.set_cons_succ]))
            (refine ord_pass _ (by simp only [List.getElem?_cons_succ, List.getElem?_cons_zero]; rfl) (by rfl) (fun u hu => ?_); try simp only [Act.put, List.setIfInBounds_toArray, List.set_cons_zero, List.set_cons_succ])
            have hgu := Grows.trans hgd hu
            clear hO
            have hO := Grows.refl u
            repeat (first | (refine ord_take hO _ ?_ (by simp only [List.getElem?_cons_succ, List.getElem?_cons_zero]; rfl) (by rfl) ?_ ?_; rotate_left; (· (intro u hu0 hu; (try go_simp); (try with_reducible rfl))); try simp only [Act.put, List.setIfInBounds_toArray, List.set_cons_zero, List.set_cons_succ]) | (refine ord_skip _ (by simp only [List.getElem?_cons_succ, List.getElem?_cons_zero]; rfl) (by rfl) ?_; try simp only [Act.put, List.setIfInBounds_toArray, List.set_cons_zero, List.set_cons_succ]))
            refine ord_done (fun w18 hu2 => ?_)
            simp only [List.drop_succ_cons, List.drop_zero]
            have g18 := Grows.trans hgu hu2
            clear hO hu hu2
            go_wp2_with fail
            refine NoPanic.normal ?_
            go_wp2_with (first | go_big_skip | fail)
            go_roundw
            case rel => exact ⟨k + 1, by omega, by go_num, g18⟩
            case measure => simp [intOf]; omega
        · obtain rfl : k = 3 := by omega
          go_wp2_with fail
          refine (LVx.out wr hg1).mono ?_
          rintro e w12 ⟨rfl, hg12⟩
          go_wp2_with fail
          go_ret
          exact ⟨rfl, Grows.trans g011 (Grows.trans hg1 hg12)⟩
    · obtain rfl : M = 0 := by omega
      clear hcond hM0
      go_wp2_with (refine wpList_storeT rfl 49 (.tmp 8) (.tmp 17) rfl w5.heap.size zcells vo 36 rfl rfl hZ5 zcells_len hvol rx_size hvoo ?_; intro w6 hbox6 ht6; have hg56 : Grows w5 w6 := turns_grow hz5 ht6 (Nat.le_refl _); have hc35 := hbox6.cell hvo35; have hc2 := hbox6.cell hx0; have hf2 := hbox6.free 2)
      have htS := Turns.of_set (S := fun k => k = w5.heap.size) (b := w5.heap.size) (o := 2) w6 (.int .i64 q) rfl
      have hb7 := (hb5.later hg56).turned htS (by omega)
      have hx7 := (hx5.later hg56).turned htS (by omega)
      have ho7 := hbox6.set_ (k := 2) (by omega) (.int .i64 q)
      have hRg := (R5.later hg56).turned (R5.lies.below hg56) htS (fun k hk h => by omega)
      have R3o := OwnIt.recs hown3 (fun it hi => (hgxo.its it hi).1)
      have hRo := (R3o.later hg56).turned (R3o.lies.below hg56) htS (fun k hk h => by omega)
      have hg07 : Grows w (w6.setCell ⟨w5.heap.size, 2, none⟩ (.int .i64 q)) := turns_grow (Grows.trans hg05 hg56) htS (by have := hg05.size; omega)
      change Code.wp _ _ _ _ (w6.setCell ⟨w5.heap.size, 2, none⟩ (.int .i64 q))
      generalize w6.setCell ⟨w5.heap.size, 2, none⟩ (.int .i64 q) = w7 at *
      obtain ⟨od, hod⟩ : ∃ od : Ixd, od = ⟨gx.a, gx.b, q, gx.im, gx.its⟩ := ⟨_, rfl⟩
      have hLg : Lying w7 (gx, A1, c1) := ⟨hgxo, by unfold maxLen; show gx.its.length ≤ _; omega, hRg⟩
      have hLo : Lying w7 (od, A3, c3) := ⟨by rw [hod]; exact ⟨hgxo.a, hgxo.b, hqI, hgxo.im, hgxo.its⟩, by rw [hod]; unfold maxLen; show gx.its.length ≤ _; omega, by rw [hod]; exact hRo⟩
      obtain ⟨A3', hA3'⟩ : ∃ A3' : Option Addr, A3' = A3 := ⟨_, rfl⟩
      obtain ⟨vp, hvpe⟩ : ∃ vp, vp = vo.set 2 (.int .i64 q) := ⟨_, rfl⟩
      have hvp : vp = ent3 (od, A3', c3) := by rw [hvpe, hset2 q, hod, hA3']; rfl
      have hvpl : vp.length = 36 := by rw [hvpe, List.length_set]; exact hvol
      rw [← hA3'] at hLo
      rw [← hvpe] at ho7
      clear hod hA3' hvpe htS hRg hRo R3o
      clear hc35 hc2 hf2 hbox6 hZ5 hz5 hq hqw
      have hgd := (Grows.refl w7).drew
      have hO := Grows.refl w7.drew
      have l3 : ∀ u, Grows w7.drew u → (Instr.loadAt 49 (.pointer (some ⟨w.heap.size, 0, none⟩))).run Tryd.prog u = .ok (.agg vs.toArray) u := fun u h => (hb7.later (Grows.trans hgd h)).load Tryd.underlying49 rfl (by rw [hvl]; exact rx_size)
      have l7 : ∀ u, Grows w7.drew u → (Instr.loadAt 49 (.pointer (some ⟨w3.heap.size, 0, none⟩))).run Tryd.prog u = .ok (.agg vx.toArray) u := fun u h => (hx7.later (Grows.trans hgd h)).load Tryd.underlying49 rfl (by rw [hvxl]; exact rx_size)
      have l8 : ∀ u, Grows w7.drew u → (Instr.loadAt 49 (.pointer (some ⟨w5.heap.size, 0, none⟩))).run Tryd.prog u = .ok (.agg vp.toArray) u := fun u h => (ho7.later (Grows.trans hgd h)).load Tryd.underlying49 rfl (by rw [hvpl]; exact rx_size)
      refine wp_region_ord 6 [(0, true), (2, true), (3, true), (1, false), (4, false), (5, true)] (by kernel_rfl) (by kernel_rfl) ?_
      repeat (first | (refine ord_load hO _ _ (by simp only [List.getElem?_cons_succ, List.getElem?_cons_zero]; rfl) (by rfl) 49 (.tmp 3) (by rfl) _ (by rfl) l3 ?_; try simp only [Act.put, List.setIfInBounds_toArray, List.set_cons_zero, List.set_cons_succ]) | (refine ord_load hO _ _ (by simp only [List.getElem?_cons_succ, List.getElem?_cons_zero]; rfl) (by rfl) 49 (.tmp 7) (by rfl) _ (by rfl) l7 ?_; try simp only [Act.put, List.setIfInBounds_toArray, List.set_cons_zero, List.set_cons_succ]) | (refine ord_load hO _ _ (by simp only [List.getElem?_cons_succ, List.getElem?_cons_zero]; rfl) (by rfl) 49 (.tmp 8) (by rfl) _ (by rfl) l8 ?_; try simp only [Act.put, List.setIfInBounds_toArray, List.set_cons_zero, List.set_cons_succ]) | (refine ord_take hO _ ?_ (by simp only [List.getElem?_cons_succ, List.getElem?_cons_zero]; rfl) (by rfl) ?_ ?_; rotate_left; (· (intro u hu0 hu; (try go_simp); (try with_reducible rfl))); try simp only [Act.put, List.setIfInBounds_toArray, List.set_cons_zero, List.set_cons_succ]) | (refine ord_skip _ (by simp only [List.getElem?_cons_succ, List.getElem?_cons_zero]; rfl) (by rfl) ?_; try simp only [Act.put, List.setIfInBounds_toArray, List.set_cons_zero, List.set_cons_succ]))
      (refine ord_move _ (by simp only [List.getElem?_cons_succ, List.getElem?_cons_zero]; rfl) (by rfl) (fun u hu K hK => ?_); go_simp)
      refine (FX.out u (Grows.trans hg07 (Grows.trans hgd hu))).mono ?_
      rintro e w8 ⟨A8, c8, rfl, hcm8, hown8, hg8⟩
      refine hK.out _ _ hg8 ?_
      clear hK K l3 l7 l8 hO
      have hO := Grows.refl w8
      have hg78 : Grows w7 w8 := Grows.trans hgd (Grows.trans hu hg8)
      have hvzl := xcells_len hfxo.im A8 c8
      have R8 := OwnIt.recs hown8 (fun it hi => (hfxo.its it hi).1)
      generalize hvz : xcells (fewX x) A8 c8 = vz at *
      have HVZ := Lib.hid hvz
      have HSL : ∀ u, (Instr.buildSlice 62 3 #[(0, .agg vz.toArray), (1, .agg vx.toArray), (2, .agg vp.toArray)]).run Tryd.prog u = .ok (.slice (some ⟨u.heap.size, 0, none⟩) 3 3) (u.alloc (.cells [vz, vx, vp].flatten.toArray 49)) := fun u =>
        slice_rx u [vz, vx, vp] (fun r hr => by simp at hr; rcases hr with rfl | rfl | rfl <;> assumption) (by simp) (by simp)
      try repeat (first | (refine ord_take hO _ ?_ (by simp only [List.getElem?_cons_succ, List.getElem?_cons_zero]; rfl) (by rfl) ?_ ?_; rotate_left; (· (intro u hu0 hu; (try go_simp); (try with_reducible rfl))); try simp only [Act.put, List.setIfInBounds_toArray, List.set_cons_zero, List.set_cons_succ]) | (refine ord_skip _ (by simp only [List.getElem?_cons_succ, List.getElem?_cons_zero]; rfl) (by rfl) ?_; try simp only [Act.put, List.setIfInBounds_toArray, List.set_cons_zero, List.set_cons_succ]))
      refine ord_bslice _ (by simp only [List.getElem?_cons_succ, List.getElem?_cons_zero]; rfl) (by rfl) _ _ _ (by rfl) _ _ _ HSL ?_ (fun u9 hu9 => ?_)
      · go_simp
      simp only [Act.put, List.setIfInBounds_toArray, List.set_cons_zero, List.set_cons_succ]
      have hfl : [vz, vx, vp].flatten = vz ++ (vx ++ vp) := by simp
      have hga := grows_alloc u9 (.cells [vz, vx, vp].flatten.toArray 49)
      have hLn := Lies.new u9 49 [vz, vx, vp].flatten
      have hHR0 : Recs (u9.alloc (.cells [vz, vx, vp].flatten.toArray 49)) (some ⟨u9.heap.size, 0, none⟩) 36 [vz, vx, vp] := ⟨fun r hr => by simp at hr; rcases hr with rfl | rfl | rfl <;> assumption, hLn.mono (by simp)⟩
      have hg79 : Grows w7 (u9.alloc (.cells [vz, vx, vp].flatten.toArray 49)) := Grows.trans hg78 (Grows.trans hu9 hga)
      have hg89 : Grows w8 (u9.alloc (.cells [vz, vx, vp].flatten.toArray 49)) := Grows.trans hu9 hga
      generalize u9.alloc (.cells [vz, vx, vp].flatten.toArray 49) = wq at *
      generalize u9.heap.size = br at *
      clear hvz HSL hLn hga hfl hu9
      have hO := Grows.refl wq
      try repeat (first | (refine ord_take hO _ ?_ (by simp only [List.getElem?_cons_succ, List.getElem?_cons_zero]; rfl) (by rfl) ?_ ?_; rotate_left; (· (intro u hu0 hu; (try go_simp); (try with_reducible rfl))); try simp only [Act.put, List.setIfInBounds_toArray, List.set_cons_zero, List.set_cons_succ]) | (refine ord_skip _ (by simp only [List.getElem?_cons_succ, List.getElem?_cons_zero]; rfl) (by rfl) ?_; try simp only [Act.put, List.setIfInBounds_toArray, List.set_cons_zero, List.set_cons_succ]))
      refine ord_done (fun w11 hu11 => ?_)
      simp only [List.drop_succ_cons, List.drop_zero]
      have hHR := hHR0.later hu11
      have g011 := Grows.trans hg07 (Grows.trans hg79 hu11)
      have hES : ∀ i, i < 3 → ∃ t : Ent3, [vz, vx, vp][i]? = some (ent3 t) ∧ MayP w11 t := fun i hi => by
        match i, hi with
        | 0, _ => exact ⟨(fewX x, A8, c8), by rw [ent3, HVZ.out]; rfl, MayP.of_lying (w := w11) ⟨hfxo, by unfold maxLen; show (fewX x).its.length ≤ _; omega, R8.later (Grows.trans hg89 hu11)⟩⟩
        | 1, _ => exact ⟨(gx, A1, c1), by rw [ent3, HVX.out]; rfl, MayP.of_lying (hLg.later (Grows.trans hg79 hu11))⟩
        | 2, _ => exact ⟨(od, A3', c3), by rw [hvp]; rfl, MayP.of_lying (hLo.later (Grows.trans hg79 hu11))⟩
      have hES := Lib.hid hES
      have LVx := Lib.hid (fun u (h : Grows w11 u) => LV.out u (Grows.trans g011 h))
      clear R8 HVZ hown8 hHR0 hO hu11 hg89 hg79
      go_wp2_with fail
      refine NoPanic.normal ?_
      go_wp2_with fail
      go_loopw [10] (fun i wr => ∃ k : Nat, k ≤ 3 ∧ i = .int .i64 (k : Int) ∧ Grows w11 wr) (fun i _ => 3 - (intOf i).toNat)
      case atStart => exact ⟨0, by omega, rfl, Grows.refl _⟩
      case round =>
        obtain ⟨k, hk, rfl, hg1⟩ := hrel
        by_cases hk3 : k < 3
        · obtain ⟨t, ht, hP⟩ := hES.out k hk3
          have q1 : (k : Int) < 3 := by omega
          obtain ⟨ad, had, _, cx⟩ := hHR.at_ (by decide) ht
          injection had with had
          subst had
          have hel : (ent3 t).length = 36 := hHR.each _ (List.mem_of_getElem? ht)
          have ld : ∀ u, Grows w11 u → (Instr.loadAt 49 (.pointer (some ⟨br, k * 36, none⟩))).run Tryd.prog u = .ok (.agg (ent3 t).toArray) u := fun u hu =>
            load_any u _ _ (ent3 t) _ (fun j v hv => by have := hcell_later (cx j v hv) hu; rw [add_plain] at this ⊢; rwa [Nat.zero_add] at this) Tryd.underlying49 rfl (by rw [hel]; exact rx_size)
          have LD := Lib.hid ld
          have ldr := ld wr hg1
          have P1 := Lib.hid hP.rmay
          have P2 := Lib.hid hP.may
          have P3 := Lib.hid hP.of_
          have P4 := Lib.hid hP.no
          have P5 := Lib.hid hP.ok
          clear hP ld cx ht hel
          generalize ent3 t = et at *
          generalize mayI t.1 = qm at *
          cases qm with
          | true =>
            obtain ⟨bys, tt, hbl, W1, B1, T1, T2⟩ := P5.out rfl
            have W1 := Lib.hid W1
            have B1 := Lib.hid B1
            have T1 := Lib.hid T1
            have T2 := Lib.hid T2
            clear P4 P5
            go_wp2_with (with_reducible refine wpList_loads rfl 49 (.tmp 53) rfl _ rfl _ ldr ?_)
            with_reducible refine (P1.out wr hg1).mono ?_
            rintro e w12 ⟨rfl, hg12⟩
            have g12 := Grows.trans hg1 hg12
            have ld12 := LD.out w12 g12
            go_wp2_with (with_reducible refine wpList_loads rfl 49 (.tmp 59) rfl _ rfl _ ld12 ?_)
            with_reducible refine (P3.out w12 g12).mono ?_
            rintro e w13 ⟨rfl, hg13⟩
            have g13 := Grows.trans g12 hg13
            go_wp2_with fail
            with_reducible refine (W1.out w13 g13).mono ?_
            rintro e w14 ⟨v14, rfl, hown14, hg14⟩
            generalize hbn : bys.length = bn at *
            have HBN := Lib.hid hbn
            clear hbn
            obtain ⟨A14, c14, rfl, hc14⟩ := own_form hown14
            have g14 := Grows.trans g13 hg14
            have ld14 := LD.out w14 g14
            go_wp2_with (with_reducible refine wpList_loads rfl 49 (.tmp 67) rfl _ rfl _ ld14 ?_)
            with_reducible refine (P3.out w14 g14).mono ?_
            rintro e w15 ⟨rfl, hg15⟩
            have g15 := Grows.trans g14 hg15
            go_wp2_with fail
            with_reducible refine (P2.out w15 g15).mono ?_
            rintro e w16 ⟨rfl, hg16⟩
            have g16 := Grows.trans g15 hg16
            have hL16 := (Lies.of_own hown14).later (Grows.trans hg15 hg16)
            clear ld12 ld14 ldr hown14
            go_wp2_with (first | go_big_skip | fail)
            have hgd := Grows.trans g16 (Grows.refl w16).drew
            have hO := Grows.refl w16.drew
            have ldq : ∀ u, Grows w16.drew u → (Instr.loadAt 49 (.pointer (some ⟨br, k * 36, none⟩))).run Tryd.prog u = .ok (.agg et.toArray) u := fun u h => LD.out u (Grows.trans hgd h)
            have cv1 : ∀ u, Grows w16.drew u → (convert 22 9 (.slice A14 bn c14)).run Tryd.prog u = .ok (.string ⟨bys.toArray⟩) u := fun u h =>
              run_string_of u 22 5 Tryd.underlying22 Tryd.underlying5 9 Tryd.underlying9 _ A14 bn c14 bys HBN.out (hL16.later (Grows.trans (Grows.refl w16).drew h))
            refine wp_region_ord 26 [(0, true), (1, true), (2, true), (3, true), (4, true), (5, true), (6, true), (7, true), (8, false), (9, true), (10, true), (11, true), (12, true), (13, true), (14, true), (15, true), (16, true), (17, true), (18, true), (19, true), (20, true), (21, true), (22, true), (23, true), (24, true), (25, true)] (by kernel_rfl) (by kernel_rfl) ?_
            repeat (first | (refine ord_load hO _ _ (by simp only [List.getElem?_cons_succ, List.getElem?_cons_zero]; rfl) (by rfl) 49 (.tmp 85) (by rfl) _ (by rfl) ldq ?_; try simp only [Act.put, List.setIfInBounds_toArray, List.set_cons_zero, List.set_cons_succ]) | (refine ord_take hO _ ?_ (by simp only [List.getElem?_cons_succ, List.getElem?_cons_zero]; rfl) (by rfl) ?_ ?_; rotate_left; (· (intro u hu0 hu; (try go_simp); (try with_reducible rfl))); try simp only [Act.put, List.setIfInBounds_toArray, List.set_cons_zero, List.set_cons_succ]) | (refine ord_skip _ (by simp only [List.getElem?_cons_succ, List.getElem?_cons_zero]; rfl) (by rfl) ?_; try simp only [Act.put, List.setIfInBounds_toArray, List.set_cons_zero, List.set_cons_succ]))
            (refine ord_move _ (by simp only [List.getElem?_cons_succ, List.getElem?_cons_zero]; rfl) (by rfl) (fun u hu K hK => ?_); go_simp)
            with_reducible refine (B1.out u (Grows.trans hgd hu)).mono ?_
            rintro e w17 ⟨v17, rfl, hown17, hg17⟩
            obtain ⟨A17, c17, rfl, hc17⟩ := own_form hown17
            refine hK.out _ _ hg17 ?_
            have g17 := Grows.trans hgd (Grows.trans hu hg17)
            have hL17 := Lies.of_own hown17
            clear hK K ldq cv1 hO hown17 hu
            have hO := Grows.refl w17
            have ldq : ∀ u, Grows w17 u → (Instr.loadAt 49 (.pointer (some ⟨br, k * 36, none⟩))).run Tryd.prog u = .ok (.agg et.toArray) u := fun u h => LD.out u (Grows.trans g17 h)
            have cv2 : ∀ u, Grows w17 u → (convert 22 9 (.slice A17 bn c17)).run Tryd.prog u = .ok (.string ⟨bys.toArray⟩) u := fun u h =>
              run_string_of u 22 5 Tryd.underlying22 Tryd.underlying5 9 Tryd.underlying9 _ A17 bn c17 bys HBN.out (hL17.later h)
            have Z1 : Hid (∀ u, Grows w17 u → Calls Tryd.prog 35 #[.agg et.toArray] u fun e w' => e = .returned (.agg et.toArray) ∧ Grows u w') := fun u h => P3.out u (Grows.trans g17 h)
            have Z2 : Hid (∀ u, Grows w17 u → Calls Tryd.prog 26 #[.agg et.toArray] u fun e w' => e = .returned (.int .i64 tt) ∧ Grows u w') := fun u h => T1.out u (Grows.trans g17 h)
            have Z3 : Hid (∀ u, Grows w17 u → Calls Tryd.prog 37 #[.agg et.toArray] u fun e w' => e = .returned (.int .i64 tt) ∧ Grows u w') := fun u h => T2.out u (Grows.trans g17 h)
            repeat (first | (refine ord_load hO _ _ (by simp only [List.getElem?_cons_succ, List.getElem?_cons_zero]; rfl) (by rfl) 49 (.tmp 93) (by rfl) _ (by rfl) ldq ?_; try simp only [Act.put, List.setIfInBounds_toArray, List.set_cons_zero, List.set_cons_succ]) | (refine ord_load hO _ _ (by simp only [List.getElem?_cons_succ, List.getElem?_cons_zero]; rfl) (by rfl) 49 (.tmp 99) (by rfl) _ (by rfl) ldq ?_; try simp only [Act.put, List.setIfInBounds_toArray, List.set_cons_zero, List.set_cons_succ]) | (refine ord_take hO _ ?_ (by simp only [List.getElem?_cons_succ, List.getElem?_cons_zero]; rfl) (by rfl) ?_ ?_; rotate_left; (· (intro u hu0 hu; (try go_simp); (try with_reducible rfl))); try simp only [Act.put, List.setIfInBounds_toArray, List.set_cons_zero, List.set_cons_succ]) | (refine ord_skip _ (by simp only [List.getElem?_cons_succ, List.getElem?_cons_zero]; rfl) (by rfl) ?_; try simp only [Act.put, List.setIfInBounds_toArray, List.set_cons_zero, List.set_cons_succ]) | (refine ord_call hO _ ?_ (by simp only [List.getElem?_cons_succ, List.getElem?_cons_zero]; rfl) (by rfl) ?_ ?_; rotate_left; (· (intro u hu0 hu; go_simp; (try refine quiet_enter ?_); (first | (with_reducible exact Z1.out u hu) | (with_reducible exact Z2.out u hu) | (with_reducible exact Z3.out u hu)))); try simp only [Act.put, List.setIfInBounds_toArray, List.set_cons_zero, List.set_cons_succ]))
            refine ord_done (fun w18 hu => ?_)
            simp only [List.drop_succ_cons, List.drop_zero]
            have g18 := Grows.trans g17 hu
            clear hO hu ldq cv2 Z1 Z2 Z3
            go_wp2_with fail
            refine NoPanic.normal ?_
            go_wp2_with (first | go_big_skip | fail)
            go_roundw
            case rel => exact ⟨k + 1, by omega, by go_num, g18⟩
            case measure => simp [intOf]; omega
          | false =>
            have W1 := Lib.hid (P4.out rfl)
            clear P4 P5
            go_wp2_with (with_reducible refine wpList_loads rfl 49 (.tmp 53) rfl _ rfl _ ldr ?_)
            with_reducible refine (P1.out wr hg1).mono ?_
            rintro e w12 ⟨rfl, hg12⟩
            have g12 := Grows.trans hg1 hg12
            have ld12 := LD.out w12 g12
            go_wp2_with (with_reducible refine wpList_loads rfl 49 (.tmp 59) rfl _ rfl _ ld12 ?_)
            with_reducible refine (P3.out w12 g12).mono ?_
            rintro e w13 ⟨rfl, hg13⟩
            have g13 := Grows.trans g12 hg13
            go_wp2_with fail
            with_reducible refine (W1.out w13 g13).mono ?_
            rintro e w14 ⟨rfl, hg14⟩
            have g14 := Grows.trans g13 hg14
            have ld14 := LD.out w14 g14
            go_wp2_with (with_reducible refine wpList_loads rfl 49 (.tmp 67) rfl _ rfl _ ld14 ?_)
            with_reducible refine (P3.out w14 g14).mono ?_
            rintro e w15 ⟨rfl, hg15⟩
            have g15 := Grows.trans g14 hg15
            go_wp2_with fail
            with_reducible refine (P2.out w15 g15).mono ?_
            rintro e w16 ⟨rfl, hg16⟩
            have g16 := Grows.trans g15 hg16
            clear ld12 ld14 ldr
            go_wp2_with (first | go_big_skip | fail)
            have hgd := Grows.trans g16 (Grows.refl w16).drew
            have hO := Grows.refl w16.drew
            refine wp_region_ord 26 [(0, true), (1, true), (2, true), (3, true), (4, true), (5, true), (6, true), (7, true), (8, false), (9, true), (10, true), (11, true), (12, true), (13, true), (14, true), (15, true), (16, true), (17, true), (18, true), (19, true), (20, true), (21, true), (22, true), (23, true), (24, true), (25, true)] (by kernel_rfl) (by kernel_rfl) ?_
            repeat (first | (refine ord_take hO _ ?_ (by simp only [List.getElem?_cons_succ, List.getElem?_cons_zero]; rfl) (by rfl) ?_ ?_; rotate_left; (· (intro u hu0 hu; (try go_simp); (try with_reducible rfl))); try simp only [Act.put, List.setIfInBounds_toArray, List.set_cons_zero, List.set_cons_succ]) | (refine ord_skip _ (by simp only [List.getElem?_cons_succ, List.getElem?_cons_zero]; rfl) (by rfl) ?_; try simp only [Act.put, List.setIfInBounds_toArray, List.set_cons_zero, List.set_cons_succ]))
            (refine ord_pass _ (by simp only [List.getElem?_cons_succ, List.getElem?_cons_zero]; rfl) (by rfl) (fun u hu => ?_); try simp only [Act.put, List.setIfInBounds_toArray, List.set_cons_zero, List.set_cons_succ])
            have hgu := Grows.trans hgd hu
            clear hO
            have hO := Grows.refl u
            repeat (first | (refine ord_take hO _ ?_ (by simp only [List.getElem?_cons_succ, List.getElem?_cons_zero]; rfl) (by rfl) ?_ ?_; rotate_left; (· (intro u hu0 hu; (try go_simp); (try with_reducible rfl))); try simp only [Act.put, List.setIfInBounds_toArray, List.set_cons_zero, List.set_cons_succ]) | (refine ord_skip _ (by simp only [List.getElem?_cons_succ, List.getElem?_cons_zero]; rfl) (by rfl) ?_; try simp only [Act.put, List.setIfInBounds_toArray, List.set_cons_zero, List.set_cons_succ]))
            refine ord_done (fun w18 hu2 => ?_)
            simp only [List.drop_succ_cons, List.drop_zero]
            have g18 := Grows.trans hgu hu2
            clear hO hu hu2
            go_wp2_with fail
            refine NoPanic.normal ?_
            go_wp2_with (first | go_big_skip | fail)
            go_roundw
            case rel => exact ⟨k + 1, by omega, by go_num, g18⟩
            case measure => simp [intOf]; omega
        · obtain rfl : k = 3 := by omega
          go_wp2_with fail
          refine (LVx.out wr hg1).mono ?_
          rintro e w12 ⟨rfl, hg12⟩
          go_wp2_with fail
          go_ret
          exact ⟨rfl, Grows.trans g011 (Grows.trans hg1 hg12)⟩
end Go.Proofs.YtnokloedbckijaaDoor
