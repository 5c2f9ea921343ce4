/-
  The walk of IndexRound: what is written is read as it was.
-/
import Derived.Test.YtnokloedbckijaaDoorN3
import Derived.Test.YtnokloedbckijaaDoorJ5
import Derived.Test.YtnokloedbckijaaDoorJ6
import Derived.Test.YtnokloedbckijaaDoorN1
import Derived.Test.YtnokloedbckijaaDoorJ1
namespace Go.Proofs.YtnokloedbckijaaDoor
open Go.RowKit
set_option linter.unusedVariables false
set_option maxRecDepth 20000
set_option linter.unusedSimpArgs false

set_option maxHeartbeats 16000000 in
theorem round_walk (x : Ixd) (A : Option Addr) (c : Nat) (B : Option Addr) (n d : Nat) (bs : List UInt8) (w : World) (hs : Starts w) (hky : Keys w) (hx : x.Ok) (hI : Recs w A 33 (x.its.map icells)) (hnc : x.its.length ≤ maxLen) (hl : bs.length = n) (hB : Lies w w.heap.size B (bs.map bv)) (hnd : n ≤ d) (hdm : d ≤ maxLen) :
    Calls Tryd.prog 8 #[xval x A c, .slice B n d] w fun e w' => e = .returned (.bool true) ∧ Grows w w' := by
  have LV := Lib.hid (fun u (h : Grows w u) => lives11_any u (hs.later h) (hky.later h))
  have GX := Lib.hid (fun u (h : Grows w u) => good11_any x A c u hx (hI.later h) hnc)
  have FB := Lib.hid (fun u (h : Grows w u) => few_bytes B n d 100 bs u hl (hB.later h) hnd (by decide) hdm)
  have hgxo := goodX_ok hx
  have hgm := goodX_may hx
  have hfx := goodX_few x
  have hgp := goodP_ok x.a x.b x.c
  have hga' : (goodX x).a = ((goodP x.a x.b x.c).mn : Int) := rfl
  have hgb' : (goodX x).b = ((goodP x.a x.b x.c).av : Int) := rfl
  have hgc' : (goodX x).c = ((goodP x.a x.b x.c).mx : Int) := rfl
  have hb := Has.new w 49 (xcells x A c)
  have hg := grows_alloc w (.cells (xcells x A c).toArray 49)
  have hvl := xcells_len hx.im A c
  generalize goodX x = gx at *
  generalize goodP x.a x.b x.c = p at *
  unfold xval
  unfold xval at GX
  generalize xcells x A c = vs at *
  have ld2 := hb.load Tryd.underlying49 rfl (by rw [hvl]; exact rx_size)
  go_enter Tryd.func8, Tryd.ntmps8
  go_wp2_with (first | (change wpList _ _ _ _ _ (w.alloc (.cells vs.toArray 49)); generalize w.alloc (.cells vs.toArray 49) = w2 at *) | (with_reducible refine wpList_loads rfl 49 (.tmp 2) rfl _ rfl _ ld2 ?_))
  refine (GX.out _ hg).mono ?_
  rintro e w3 ⟨A1, c1, rfl, hc1, hcm1, hown1, hg3⟩
  have hg03 := Grows.trans hg hg3
  have hZ3 := Has.new w3 49 zcells
  have hz3 := grows_alloc w3 (.cells zcells.toArray 49)
  have hvxl := xcells_len hgxo.im A1 c1
  have hvxo := xcells_one gx A1 c1
  have hs3 := hg03.size
  have hrec1 : Recs w3 A1 33 (gx.its.map icells) := OwnIt.recs hown1 (fun it hi => (hgxo.its it hi).1)
  have hv0 : (xcells gx A1 c1)[0]? = some (.int .i64 (p.mn : Int)) := by rw [← hga']; rfl
  have hv1 : (xcells gx A1 c1)[1]? = some (.int .i64 (p.av : Int)) := by rw [← hgb']; rfl
  have hv2 : (xcells gx A1 c1)[2]? = some (.int .i64 (p.mx : Int)) := by rw [← hgc']; rfl
  have OF := Lib.hid (fun u => of_any11 gx A1 c1 u hgxo.im)
  have WR := Lib.hid (fun u (h : Grows w3 u) => write_ok gx A1 c1 u hgxo (hrec1.later h) hgm)
  have SG := Lib.hid (fun u (A' : Option Addr) (c' : Nat) (h : Grows w3 u) (h1 : Recs u A' 33 (gx.its.map icells)) => same_any11 gx gx A' A1 c' c1 u hgxo hgxo h1 (hrec1.later h) (by unfold maxLen; omega) (by unfold maxLen; omega))
  unfold xval at OF WR SG
  generalize hvx : xcells gx A1 c1 = vx at *
  have HVX := Lib.hid hvx
  clear hvx ld2 hb GX hown1 hrec1
  go_wp2_with (first | (refine wpList_storeT rfl 49 (.tmp 5) (.tmp 17) rfl w3.heap.size zcells vx 36 rfl rfl hZ3 zcells_len hvxl rx_size hvxo ?_; intro w4 hbox4 ht4; have hg34 : Grows w3 w4 := turns_grow hz3 ht4 (Nat.le_refl _); have hg04 := Grows.trans hg03 hg34; have ld4 := hbox4.load Tryd.underlying49 rfl (by rw [hvxl]; exact rx_size)) | (with_reducible refine wpList_loads rfl 49 (.tmp 5) rfl _ rfl _ ld4 ?_))
  refine (OF.out w4).mono ?_
  rintro e w5 ⟨rfl, hg5⟩
  go_wp2_with fail
  refine (WR.out w5 (Grows.trans hg34 hg5)).mono ?_
  rintro e w6 ⟨v6, rfl, hown6, hg6⟩
  obtain ⟨A6, c6, rfl, hc6⟩ := own_form hown6
  have hL6 := Lies.of_own hown6
  go_wp2_with fail
  refine (read_all gx A6 _ c6 w6 hgxo hgm rfl hL6 hc6).mono ?_
  rintro e w7 ⟨A7, c7, rfl, hc7, hown7, hg7⟩
  have hrec7 : Recs w7 A7 33 (gx.its.map icells) := OwnIt.recs hown7 (fun it hi => (hgxo.its it hi).1)
  have hzl := xcells_len hgxo.im A7 c7
  have hzo := xcells_one gx A7 c7
  have SG7 := Lib.hid (fun u (h : Grows w7 u) => SG.out u A7 c7 (Grows.trans hg34 (Grows.trans hg5 (Grows.trans hg6 (Grows.trans hg7 h)))) (hrec7.later h))
  have g47 := Grows.trans hg5 (Grows.trans hg6 hg7)
  have g07 := Grows.trans hg04 g47
  have hb7 := hbox4.later g47
  have hZ7 := Has.new w7 44 zcells
  have hz7 := grows_alloc w7 (.cells zcells.toArray 44)
  unfold xval
  generalize hvz : xcells gx A7 c7 = vz at *
  have HVZ := Lib.hid hvz
  clear hvz ld4 hZ3 hz3 ht4 hbox4 hown6 hL6 hown7 hrec7 WR SG
  go_wp2_with (refine wpList_storeT rfl 44 (.tmp 8) (.tmp 27) rfl w7.heap.size zcells vz 36 rfl rfl hZ7 zcells_len hzl ix_size hzo ?_; intro w8 hbox8 ht8)
  have hg78 := turns_grow hz7 ht8 (Nat.le_refl _)
  have hg08 := Grows.trans g07 hg78
  have hb8 := hb7.later hg78
  have hgd := (Grows.refl w8).drew
  have hw38 : w3.heap.size < w8.heap.size := hb8.lt
  have hO := Turns.refl (fun q => w8.heap.size ≤ q) w8.drew
  have ldp : ∀ u, Turns (fun q => w8.heap.size ≤ q) w8.drew u → (Instr.loadAt 24 (.pointer (some ⟨w3.heap.size, 0, none⟩))).run Tryd.prog u = .ok (pv p) u := fun u h =>
    range_load (o := 0) (cs := [.int .i64 (p.mn : Int), .int .i64 (p.av : Int), .int .i64 (p.mx : Int)]) (fun j v hv => by
      have hh := (hb8.later hgd).turned h (by omega)
      match j, hv with
      | 0, hv => exact hh.cell (by rw [hv0]; exact hv)
      | 1, hv => exact hh.cell (by rw [hv1]; exact hv)
      | 2, hv => exact hh.cell (by rw [hv2]; exact hv)) Tryd.underlying24 rfl prm_size
  have CT := Lib.hid (fun (A' : Option Addr) (n' c' : Nat) (bs' : List UInt8) (u : World) (h : Grows w u) (h1 : bs'.length = n') (h2 : n' ≤ c') (h3 : Lies u u.heap.size A' (bs'.map bv)) (h4 : n' ≤ 100) => of_ok p hgp A' n' c' bs' u h1 h2 h3 (hs.later h) (hky.later h) (by omega) (by rw [items_len]; have := chunks_len p bs'; omega))
  clear hZ7 hz7 ht8
  refine wp_region_planc (S := fun q => w8.heap.size ≤ q) 11 (.take 0 (.take 2 (.take 3 (.two 1 (.two 4 (.take 5 (.take 6 (.take 7 (.one 8 (.one 9 (.take 10 .fin)))))) 8 (.one 4 (.take 5 (.take 6 (.take 7 (.one 9 (.take 10 .fin))))))) 8 (.one 1 (.one 4 (.take 5 (.take 6 (.take 7 (.one 9 (.take 10 .fin)))))))))))  (by kernel_rfl) (by kernel_rfl) ?_
  repeat (first | (refine planc_load hO _ _ (by simp only [List.getElem?_cons_succ, List.getElem?_cons_zero]; rfl) (by rfl) 24 (.tmp 32) (by rfl) _ (by rfl) ldp ?_; try simp only [Act.put, List.setIfInBounds_toArray, List.set_cons_zero, List.set_cons_succ]) | (refine planc_take hO _ ?_ (by simp only [List.getElem?_cons_succ, List.getElem?_cons_zero]; rfl) (by rfl) ?_ ?_; rotate_left; (· (intro u hu0 hu; (try go_simp); (try with_reducible rfl))); try simp only [Act.put, List.setIfInBounds_toArray, List.set_cons_zero, List.set_cons_succ]))
  have gw0 := Grows.trans hg08 hgd
  have hHL : Hid ((bs.take 100).length = min n 100) := by show _ = _; rw [List.length_take, hl, Nat.min_comm]
  have hm1 : min n 100 ≤ 100 := Nat.min_le_right _ _
  generalize bs.take 100 = own at *
  generalize min n 100 = m1 at *
  refine planc_two _ _ (by simp only [List.getElem?_cons_succ, List.getElem?_cons_zero]; rfl) (by simp only [List.getElem?_cons_succ, List.getElem?_cons_zero]; rfl) (by rfl) (by rfl) (fun u hu K hK => ?_) (fun u hu K hK => ?_)
  · go_simp
    have gwu := Grows.trans gw0 hu
    refine (FB.out u gwu).mono ?_
    rintro e v1 ⟨A9, c9, rfl, hc9, hown9, hL9, hg9⟩
    refine hK.out _ _ (Turns.of_grows hg9) ?_
    have gv1 := Grows.trans gwu hg9
    clear hK K
    refine planc_two _ _ (by simp only [List.getElem?_cons_succ, List.getElem?_cons_zero]; rfl) (by simp only [List.getElem?_cons_succ, List.getElem?_cons_zero]; rfl) (by rfl) (by rfl) (fun u2 hu2 K hK => ?_) (fun u2 hu2 K hK => ?_)
    · go_simp
      have gu2 := Grows.trans gv1 hu2
      refine (CT.out A9 m1 c9 own u2 gu2 hHL.out hc9 (hL9.later hu2) hm1).mono ?_
      rintro e v2 ⟨A10, c10, rfl, hc10, hown10, hg10⟩
      refine hK.out _ _ (Turns.of_grows hg10) ?_
      clear hK K
      have hO2 := Turns.refl (fun q => w8.heap.size ≤ q) v2
      repeat (first | (refine planc_take hO2 _ ?_ (by simp only [List.getElem?_cons_succ, List.getElem?_cons_zero]; rfl) (by rfl) ?_ ?_; rotate_left; (· (intro u hu0 hu; (try go_simp); (try with_reducible rfl))); try simp only [Act.put, List.setIfInBounds_toArray, List.set_cons_zero, List.set_cons_succ]))
      refine planc_move _ (by simp only [List.getElem?_cons_succ, List.getElem?_cons_zero]; rfl) (by rfl) (fun u3 hu3 K hK => ?_)
      go_simp
      refine hK.out _ _ (Turns.of_grows (grows_alloc _ _)) ?_
      clear hK K
      have hQ0 := Has.new u3 44 zcells
      have hq0 := grows_alloc u3 (.cells zcells.toArray 44)
      have gu3 := Grows.trans gu2 (Grows.trans hg10 hu3)
      have h83 : w8.heap.size ≤ u3.heap.size := (Grows.trans hgd (Grows.trans hu (Grows.trans hg9 (Grows.trans hu2 (Grows.trans hg10 hu3))))).size
      refine planc_storeT _ (by simp only [List.getElem?_cons_succ, List.getElem?_cons_zero]; rfl) (by rfl) 44 (.tmp 10) (.tmp 35) rfl u3.heap.size zcells (xcells (ofI p own) A10 c10) 36 rfl rfl hQ0 zcells_len (xcells_len (shaOf_len own) _ _) ix_size (xcells_one _ _ _) h83 (fun u4 v4 hu4 hQ4 ht4 => ?_)
      try simp only [Act.put, List.setIfInBounds_toArray, List.set_cons_zero, List.set_cons_succ]
      have hO4 := Turns.refl (fun q => w8.heap.size ≤ q) v4
      repeat (first | (refine planc_take hO4 _ ?_ (by simp only [List.getElem?_cons_succ, List.getElem?_cons_zero]; rfl) (by rfl) ?_ ?_; rotate_left; (· (intro u hu0 hu; (try go_simp); (try with_reducible rfl))); try simp only [Act.put, List.setIfInBounds_toArray, List.set_cons_zero, List.set_cons_succ]))
      refine planc_done (fun v5 hv5 => ?_)
      simp only [List.drop_succ_cons, List.drop_zero]
      have hbq := hQ4.later hv5
      have g24 : Grows v2 u4 := Grows.trans hu3 (Grows.trans hq0 hu4)
      have g2v : Grows v2 v4 := turns_grow g24 ht4 hu3.size
      have hg58 : Grows w8 v5 := Grows.trans (turns_grow (Grows.trans hgd (Grows.trans hu (Grows.trans hg9 (Grows.trans hu2 (Grows.trans hg10 g24))))) ht4 h83) hv5
      have hrecO0 : Recs v5 A10 33 ((ofI p own).its.map icells) := (OwnIt.recs (l := (ofI p own).its) hown10 (itemsOf_ok p own)).later (Grows.trans g2v hv5)
      clear hQ0 hq0 hQ4 ht4 hO2 hO4 hown10 hown9 FB CT ldp; clear hO
      obtain ⟨bq, hbqe⟩ : ∃ b, b = u3.heap.size := ⟨_, rfl⟩
      rw [← hbqe] at hbq ⊢
      clear hbqe
      have hsq := hg58.size
      have ldq := hbq.load Tryd.underlying44 rfl (by rw [xcells_len (shaOf_len own)]; exact ix_size)
      have hoX := ofI_ok p hgp own (by rw [hHL.out]; omega)
      have hoM := ofI_may p hgp own (by rw [hHL.out]; omega) (by rw [items_len]; have := chunks_len p own; rw [hHL.out] at this; omega)
      have hrecO : Recs v5 A10 33 ((ofI p own).its.map icells) := hrecO0
      clear hrecO0
      generalize ofI p own = ox at *
      have hqf := hoM.few
      go_wp2_with fail
      refine NoPanic.normal ?_
      go_wp2_with (with_reducible refine wpList_loads rfl 44 (.tmp 10) rfl _ rfl _ ldq ?_)
      refine (write_ok ox A10 c10 v5 hoX hrecO hoM).mono ?_
      rintro e y1 ⟨z1, rfl, hownz, hgy1⟩
      obtain ⟨A11, c11, rfl, hc11⟩ := own_form hownz
      have hLz := Lies.of_own hownz
      go_wp2_with fail
      refine (read_all ox A11 _ c11 y1 hoX hoM rfl hLz hc11).mono ?_
      rintro e y2 ⟨A12, c12, rfl, hc12, hown12, hgy2⟩
      have hrec12 : Recs y2 A12 33 (ox.its.map icells) := OwnIt.recs hown12 (fun it hi => (hoX.its it hi).1)
      have hZy := Has.new y2 44 zcells
      have hzy := grows_alloc y2 (.cells zcells.toArray 44)
      have hql12 := xcells_len hoX.im A12 c12
      have hqo12 := xcells_one ox A12 c12
      have hql10 := xcells_len hoX.im A10 c10
      have SO := Lib.hid (fun u (h : Grows y2 u) => same_any11 ox ox A12 A10 c12 c10 u hoX hoX (hrec12.later h) (hrecO.later (Grows.trans (Grows.trans hgy1 hgy2) h)) (by unfold maxLen; omega) (by unfold maxLen; omega))
      rw [sameX_iff.2 (rfl : ox = ox)] at SO
      unfold xval at SO ⊢
      generalize xcells ox A12 c12 = x12 at *
      generalize xcells ox A10 c10 = x10 at *
      clear hownz hLz hown12 hrec12 hrecO
      go_wp2_with (refine wpList_storeT rfl 44 (.tmp 14) (.tmp 45) rfl y2.heap.size zcells x12 36 rfl rfl hZy zcells_len hql12 ix_size hqo12 ?_; intro y3 hbox3 hty3)
      have hg23 := turns_grow hzy hty3 (Nat.le_refl _)
      have g53 : Grows v5 y3 := Grows.trans hgy1 (Grows.trans hgy2 hg23)
      have g83 := Grows.trans hg58 g53
      have gd := (Grows.refl y3).drew
      have hOr := Grows.refl y3.drew
      have H1 := Lib.hid (fun u (h : Grows y3.drew u) => OF.out u)
      have H2 := Lib.hid (fun u (h : Grows y3.drew u) => SG7.out u (Grows.trans hg78 (Grows.trans g83 (Grows.trans gd h))))
      rw [sameX_iff.2 (rfl : gx = gx)] at H2
      have H3 := Lib.hid (fun u (h : Grows y3.drew u) => SO.out u (Grows.trans hg23 (Grows.trans gd h)))
      have H4 := Lib.hid (fun u (h : Grows y3.drew u) => LV.out u (Grows.trans (Grows.trans hg08 g83) (Grows.trans gd h)))
      have l8 : ∀ u, Grows y3.drew u → (Instr.loadAt 44 (.pointer (some ⟨w7.heap.size, 0, none⟩))).run Tryd.prog u = .ok (.agg vz.toArray) u := fun u h => (hbox8.later (Grows.trans g83 (Grows.trans gd h))).load Tryd.underlying44 rfl (by rw [hzl]; exact ix_size)
      have l5 : ∀ u, Grows y3.drew u → (Instr.loadAt 49 (.pointer (some ⟨w3.heap.size, 0, none⟩))).run Tryd.prog u = .ok (.agg vx.toArray) u := fun u h => (hb8.later (Grows.trans g83 (Grows.trans gd h))).load Tryd.underlying49 rfl (by rw [hvxl]; exact rx_size)
      have l14 : ∀ u, Grows y3.drew u → (Instr.loadAt 44 (.pointer (some ⟨y2.heap.size, 0, none⟩))).run Tryd.prog u = .ok (.agg x12.toArray) u := fun u h => (hbox3.later (Grows.trans gd h)).load Tryd.underlying44 rfl (by rw [hql12]; exact ix_size)
      have l10 : ∀ u, Grows y3.drew u → (Instr.loadAt 44 (.pointer (some ⟨bq, 0, none⟩))).run Tryd.prog u = .ok (.agg x10.toArray) u := fun u h => (hbq.later (Grows.trans g53 (Grows.trans gd h))).load Tryd.underlying44 rfl (by rw [hql10]; exact ix_size)
      have gfin := Grows.trans (Grows.trans hg08 g83) gd
      clear OF SG7 SO LV hZy hzy hty3
      refine wp_region_ord 33 [(0, true), (1, true), (2, true), (3, true), (4, true), (5, true), (6, true), (7, true), (8, true), (9, true), (10, true), (11, true), (12, true), (13, true), (14, true), (15, true), (16, true), (17, true), (18, true), (19, true), (20, true), (21, true), (22, true), (23, true), (24, true), (25, true), (26, true), (27, true), (28, true), (29, true), (30, true), (31, true), (32, true)] (by kernel_rfl) (by kernel_rfl) ?_
      have hO := hOr
      repeat (first | (refine ord_load hO _ _ (by simp only [List.getElem?_cons_succ, List.getElem?_cons_zero]; rfl) (by rfl) 44 (.tmp 8) (by rfl) _ (by rfl) l8 ?_; try simp only [Act.put, List.setIfInBounds_toArray, List.set_cons_zero, List.set_cons_succ]) | (refine ord_load hO _ _ (by simp only [List.getElem?_cons_succ, List.getElem?_cons_zero]; rfl) (by rfl) 49 (.tmp 5) (by rfl) _ (by rfl) l5 ?_; try simp only [Act.put, List.setIfInBounds_toArray, List.set_cons_zero, List.set_cons_succ]) | (refine ord_load hO _ _ (by simp only [List.getElem?_cons_succ, List.getElem?_cons_zero]; rfl) (by rfl) 44 (.tmp 14) (by rfl) _ (by rfl) l14 ?_; try simp only [Act.put, List.setIfInBounds_toArray, List.set_cons_zero, List.set_cons_succ]) | (refine ord_load hO _ _ (by simp only [List.getElem?_cons_succ, List.getElem?_cons_zero]; rfl) (by rfl) 44 (.tmp 10) (by rfl) _ (by rfl) l10 ?_; try simp only [Act.put, List.setIfInBounds_toArray, List.set_cons_zero, List.set_cons_succ]) | (refine ord_take hO _ ?_ (by simp only [List.getElem?_cons_succ, List.getElem?_cons_zero]; rfl) (by rfl) ?_ ?_; rotate_left; (· (intro u hu0 hu; (try go_simp); (try with_reducible rfl))); try simp only [Act.put, List.setIfInBounds_toArray, List.set_cons_zero, List.set_cons_succ]) | (refine ord_skip _ (by simp only [List.getElem?_cons_succ, List.getElem?_cons_zero]; rfl) (by rfl) ?_; try simp only [Act.put, List.setIfInBounds_toArray, List.set_cons_zero, List.set_cons_succ]) | (refine ord_call hO _ ?_ (by simp only [List.getElem?_cons_succ, List.getElem?_cons_zero]; rfl) (by rfl) ?_ ?_; rotate_left; (· (intro u hu0 hu; go_simp; (try refine quiet_enter ?_); (first | (with_reducible exact H1.out u hu0) | (with_reducible exact H2.out u hu0) | (with_reducible exact H3.out u hu0) | (with_reducible exact H4.out u hu0)))); try simp only [Act.put, List.setIfInBounds_toArray, List.set_cons_zero, List.set_cons_succ]))
      (refine ord_done (fun u hu => ?_); simp only [List.drop_succ_cons, List.drop_zero])
      clear hO hOr l8 l5 l14 l10 H1 H2 H3 H4
      have gE := Grows.trans gfin hu
      go_wp2_with fail
      refine NoPanic.normal ?_
      go_wp2_with fail
      go_ret
      exact ⟨rfl, gE⟩
    · go_simp
      refine hK.out _ _ (Turns.of_grows (grows_alloc _ _)) ?_
      clear hK K
      have hQ0 := Has.new u2 44 zcells
      have hq0 := grows_alloc u2 (.cells zcells.toArray 44)
      refine planc_move _ (by simp only [List.getElem?_cons_succ, List.getElem?_cons_zero]; rfl) (by rfl) (fun u3 hu3 K hK => ?_)
      have hu3x := Grows.trans hu2 (Grows.trans hq0 hu3)
      go_simp
      have gu3 := Grows.trans gv1 hu3x
      refine (CT.out A9 m1 c9 own u3 gu3 hHL.out hc9 (hL9.later hu3x) hm1).mono ?_
      rintro e v2 ⟨A10, c10, rfl, hc10, hown10, hg10⟩
      refine hK.out _ _ (Turns.of_grows hg10) ?_
      clear hK K
      have hO2 := Turns.refl (fun q => w8.heap.size ≤ q) v2
      repeat (first | (refine planc_take hO2 _ ?_ (by simp only [List.getElem?_cons_succ, List.getElem?_cons_zero]; rfl) (by rfl) ?_ ?_; rotate_left; (· (intro u hu0 hu; (try go_simp); (try with_reducible rfl))); try simp only [Act.put, List.setIfInBounds_toArray, List.set_cons_zero, List.set_cons_succ]))
      have hQ1 := (hQ0.later hu3).later hg10
      have g82 := Grows.trans hgd (Grows.trans hu (Grows.trans hg9 hu2))
      have h83 : w8.heap.size ≤ u2.heap.size := g82.size
      have g8v2 := Grows.trans g82 (Grows.trans hq0 (Grows.trans hu3 hg10))
      have hbqlt : u2.heap.size < u3.heap.size := (hQ0.later hu3).lt
      refine planc_storeT _ (by simp only [List.getElem?_cons_succ, List.getElem?_cons_zero]; rfl) (by rfl) 44 (.tmp 10) (.tmp 35) rfl u2.heap.size zcells (xcells (ofI p own) A10 c10) 36 rfl rfl hQ1 zcells_len (xcells_len (shaOf_len own) _ _) ix_size (xcells_one _ _ _) h83 (fun u4 v4 hu4 hQ4 ht4 => ?_)
      try simp only [Act.put, List.setIfInBounds_toArray, List.set_cons_zero, List.set_cons_succ]
      have hO4 := Turns.refl (fun q => w8.heap.size ≤ q) v4
      repeat (first | (refine planc_take hO4 _ ?_ (by simp only [List.getElem?_cons_succ, List.getElem?_cons_zero]; rfl) (by rfl) ?_ ?_; rotate_left; (· (intro u hu0 hu; (try go_simp); (try with_reducible rfl))); try simp only [Act.put, List.setIfInBounds_toArray, List.set_cons_zero, List.set_cons_succ]))
      refine planc_done (fun v5 hv5 => ?_)
      simp only [List.drop_succ_cons, List.drop_zero]
      have hbq := hQ4.later hv5
      have hown4 := own_turned (own_later hown10 hu4) ht4 (fun g hg h => by have := own_ge hown10 g hg; have := hbqlt; omega)
      have hg58 : Grows w8 v5 := Grows.trans (turns_grow (Grows.trans g8v2 hu4) ht4 h83) hv5
      have hrecO0 : Recs v5 A10 33 ((ofI p own).its.map icells) := (OwnIt.recs (l := (ofI p own).its) hown4 (itemsOf_ok p own)).later hv5
      clear hQ0 hq0 hQ1 hQ4 ht4 hO2 hO4 hown10 hown9 hown4 FB CT ldp; clear hO
      obtain ⟨bq, hbqe⟩ : ∃ b, b = u2.heap.size := ⟨_, rfl⟩
      rw [← hbqe] at hbq ⊢
      clear hbqe
      have hsq := hg58.size
      have ldq := hbq.load Tryd.underlying44 rfl (by rw [xcells_len (shaOf_len own)]; exact ix_size)
      have hoX := ofI_ok p hgp own (by rw [hHL.out]; omega)
      have hoM := ofI_may p hgp own (by rw [hHL.out]; omega) (by rw [items_len]; have := chunks_len p own; rw [hHL.out] at this; omega)
      have hrecO : Recs v5 A10 33 ((ofI p own).its.map icells) := hrecO0
      clear hrecO0
      generalize ofI p own = ox at *
      have hqf := hoM.few
      go_wp2_with fail
      refine NoPanic.normal ?_
      go_wp2_with (with_reducible refine wpList_loads rfl 44 (.tmp 10) rfl _ rfl _ ldq ?_)
      refine (write_ok ox A10 c10 v5 hoX hrecO hoM).mono ?_
      rintro e y1 ⟨z1, rfl, hownz, hgy1⟩
      obtain ⟨A11, c11, rfl, hc11⟩ := own_form hownz
      have hLz := Lies.of_own hownz
      go_wp2_with fail
      refine (read_all ox A11 _ c11 y1 hoX hoM rfl hLz hc11).mono ?_
      rintro e y2 ⟨A12, c12, rfl, hc12, hown12, hgy2⟩
      have hrec12 : Recs y2 A12 33 (ox.its.map icells) := OwnIt.recs hown12 (fun it hi => (hoX.its it hi).1)
      have hZy := Has.new y2 44 zcells
      have hzy := grows_alloc y2 (.cells zcells.toArray 44)
      have hql12 := xcells_len hoX.im A12 c12
      have hqo12 := xcells_one ox A12 c12
      have hql10 := xcells_len hoX.im A10 c10
      have SO := Lib.hid (fun u (h : Grows y2 u) => same_any11 ox ox A12 A10 c12 c10 u hoX hoX (hrec12.later h) (hrecO.later (Grows.trans (Grows.trans hgy1 hgy2) h)) (by unfold maxLen; omega) (by unfold maxLen; omega))
      rw [sameX_iff.2 (rfl : ox = ox)] at SO
      unfold xval at SO ⊢
      generalize xcells ox A12 c12 = x12 at *
      generalize xcells ox A10 c10 = x10 at *
      clear hownz hLz hown12 hrec12 hrecO
      go_wp2_with (refine wpList_storeT rfl 44 (.tmp 14) (.tmp 45) rfl y2.heap.size zcells x12 36 rfl rfl hZy zcells_len hql12 ix_size hqo12 ?_; intro y3 hbox3 hty3)
      have hg23 := turns_grow hzy hty3 (Nat.le_refl _)
      have g53 : Grows v5 y3 := Grows.trans hgy1 (Grows.trans hgy2 hg23)
      have g83 := Grows.trans hg58 g53
      have gd := (Grows.refl y3).drew
      have hOr := Grows.refl y3.drew
      have H1 := Lib.hid (fun u (h : Grows y3.drew u) => OF.out u)
      have H2 := Lib.hid (fun u (h : Grows y3.drew u) => SG7.out u (Grows.trans hg78 (Grows.trans g83 (Grows.trans gd h))))
      rw [sameX_iff.2 (rfl : gx = gx)] at H2
      have H3 := Lib.hid (fun u (h : Grows y3.drew u) => SO.out u (Grows.trans hg23 (Grows.trans gd h)))
      have H4 := Lib.hid (fun u (h : Grows y3.drew u) => LV.out u (Grows.trans (Grows.trans hg08 g83) (Grows.trans gd h)))
      have l8 : ∀ u, Grows y3.drew u → (Instr.loadAt 44 (.pointer (some ⟨w7.heap.size, 0, none⟩))).run Tryd.prog u = .ok (.agg vz.toArray) u := fun u h => (hbox8.later (Grows.trans g83 (Grows.trans gd h))).load Tryd.underlying44 rfl (by rw [hzl]; exact ix_size)
      have l5 : ∀ u, Grows y3.drew u → (Instr.loadAt 49 (.pointer (some ⟨w3.heap.size, 0, none⟩))).run Tryd.prog u = .ok (.agg vx.toArray) u := fun u h => (hb8.later (Grows.trans g83 (Grows.trans gd h))).load Tryd.underlying49 rfl (by rw [hvxl]; exact rx_size)
      have l14 : ∀ u, Grows y3.drew u → (Instr.loadAt 44 (.pointer (some ⟨y2.heap.size, 0, none⟩))).run Tryd.prog u = .ok (.agg x12.toArray) u := fun u h => (hbox3.later (Grows.trans gd h)).load Tryd.underlying44 rfl (by rw [hql12]; exact ix_size)
      have l10 : ∀ u, Grows y3.drew u → (Instr.loadAt 44 (.pointer (some ⟨bq, 0, none⟩))).run Tryd.prog u = .ok (.agg x10.toArray) u := fun u h => (hbq.later (Grows.trans g53 (Grows.trans gd h))).load Tryd.underlying44 rfl (by rw [hql10]; exact ix_size)
      have gfin := Grows.trans (Grows.trans hg08 g83) gd
      clear OF SG7 SO LV hZy hzy hty3
      refine wp_region_ord 33 [(0, true), (1, true), (2, true), (3, true), (4, true), (5, true), (6, true), (7, true), (8, true), (9, true), (10, true), (11, true), (12, true), (13, true), (14, true), (15, true), (16, true), (17, true), (18, true), (19, true), (20, true), (21, true), (22, true), (23, true), (24, true), (25, true), (26, true), (27, true), (28, true), (29, true), (30, true), (31, true), (32, true)] (by kernel_rfl) (by kernel_rfl) ?_
      have hO := hOr
      repeat (first | (refine ord_load hO _ _ (by simp only [List.getElem?_cons_succ, List.getElem?_cons_zero]; rfl) (by rfl) 44 (.tmp 8) (by rfl) _ (by rfl) l8 ?_; try simp only [Act.put, List.setIfInBounds_toArray, List.set_cons_zero, List.set_cons_succ]) | (refine ord_load hO _ _ (by simp only [List.getElem?_cons_succ, List.getElem?_cons_zero]; rfl) (by rfl) 49 (.tmp 5) (by rfl) _ (by rfl) l5 ?_; try simp only [Act.put, List.setIfInBounds_toArray, List.set_cons_zero, List.set_cons_succ]) | (refine ord_load hO _ _ (by simp only [List.getElem?_cons_succ, List.getElem?_cons_zero]; rfl) (by rfl) 44 (.tmp 14) (by rfl) _ (by rfl) l14 ?_; try simp only [Act.put, List.setIfInBounds_toArray, List.set_cons_zero, List.set_cons_succ]) | (refine ord_load hO _ _ (by simp only [List.getElem?_cons_succ, List.getElem?_cons_zero]; rfl) (by rfl) 44 (.tmp 10) (by rfl) _ (by rfl) l10 ?_; try simp only [Act.put, List.setIfInBounds_toArray, List.set_cons_zero, List.set_cons_succ]) | (refine ord_take hO _ ?_ (by simp only [List.getElem?_cons_succ, List.getElem?_cons_zero]; rfl) (by rfl) ?_ ?_; rotate_left; (· (intro u hu0 hu; (try go_simp); (try with_reducible rfl))); try simp only [Act.put, List.setIfInBounds_toArray, List.set_cons_zero, List.set_cons_succ]) | (refine ord_skip _ (by simp only [List.getElem?_cons_succ, List.getElem?_cons_zero]; rfl) (by rfl) ?_; try simp only [Act.put, List.setIfInBounds_toArray, List.set_cons_zero, List.set_cons_succ]) | (refine ord_call hO _ ?_ (by simp only [List.getElem?_cons_succ, List.getElem?_cons_zero]; rfl) (by rfl) ?_ ?_; rotate_left; (· (intro u hu0 hu; go_simp; (try refine quiet_enter ?_); (first | (with_reducible exact H1.out u hu0) | (with_reducible exact H2.out u hu0) | (with_reducible exact H3.out u hu0) | (with_reducible exact H4.out u hu0)))); try simp only [Act.put, List.setIfInBounds_toArray, List.set_cons_zero, List.set_cons_succ]))
      (refine ord_done (fun u hu => ?_); simp only [List.drop_succ_cons, List.drop_zero])
      clear hO hOr l8 l5 l14 l10 H1 H2 H3 H4
      have gE := Grows.trans gfin hu
      go_wp2_with fail
      refine NoPanic.normal ?_
      go_wp2_with fail
      go_ret
      exact ⟨rfl, gE⟩
  · go_simp
    refine hK.out _ _ (Turns.of_grows (grows_alloc _ _)) ?_
    clear hK K
    have hQ0 := Has.new u 44 zcells
    have hq0 := grows_alloc u (.cells zcells.toArray 44)
    refine planc_move _ (by simp only [List.getElem?_cons_succ, List.getElem?_cons_zero]; rfl) (by rfl) (fun u2 hu2 K hK => ?_)
    go_simp
    have gwu := Grows.trans gw0 (Grows.trans hu (Grows.trans hq0 hu2))
    refine (FB.out u2 gwu).mono ?_
    rintro e v1 ⟨A9, c9, rfl, hc9, hown9, hL9, hg9⟩
    refine hK.out _ _ (Turns.of_grows hg9) ?_
    have gv1 := Grows.trans gwu hg9
    clear hK K
    refine planc_move _ (by simp only [List.getElem?_cons_succ, List.getElem?_cons_zero]; rfl) (by rfl) (fun u3 hu3 K hK => ?_)
    have hu3x := hu3
    go_simp
    have gu3 := Grows.trans gv1 hu3
    refine (CT.out A9 m1 c9 own u3 gu3 hHL.out hc9 (hL9.later hu3x) hm1).mono ?_
    rintro e v2 ⟨A10, c10, rfl, hc10, hown10, hg10⟩
    refine hK.out _ _ (Turns.of_grows hg10) ?_
    clear hK K
    have hO2 := Turns.refl (fun q => w8.heap.size ≤ q) v2
    repeat (first | (refine planc_take hO2 _ ?_ (by simp only [List.getElem?_cons_succ, List.getElem?_cons_zero]; rfl) (by rfl) ?_ ?_; rotate_left; (· (intro u hu0 hu; (try go_simp); (try with_reducible rfl))); try simp only [Act.put, List.setIfInBounds_toArray, List.set_cons_zero, List.set_cons_succ]))
    have hQ1 := (((hQ0.later hu2).later hg9).later hu3).later hg10
    have g82 := Grows.trans hgd hu
    have h83 : w8.heap.size ≤ u.heap.size := g82.size
    have g8v2 := Grows.trans g82 (Grows.trans hq0 (Grows.trans hu2 (Grows.trans hg9 (Grows.trans hu3 hg10))))
    have hbqlt : u.heap.size < u3.heap.size := (((hQ0.later hu2).later hg9).later hu3).lt
    refine planc_storeT _ (by simp only [List.getElem?_cons_succ, List.getElem?_cons_zero]; rfl) (by rfl) 44 (.tmp 10) (.tmp 35) rfl u.heap.size zcells (xcells (ofI p own) A10 c10) 36 rfl rfl hQ1 zcells_len (xcells_len (shaOf_len own) _ _) ix_size (xcells_one _ _ _) h83 (fun u4 v4 hu4 hQ4 ht4 => ?_)
    try simp only [Act.put, List.setIfInBounds_toArray, List.set_cons_zero, List.set_cons_succ]
    have hO4 := Turns.refl (fun q => w8.heap.size ≤ q) v4
    repeat (first | (refine planc_take hO4 _ ?_ (by simp only [List.getElem?_cons_succ, List.getElem?_cons_zero]; rfl) (by rfl) ?_ ?_; rotate_left; (· (intro u hu0 hu; (try go_simp); (try with_reducible rfl))); try simp only [Act.put, List.setIfInBounds_toArray, List.set_cons_zero, List.set_cons_succ]))
    refine planc_done (fun v5 hv5 => ?_)
    simp only [List.drop_succ_cons, List.drop_zero]
    have hbq := hQ4.later hv5
    have hown4 := own_turned (own_later hown10 hu4) ht4 (fun g hg h => by have := own_ge hown10 g hg; have := hbqlt; omega)
    have hg58 : Grows w8 v5 := Grows.trans (turns_grow (Grows.trans g8v2 hu4) ht4 h83) hv5
    have hrecO0 : Recs v5 A10 33 ((ofI p own).its.map icells) := (OwnIt.recs (l := (ofI p own).its) hown4 (itemsOf_ok p own)).later hv5
    clear hQ0 hq0 hQ1 hQ4 ht4 hO2 hO4 hown10 hown9 hown4 FB CT ldp; clear hO
    obtain ⟨bq, hbqe⟩ : ∃ b, b = u.heap.size := ⟨_, rfl⟩
    rw [← hbqe] at hbq ⊢
    clear hbqe
    have hsq := hg58.size
    have ldq := hbq.load Tryd.underlying44 rfl (by rw [xcells_len (shaOf_len own)]; exact ix_size)
    have hoX := ofI_ok p hgp own (by rw [hHL.out]; omega)
    have hoM := ofI_may p hgp own (by rw [hHL.out]; omega) (by rw [items_len]; have := chunks_len p own; rw [hHL.out] at this; omega)
    have hrecO : Recs v5 A10 33 ((ofI p own).its.map icells) := hrecO0
    clear hrecO0
    generalize ofI p own = ox at *
    have hqf := hoM.few
    go_wp2_with fail
    refine NoPanic.normal ?_
    go_wp2_with (with_reducible refine wpList_loads rfl 44 (.tmp 10) rfl _ rfl _ ldq ?_)
    refine (write_ok ox A10 c10 v5 hoX hrecO hoM).mono ?_
    rintro e y1 ⟨z1, rfl, hownz, hgy1⟩
    obtain ⟨A11, c11, rfl, hc11⟩ := own_form hownz
    have hLz := Lies.of_own hownz
    go_wp2_with fail
    refine (read_all ox A11 _ c11 y1 hoX hoM rfl hLz hc11).mono ?_
    rintro e y2 ⟨A12, c12, rfl, hc12, hown12, hgy2⟩
    have hrec12 : Recs y2 A12 33 (ox.its.map icells) := OwnIt.recs hown12 (fun it hi => (hoX.its it hi).1)
    have hZy := Has.new y2 44 zcells
    have hzy := grows_alloc y2 (.cells zcells.toArray 44)
    have hql12 := xcells_len hoX.im A12 c12
    have hqo12 := xcells_one ox A12 c12
    have hql10 := xcells_len hoX.im A10 c10
    have SO := Lib.hid (fun u (h : Grows y2 u) => same_any11 ox ox A12 A10 c12 c10 u hoX hoX (hrec12.later h) (hrecO.later (Grows.trans (Grows.trans hgy1 hgy2) h)) (by unfold maxLen; omega) (by unfold maxLen; omega))
    rw [sameX_iff.2 (rfl : ox = ox)] at SO
    unfold xval at SO ⊢
    generalize xcells ox A12 c12 = x12 at *
    generalize xcells ox A10 c10 = x10 at *
    clear hownz hLz hown12 hrec12 hrecO
    go_wp2_with (refine wpList_storeT rfl 44 (.tmp 14) (.tmp 45) rfl y2.heap.size zcells x12 36 rfl rfl hZy zcells_len hql12 ix_size hqo12 ?_; intro y3 hbox3 hty3)
    have hg23 := turns_grow hzy hty3 (Nat.le_refl _)
    have g53 : Grows v5 y3 := Grows.trans hgy1 (Grows.trans hgy2 hg23)
    have g83 := Grows.trans hg58 g53
    have gd := (Grows.refl y3).drew
    have hOr := Grows.refl y3.drew
    have H1 := Lib.hid (fun u (h : Grows y3.drew u) => OF.out u)
    have H2 := Lib.hid (fun u (h : Grows y3.drew u) => SG7.out u (Grows.trans hg78 (Grows.trans g83 (Grows.trans gd h))))
    rw [sameX_iff.2 (rfl : gx = gx)] at H2
    have H3 := Lib.hid (fun u (h : Grows y3.drew u) => SO.out u (Grows.trans hg23 (Grows.trans gd h)))
    have H4 := Lib.hid (fun u (h : Grows y3.drew u) => LV.out u (Grows.trans (Grows.trans hg08 g83) (Grows.trans gd h)))
    have l8 : ∀ u, Grows y3.drew u → (Instr.loadAt 44 (.pointer (some ⟨w7.heap.size, 0, none⟩))).run Tryd.prog u = .ok (.agg vz.toArray) u := fun u h => (hbox8.later (Grows.trans g83 (Grows.trans gd h))).load Tryd.underlying44 rfl (by rw [hzl]; exact ix_size)
    have l5 : ∀ u, Grows y3.drew u → (Instr.loadAt 49 (.pointer (some ⟨w3.heap.size, 0, none⟩))).run Tryd.prog u = .ok (.agg vx.toArray) u := fun u h => (hb8.later (Grows.trans g83 (Grows.trans gd h))).load Tryd.underlying49 rfl (by rw [hvxl]; exact rx_size)
    have l14 : ∀ u, Grows y3.drew u → (Instr.loadAt 44 (.pointer (some ⟨y2.heap.size, 0, none⟩))).run Tryd.prog u = .ok (.agg x12.toArray) u := fun u h => (hbox3.later (Grows.trans gd h)).load Tryd.underlying44 rfl (by rw [hql12]; exact ix_size)
    have l10 : ∀ u, Grows y3.drew u → (Instr.loadAt 44 (.pointer (some ⟨bq, 0, none⟩))).run Tryd.prog u = .ok (.agg x10.toArray) u := fun u h => (hbq.later (Grows.trans g53 (Grows.trans gd h))).load Tryd.underlying44 rfl (by rw [hql10]; exact ix_size)
    have gfin := Grows.trans (Grows.trans hg08 g83) gd
    clear OF SG7 SO LV hZy hzy hty3
    refine wp_region_ord 33 [(0, true), (1, true), (2, true), (3, true), (4, true), (5, true), (6, true), (7, true), (8, true), (9, true), (10, true), (11, true), (12, true), (13, true), (14, true), (15, true), (16, true), (17, true), (18, true), (19, true), (20, true), (21, true), (22, true), (23, true), (24, true), (25, true), (26, true), (27, true), (28, true), (29, true), (30, true), (31, true), (32, true)] (by kernel_rfl) (by kernel_rfl) ?_
    have hO := hOr
    repeat (first | (refine ord_load hO _ _ (by simp only [List.getElem?_cons_succ, List.getElem?_cons_zero]; rfl) (by rfl) 44 (.tmp 8) (by rfl) _ (by rfl) l8 ?_; try simp only [Act.put, List.setIfInBounds_toArray, List.set_cons_zero, List.set_cons_succ]) | (refine ord_load hO _ _ (by simp only [List.getElem?_cons_succ, List.getElem?_cons_zero]; rfl) (by rfl) 49 (.tmp 5) (by rfl) _ (by rfl) l5 ?_; try simp only [Act.put, List.setIfInBounds_toArray, List.set_cons_zero, List.set_cons_succ]) | (refine ord_load hO _ _ (by simp only [List.getElem?_cons_succ, List.getElem?_cons_zero]; rfl) (by rfl) 44 (.tmp 14) (by rfl) _ (by rfl) l14 ?_; try simp only [Act.put, List.setIfInBounds_toArray, List.set_cons_zero, List.set_cons_succ]) | (refine ord_load hO _ _ (by simp only [List.getElem?_cons_succ, List.getElem?_cons_zero]; rfl) (by rfl) 44 (.tmp 10) (by rfl) _ (by rfl) l10 ?_; try simp only [Act.put, List.setIfInBounds_toArray, List.set_cons_zero, List.set_cons_succ]) | (refine ord_take hO _ ?_ (by simp only [List.getElem?_cons_succ, List.getElem?_cons_zero]; rfl) (by rfl) ?_ ?_; rotate_left; (· (intro u hu0 hu; (try go_simp); (try with_reducible rfl))); try simp only [Act.put, List.setIfInBounds_toArray, List.set_cons_zero, List.set_cons_succ]) | (refine ord_skip _ (by simp only [List.getElem?_cons_succ, List.getElem?_cons_zero]; rfl) (by rfl) ?_; try simp only [Act.put, List.setIfInBounds_toArray, List.set_cons_zero, List.set_cons_succ]) | (refine ord_call hO _ ?_ (by simp only [List.getElem?_cons_succ, List.getElem?_cons_zero]; rfl) (by rfl) ?_ ?_; rotate_left; (· (intro u hu0 hu; go_simp; (try refine quiet_enter ?_); (first | (with_reducible exact H1.out u hu0) | (with_reducible exact H2.out u hu0) | (with_reducible exact H3.out u hu0) | (with_reducible exact H4.out u hu0)))); try simp only [Act.put, List.setIfInBounds_toArray, List.set_cons_zero, List.set_cons_succ]))
    (refine ord_done (fun u hu => ?_); simp only [List.drop_succ_cons, List.drop_zero])
    clear hO hOr l8 l5 l14 l10 H1 H2 H3 H4
    have gE := Grows.trans gfin hu
    go_wp2_with fail
    refine NoPanic.normal ?_
    go_wp2_with fail
    go_ret
    exact ⟨rfl, gE⟩
end Go.Proofs.YtnokloedbckijaaDoor
