/-
  Contracts, joined (IxP IxN IxY).
-/
import Derived.Test.YtnokloedbckijaaDoorN2
import Derived.Test.YtnokloedbckijaaDoorJ6
import Derived.Test.YtnokloedbckijaaDoorN1

/-
  index.Read at bytes that hold an index.
-/
namespace Go.Proofs.YtnokloedbckijaaDoor
open Go.RowKit
set_option linter.unusedVariables false
set_option maxRecDepth 20000
set_option linter.unusedSimpArgs false

theorem Rdr.turned {S : Nat → Prop} {w w' : World} {b : Nat} {ok : Nat → Prop} {A : Option Addr} {n c : Nat} {l : List UInt8} (h : Rdr w b ok A n c l) (ht : Turns S w w') (hb : ¬ S b) (hS : ∀ k, ok k → ¬ S k) : Rdr w' b ok A n c l := ⟨h.has.turned ht hb, h.len, h.cap, h.lies.turned ht hS⟩

set_option maxHeartbeats 8000000 in
theorem read_ok (A : Option Addr) (n c k : Nat) (all body : List UInt8) (w : World) (hT : takeOf all = (body, 0)) (hl : all.length = n) (hr : Lies w w.heap.size A (all.map bv)) (hc : n ≤ c) (hn : n ≤ 100000000) (hkl : body.length = 52 + 36 * k) (hk4 : k ≤ 4096) (hmark : body.take 4 = [76, 84, 73, 49]) (h48 : numAt body 48 = k) (hM : IMay (decI k body)) :
    Calls Tryd.prog 39 #[.slice A n c] w fun e w' => ∃ A' c', e = .returned (.tuple #[xval (decI k body) A' c', .int .i64 0]) ∧ k ≤ c' ∧ OwnIt w.heap.size w' (.slice A' k c') (decI k body).its ∧ Grows w w' := by
  have hb := Has.new w 44 zcells
  have hg0 := grows_alloc w (.cells zcells.toArray 44)
  have TK := Lib.hid (take_room A n c all (w.alloc (.cells zcells.toArray 44)) hl ((hr.mono (by simp)).later hg0) hc (by omega))
  rw [hT] at TK
  obtain ⟨m, hm⟩ : ∃ m, m = body.length := ⟨_, rfl⟩
  rw [← hm] at hkl
  have HM := Lib.hid hm.symm
  have HMK := Lib.hid hmark
  have HMAY := Lib.hid hM
  clear hT hm hmark hM hr
  go_enter Tryd.func39, Tryd.ntmps39
  go_wp2_with fail
  refine TK.out.mono ?_
  rintro e w1 ⟨A1, c1, hc1, rfl, hL1, hg1⟩
  rw [HM.out] at hc1 ⊢
  have hb1 := hb.later hg1
  have hg01 := Grows.trans hg0 hg1
  clear TK hb hg0 hg1
  have hct := fun u => run_cutK_to (P := Tryd.prog) (t := 22) (e := 5) Tryd.underlying22 byte_size A1 m c1 4 .i64 (by omega) u
  have hcf := fun u => run_cutK_from (P := Tryd.prog) (t := 22) (e := 5) Tryd.underlying22 byte_size A1 m c1 4 .i64 (by omega) (by omega) u
  have hcv : ∀ u, Grows w1 u → (convert 22 9 (.slice A1 4 c1)).run Tryd.prog u = .ok (.string ⟨([76, 84, 73, 49] : List UInt8).toArray⟩) u := fun u hu =>
    run_string_of u 22 5 Tryd.underlying22 Tryd.underlying5 9 Tryd.underlying9 _ A1 4 c1 [76, 84, 73, 49] rfl (by rw [← HMK.out, List.map_take]; exact (hL1.later hu).take 4)
  have hcv1 := hcv w1 (Grows.refl _)
  have q1 : ¬ (m : Int) < 52 := by omega
  go_wp2_with fail
  have hc52 : 52 ≤ c1 := by omega
  have hcA : cutA A1 c1 4 1 = A1.map (·.add 4) := by unfold cutA; rw [if_neg (by omega)]
  obtain ⟨rb, hrb⟩ : ∃ b, b = w1.heap.size := ⟨_, rfl⟩
  have hR0 := Has.new w1 97 [Value.slice (A1.map (·.add 4)) (52 + 36 * k - 4) (c1 - 4)]
  have ha0 := grows_alloc w1 (.cells #[Value.slice (A1.map (·.add 4)) (52 + 36 * k - 4) (c1 - 4)] 97)
  have hX0 := Has.new (w1.alloc (.cells #[Value.slice (A1.map (·.add 4)) (52 + 36 * k - 4) (c1 - 4)] 97)) 44 zcells
  have ha1 := grows_alloc (w1.alloc (.cells #[Value.slice (A1.map (·.add 4)) (52 + 36 * k - 4) (c1 - 4)] 97)) (.cells zcells.toArray 44)
  rw [World.size_alloc] at hX0
  have hR1 := hR0.later ha1
  have hg12 := Grows.trans ha0 ha1
  have hLI : LiesIn (fun q => q < rb) w1 (cutA A1 c1 4 1) ((body.map bv).drop 4) := (LiesIn.of_lies hL1 (fun q h => by rw [hrb]; exact h)).cutA (by rw [List.length_map, HM.out]; exact hc1)
  rw [hcA, ← List.map_drop] at hLI
  change Calls _ _ _ ((w1.alloc (.cells #[Value.slice (A1.map (·.add 4)) (52 + 36 * k - 4) (c1 - 4)] 97)).alloc (.cells zcells.toArray 44)) _
  generalize (w1.alloc (.cells #[Value.slice (A1.map (·.add 4)) (52 + 36 * k - 4) (c1 - 4)] 97)).alloc (.cells zcells.toArray 44) = w2 at *
  have hLI2 := hLI.later hg12
  rw [← hrb] at hR1 hX0
  have hrdr : Rdr w2 rb (fun q => q < rb) (A1.map (·.add 4)) (52 + 36 * k - 4) (c1 - 4) (body.drop 4) := ⟨hR1, by rw [List.length_drop, HM.out, hkl], by omega, hLI2⟩
  have hokr : ∀ q, q < rb → q ≠ rb := fun q h => by omega
  have hb2 := hb1.later hg12
  have hg02 := Grows.trans hg01 hg12
  have hbw : w.heap.size < rb := by rw [hrb]; exact hb1.lt
  have hxb := hX0.lt
  clear hct hcf hcv hcv1 hR0 ha0 ha1 hR1 hLI hLI2 hL1 hcA hb1 hg01 hg12
  rw [← hrb]
  clear hrb
  clear w1
  generalize A1.map (·.add 4) = Ar at *
  generalize c1 - 4 = cr at *
  refine (rdnum_any rb _ Ar _ _ _ w2 hrdr (by omega) (by omega) hokr).mono ?_
  rintro e w3 ⟨rfl, hrdr3, ht3⟩
  have hX3 := hX0.turned ht3 (by omega)
  have hb3 := hb2.turned ht3 (by omega)
  have hz0 : zcells[0]? = some (.int .i64 0) := rfl
  have hz1 : zcells[1]? = some (.int .i64 0) := rfl
  have hz2 : zcells[2]? = some (.int .i64 0) := rfl
  have hzl := zcells_len
  have hc3 := hX3.cell hz0
  have hf3 := hX3.free 0
  have e4 : numTo (body.drop 4) 4 = numAt body 4 := by unfold numAt; rw [numTo_take _ 4 (by omega)]
  rw [e4]
  generalize hn4 : numAt body 4 = n4 at *
  go_wp2_with fail
  have hS3 := hX3.set_ (k := 0) (by omega) (.int .i64 (n4 : Int))
  have hs3 := Turns.of_set (S := fun q => q = rb + 1) (b := rb + 1) (o := 0) w3 (.int .i64 (n4 : Int)) rfl
  have hb4s := hb3.turned hs3 (by omega)
  have hr4s := hrdr3.turned hs3 (by omega) (fun q h => by omega)
  generalize w3.setCell ⟨rb + 1, 0, none⟩ (.int .i64 (n4 : Int)) = v3 at *
  refine (rdnum_any rb _ _ _ _ _ v3 hr4s (by omega) (by omega) hokr).mono ?_
  rintro e w4 ⟨rfl, hrdr4, ht4⟩
  have hX4 := hS3.turned ht4 (by omega)
  have hb4 := hb4s.turned ht4 (by omega)
  have e8 : numTo ((body.drop 4).drop 4) 4 = numAt body 8 := by unfold numAt; rw [numTo_take _ 4 (by omega)]; simp only [List.drop_drop]
  rw [e8]
  generalize hn8 : numAt body 8 = n8 at *
  have hc4 := hX4.cell (k := 1) (by rfl)
  have hf4 := hX4.free 1
  go_wp2_with fail
  have hS4 := hX4.set_ (k := 1) (by simp [hzl]) (.int .i64 (n8 : Int))
  have hs4 := Turns.of_set (S := fun q => q = rb + 1) (b := rb + 1) (o := 1) w4 (.int .i64 (n8 : Int)) rfl
  have hb5s := hb4.turned hs4 (by omega)
  have hr5s := hrdr4.turned hs4 (by omega) (fun q h => by omega)
  generalize w4.setCell ⟨rb + 1, 1, none⟩ (.int .i64 (n8 : Int)) = v4 at *
  refine (rdnum_any rb _ _ _ _ _ v4 hr5s (by omega) (by omega) hokr).mono ?_
  rintro e w5 ⟨rfl, hrdr5, ht5⟩
  have hX5 := hS4.turned ht5 (by omega)
  have hb5 := hb5s.turned ht5 (by omega)
  have e12 : numTo (((body.drop 4).drop 4).drop 4) 4 = numAt body 12 := by unfold numAt; rw [numTo_take _ 4 (by omega)]; simp only [List.drop_drop]
  rw [e12]
  generalize hn12 : numAt body 12 = n12 at *
  have hc5 := hX5.cell (k := 2) (by rfl)
  have hf5 := hX5.free 2
  go_wp2_with fail
  have hS5 := hX5.set_ (k := 2) (by simp [hzl]) (.int .i64 (n12 : Int))
  have hs5 := Turns.of_set (S := fun q => q = rb + 1) (b := rb + 1) (o := 2) w5 (.int .i64 (n12 : Int)) rfl
  have hb6s := hb5.turned hs5 (by omega)
  have hr6s := hrdr5.turned hs5 (by omega) (fun q h => by omega)
  generalize w5.setCell ⟨rb + 1, 2, none⟩ (.int .i64 (n12 : Int)) = v5 at *
  refine (rddig_any rb _ _ _ _ _ v5 hr6s (by omega) (by omega) hokr).mono ?_
  rintro e w6 ⟨rfl, hrdr6, ht6⟩
  have hX6 : Has w6 (rb + 1) ([.int .i64 (n4 : Int), .int .i64 (n8 : Int), .int .i64 (n12 : Int)] ++ ((List.replicate 32 (0 : UInt8)).map bv ++ [.slice none 0 0])) := hS5.turned ht6 (by omega)
  have hb6 := hb6s.turned ht6 (by omega)
  have eim : (((body.drop 4).drop 4).drop 4).drop 4 = body.drop 16 := by simp only [List.drop_drop]
  rw [eim] at hrdr6 ⊢
  have him : ((body.drop 16).take 32).length = 32 := by rw [List.length_take, List.length_drop, HM.out]; omega
  generalize hgi : (body.drop 16).take 32 = im at *
  go_wp2_with (refine wpList_storeM rfl 42 (.tmp 42) (.tmp 41) rfl (rb + 1) 3 [.int .i64 (n4 : Int), .int .i64 (n8 : Int), .int .i64 (n12 : Int)] ((List.replicate 32 (0 : UInt8)).map bv) [.slice none 0 0] (im.map bv) 32 rfl rfl hX6 rfl (by simp) (by rw [List.length_map]; exact him) dig_size2 (bv_one _) ?_; intro v6 hS6 hs6)
  have hb7s := hb6.turned hs6 (by omega)
  have hr7s := hrdr6.turned hs6 (by omega) (fun q h => by omega)
  refine (rdnum_any rb _ _ _ _ _ v6 hr7s (by omega) (by omega) hokr).mono ?_
  rintro e w7 ⟨rfl, hrdr7, ht7⟩
  have hX7 : Has w7 (rb + 1) (xcells ⟨n4, n8, n12, im, []⟩ none 0) := hS6.turned ht7 (by omega)
  have hb7 := hb7s.turned ht7 (by omega)
  have e48 : numTo ((body.drop 16).drop 32) 4 = k := by rw [← h48]; unfold numAt; rw [numTo_take _ 4 (by omega)]; simp only [List.drop_drop]
  rw [e48]
  have e52 : ((body.drop 16).drop 32).drop 4 = body.drop 52 := by simp only [List.drop_drop]
  rw [e52, show 52 + 36 * k - 4 - 4 - 4 - 4 - 32 - 4 = 36 * k by omega] at hrdr7
  have hgw : Grows w w7 := by
    have g3 := turns_grow hg02 ht3 (by omega)
    have g4 := turns_grow g3 hs3 (by omega)
    have g5 := turns_grow g4 ht4 (by omega)
    have g6 := turns_grow g5 hs4 (by omega)
    have g7 := turns_grow g6 ht5 (by omega)
    have g8 := turns_grow g7 hs5 (by omega)
    have g9 := turns_grow g8 ht6 (by omega)
    have g10 := turns_grow g9 hs6 (by omega)
    exact turns_grow g10 ht7 (by omega)
  have HDEC : Hid (decI k body = ⟨n4, n8, n12, im, decIts k (body.drop 52)⟩) := by show _ = _; unfold decI; rw [hn4, hn8, hn12, hgi]
  have hDat : ∀ j, j < k → (decIts k (body.drop 52))[j]? = some ((body.drop (52 + 36 * j)).take 32, (numTo ((body.drop (52 + 36 * j)).drop 32) 4 : Int)) := fun j hj => by
    rw [decIts_at k _ j hj, List.drop_drop]
    unfold numAt
    rw [numTo_take _ 4 (by omega)]
    simp only [List.drop_drop]
    congr 3
  have hDok := decIts_ok (k := k) (l := body.drop 52) (by rw [List.length_drop, HM.out]; omega)
  have hDl := decIts_len k (body.drop 52)
  have hcr7 := hrdr7.cap
  generalize cutA (cutA (cutA (cutA (cutA Ar cr 4 1) (cr - 4) 4 1) (cr - 4 - 4) 4 1) (cr - 4 - 4 - 4) 32 1) (cr - 4 - 4 - 4 - 32) 4 1 = Ar7 at *
  generalize cr - 4 - 4 - 4 - 32 - 4 = cr7 at *
  generalize decIts k (body.drop 52) = D at *
  have hxw := hX7.lt
  clear hrdr hrdr3 hrdr4 hrdr5 hrdr6 hr4s hr5s hr6s hr7s hX0 hX3 hX4 hX5 hX6 hS3 hS4 hS5 hS6 hb2 hb3 hb4 hb5 hb6 hb4s hb5s hb6s hb7s ht3 ht4 ht5 ht6 ht7 hs3 hs4 hs5 hs6 hc3 hc4 hc5 hf3 hf4 hf5 e4 e8 e12 e48 e52 eim hn4 hn8 hn12 hgi hg02 hz0 hz1 hz2 hxb
  have P0 := hrdr7.has.cell (k := 0) rfl
  have hw1 : IntKind.i64.wrap ((k : Int) * 36) = 36 * (k : Int) := by rw [IntWalk.i64_in _ (by omega)]; omega
  have hw2 : ((36 * k : Nat) : Int) = 36 * (k : Int) := by omega
  go_wp2_with fail
  go_loopw [52] (fun i wr => ∃ (j : Nat) (A8 : Option Addr) (c8 : Nat) (Ar : Option Addr) (cr : Nat), j ≤ k ∧ i = .int .i64 (j : Int) ∧ Rdr wr rb (fun q => q < rb) Ar (36 * (k - j)) cr (body.drop (52 + 36 * j)) ∧ Has wr (rb + 1) (xcells ⟨n4, n8, n12, im, D.take j⟩ A8 c8) ∧ OwnIt w7.heap.size wr (.slice A8 (D.take j).length c8) (D.take j) ∧ Turns (fun q => q = rb ∨ q = rb + 1 ∨ w7.heap.size ≤ q) w7 wr) (fun i _ => k - (intOf i).toNat)
  case atStart => exact ⟨0, none, 0, Ar7, cr7, Nat.zero_le _, rfl, by simpa using hrdr7, by simpa using hX7, by simpa using OwnIt.nil _ _, Turns.refl _ _⟩
  case round =>
    clear hX7 hrdr7 P0 hcr7
    obtain ⟨j, A8, c8, Ar, cr, hj, rfl, hrd, hbox, hown, htr⟩ := hrel
    have hlj : (D.take j).length = j := by rw [List.length_take, hDl, Nat.min_eq_left hj]
    have hszr := htr.size
    by_cases hlt : j < k
    · have hjk : (j : Int) < (k : Int) := by omega
      have hDj := hDat j hlt
      have HSN : Hid (D.take (j + 1) = D.take j ++ [((body.drop (52 + 36 * j)).take 32, (numTo ((body.drop (52 + 36 * j)).drop 32) 4 : Int))]) := by show _ = _; rw [List.take_add_one, hDj]; rfl
      have hlen := hrd.len
      have e88 : ((body.drop (52 + 36 * j)).drop 32).drop 4 = body.drop (52 + 36 * (j + 1)) := by simp only [List.drop_drop]; congr 1
      generalize body.drop (52 + 36 * j) = lj at *
      have hnl : (lj.take 32).length = 32 := by rw [List.length_take]; omega
      generalize hnm : lj.take 32 = nm at *
      have hnum := numTo_lt (lj.drop 32) 4
      go_wp2_with fail
      refine (rddig_any rb _ _ _ _ _ wr hrd (by omega) (by omega) hokr).mono ?_
      rintro e wa ⟨rfl, hrda, hta⟩
      rw [hnm]
      have hboxa := hbox.turned hta (by omega)
      have hsza := hta.size
      have hzl32 := zeros32_len
      have hD0 := Has.new wa 42 (zeros32.map bv)
      have hga := grows_alloc wa (.cells (zeros32.map bv).toArray 42)
      go_wp2_with (first
        | (change wpList _ _ _ _ _ (wa.alloc (.cells (zeros32.map bv).toArray 42)); generalize wa.alloc (.cells (zeros32.map bv).toArray 42) = wb at *)
        | (refine wpList_storeT rfl 42 (.tmp 9) (.tmp 54) rfl wa.heap.size (zeros32.map bv) (nm.map bv) 32 rfl rfl hD0 (by rw [List.length_map, hzl32]) (by rw [List.length_map, hnl]) dig_size2 (bv_one _) ?_; intro wc hDc htc))
      have hblt := hbox.lt
      have hgac := turns_grow hga htc (Nat.le_refl _)
      have hboxc := hboxa.later hgac
      have hrdc := (hrda.turned (Turns.of_grows (S := fun _ => False) hgac) (fun h => h) (fun _ _ h => h))
      have howna : wa.ownsRow w7.heap.size 61 33 (.slice A8 (D.take j).length c8) (D.take j).length ((D.take j).map icells).flatten := own_turned hown hta (fun g hg h => by have := own_ge hown g hg; omega)
      have hownc := own_later howna hgac
      have htrc : Turns (fun q => q = rb ∨ q = rb + 1 ∨ w7.heap.size ≤ q) w7 wc := (htr.trans (hta.mono fun q _ h => .inl h)).trans (Turns.of_grows hgac)
      have hgd := (Grows.refl wc).drew
      have hx35 := xc_its (x := ⟨n4, n8, n12, im, D.take j⟩) him A8 c8
      have f35 : ∀ u, Turns (fun q => q = rb) wc.drew u → u.cell? ⟨rb + 1, 35, none⟩ = some (.slice A8 (D.take j).length c8) := fun u h => ((hboxc.later hgd).turned h (by omega)).cell hx35
      have ldn : ∀ u, Turns (fun q => q = rb) wc.drew u → (Instr.loadAt 42 (.pointer (some ⟨wa.heap.size, 0, none⟩))).run Tryd.prog u = .ok (dv nm) u := fun u h => ((hDc.later hgd).turned h (by omega)).load Tryd.underlying42 rfl (by rw [List.length_map, hnl]; exact dig_size2)
      have hrdd := hrdc.turned (Turns.of_grows (S := fun _ => False) hgd) (fun h => h) (fun _ _ h => h)
      have hO := Turns.refl (fun q => q = rb) wc.drew
      generalize hx : numTo (lj.drop 32) 4 = x at *
      have HX := Lib.hid hx
      have HB := fun u => build_item nm (x : Int) hnl u
      have HSL := fun u => slice_item nm (x : Int) hnl u
      have hic : (icells (nm, (x : Int))).length = 33 := icells_len hnl
      have hione := icells_one (nm, (x : Int))
      generalize hit : ((nm, (x : Int)) : Itm) = it at *
      generalize hcur : D.take j = cur at *
      generalize hP : cur.length = P at *
      have HP := Lib.hid hP
      have HCU := Lib.hid hcur
      have HLJ := Lib.hid hlj
      have hP2 : P + 1 ≤ 1000000 := by omega
      clear hlj hx hit hcur hP hD0 hga htc hDc hDj hboxa hrda howna hrd hgac
      refine wp_region_callw (S := fun q => q = rb) 6 [(0, true), (1, true), (2, true), (3, false), (4, true), (5, false)] (by kernel_rfl) (by kernel_rfl) ?_
      repeat (first | (refine orc_load hO _ _ (by simp only [List.getElem?_cons_succ, List.getElem?_cons_zero]; rfl) (by rfl) 42 (.tmp 9) (by rfl) _ (by rfl) ldn ?_; try simp only [Act.put, List.setIfInBounds_toArray, List.set_cons_zero, List.set_cons_succ]) | (refine orc_take hO _ ?_ (by simp only [List.getElem?_cons_succ, List.getElem?_cons_zero]; rfl) (by rfl) ?_ ?_; rotate_left; (· (intro u hu0 hu; (try go_simp); (try with_reducible rfl))); try simp only [Act.put, List.setIfInBounds_toArray, List.set_cons_zero, List.set_cons_succ]))
      refine orc_move _ (by simp only [List.getElem?_cons_succ, List.getElem?_cons_zero]; rfl) (by rfl) (fun u hu K hK => ?_)
      go_simp
      have hrdu := hrdd.turned (Turns.of_grows (S := fun _ => False) hu) (fun h => h) (fun _ _ h => h)
      refine (rdnum_any rb _ _ _ _ _ u hrdu (by omega) (by omega) hokr).mono ?_
      rintro e v1 ⟨rfl, hrdv, htv⟩
      rw [HX.out, e88, show 36 * (k - j) - 32 - 4 = 36 * (k - (j + 1)) by omega] at *
      refine hK.out _ _ htv ?_
      clear hK K
      have hgu := Grows.trans hgd hu
      have hboxv := (hboxc.later hgu).turned htv (by omega)
      have hownv := own_turned (own_later hownc hgu) htv (fun g hg h => by have := own_ge hownc g hg; omega)
      have htrv : Turns (fun q => q = rb ∨ q = rb + 1 ∨ w7.heap.size ≤ q) w7 v1 := (htrc.trans (Turns.of_grows hgu)).trans (htv.mono fun q _ h => .inl h)
      have hO1 := Turns.refl (fun q => q = rb) v1
      clear hrdu hrdd hrdc hO f35 ldn htv hu
      refine orc_build hO1 _ _ (by simp only [List.getElem?_cons_succ, List.getElem?_cons_zero]; rfl) (by rfl) _ _ (by rfl) _ HB ?_ ?_
      · go_simp
      try simp only [Act.put, List.setIfInBounds_toArray, List.set_cons_zero, List.set_cons_succ]
      refine orc_bslice _ (by simp only [List.getElem?_cons_succ, List.getElem?_cons_zero]; rfl) (by rfl) _ _ _ (by rfl) _ _ _ HSL ?_ (fun u2 hu2 => ?_)
      · go_simp
      try simp only [Act.put, List.setIfInBounds_toArray, List.set_cons_zero, List.set_cons_succ]
      have hnu := Lies.new u2 61 (icells it)
      have hna := grows_alloc u2 (.cells (icells it).toArray 61)
      refine orc_done (fun u3 hu3 => ?_)
      simp only [List.drop_succ_cons, List.drop_zero]
      have hg2 : Grows v1 u3 := Grows.trans hu2 (Grows.trans hna hu3)
      have hl2 : Lies u3 u3.heap.size (some ⟨u2.heap.size, 0, none⟩) (icells it) := (hnu.mono (by simp)).later hu3
      have hrow2 : u3.ownsRow w7.heap.size 61 33 (.slice A8 P c8) P (cur.map icells).flatten := own_later hownv hg2
      have hbox2 := hboxv.later hg2
      have hrd2 := hrdv.turned (Turns.of_grows (S := fun _ => False) hg2) (fun h => h) (fun _ _ h => h)
      have htr2 := htrv.trans (Turns.of_grows hg2)
      obtain ⟨i0, hi0, hz0, hz1, hz2'⟩ := info_parts item_infoz
      have hsz2 := htr2.size
      clear hnu hna hu2 hu3 hboxv hownv hrdv htrv hboxc hownc htrc HB HSL hgu hgd hO1
      go_wp2_with (at_builtin; refine wpList_append_recs rfl (.tmp 56) (.tmp 60) 29 rfl w7.heap.size 61 i0 zitem 33 40 (by decide) Tryd.underlying29 hi0 hz0 hz1 hz2' zitem_size (.slice A8 P c8) P _ rfl hrow2 _ (some ⟨u2.heap.size, 0, none⟩) 1 1 (icells it) rfl (by rw [hic]) hl2 hione (by unfold maxLen; omega) (by omega) (by omega) ?_; intro v' w9 hown' hg' hat'; have htA : Turns (fun q => w7.heap.size ≤ q) u3 w9 := Turns.of_by hg' fun g e _ => own_ge hrow2 g e; have hbox9 := hbox2.turned htA (by omega); have hc35 := hbox9.cell hx35; have hf35 := hbox9.free 35; have hrd9 := hrd2.turned htA (by omega) (fun q h => by omega); obtain ⟨A9, c9, rfl, _⟩ := own_form hown')
      refine NoPanic.normal ?_
      go_wp2_with fail
      have hbs := hbox9.set_ (k := 35) (by rw [xcells_len him]; decide) (.slice A9 (P + 1) c9)
      have hl9 : (cur ++ [it]).length = P + 1 := by rw [List.length_append, HP.out]; rfl
      rw [← hl9, xc_set _ _ _ (cur ++ [it]) A9 c9 him, hl9] at hbs
      have hts := Turns.of_set (S := fun q => q = rb + 1) (b := rb + 1) (o := 35) w9 (.slice A9 (P + 1) c9) rfl
      have hrdE := hrd9.turned hts (by omega) (fun q h => by omega)
      have ht9 : Turns (fun q => q = rb ∨ q = rb + 1 ∨ w7.heap.size ≤ q) w7 (w9.setCell ⟨rb + 1, 35, none⟩ (.slice A9 (P + 1) c9)) := (htr2.trans (htA.mono fun q _ h => .inr (.inr h))).trans (hts.mono fun q _ h => .inr (.inl h))
      have hown9 : (w9.setCell ⟨rb + 1, 35, none⟩ (.slice A9 (P + 1) c9)).ownsRow w7.heap.size 61 33 (.slice A9 (P + 1) c9) (P + 1) ((cur.map icells).flatten ++ icells it) := own_turned hown' hts (fun g hg h => by have := own_ge hown' g hg; omega)
      go_roundw
      case rel => exact ⟨j + 1, A9, c9, _, _, by omega, by go_num, hrdE, by rw [HSN.out]; exact hbs, by rw [HSN.out]; show World.ownsRow _ _ _ _ _ _ _; rw [flat_snoc, hl9]; exact hown9, ht9⟩
      case measure => simp [intOf]; omega
    · obtain rfl : j = k := by omega
      have hDk : D.take j = D := List.take_of_length_le (by omega)
      rw [hDk] at hbox hown
      have hrecs : Recs wr A8 33 (D.map icells) := OwnIt.recs hown (fun it hi => (hDok it hi).1)
      have hxok : Ixd.Ok ⟨n4, n8, n12, im, D⟩ := by rw [← HDEC.out]; exact decI_ok (by rw [HM.out]; omega)
      have hMd : IMay ⟨n4, n8, n12, im, D⟩ := by rw [← HDEC.out]; exact HMAY.out
      have MM : Calls Tryd.prog 25 #[xval ⟨n4, n8, n12, im, D⟩ A8 c8] wr fun e w' => e = .returned (.bool true) ∧ Grows wr w' := by
        have := imay_any ⟨n4, n8, n12, im, D⟩ A8 c8 wr hxok hrecs (by show D.length ≤ _; unfold maxLen; omega)
        rwa [mayI_true hMd] at this
      have hxl := xcells_len (x := ⟨n4, n8, n12, im, D⟩) him A8 c8
      have hxo := xcells_one ⟨n4, n8, n12, im, D⟩ A8 c8
      have ldx := hbox.load Tryd.underlying44 rfl (by rw [hxl]; exact ix_size)
      have hbr : Has wr w.heap.size zcells := hb7.turned htr (fun h => by rcases h with h | h | h <;> omega)
      have hgwr : Grows w wr := turns_then_grows hgw htr (fun q h => by rcases h with h | h | h <;> omega)
      obtain ⟨Af, cf, hef, hcf⟩ := own_form (show World.ownsRow _ _ _ _ _ _ _ from hown)
      have hcc : cf = c8 := by injection hef with _ _ h; exact h.symm
      rw [hcc, hDl] at hcf
      go_wp2_with (first | go_big_skip | (with_reducible refine wpList_loads rfl 44 (.tmp 7) rfl _ rfl _ ldx ?_))
      refine MM.mono ?_
      rintro e w8 ⟨rfl, hg8⟩
      have hbox8 := hbox.later hg8
      have hbr8 := hbr.later hg8
      have ldx8 := hbox8.load Tryd.underlying44 rfl (by rw [hxl]; exact ix_size)
      have hgE := Grows.trans hgwr hg8
      have hownE := own_later (show World.ownsRow _ _ _ _ _ _ _ from hown) hg8
      generalize hX : xcells ⟨n4, n8, n12, im, D⟩ A8 c8 = X at *
      have HX := Lib.hid hX
      clear hX ldx hbox hbr MM
      go_wp2_with (first | go_big_skip | (with_reducible refine wpList_loads rfl 44 (.tmp 7) rfl _ rfl _ ldx8 ?_) | (refine wpList_storeT rfl 44 (.tmp 2) (.tmp 68) rfl w.heap.size zcells X 36 rfl rfl hbr8 zcells_len hxl ix_size hxo ?_; intro w9 hbox9 ht9))
      have hown9 := own_turned hownE ht9 (fun g hg h => by have := own_ge hownE g hg; have := hgw.size; have := hb7.lt; omega)
      refine bodyPost_ret (res_has_tmp (vs := X) Tryd.results39 _ rfl Tryd.underlying44 rfl (by rw [hxl]; exact ix_size) hbox9) rfl ⟨A8, c8, ?_, ?_, ?_, turns_grow hgE ht9 (Nat.le_refl _)⟩
      · rw [HDEC.out, ← HX.out, ← hDl]; rfl
      · exact hcf
      · have := own_base hown9 hgw.size
        rw [hDl] at this
        rw [HDEC.out]
        show World.ownsRow _ _ _ _ _ _ _
        rw [hDl]
        exact this
end Go.Proofs.YtnokloedbckijaaDoor

/-
  What index.Write wrote is read as it was.
-/
namespace Go.Proofs.YtnokloedbckijaaDoor
open Go.RowKit
set_option linter.unusedVariables false
set_option maxRecDepth 20000

theorem ixAll_len {x : Ixd} (hx : x.Ok) : (ixAll x).length = 56 + 36 * x.its.length := by
  unfold ixAll
  rw [List.length_append, ixBytes_len hx, four_len]
  omega
theorem read_all (x : Ixd) (A : Option Addr) (n c : Nat) (w : World) (hx : x.Ok) (hM : IMay x) (hl : (ixAll x).length = n) (hr : Lies w w.heap.size A ((ixAll x).map bv)) (hc : n ≤ c) :
    Calls Tryd.prog 39 #[.slice A n c] w fun e w' => ∃ A' c', e = .returned (.tuple #[xval x A' c', .int .i64 0]) ∧ x.its.length ≤ c' ∧ OwnIt w.heap.size w' (.slice A' x.its.length c') x.its ∧ Grows w w' := by
  obtain ⟨h1, h2, h3⟩ := decI_of x hx hM
  have hfew := hM.few
  have hln := ixAll_len hx
  have h := read_ok A n c x.its.length (ixAll x) (ixBytes x) w (takeOf_all _) hl hr hc (by omega) (ixBytes_len hx) hfew h2 h3 (by rw [h1]; exact hM)
  rw [h1] at h
  exact h
end Go.Proofs.YtnokloedbckijaaDoor

/-
  An index that lies in memory, in one word (as in L11B).
-/
namespace Go.Proofs.YtnokloedbckijaaDoor
open Go.RowKit
set_option linter.unusedVariables false
set_option maxRecDepth 20000

/-- An index that lies there: its data, where its items are, their room. -/
abbrev Ent3 := Ixd × Option Addr × Nat
def ent3 (t : Ent3) : List Value := xcells t.1 t.2.1 t.2.2
structure Lying (w : World) (t : Ent3) : Prop where
  ok : t.1.Ok
  few : t.1.its.length ≤ maxLen
  recs : Recs w t.2.1 33 (t.1.its.map icells)
theorem Lying.later {w w' : World} {t : Ent3} (h : Lying w t) (hg : Grows w w') : Lying w' t := ⟨h.ok, h.few, h.recs.later hg⟩
theorem goodX_few (x : Ixd) : (goodX x).its.length ≤ 6 := by show ((x.its.take 6).map _).length ≤ 6; simp; omega
end Go.Proofs.YtnokloedbckijaaDoor
