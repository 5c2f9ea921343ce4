/-
  StoreCrashes' walk: a Put that was done.
-/
import Derived.Test.YtbcldknecdbemaaGreatDoorS13CA
namespace Go.Proofs.YtbcldknecdbemaaGreatDoor
open Go.RowKit
set_option linter.unusedVariables false
set_option maxRecDepth 20000

set_option maxHeartbeats 8000000 in
theorem crashes_c (A : Option Addr) (n c : Nat) (bs : Byts) (pz : Int) (Ak : Option Addr) (kl kc : Nat) (ks0 : List Bool) (w : World) (hk : Keys w) (hl : bs.length = n) (hr : Lies w w.heap.size A (bs.map bv)) (hc : n ≤ c) (hm : c ≤ maxLen) (hpz : I64' pz)
    (hkl0 : ks0.length = kl) (hkr : Lies w w.heap.size Ak (ks0.map .bool)) (hkc : kl ≤ kc) (hkm' : kc ≤ maxLen)
    (D1 : Dk) (S : Fls) (h1 : putD (still 1000 [] (around pz 6)) (bs.take 60) = (D1, shaOf (bs.take 60), 0)) (h2 : restartD D1 (ks0.take 9) = still 1000 S (-1)) (h3 : getD (still 1000 S (-1)) (shaOf (bs.take 60)) = (bs.take 60, 0)) (h4 : putD (still 1000 S (-1)) (bs.take 60) = (still 1000 [(placeB (shaOf (bs.take 60)), sealOf (bs.take 60))] (-1), shaOf (bs.take 60), 0)) (h5 : 4 ≤ around pz 6) :
    Calls Tryz.prog 5 #[.slice A n c, rv pz, .slice Ak kl kc] w fun e w' => e = .returned (.bool true) ∧ Below w.heap.size w w' := by
  have B0 := begin_any 1000 w (by omega)
  have FW := fun u (h : Grows w u) => few_bytes A n c 60 bs u hl (hr.later h) hc (by omega) hm
  have AR := fun u => around_any pz 6 u hpz (by omega)
  have hk6 : around pz 6 < 6 := around_lt _ (by omega)
  generalize around pz 6 = k at *
  have hol : (bs.take 60).length = min n 60 := by rw [List.length_take, hl]; omega
  have hmn : min n 60 ≤ 60 := by omega
  generalize bs.take 60 = own at *
  generalize min n 60 = ln at *
  have hkl : (ks0.take 9).length = min kl 9 := by rw [List.length_take, hkl0]; omega
  have hmi : min (kl : Int) 9 = ((min kl 9 : Nat) : Int) := by omega
  have hmk : min kl 9 ≤ kl := by omega
  have hlk : Lies w w.heap.size Ak ((ks0.take 9).map .bool) := fun j u hu => hkr j u (by
    rw [List.getElem?_map, List.getElem?_take] at hu
    split at hu
    · rw [List.getElem?_map]; exact hu
    · cases hu)
  generalize ks0.take 9 = ks at *
  generalize min kl 9 = kn at *
  have hgw := get_whole (b := own) (room := 1000) (by omega) (-1) (by decide)
  have hwt := still_wt own 1000 (-1) (placeB (shaOf own))
  have hpf : preF (still 1000 [(placeB (shaOf own), sealOf own)] (-1)).seen [116, 47] = [] := pref_place _ _
  have hDp : ({ (newD 1000) with power := max (k : Int) (-1) } : Dk) = still 1000 [] k := by show Dk.mk _ _ _ _ _ = Dk.mk _ _ _ _ _; congr 1; omega
  have hokp : (still 1000 [] (k : Int)).Ok := ⟨Srt.nil, rfl⟩
  have hw1 : PutW (still 1000 [] (k : Int)) own.length D1 4 := by have := putD_w (still 1000 [] (k : Int)) own hokp; rw [h1] at this; exact this
  have hwp : (still 1000 [] (k : Int)).weight = 0 ∧ (still 1000 [] (k : Int)).waits.length = 0 ∧ (still 1000 [] (k : Int)).room = 1000 := ⟨rfl, rfl, rfl⟩
  have hw2 : (still 1000 S (-1)).weight ≤ D1.weight := by rw [← h2]; exact weight_restart hw1.ok ks
  have hw2' : (still 1000 S (-1)).waits.length = 0 ∧ (still 1000 S (-1)).room = 1000 := ⟨rfl, rfl⟩
  have hw3' : (still 1000 [(placeB (shaOf own), sealOf own)] (-1)).seen.length ≤ 1000000 := by show (1 : Nat) ≤ _; omega
  have w1 := hw1.wt
  have w2 := hw1.wl
  have hnl := shaOf_len own
  have RS := fun (u : World) (A' : Option Addr) (n' c' : Nat) (h1 : own.length = n') (h : Lies u u.heap.size A' (own.map bv)) => rsum_any A' n' c' own u h1 h (by omega)
  have PW := fun (u : World) (a m : Nat) (X : Nat → Prop) (hd : Dsk u a m X (newD 1000)) => power_d a m X (newD 1000) u (k : Int) hd (by omega)
  rw [hDp] at PW
  have PU0 := fun (u : World) (a m : Nat) (X : Nat → Prop) (A' : Option Addr) (n' c' : Nat) (hd : Dsk u a m X (still 1000 [] k)) (hX : ∀ k, X k → k < u.heap.size) (hk : Keys u) (h1 : own.length = n') (hr : LiesIn (fun k => k < u.heap.size ∧ ¬ (m ≤ k ∧ ¬ X k)) u A' (own.map bv)) (hc : n' ≤ c') => sput_any a m X _ u A' n' c' own hd hX hk h1 hr hc (by omega) (by omega) (by omega) (by omega)
  unfold PutOut at PU0
  rw [h1] at PU0
  have PU1 := fun (u : World) (a m : Nat) (X : Nat → Prop) (A' : Option Addr) (n' c' : Nat) (hd : Dsk u a m X (still 1000 S (-1))) (hX : ∀ k, X k → k < u.heap.size) (hk : Keys u) (h1 : own.length = n') (hr : LiesIn (fun k => k < u.heap.size ∧ ¬ (m ≤ k ∧ ¬ X k)) u A' (own.map bv)) (hc : n' ≤ c') => sput_any a m X _ u A' n' c' own hd hX hk h1 hr hc (by omega) (by omega) (by omega) (by omega)
  unfold PutOut at PU1
  rw [h4] at PU1
  have GT0 := fun (u : World) (a m : Nat) (X : Nat → Prop) (hd : Dsk u a m X (still 1000 S (-1))) (hk : Keys u) => sget_any a m X _ u (shaOf own) hd hk (by omega) hnl
  unfold GetOut at GT0
  rw [h3] at GT0
  have GT := fun (u : World) (a m : Nat) (X : Nat → Prop) (hd : Dsk u a m X (still 1000 [(placeB (shaOf own), sealOf own)] (-1))) (hk : Keys u) => sget_any a m X _ u (shaOf own) hd hk (by omega) hnl
  unfold GetOut at GT
  rw [hgw] at GT
  have RT0 := fun (u : World) (a m : Nat) (X : Nat → Prop) (hd : Dsk u a m X D1) (hX : ∀ k, X k → k < u.heap.size) (hl : LiesIn (fun i => i < u.heap.size ∧ ¬ (m ≤ i ∧ ¬ X i)) u Ak (ks.map .bool)) => restart_d a m X D1 u Ak kn kc ks hd hX hkl (by omega) hl (by omega) (by omega)
  rw [h2] at RT0
  have CL := fun (u : World) (a m : Nat) (X : Nat → Prop) (hd : Dsk u a m X (still 1000 [(placeB (shaOf own), sealOf own)] (-1))) => clean_none a m X _ u hd hw3' hpf
  have LS := fun (u : World) (a m : Nat) (X : Nat → Prop) (hd : Dsk u a m X (still 1000 [(placeB (shaOf own), sealOf own)] (-1))) => (list_d a m X _ u [116, 47] hd hw3').mono fun e w' ⟨v, h1, h2, h3⟩ => (by
    rw [hpf] at h2
    obtain ⟨A', c', h4, _⟩ := own_form h2
    exact ⟨A', c', by rw [h1, h4]; rfl, h3⟩ : ∃ A' c', e = Ending.returned (.slice A' 0 c') ∧ Grows u w')
  generalize shaOf own = nm at *
  generalize still 1000 [(placeB nm, sealOf own)] (-1) = D3 at *
  generalize still 1000 S (-1) = D2 at *
  generalize still 1000 [] (k : Int) = Dp at *
  generalize newD 1000 = D0 at *
  have hnl2 : (nm.map bv).length = 32 := by rw [List.length_map]; exact hnl
  have z4 := zero32_len
  have hkp := hk.pos
  have hki : (k : Int) < 6 := by omega
  unfold maxLen at hkm'
  clear hgw hkr hkl0 hpf hDp hokp hw1 hwp hw2 hw2' hw3' w1 w2 hwt h1 h2 h3 h4
  have HMI := Lib.hid hmi
  have HOL := Lib.hid hol
  clear hmi hol
  go_enter Tryz.func5, Tryz.ntmps5
  go_wp2_with fail
  refine B0.mono ?_
  rintro e w1 ⟨bw, a, rfl, hb, d1, hbw, g1⟩
  generalize hme : w.heap.size = m at *
  have HM := Lib.hid hme
  clear hme B0
  have hkm : ¬ (m ≤ 1) := by omega
  have hbl := hb.lt
  go_wp2_with fail
  refine (FW w1 g1).mono ?_
  rintro e w2 ⟨A1, c1, rfl, hc1, hown, hL2, g2⟩
  have FI := fresh_in (fresh_own hown (Nat.le_refl _))
  have h12 := g2.size
  have d2 := (d1.more (X' := fun k => k = bw ∨ w1.heap.size ≤ k) (fun k h => h)).later g2
  have d2 := d2.more (X' := fun k => k = bw ∨ (w1.heap.size ≤ k ∧ k < w2.heap.size)) (fun k h => .inl (h.imp id (fun h => h.1)))
  have hb2 := hb.later g2
  have T2 : Turns (fun q => m ≤ q) w w2 := Turns.of_grows (Grows.trans g1 g2)
  have hs2 : m ≤ w1.heap.size := by have := HM.out; have := g1.size; omega
  generalize hX2 : (fun k => k = bw ∨ (w1.heap.size ≤ k ∧ k < w2.heap.size)) = X at *
  have xbw : X bw := by rw [← hX2]; exact .inl rfl
  have xin : ∀ k, w1.heap.size ≤ k ∧ k < w2.heap.size → X k := fun k h => by rw [← hX2]; exact .inr h
  have xlt : ∀ k, X k → k < w2.heap.size := fun k h => by rw [← hX2] at h; rcases h with h | h <;> omega
  generalize hok : (fun k => w1.heap.size ≤ k ∧ k < w2.heap.size) = ok at *
  have oklt : ∀ k, ok k → k < w2.heap.size := fun k h => by rw [← hok] at h; exact h.2
  have okx : ∀ k, ok k → X k := fun k h => by rw [← hok] at h; exact xin k h
  clear hX2 hok d1 hb hown hL2 g2 FW xin
  go_wp2_with fail
  refine (AR w2).mono ?_
  rintro e w2 ⟨rfl, rfl⟩
  have cw2 := hb2.cell (k := 0) rfl
  clear AR
  go_wp2_with fail
  refine (PW w2 a m X d2).mono ?_
  rintro e wp ⟨rfl, dp, tp⟩
  have hbp := hb2.turned tp (fun e => e.2 xbw)
  have FIp := lies_in_turned FI tp (fun k h e => e.2 (okx k h))
  have Tp := T2.trans (tp.mono fun q _ e => e.1)
  have tps := tp.size
  have xltp : ∀ k, X k → k < wp.heap.size := fun k h => by have := xlt k h; omega
  have cwp := hbp.cell (k := 0) rfl
  have Cp := PU0 wp a m X A1 ln c1 dp xltp (hk.turned Tp hkm) HOL.out (lies_in_mono FIp (fun k h => ⟨xltp k (okx k h), fun e => e.2 (okx k h)⟩)) hc1
  clear hb2 FI d2 tp PW PU0 T2 dp cw2
  go_wp2_with fail
  refine Cp.mono ?_
  rintro e w3 ⟨rfl, d3, t3, _⟩
  have hb3 := hbp.turned t3 (fun e => e.2 xbw)
  have FI3 := lies_in_turned FIp t3 (fun k h e => e.2 (okx k h))
  have T3 := Tp.trans (t3.mono fun q _ e => e.1)
  have t3s := t3.size
  clear Cp FIp hbp t3 cwp
  have hz4 := Has.new w3 46 (zero32.map bv)
  have ga3 := grows_alloc w3 (.cells (zero32.map bv).toArray 46)
  have d4 := (d3.more (X' := fun k => X k ∨ k = w3.heap.size) (fun k h => h.imp id (fun e => Nat.le_of_eq e.symm))).later ga3
  have hb4 := hb3.later ga3
  obtain ⟨w4, hw4⟩ : ∃ u, u = w3.alloc (.cells (zero32.map bv).toArray 46) := ⟨_, rfl⟩
  obtain ⟨B10, hB10⟩ : ∃ u, u = w3.heap.size := ⟨_, rfl⟩
  rw [← hw4] at hz4 ga3 hb4 d4
  rw [← hB10] at hz4 d4
  have HW4 := Lib.hid hw4.symm
  have HB10 := Lib.hid hB10.symm
  have n10 : ¬ bw = B10 := by have := xltp bw xbw; omega
  have h10 : m ≤ B10 ∧ wp.heap.size ≤ B10 := by omega
  have heq : ∀ u, (binOp .neq 46 (dv zero32) (.agg #[Value.int .u8 0, Value.int .u8 0, Value.int .u8 0, Value.int .u8 0, Value.int .u8 0, Value.int .u8 0, Value.int .u8 0, Value.int .u8 0, Value.int .u8 0, Value.int .u8 0, Value.int .u8 0, Value.int .u8 0, Value.int .u8 0, Value.int .u8 0, Value.int .u8 0, Value.int .u8 0, Value.int .u8 0, Value.int .u8 0, Value.int .u8 0, Value.int .u8 0, Value.int .u8 0, Value.int .u8 0, Value.int .u8 0, Value.int .u8 0, Value.int .u8 0, Value.int .u8 0, Value.int .u8 0, Value.int .u8 0, Value.int .u8 0, Value.int .u8 0, Value.int .u8 0, Value.int .u8 0])).run Tryz.prog u = .ok (.bool false) u := fun u => (Hx.neq_dig zero32 zero32 rfl rfl u).trans (by rw [show (zero32 == zero32) = true from by simp]; rfl)
  have hk3 : (3 : Int) < (k : Int) := by omega
  have hk3' : decide ((k : Int) > 3) = true := by simp; omega
  clear hw4 hB10 d3
  go_wp2_with (first
    | go_big_skip
    | (change wpList _ _ _ _ _ (w3.alloc (.cells (zero32.map bv).toArray 46)); rw [HW4.out, HB10.out])
    | (refine wpList_storeT rfl 46 (.tmp 10) (.tmp 39) rfl B10 (zero32.map bv) (nm.map bv) 32 rfl rfl hz4 z4 (hnl2) Hx.dig_size (bv_one _) ?_; intro w5 b10 t5; have ld10 := dig_load hnl b10)
    | (refine wpList_loadg (by rfl) 46 (.tmp 10) rfl _ rfl _ ld10 ?_))
  have hb5 := hb4.turned t5 n10
  have d5 := d4.turned t5 (fun k e h => h.2 (.inr e))
  have T5 : Turns (fun q => m ≤ q) w w5 := (T3.trans (Turns.of_grows ga3)).trans (t5.mono fun k _ e => by rw [e]; exact h10.1)
  have FI5 := lies_in_turned (lies_in_later FI3 ga3) t5 (fun k h e => by have := oklt k h; omega)
  have xlt5 : ∀ k, (X k ∨ k = B10) → k < w5.heap.size := fun k h => by
    have := b10.lt; have := t5.size; have := ga3.size
    rcases h with h | h
    · have := xltp k h; omega
    · omega
  clear hz4 hb4 d4 t5 FI3 hb3 T3 ga3 HW4 heq xltp
  generalize hXX : (fun k => X k ∨ k = B10) = X5 at *
  have xbw5 : X5 bw := by rw [← hXX]; exact .inl xbw
  have okx5 : ∀ k, ok k → X5 k := fun k h => by rw [← hXX]; exact .inl (okx k h)
  have xlt5 : ∀ k, X5 k → k < w5.heap.size := fun k h => xlt5 k (by rw [← hXX] at h; exact h)
  clear hXX xlt okx oklt xbw Tp
  -- Restart
  have gd5 := (Grows.refl w5).drew
  have hmi := HMI.out
  have hcut : ∀ u, (Instr.sliceAt 28 (.slice Ak kl kc) none (some (.int .i64 (kn : Int))) none).run Tryz.prog u = .ok (.slice Ak kn kc) u := fun u => run_cutK_to (P := Tryz.prog) (t := 28) (e := 4) Tryz.underlying28 (sz := 1) bool_size Ak kl kc kn .i64 (by omega) u
  have cw5 : ∀ u, Turns (fun k => m ≤ k ∧ ¬ X5 k) w5.drew u → u.cell? ⟨bw, 0, none⟩ = some (.pointer (some ⟨a, 0, none⟩)) := fun u h => ((hb5.later gd5).turned h (fun e => e.2 xbw5)).cell (k := 0) rfl
  have RT := fun (u : World) (h : Grows w5 u) => RT0 u a m X5 (d5.later h) (fun k hk => Nat.lt_of_lt_of_le (xlt5 k hk) h.size) (fun j u' hu => by
    obtain ⟨ad, e1, e2, e3⟩ := hlk j u' hu
    have := HM.out
    have := (T5.trans (Turns.of_grows h)).size
    exact ⟨ad, e1, ⟨by omega, fun h => by have := h.1; omega⟩, (T5.trans (Turns.of_grows h)).cell e3 (fun h => by rw [add_block] at h; omega)⟩)
  have hO := Turns.refl (fun k => m ≤ k ∧ ¬ X5 k) w5.drew
  refine wp_region_callw (S := fun k => m ≤ k ∧ ¬ X5 k) 10 [(0, true), (1, true), (2, true), (3, true), (4, true), (5, true), (6, true), (7, true), (8, true), (9, false)] (by kernel_rfl) (by kernel_rfl) ?_
  repeat (first | (refine orc_cut hO _ ?_ (by simp only [List.getElem?_cons_succ, List.getElem?_cons_zero]; rfl) (by rfl) 28 (.tmp 63) none (some (.tmp 66)) none (by rfl) ?_ ?_; rotate_left; (· (exact hcut)); try simp only [Act.put, List.setIfInBounds_toArray, List.set_cons_zero, List.set_cons_succ]) | (refine orc_take hO _ ?_ (by simp only [List.getElem?_cons_succ, List.getElem?_cons_zero]; rfl) (by rfl) ?_ ?_; rotate_left; (· (intro u hu0 hu; (try go_simp); (try with_reducible rfl))); try simp only [Act.put, List.setIfInBounds_toArray, List.set_cons_zero, List.set_cons_succ]))
  refine orc_move _ (by simp only [List.getElem?_cons_succ, List.getElem?_cons_zero]; rfl) (by rfl) (fun v2 hv2 K hK => ?_)
  go_simp
  have G2 := Grows.trans gd5 hv2
  refine (RT v2 G2).mono ?_
  rintro e v3 ⟨rfl, d7, t7⟩
  refine hK.out _ _ t7 ?_
  clear hK K hO cw5
  have hO := Turns.refl (fun k => m ≤ k ∧ ¬ X5 k) v3
  repeat (refine orc_take hO _ ?_ (by simp only [List.getElem?_cons_succ, List.getElem?_cons_zero]; rfl) (by rfl) ?_ ?_; rotate_left; (· (intro u hu0 hu; (try go_simp); (try with_reducible rfl))); try simp only [Act.put, List.setIfInBounds_toArray, List.set_cons_zero, List.set_cons_succ])
  refine orc_done (fun w8 hv4 => ?_)
  simp only [List.drop_succ_cons, List.drop_zero]
  clear hO RT hcut hmi RT0
  have hb8 := ((hb5.later G2).turned t7 (fun e => e.2 xbw5)).later hv4
  have d8 := d7.later hv4
  have FI8 := lies_in_later (lies_in_turned (lies_in_later FI5 G2) t7 (fun k h e => e.2 (okx5 k h))) hv4
  have T8 := ((T5.trans (Turns.of_grows G2)).trans (t7.mono fun q _ e => e.1)).trans (Turns.of_grows hv4)
  have g8s := Nat.le_trans (Nat.le_trans G2.size t7.size) hv4.size
  have xlt8 : ∀ k, X5 k → k < w8.heap.size := fun k h => by have := xlt5 k h; omega
  clear hb5 d5 FI5 T5 t7 d7 G2 b10
  go_wp2_with fail
  refine NoPanic.normal ?_
  go_wp2_with fail
  refine (RS w8 A1 ln c1 HOL.out (lies_of_in FI8 (fun k hk => xlt8 k (okx5 k hk)))).mono ?_
  rintro e w9 ⟨rfl, g9⟩
  have hz9 := Has.new w9 46 (zero32.map bv)
  have ga9 := grows_alloc w9 (.cells (zero32.map bv).toArray 46)
  have d9 := ((d8.later g9).more (X' := fun k => X5 k ∨ k = w9.heap.size) (fun k h => h.imp id (fun e => Nat.le_of_eq e.symm))).later ga9
  obtain ⟨w10, hw10⟩ : ∃ u, u = w9.alloc (.cells (zero32.map bv).toArray 46) := ⟨_, rfl⟩
  obtain ⟨B12, hB12⟩ : ∃ u, u = w9.heap.size := ⟨_, rfl⟩
  rw [← hw10] at hz9 ga9 d9
  rw [← hB12] at hz9 d9
  have HW10 := Lib.hid hw10.symm
  have HB12 := Lib.hid hB12.symm
  have g9s := g9.size
  have n12 : ¬ bw = B12 := by have := xlt8 bw xbw5; omega
  have h12' : m ≤ B12 ∧ w8.heap.size ≤ B12 := by have := T8.size; have := HM.out; omega
  clear hw10 hB12 RS
  go_wp2_with (first
    | (change wpList _ _ _ _ _ (w9.alloc (.cells (zero32.map bv).toArray 46)); rw [HW10.out, HB12.out])
    | (refine wpList_storeT rfl 46 (.tmp 12) (.tmp 70) rfl B12 (zero32.map bv) (nm.map bv) 32 rfl rfl hz9 z4 hnl2 Hx.dig_size (bv_one _) ?_; intro w11 b12 t11))
  have hb11 := ((hb8.later g9).later ga9).turned t11 n12
  have d11 := d9.turned t11 (fun k e h => h.2 (.inr e))
  have T11 : Turns (fun q => m ≤ q) w w11 := (T8.trans (Turns.of_grows (Grows.trans g9 ga9))).trans (t11.mono fun k _ e => by rw [e]; exact h12'.1)
  have FI11 := lies_in_turned (lies_in_later FI8 (Grows.trans g9 ga9)) t11 (fun k h e => by have := xlt8 k (okx5 k h); omega)
  have xlt11 : ∀ k, (X5 k ∨ k = B12) → k < w11.heap.size := fun k h => by
    have := b12.lt; have := t11.size; have := ga9.size
    rcases h with h | h
    · have := xlt8 k h; omega
    · omega
  clear hz9 d9 t11 FI8 hb8 T8 ga9 HW10 d8
  generalize hXX : (fun k => X5 k ∨ k = B12) = X6 at *
  have xbw6 : X6 bw := by rw [← hXX]; exact .inl xbw5
  have x126 : X6 B12 := by rw [← hXX]; exact .inr rfl
  have okx6 : ∀ k, ok k → X6 k := fun k h => by rw [← hXX]; exact .inl (okx5 k h)
  have xlt6 : ∀ k, X6 k → k < w11.heap.size := fun k h => xlt11 k (by rw [← hXX] at h; exact h)
  clear hXX xlt11 xlt8 xlt5 okx5 xbw5
  -- Get
  have gd11 := (Grows.refl w11).drew
  have cw11 : ∀ u, Grows w11.drew u → u.cell? ⟨bw, 0, none⟩ = some (.pointer (some ⟨a, 0, none⟩)) := fun u h => hcell_later (hb11.cell (k := 0) rfl) (Grows.trans gd11 h)
  have ld12 : ∀ u, Grows w11.drew u → (Instr.loadAt 46 (.pointer (some ⟨B12, 0, none⟩))).run Tryz.prog u = .ok (dv nm) u := fun u h => dig_load hnl (b12.later (Grows.trans gd11 h))
  have k11 := hk.turned T11 hkm
  refine wp_region_ord 11 [(0, true), (1, true), (2, true), (3, true), (4, true), (5, false), (6, true), (7, true), (8, true), (9, true), (10, true)] (by kernel_rfl) (by kernel_rfl) ?_
  have hO := Grows.refl w11.drew
  repeat (first | (refine ord_load hO _ _ (by simp only [List.getElem?_cons_succ, List.getElem?_cons_zero]; rfl) (by rfl) 46 (.tmp 12) (by rfl) _ (by rfl) ld12 ?_; try simp only [Act.put, List.setIfInBounds_toArray, List.set_cons_zero, List.set_cons_succ]) | (refine ord_take hO _ ?_ (by simp only [List.getElem?_cons_succ, List.getElem?_cons_zero]; rfl) (by rfl) ?_ ?_; rotate_left; (· (intro u hu0 hu; (try go_simp); (try with_reducible rfl))); try simp only [Act.put, List.setIfInBounds_toArray, List.set_cons_zero, List.set_cons_succ]) | (refine ord_skip _ (by simp only [List.getElem?_cons_succ, List.getElem?_cons_zero]; rfl) (by rfl) ?_; try simp only [Act.put, List.setIfInBounds_toArray, List.set_cons_zero, List.set_cons_succ]))
  (refine ord_move _ (by simp only [List.getElem?_cons_succ, List.getElem?_cons_zero]; rfl) (by rfl) (fun u hu K hK => ?_); go_simp)
  have gu := Grows.trans gd11 hu
  refine (GT0 u a m X6 (d11.later gu) (k11.later gu)).mono ?_
  rintro e w12 ⟨A13, c13, rfl, hc13, hL13, g12⟩
  refine hK.out _ _ g12 ?_
  clear hK K hO cw11 ld12
  have hO := Grows.refl w12
  repeat (first | (refine ord_take hO _ ?_ (by simp only [List.getElem?_cons_succ, List.getElem?_cons_zero]; rfl) (by rfl) ?_ ?_; rotate_left; (· (intro u hu0 hu; (try go_simp); (try with_reducible rfl))); try simp only [Act.put, List.setIfInBounds_toArray, List.set_cons_zero, List.set_cons_succ]) | (refine ord_skip _ (by simp only [List.getElem?_cons_succ, List.getElem?_cons_zero]; rfl) (by rfl) ?_; try simp only [Act.put, List.setIfInBounds_toArray, List.set_cons_zero, List.set_cons_succ]))
  refine ord_done (fun w13 hu13 => ?_)
  simp only [List.drop_succ_cons, List.drop_zero]
  have G13 := Grows.trans gu (Grows.trans g12 hu13)
  have hb13 := hb11.later G13
  have b12 := b12.later G13
  have d13 := d11.later G13
  have FI13 := lies_in_later FI11 G13
  have T13 := T11.trans (Turns.of_grows G13)
  have hL13 := hL13.later hu13
  have g13s := G13.size
  have xlt13 : ∀ k, X6 k → k < w13.heap.size := fun k h => by have := xlt6 k h; omega
  clear hb11 d11 FI11 T11 gu k11 GT0 hO
  have e1 : ∀ t, binOp .eql t (tv own) (tv own) = (pure (.bool true) : Sem Value) := fun t => by rw [run_teq (P := Tryz.prog)]; simp
  have e2 : ∀ t, binOp .neq t (tv own) (tv own) = (pure (.bool false) : Sem Value) := fun t => by rw [run_tne (P := Tryz.prog)]; simp
  have hnA : own.length = ln := HOL.out
  have cs1 : (convert 27 9 (.slice A1 ln c1)).run Tryz.prog w13 = .ok (tv own) w13 := by have := lies_text (c := c1) (lies_of_in (B := w13.heap.size) FI13 (fun k hk => xlt13 k (okx6 k hk))); rwa [hnA] at this
  have cs13 := lies_text (c := c13) hL13
  have cw13 := hb13.cell (k := 0) rfl
  have k13 := hk.turned T13 hkm
  have C13 := PU1 w13 a m X6 A1 ln c1 d13 xlt13 k13 HOL.out (lies_in_mono FI13 (fun k h => ⟨xlt13 k (okx6 k h), fun e => e.2 (okx6 k h)⟩)) hc1
  clear PU1 hnA
  go_wp2_with go_big_skip
  refine NoPanic.normal ?_
  go_wp2_with go_big_skip
  refine C13.mono ?_
  rintro e w14 ⟨rfl, d14, t14, _⟩
  have hb14 := hb13.turned t14 (fun e => e.2 xbw6)
  have b12 := b12.turned t14 (fun e => e.2 x126)
  have FI14 := lies_in_turned FI13 t14 (fun k h e => e.2 (okx6 k h))
  have T14 := T13.trans (t14.mono fun q _ e => e.1)
  have t14s := t14.size
  clear C13 FI13 hb13 t14 cw13 cs1 cs13 d13 hL13 T13
  have hz15 := Has.new w14 46 (zero32.map bv)
  have ga14 := grows_alloc w14 (.cells (zero32.map bv).toArray 46)
  obtain ⟨w15, hw15⟩ : ∃ u, u = w14.alloc (.cells (zero32.map bv).toArray 46) := ⟨_, rfl⟩
  obtain ⟨B15, hB15⟩ : ∃ u, u = w14.heap.size := ⟨_, rfl⟩
  rw [← hw15] at hz15 ga14
  rw [← hB15] at hz15
  have HW15 := Lib.hid hw15.symm
  have HB15 := Lib.hid hB15.symm
  have hw14B : w14.heap.size ≤ B15 := by omega
  clear hw15 hB15
  go_wp2_with (first
    | (change wpList _ _ _ _ _ (w14.alloc (.cells (zero32.map bv).toArray 46)); rw [HW15.out, HB15.out])
    | (refine wpList_storeT rfl 46 (.tmp 15) (.tmp 96) rfl B15 (zero32.map bv) (nm.map bv) 32 rfl rfl hz15 z4 hnl2 Hx.dig_size (bv_one _) ?_; intro w16 b15 t16))
  have G16 : Grows w14 w16 := ((Turns.of_grows (S := fun k => w14.heap.size ≤ k) ga14).trans (t16.mono fun k _ e => by rw [e]; exact hw14B)).grows (fun k h1 h2 => by omega)
  clear hz15 ga14 t16 HW15
  have hb16 := hb14.later G16
  have b12 := b12.later G16
  have d16 := d14.later G16
  have FI16 := lies_in_later FI14 G16
  have T16 := T14.trans (Turns.of_grows G16)
  have k16 := hk.turned T16 hkm
  have g16s := G16.size
  -- Get
  have gd16 := (Grows.refl w16).drew
  have cw16 : ∀ u, Grows w16.drew u → u.cell? ⟨bw, 0, none⟩ = some (.pointer (some ⟨a, 0, none⟩)) := fun u h => hcell_later (hb16.cell (k := 0) rfl) (Grows.trans gd16 h)
  have ld12 : ∀ u, Grows w16.drew u → (Instr.loadAt 46 (.pointer (some ⟨B12, 0, none⟩))).run Tryz.prog u = .ok (dv nm) u := fun u h => dig_load hnl (b12.later (Grows.trans gd16 h))
  clear hb14 d14 FI14 T14
  refine wp_region_ord 11 [(0, true), (1, true), (2, true), (3, true), (4, true), (5, false), (6, true), (7, true), (8, true), (9, true), (10, true)] (by kernel_rfl) (by kernel_rfl) ?_
  have hO := Grows.refl w16.drew
  repeat (first | (refine ord_load hO _ _ (by simp only [List.getElem?_cons_succ, List.getElem?_cons_zero]; rfl) (by rfl) 46 (.tmp 12) (by rfl) _ (by rfl) ld12 ?_; try simp only [Act.put, List.setIfInBounds_toArray, List.set_cons_zero, List.set_cons_succ]) | (refine ord_take hO _ ?_ (by simp only [List.getElem?_cons_succ, List.getElem?_cons_zero]; rfl) (by rfl) ?_ ?_; rotate_left; (· (intro u hu0 hu; (try go_simp); (try with_reducible rfl))); try simp only [Act.put, List.setIfInBounds_toArray, List.set_cons_zero, List.set_cons_succ]) | (refine ord_skip _ (by simp only [List.getElem?_cons_succ, List.getElem?_cons_zero]; rfl) (by rfl) ?_; try simp only [Act.put, List.setIfInBounds_toArray, List.set_cons_zero, List.set_cons_succ]))
  (refine ord_move _ (by simp only [List.getElem?_cons_succ, List.getElem?_cons_zero]; rfl) (by rfl) (fun u hu K hK => ?_); go_simp)
  have gu := Grows.trans gd16 hu
  refine (GT u a m X6 (d16.later gu) (k16.later gu)).mono ?_
  rintro e w17 ⟨A17, c17, rfl, hc17, hL17, g17⟩
  refine hK.out _ _ g17 ?_
  clear hK K hO cw16 ld12
  have hO := Grows.refl w17
  repeat (first | (refine ord_take hO _ ?_ (by simp only [List.getElem?_cons_succ, List.getElem?_cons_zero]; rfl) (by rfl) ?_ ?_; rotate_left; (· (intro u hu0 hu; (try go_simp); (try with_reducible rfl))); try simp only [Act.put, List.setIfInBounds_toArray, List.set_cons_zero, List.set_cons_succ]) | (refine ord_skip _ (by simp only [List.getElem?_cons_succ, List.getElem?_cons_zero]; rfl) (by rfl) ?_; try simp only [Act.put, List.setIfInBounds_toArray, List.set_cons_zero, List.set_cons_succ]))
  refine ord_done (fun w18 hu18 => ?_)
  simp only [List.drop_succ_cons, List.drop_zero]
  have G18 := Grows.trans gu (Grows.trans g17 hu18)
  have cw18 := (hb16.later G18).cell (k := 0) rfl
  have hb18 := hb16.later G18
  have ld12 := dig_load hnl (b12.later G18)
  have ld15 := dig_load hnl (b15.later G18)
  have d18 := d16.later G18
  have k18 := k16.later G18
  have T18 := T16.trans (Turns.of_grows G18)
  have hnA : own.length = ln := HOL.out
  have cs1 : (convert 27 9 (.slice A1 ln c1)).run Tryz.prog w18 = .ok (tv own) w18 := by have := lies_text (c := c1) (lies_of_in (B := w18.heap.size) (lies_in_later FI16 G18) (fun k hk => by have := xlt13 k (okx6 k hk); have := G18.size; omega)); rwa [hnA] at this
  have cs17 : (convert 27 9 (.slice A17 own.length c17)).run Tryz.prog w18 = .ok (tv own) w18 := lies_text (hL17.later hu18)
  have hde : ∀ u, (binOp .eql 46 (dv nm) (dv nm)).run Tryz.prog u = .ok (.bool true) u := fun u => by rw [Hx.eql_dig nm nm hnl hnl u]; simp
  clear hnA hO hb16 b12 b15 d16 FI16 T16 hL17 GT
  generalize own.length = ol at *
  go_wp2_with go_big_skip
  refine NoPanic.normal ?_
  go_wp2_with (first
    | go_big_skip
    | (refine wpList_loadg (by rfl) 46 (.tmp 15) rfl _ rfl _ ld15 ?_)
    | (refine wpList_loadg (by rfl) 46 (.tmp 12) rfl _ rfl _ ld12 ?_))
  refine (CL w18 a m X6 d18).mono ?_
  rintro e w19 ⟨rfl, g19⟩
  have cw19 := (hb18.later g19).cell (k := 0) rfl
  clear ld12 ld15 cs1 cs17 cw18
  go_wp2_with go_big_skip
  refine (LS w19 a m X6 (d18.later g19)).mono ?_
  rintro e w20 ⟨A20, c20, rfl, g20⟩
  go_wp2_with go_big_skip
  refine (lives13_any w20 (k18.later (Grows.trans g19 g20))).mono ?_
  rintro e w21 ⟨rfl, g21⟩
  go_wp2_with fail
  go_ret
  have T21 := T18.trans (Turns.of_grows (Grows.trans g19 (Grows.trans g20 g21)))
  exact ⟨rfl, T21.grows fun q hq => by have := HM.out; omega⟩
end Go.Proofs.YtbcldknecdbemaaGreatDoor
