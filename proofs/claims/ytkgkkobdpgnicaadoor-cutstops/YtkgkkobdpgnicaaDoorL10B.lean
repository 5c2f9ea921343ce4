/-
  The walk of CutStops: who takes but the first chunks is told these.
-/
import Derived.Test.YtkgkkobdpgnicaaDoorCutR
namespace Go.Proofs.YtkgkkobdpgnicaaDoor
open Go.RowKit Go.Shelf
set_option linter.unusedVariables false
attribute [local go_sem] Oper.semAt_some

set_option maxRecDepth 20000 in
set_option maxHeartbeats 4000000 in
theorem stops_walk (A : Option Addr) (n c : Nat) (bs : List UInt8) (a b d z : Int) (w : World) (hs : Starts w) (hl : bs.length = n) (hr : Lies w w.heap.size A (bs.map bv)) (hnc : n ≤ c) (hcm : c ≤ maxLen) (ha : I64 a) (hb : I64 b) (hd : I64 d) (hz : I64 z) :
    Calls Tryd.prog 8 #[.slice A n c, pz a b d, .int .i64 z] w fun e w' => e = .returned (.bool true) ∧ Grows w w' := by
  have hp := goodP_ok a b d
  have FW := Lib.hid (fun u (h : Grows w u) => few_bytes A n c 100 bs u hl (hr.later h) hnc (by decide) hcm)
  have GD := Lib.hid (fun u => good_any a b d u ha hb hd)
  have AR := Lib.hid (fun u => around_any z 7 u hz (by decide))
  have hk7 := around_lt z (m := 7) (by decide)
  have AL := Lib.hid (fun u A' n' c' bs' (h1 : bs'.length = n') (h2 : n' ≤ c') (h3 : Lies u u.heap.size A' (bs'.map bv)) (h4 : Starts u) (h5 : n' ≤ 1000000) => all_any (goodP a b d) hp A' n' c' bs' u h1 h2 h3 h4 h5)
  have CH := Lib.hid (fun u A' n' c' bs' (h1 : bs'.length = n') (h2 : n' ≤ c') (h3 : Lies u u.heap.size A' (bs'.map bv)) (h5 : n' ≤ 1000000) => rchunks_any (goodP a b d) hp A' n' c' bs' u h1 h2 h3 h5)
  have hN := Has.new w 23 [.int .i64 a, .int .i64 b, .int .i64 d]
  have g1 := grows_alloc w (.cells [.int .i64 a, .int .i64 b, .int .i64 d].toArray 23)
  have hpz : pz a b d = .agg #[.int .i64 a, .int .i64 b, .int .i64 d] := rfl
  generalize goodP a b d = p at *
  generalize around z 7 = kk at *
  rw [hpz] at *
  have hpp : pv p = .agg #[.int .i64 p.mn, .int .i64 p.av, .int .i64 p.mx] := rfl
  rw [hpp] at *
  refine calls_marks Tryd.func8 rfl ?_
  refine wpIn_wide.2 ?_
  simp only [Tryd.ntmps8, List.size_toArray, List.length_cons, List.length_nil, Nat.reduceAdd, Nat.reduceSub, Array.replicate_succ, Array.replicate_zero, List.push_toArray, List.append_toArray, List.nil_append, List.cons_append]
  go_wp2_with fail
  refine (FW.out _ g1).mono ?_
  rintro e w1 ⟨A1, c1, rfl, hc1, hown1, hL1, hg1⟩
  have hN1 := hN.later hg1
  have P0 := hN1.cell (k := 0) rfl
  have P1 := hN1.cell (k := 1) rfl
  have P2 := hN1.cell (k := 2) rfl
  have gw1 : Grows w w1 := Grows.trans g1 hg1
  have HL1 : Hid ((bs.take 100).length = min n 100) := by show _ = _; rw [List.length_take, hl, Nat.min_comm]
  have hm1 : min n 100 ≤ 100 := Nat.min_le_right _ _
  generalize bs.take 100 = own at *
  generalize min n 100 = m1 at *
  clear FW hown1 hg1 g1 hN hN1
  go_wp2_with fail
  refine (GD.out _).mono ?_
  rintro e w2 ⟨rfl, hg2⟩
  have gw2 := Grows.trans gw1 hg2
  have hLi1 : LiesIn (fun k => k < w1.heap.size) w1 A1 (own.map bv) := LiesIn.of_lies hL1 (fun _ h => h)
  have hLi2 := hLi1.later hg2
  have hsz12 := hg2.size
  have hL2 := hL1.later hg2
  have hR := Has.new w2 23 [.int .i64 0, .int .i64 0, .int .i64 0]
  have hga := grows_alloc w2 (.cells [.int .i64 0, .int .i64 0, .int .i64 0].toArray 23)
  clear GD hg2 hL1 P0 P1 P2 hLi1
  go_wp2_with (refine wpList_storev rfl 23 (.tmp 8) (.tmp 17) rfl w2.heap.size _ [.int .i64 p.mn, .int .i64 p.av, .int .i64 p.mx] 3 rfl rfl hR rfl rfl prm_size (prm_one _ _ _) ?_; intro w3 hbox3 hbel3)
  have hg3 : Grows w2 w3 := hbel3 _ _ (Nat.le_refl _) hga
  refine (AR.out _).mono ?_
  rintro e w3' ⟨rfl, rfl⟩
  have gw3 := Grows.trans gw2 hg3
  have hL3 := hL2.later hg3
  have hLi3 := hLi2.later hg3
  -- the number's box, the list's box
  have hK2 := Has.new w3 3 [.int .i64 (kk : Int)]
  have gK := grows_alloc w3 (.cells [.int .i64 (kk : Int)].toArray 3)
  have hsK : (w3.alloc (.cells [.int .i64 (kk : Int)].toArray 3)).heap.size = w3.heap.size + 1 := by simp
  have hX := Has.new (w3.alloc (.cells [.int .i64 (kk : Int)].toArray 3)) 42 [.slice none 0 0]
  have gX := grows_alloc (w3.alloc (.cells [.int .i64 (kk : Int)].toArray 3)) (.cells [.slice none 0 0].toArray 42)
  rw [hsK] at hX
  have hK3 := hK2.later gX
  have hB3 := (hbox3.later gK).later gX
  have Q0 := hB3.cell (k := 0) rfl
  have Q1 := hB3.cell (k := 1) rfl
  have Q2 := hB3.cell (k := 2) rfl
  have gw4 := Grows.trans gw3 (Grows.trans gK gX)
  have hL4 := (hL3.later gK).later gX
  have hLi4 := (hLi3.later gK).later gX
  clear hR hga hL2 hg3 hbel3 hLi2
  go_wp2_with fail
  refine (AL.out _ A1 m1 c1 own HL1.out hc1 hL4 (hs.later gw4) (by omega)).mono ?_
  rintro e w5 ⟨bb, bp, rfl, hbb, hbp, hbl, hpl, hseq, hg5⟩
  have hfe : ∀ u, (binOp .eql 56 (.func (.func 40) #[] #[.pointer (some ⟨bb, 0, none⟩), .pointer (some ⟨bp, 0, none⟩)]) .nilFunc).run Tryd.prog u = .ok (.bool false) u := fun u => by kernel_rfl
  have gw5 := Grows.trans gw4 hg5
  have hX5 := hX.later hg5
  have hK5 := hK3.later hg5
  have hB5 := hB3.later hg5
  have hL5 := hL4.later hg5
  have hLi5 := hLi4.later hg5
  have hpz := hs.pos
  have hsz4 : w3.heap.size + 2 ≤ bb ∧ w3.heap.size + 2 ≤ bp := by rw [World.size_alloc, hsK] at hbb hbp; exact ⟨hbb, hbp⟩
  have hsz3 : w.heap.size ≤ w3.heap.size := gw3.size
  have hb2 : w2.heap.size < w3.heap.size := hbox3.lt
  have hb2w : w.heap.size ≤ w2.heap.size := gw2.size
  have h5s := hX5.lt
  have hsz6 : ((w3.alloc (.cells [.int .i64 (kk : Int)].toArray 3)).alloc (.cells [.slice none 0 0].toArray 42)).heap.size = w3.heap.size + 2 := by rw [World.size_alloc, hsK]
  rw [hsz6] at hseq
  clear hLi3 hLi4 hbox3 hK2 hK3 hX hB3 hL4 hL3 gK gX Q0 Q1 Q2 AR hg5 hbb hbp AL
  obtain ⟨bk, hbk⟩ : ∃ k, k = w3.heap.size := ⟨_, rfl⟩
  rw [← hbk] at hseq hK5 hX5 hsz4 hsz3 hb2 h5s
  obtain ⟨bg, hbg⟩ : ∃ k, k = w2.heap.size := ⟨_, rfl⟩
  rw [← hbg] at hB5 hb2 hb2w hsz12
  go_wp2_with fail
  rw [← hbk, ← hbg]
  clear hbk hbg
  refine (wpIn_wide (n := 0)).1 ?_
  refine wp_range (gf := 40) (lb := #[.pointer (some ⟨bb, 0, none⟩), .pointer (some ⟨bp, 0, none⟩)]) rfl (enters_of Tryd.func40 (by kernel_rfl) rfl) rfl hseq ?gInp (fun k => k = bk + 1) ?gO (fun k h => by rw [h]; exact h5s)
    (fun m pre W => ∃ v, Has W (bk + 1) [v] ∧ PcsIn m W v pre ∧ pre.length ≤ kk ∧ Turns (fun k => k = bk + 1) w5 W)
    (fun m c pre W => c = .exit 0 ∧ kk < pre.length ∧ ∃ v, Has W (bk + 1) [v] ∧ PcsIn m W v (pre.take kk) ∧ Turns (fun k => k = bk + 1) w5 W) ?gI ?gIx ?gh0
    (fun v => { tmps := #[.slice A n c, .agg #[.int .i64 a, .int .i64 b, .int .i64 d], .int .i64 z, undef, .pointer (some ⟨w.heap.size, 0, none⟩), undef, .bool false, .slice A1 m1 c1, .pointer (some ⟨bg, 0, none⟩), .pointer (some ⟨bk, 0, none⟩), .pointer (some ⟨bk + 1, 0, none⟩), .func (.func 40) #[] #[.pointer (some ⟨bb, 0, none⟩), .pointer (some ⟨bp, 0, none⟩)], v, undef, .slice A n c, .slice A1 m1 c1,
      .agg #[.int .i64 a, .int .i64 b, .int .i64 d], pv p, .int .i64 z, .int .i64 kk, .slice A1 m1 c1, .agg #[.int .i64 p.mn, .int .i64 p.av, .int .i64 p.mx], .func (.func 40) #[] #[.pointer (some ⟨bb, 0, none⟩), .pointer (some ⟨bp, 0, none⟩)], .func (.func 40) #[] #[.pointer (some ⟨bb, 0, none⟩), .pointer (some ⟨bp, 0, none⟩)], .bool false, .func (.func 40) #[] #[.pointer (some ⟨bb, 0, none⟩), .pointer (some ⟨bp, 0, none⟩)], v, undef, undef, undef, undef, undef, undef, undef, undef, undef, undef, undef, undef, undef, undef, undef, undef, undef, undef, undef, undef, undef, undef], defers := [] })
    ?gassign ?gA ?gbody ?gdone ?gstop
  case gInp => rintro k (⟨_, h⟩ | rfl) <;> omega
  case gO => rintro k (⟨h, _⟩ | rfl) h' <;> omega
  case gI =>
    rintro m pre A' B' ⟨v, h1, h2, h3, h4⟩ ht
    exact ⟨v, h1.turned ht (fun h => by have := h.1; omega), h2.turned ht (fun k hk h => by have := h.2; omega), h3, h4.then_ ht (fun i hi h => by have := h.1; omega)⟩
  case gIx =>
    rintro m c pre A' B' ⟨h0, h00, v, h1, h2, h4⟩ ht
    exact ⟨h0, h00, v, h1.turned ht (fun h => by have := h.1; omega), h2.turned ht (fun k hk h => by have := h.2; omega), h4.then_ ht (fun i hi h => by have := h.1; omega)⟩
  case gh0 => exact fun m W1 _ _ hg => ⟨_, hX5.later hg, PcsIn.nil _ _, Nat.zero_le _, Turns.of_grows hg⟩
  case gassign =>
    intro l v W K hK
    gi_wp2
    exact hK
  case gA =>
    rintro m W0 x v A' B' h1 h2 h ht
    exact own_turned h ht (fun g hg h => by have := own_ge ‹_› g hg; have := h.2; omega)
  case gbody =>
    rintro l' m pre x v W0 W4 hm hmW0 ⟨v0, hx0, ⟨es, hown0, heach0⟩, hpk0, T0⟩ _ hT0 hpre hav
    have hx := hx0.turned hT0 (fun h => by have := h.1; omega)
    have hown := own_turned hown0 hT0 (fun g hg h => by have := own_ge hown0 g hg; have := h.2; omega)
    have heach := heach0.turned hT0 (fun k hk h => by have := hk.1; have := h.2; omega)
    have T1 := T0.then_ hT0 (fun i hi h => by have := h.1; omega)
    have hmW := Nat.le_trans hmW0 hT0.size
    have hlt0 := fun g hg => (own_lt hown0 g hg : g < W0.heap.size)
    have hav' : W4.ownsRow W0.heap.size 5 1 v x.length (x.map bv) := hav
    obtain ⟨Ax, cx, rfl, hxc⟩ := own_form hav'
    obtain ⟨A0, c0, rfl, hc0⟩ := own_form hown
    have hlx := LiesIn.of_own hav'
    have hKb := hK5.turned T1 (by omega)
    clear hx0 heach0 hav hT0
    have hc := hx.cell (k := 0) rfl
    have hck := hKb.cell (k := 0) rfl
    by_cases hpk : pre.length = kk
    · have e1 : ((pre.length : Int) == (kk : Int)) = true := by simp; omega
      gi_wp2_with fail
      refine ⟨Turns.refl _ _, rfl, by rw [List.length_append, List.length_singleton]; omega, _, hx, ?_, T1⟩
      rw [List.take_append_of_le_length (by omega), List.take_of_length_le (by omega)]
      exact ⟨es, hown, heach⟩
    · have e1 : ((pre.length : Int) == (kk : Int)) = false := by simp; omega
      obtain ⟨i0, hi0, hz0, hz1, hz2⟩ := info_parts slc_info
      have HC := fun (w4 : World) (h : (W4.alloc (.cells #[.slice Ax x.length cx] 35)).grownBy w4 (Value.slice A0 pre.length c0).ownBlock) => coll_app (row := none) hx (by omega) hown (grows_alloc W4 _) h
      have HE := fun (v' : Value) (w4 : World) (h : (W4.alloc (.cells #[.slice Ax x.length cx] 35)).grownBy w4 (Value.slice A0 pre.length c0).ownBlock) (hat : v'.ownBlock = (Value.slice A0 pre.length c0).ownBlock ∨ v'.ownBlock = some (W4.alloc (.cells #[.slice Ax x.length cx] 35)).heap.size) =>
        (show Each (fun k => m ≤ k ∧ v'.ownBlock ≠ some k) w4 (es ++ [.slice Ax x.length cx]) (pre ++ [x]) from (each_grown heach (grows_alloc W4 _) h hat).snoc hxc (lies_grown (v0 := .slice A0 pre.length c0) (fun j u hu => by
          obtain ⟨ad, e, ⟨h1, h2⟩, h3⟩ := hlx j u hu
          exact ⟨ad, e, ⟨by omega, fun e => by have := hlt0 _ e; omega⟩, h3⟩) (grows_alloc W4 _) h hat))
      have HLN : Hid ((pre ++ [x]).length = pre.length + 1) := by show _ = _; simp
      have HC := Lib.hid HC
      have HE := Lib.hid HE
      gi_wp2_with (gi_at_builtin; go_loud (refine wpListIn_append_own_at _ rfl (.tmp 31) (.tmp 33) _ rfl m 35 i0 _ 1 24 Tryd.underlying42 hi0 hz0 hz1 hz2 rfl (by decide) (.slice A0 pre.length c0) pre.length _ rfl (hown.alloc _) ⟨W4.heap.size, 0, none⟩ 1 1 [.slice Ax x.length cx] rfl rfl (cell_one_new _ _ _) (by simp [Value.oneCell']) (by unfold maxLen; omega) (by omega) (by rw [World.size_alloc]; omega) ?_; intro v' w4 hown' hg' hnil' hat'; obtain ⟨hx4, ht4⟩ := HC.out w4 hg'; have he4 := HE.out v' w4 hg' hat'; have hc4 := hx4.cell (k := 0) rfl; have hf4 := hx4.free 0; obtain ⟨hx5, ho5, ht5⟩ := coll_set hx4 (by omega) hown' ht4; have he5 := he4.turned (Turns.of_set (S := fun k => k = bk + 1) (b := bk + 1) (o := 0) w4 v' rfl) (fun k hk h => by have := hk.1; omega); obtain ⟨A5, c5, rfl, _⟩ := own_form hown'))
      exact ⟨ht5, _, hx5, ⟨_, by rw [HLN.out]; exact ho5, he5⟩, by rw [HLN.out]; omega, T1.then_ ht5 (fun i hi h => h.elim id (fun h => by omega))⟩
  case gdone =>
    rintro D m W5 hm hmW rfl ⟨v, hx, hP, hpk, T⟩ hD
    obtain ⟨G, hGe⟩ : ∃ G, G = chunksOf p own := ⟨_, rfl⟩
    have hGG : G = (chunksOf p own).take kk := by rw [List.take_of_length_le hpk]; exact hGe
    rw [← hGe] at hP
    clear hGe hpk
    have hG : Hid (G = (chunksOf p own).take kk) := hGG
    clear hGG
    have hB := hB5.turned T (by omega)
    have hK := hK5.turned T (by omega)
    have hLW : Lies W5 W5.heap.size A1 (own.map bv) := (hLi5.turned T (fun k hk h => by omega)).lies (fun k hk => by have := T.size; omega)
    have gW : Grows w W5 := turns_then_grows gw5 T (fun k h => by omega)
    have hPW : Pcl W5 v G := hP.pcl
    have hc := hx.cell (k := 0) rfl
    have Q0 := hB.cell (k := 0) rfl
    have Q1 := hB.cell (k := 1) rfl
    have Q2 := hB.cell (k := 2) rfl
    go_wp2_with fail
    refine (CH.out W5 A1 m1 c1 own HL1.out hc1 hLW (by omega)).mono ?_
    rintro e W6 ⟨v6, es6, rfl, hown6, heach6, hg6⟩
    obtain ⟨A6, c6, rfl, hc6⟩ := own_form hown6
    have hEL := Lies.of_own hown6
    replace heach6 := heach6.mono (ok' := fun k => k < W6.heap.size) (fun k hk _ => hk)
    have hcl : (chunksOf p own).length ≤ 1000000 := by have := chunks_len p own; rw [HL1.out] at this; omega
    generalize chunksOf p own = cs at *
    have hN : Hid (min cs.length kk ≤ cs.length) := Nat.min_le_left _ _
    have HGL : Hid (G = cs.take (min cs.length kk)) := by
      show _ = _
      rw [hG.out]
      rcases Nat.le_total cs.length kk with h | h
      · rw [Nat.min_eq_left h, List.take_of_length_le h, List.take_length]
      · rw [Nat.min_eq_right h]
    have hmn : ∀ u : World, u = u := fun _ => rfl
    have hx6 := hx.later hg6
    have hK6 := hK.later hg6
    have hPW6 := hPW.later hg6
    have hMin : Hid ((if kk < cs.length then (kk : Int) else (cs.length : Int)) = ((min cs.length kk : Nat) : Int)) := by show _ = _; split <;> omega
    have hgl6 : G.length ≤ 1000000 := by rw [HGL.out, List.length_take]; omega
    have hw2 : Pcl W6 (.slice A6 (min cs.length kk) c6) G := ⟨A6, c6, es6.take (min cs.length kk), by rw [HGL.out, List.length_take, Nat.min_eq_left hN.out], by rw [HGL.out, List.length_take]; omega, hEL.take _, by rw [HGL.out]; exact heach6.take_ _⟩
    generalize cs.length = N at *
    generalize hq : min N kk = q at *
    have HQ := Lib.hid hq
    clear hq
    have gW6 := Grows.trans gW hg6
    have hgd : Grows W6 W6.drew := (Grows.refl W6).drew
    have f0 : ∀ u, Grows W6.drew u → u.cell? ⟨bk + 1, 0, none⟩ = some v := fun u h => (hx6.later (Grows.trans hgd h)).cell (k := 0) rfl
    have f1 : ∀ u, Grows W6.drew u → u.cell? ⟨bk, 0, none⟩ = some (.int .i64 (kk : Int)) := fun u h => (hK6.later (Grows.trans hgd h)).cell (k := 0) rfl
    have hct : ∀ u : World, (Instr.sliceAt 42 (.slice A6 N c6) none (some (.int .i64 (q : Int))) none).run Tryd.prog u = .ok (.slice A6 q c6) u := fun u => run_cutK_to (P := Tryd.prog) Tryd.underlying42 slc_size A6 N c6 q .i64 (by have := hN.out; omega) u
    have SM : Hid (∀ u, Grows W6.drew u → Calls Tryd.prog 24 #[v, .slice A6 q c6] u fun e w' => e = .returned (.bool true) ∧ Grows u w') := fun u h => same_eq v _ G u (hPW6.later (Grows.trans hgd h)) (hw2.later (Grows.trans hgd h)) hgl6
    have LV : Hid (∀ u, Grows W6.drew u → Calls Tryd.prog 19 #[] u fun e w' => e = .returned (.bool true) ∧ Grows u w') := fun u h => lives10_any u (hs.later (Grows.trans gW6 (Grows.trans hgd h)))
    have hMin' := hMin.out
    have hO := Grows.refl W6.drew
    clear hx6 hK6 hPW6 hw2 hEL heach6 hown6 hmn
    go_wp2_with fail
    refine wp_region_ord 12 [(0, true), (1, true), (2, true), (3, true), (4, true), (5, true), (6, true), (7, true), (8, true), (9, true), (10, true), (11, true)] (by kernel_rfl) (by kernel_rfl) ?_
    repeat (first | (refine ord_take hO _ ?_ (by simp only [List.getElem?_cons_succ, List.getElem?_cons_zero]; rfl) (by rfl) ?_ ?_; rotate_left; (· (intro u hu0 hu; (try go_simp); (try with_reducible rfl))); try simp only [Act.put, List.setIfInBounds_toArray, List.set_cons_zero, List.set_cons_succ]) | (refine ord_skip _ (by simp only [List.getElem?_cons_succ, List.getElem?_cons_zero]; rfl) (by rfl) ?_; try simp only [Act.put, List.setIfInBounds_toArray, List.set_cons_zero, List.set_cons_succ]) | (refine ord_call hO _ ?_ (by simp only [List.getElem?_cons_succ, List.getElem?_cons_zero]; rfl) (by rfl) ?_ ?_; rotate_left; (· (intro u hu0 hu; go_simp; (try refine quiet_enter ?_); (first | with_reducible exact SM.out u hu0 | with_reducible exact LV.out u hu0))); try simp only [Act.put, List.setIfInBounds_toArray, List.set_cons_zero, List.set_cons_succ]))
    refine ord_done (fun W7 hu => ?_); simp only [List.drop_succ_cons, List.drop_zero]
    have gW7 := Grows.trans gW6 (Grows.trans hgd hu)
    have hD7 := (hu.block w5.heap.size (Nat.lt_of_lt_of_le (Array.getElem?_eq_some_iff.1 hD).1 hg6.size)).trans ((hgd.block w5.heap.size (Nat.lt_of_lt_of_le (Array.getElem?_eq_some_iff.1 hD).1 hg6.size)).trans ((hg6.block _ (Array.getElem?_eq_some_iff.1 hD).1).trans hD))
    clear f0 f1 hO hu hgd
    go_wp2_with fail
    refine NoPanic.normal ?_
    go_wp2_with fail
    refine marks_ret hD7 (fun u => results_tmp rfl _ _ _) ⟨rfl, turns_then_grows gW7 (turns_putObj (S := fun k => k = w5.heap.size) W7 _ _ rfl) (fun k h => by omega)⟩
  case gstop =>
    rintro D m c pre W5 hm hmW rfl hpre ⟨rfl, hkp, v, hx, hP, T⟩ hD
    obtain ⟨G, hGe⟩ : ∃ G, G = pre.take kk := ⟨_, rfl⟩
    have hGG : G = (chunksOf p own).take kk := by
      obtain ⟨t, ht⟩ := hpre
      rw [hGe, ← ht, List.take_append_of_le_length (by omega)]
    rw [← hGe] at hP
    clear hGe
    have hG : Hid (G = (chunksOf p own).take kk) := hGG
    clear hGG
    have hB := hB5.turned T (by omega)
    have hK := hK5.turned T (by omega)
    have hLW : Lies W5 W5.heap.size A1 (own.map bv) := (hLi5.turned T (fun k hk h => by omega)).lies (fun k hk => by have := T.size; omega)
    have gW : Grows w W5 := turns_then_grows gw5 T (fun k h => by omega)
    have hPW : Pcl W5 v G := hP.pcl
    have hc := hx.cell (k := 0) rfl
    have Q0 := hB.cell (k := 0) rfl
    have Q1 := hB.cell (k := 1) rfl
    have Q2 := hB.cell (k := 2) rfl
    refine wpIn_wide.2 ?_
    go_wp2_with fail
    refine (CH.out W5 A1 m1 c1 own HL1.out hc1 hLW (by omega)).mono ?_
    rintro e W6 ⟨v6, es6, rfl, hown6, heach6, hg6⟩
    obtain ⟨A6, c6, rfl, hc6⟩ := own_form hown6
    have hEL := Lies.of_own hown6
    replace heach6 := heach6.mono (ok' := fun k => k < W6.heap.size) (fun k hk _ => hk)
    have hcl : (chunksOf p own).length ≤ 1000000 := by have := chunks_len p own; rw [HL1.out] at this; omega
    generalize chunksOf p own = cs at *
    have hN : Hid (min cs.length kk ≤ cs.length) := Nat.min_le_left _ _
    have HGL : Hid (G = cs.take (min cs.length kk)) := by
      show _ = _
      rw [hG.out]
      rcases Nat.le_total cs.length kk with h | h
      · rw [Nat.min_eq_left h, List.take_of_length_le h, List.take_length]
      · rw [Nat.min_eq_right h]
    have hmn : ∀ u : World, u = u := fun _ => rfl
    have hx6 := hx.later hg6
    have hK6 := hK.later hg6
    have hPW6 := hPW.later hg6
    have hMin : Hid ((if kk < cs.length then (kk : Int) else (cs.length : Int)) = ((min cs.length kk : Nat) : Int)) := by show _ = _; split <;> omega
    have hgl6 : G.length ≤ 1000000 := by rw [HGL.out, List.length_take]; omega
    have hw2 : Pcl W6 (.slice A6 (min cs.length kk) c6) G := ⟨A6, c6, es6.take (min cs.length kk), by rw [HGL.out, List.length_take, Nat.min_eq_left hN.out], by rw [HGL.out, List.length_take]; omega, hEL.take _, by rw [HGL.out]; exact heach6.take_ _⟩
    generalize cs.length = N at *
    generalize hq : min N kk = q at *
    have HQ := Lib.hid hq
    clear hq
    have gW6 := Grows.trans gW hg6
    have hgd : Grows W6 W6.drew := (Grows.refl W6).drew
    have f0 : ∀ u, Grows W6.drew u → u.cell? ⟨bk + 1, 0, none⟩ = some v := fun u h => (hx6.later (Grows.trans hgd h)).cell (k := 0) rfl
    have f1 : ∀ u, Grows W6.drew u → u.cell? ⟨bk, 0, none⟩ = some (.int .i64 (kk : Int)) := fun u h => (hK6.later (Grows.trans hgd h)).cell (k := 0) rfl
    have hct : ∀ u : World, (Instr.sliceAt 42 (.slice A6 N c6) none (some (.int .i64 (q : Int))) none).run Tryd.prog u = .ok (.slice A6 q c6) u := fun u => run_cutK_to (P := Tryd.prog) Tryd.underlying42 slc_size A6 N c6 q .i64 (by have := hN.out; omega) u
    have SM : Hid (∀ u, Grows W6.drew u → Calls Tryd.prog 24 #[v, .slice A6 q c6] u fun e w' => e = .returned (.bool true) ∧ Grows u w') := fun u h => same_eq v _ G u (hPW6.later (Grows.trans hgd h)) (hw2.later (Grows.trans hgd h)) hgl6
    have LV : Hid (∀ u, Grows W6.drew u → Calls Tryd.prog 19 #[] u fun e w' => e = .returned (.bool true) ∧ Grows u w') := fun u h => lives10_any u (hs.later (Grows.trans gW6 (Grows.trans hgd h)))
    have hMin' := hMin.out
    have hO := Grows.refl W6.drew
    clear hx6 hK6 hPW6 hw2 hEL heach6 hown6 hmn
    go_wp2_with fail
    refine wp_region_ord 12 [(0, true), (1, true), (2, true), (3, true), (4, true), (5, true), (6, true), (7, true), (8, true), (9, true), (10, true), (11, true)] (by kernel_rfl) (by kernel_rfl) ?_
    repeat (first | (refine ord_take hO _ ?_ (by simp only [List.getElem?_cons_succ, List.getElem?_cons_zero]; rfl) (by rfl) ?_ ?_; rotate_left; (· (intro u hu0 hu; (try go_simp); (try with_reducible rfl))); try simp only [Act.put, List.setIfInBounds_toArray, List.set_cons_zero, List.set_cons_succ]) | (refine ord_skip _ (by simp only [List.getElem?_cons_succ, List.getElem?_cons_zero]; rfl) (by rfl) ?_; try simp only [Act.put, List.setIfInBounds_toArray, List.set_cons_zero, List.set_cons_succ]) | (refine ord_call hO _ ?_ (by simp only [List.getElem?_cons_succ, List.getElem?_cons_zero]; rfl) (by rfl) ?_ ?_; rotate_left; (· (intro u hu0 hu; go_simp; (try refine quiet_enter ?_); (first | with_reducible exact SM.out u hu0 | with_reducible exact LV.out u hu0))); try simp only [Act.put, List.setIfInBounds_toArray, List.set_cons_zero, List.set_cons_succ]))
    refine ord_done (fun W7 hu => ?_); simp only [List.drop_succ_cons, List.drop_zero]
    have gW7 := Grows.trans gW6 (Grows.trans hgd hu)
    have hD7 := (hu.block w5.heap.size (Nat.lt_of_lt_of_le (Array.getElem?_eq_some_iff.1 hD).1 hg6.size)).trans ((hgd.block w5.heap.size (Nat.lt_of_lt_of_le (Array.getElem?_eq_some_iff.1 hD).1 hg6.size)).trans ((hg6.block _ (Array.getElem?_eq_some_iff.1 hD).1).trans hD))
    clear f0 f1 hO hu hgd
    go_wp2_with fail
    refine NoPanic.normal ?_
    go_wp2_with fail
    refine marks_ret hD7 (fun u => results_tmp rfl _ _ _) ⟨rfl, turns_then_grows gW7 (turns_putObj (S := fun k => k = w5.heap.size) W7 _ _ rfl) (fun k h => by omega)⟩
end Go.Proofs.YtkgkkobdpgnicaaDoor
