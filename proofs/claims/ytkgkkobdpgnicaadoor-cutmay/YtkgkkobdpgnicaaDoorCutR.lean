/-
  Contracts of the reference's Power, First, Chunks.
-/
import Derived.Test.YtkgkkobdpgnicaaDoorCutQ
namespace Go.Proofs.YtkgkkobdpgnicaaDoor
open Go.RowKit
set_option linter.unusedVariables false

theorem slc_size : (Tryd.prog.info? 35).map (·.size) = some 1 := by kernel_rfl
theorem Each.take_ {ok : Nat → Prop} {w : World} {es : List Value} {l : List (List UInt8)} (h : Each ok w es l) (k : Nat) : Each ok w (es.take k) (l.take k) := by
  refine ⟨by rw [List.length_take, List.length_take, h.1], fun i x hx => ?_⟩
  have hi := (List.getElem?_eq_some_iff.1 hx).1
  rw [List.length_take] at hi
  rw [List.getElem?_take_of_lt (by omega)] at hx ⊢
  exact h.2 i x hx
theorem pow_step {j n : Nat} (h1 : 2 ^ j ≤ n) (h2 : n < 2 * 2 ^ j) : powOf n = 2 ^ j := by
  unfold powOf
  rw [(Nat.log2_eq_iff (by have := Nat.two_pow_pos j; omega)).2 ⟨h1, by rw [Nat.pow_succ]; omega⟩]
theorem rpower_any (n : Nat) (w : World) (h1 : 1 ≤ n) (h2 : n ≤ 1000000) :
    Calls Tryd.prog 15 #[.int .i64 (n : Int)] w fun e w' => e = .returned (.int .i64 (powOf n : Int)) ∧ w = w' := by
  go_enter Tryd.func15, Tryd.ntmps15
  go_wp2
  go_loop [3] (fun v => ∃ k j : Nat, v = .int .i64 (k : Int) ∧ k ≤ n ∧ 1 ≤ k ∧ Hid (k = 2 ^ j)) (fun v => n + 1 - (intOf v).toNat)
  case atStart => exact ⟨1, 0, rfl, h1, Nat.le_refl _, rfl⟩
  case round =>
    obtain ⟨k, j, rfl, hk, hk1, HJ⟩ := hrel
    have hw : IntKind.i64.wrap (2 * (k : Int)) = 2 * (k : Int) := IntWalk.i64_in _ (by omega)
    by_cases hlt : 2 * k ≤ n
    · have e1 : decide (2 * (k : Int) ≤ (n : Int)) = true := by simp; omega
      go_wp2
      go_round
      case rel => exact ⟨2 * k, j + 1, by go_num, hlt, by omega, by show _ = _; rw [Nat.pow_succ, HJ.out, Nat.mul_comm]⟩
      case measure => simp [intOf]; omega
    · have e1 : decide (2 * (k : Int) ≤ (n : Int)) = false := by simp; omega
      have hp : powOf n = k := by rw [HJ.out]; exact pow_step (by rw [← HJ.out]; exact hk) (by rw [← HJ.out]; omega)
      go_wp2
      go_ret
      exact ⟨rfl, rfl⟩

theorem scan_end (p : Prm) (b : List UInt8) (h : ∀ j, 1 ≤ j → j < b.length → cutAt p (b.take j) = false) : (scan p [] b).1 = b.length := by
  rcases Nat.eq_zero_or_pos b.length with h0 | h0
  · obtain rfl := List.eq_nil_of_length_eq_zero h0; rfl
  · cases hc : cutAt p b with
    | true => rw [scan_find p b [] b.length h0 (Nat.le_refl _) (fun j h1 h2 => h j h1 h2) (by rw [List.take_length]; exact hc)]
    | false =>
      rw [scan_none p b [] (fun j h1 h2 => by
        rcases Nat.lt_or_ge j b.length with h3 | h3
        · exact h j h1 h3
        · rw [List.take_of_length_le h3]; exact hc)]

set_option maxRecDepth 20000 in
set_option maxHeartbeats 1000000 in
theorem rfirst_any (p : Prm) (hp : p.Ok) (A : Option Addr) (cA : Nat) (B : Option Addr) (n c : Nat) (bs : List UInt8) (w : World) (hA : Lies w w.heap.size A ((wordList 256).map uv)) (hl : bs.length = n) (hnc : n ≤ c) (hr : Lies w w.heap.size B (bs.map bv)) (hn : n ≤ 1000000) :
    Calls Tryd.prog 34 #[.slice A 256 cA, .slice B n c, pv p] w fun e w' => e = .returned (.int .i64 ((scan p [] bs).1 : Int)) ∧ Grows w w' := by
  have hN := Has.new w 23 [.int .i64 (p.mn : Int), .int .i64 (p.av : Int), .int .i64 (p.mx : Int)]
  have hg := grows_alloc w (.cells [.int .i64 (p.mn : Int), .int .i64 (p.av : Int), .int .i64 (p.mx : Int)].toArray 23)
  have P0 := hN.cell (k := 0) rfl
  have P1 := hN.cell (k := 1) rfl
  have P2 := hN.cell (k := 2) rfl
  have h1 := hp.mn; have h2 := hp.av; have h3 := hp.mx; have h4 := hp.top
  have PW := Lib.hid (fun u => rpower_any p.av u (by omega) (by omega))
  have hpw : powOf p.av ≤ 4096 := by have := powOf_le (n := p.av) (by omega); omega
  have hpp := powOf_pos p.av
  have OV : Hid (∀ k, k ≤ n → Calls Tryd.prog 48 #[.slice A 256 cA, .slice B k c] (w.alloc (.cells [.int .i64 (p.mn : Int), .int .i64 (p.av : Int), .int .i64 (p.mx : Int)].toArray 23)) fun e w' => e = .returned (uv (hashOf (bs.take k))) ∧ _ = w') := fun k hk =>
    rover_any A cA B k c (bs.take k) _ (hA.later hg) (by rw [List.length_take]; omega) (by rw [List.map_take]; exact (hr.later hg).take k) (by omega)
  have HL := Lib.hid hl
  have HFEW := Lib.hid (fun (l : List UInt8) => cut_few hp (l := l))
  have HAT : Hid (∀ k, k ≤ n → cutAt p (bs.take k) = (decide (k = p.mx) || (decide (p.mn ≤ k) && decide (hashOf (bs.take k) % powOf p.av = 0)))) := fun k hk => by
    unfold cutAt
    rw [List.length_take, hl, Nat.min_eq_left hk]; rfl
  have hpv : pv p = .agg #[.int .i64 p.mn, .int .i64 p.av, .int .i64 p.mx] := rfl
  clear hA hl hr
  rw [hpv]
  change Calls _ _ _ _ _
  go_enter Tryd.func34, Tryd.ntmps34
  go_wp2_with fail
  refine (PW.out _).mono ?_
  rintro e w' ⟨rfl, rfl⟩
  have hw32 : (powOf p.av : Int) % 4294967296 = (powOf p.av : Int) := by omega
  generalize powOf p.av = q at *
  go_wp2_with fail
  generalize w.alloc (.cells #[.int .i64 (p.mn : Int), .int .i64 (p.av : Int), .int .i64 (p.mx : Int)] 23) = w1 at *
  go_loop [8] (fun i => ∃ k : Nat, i = .int .i64 (k : Int) ∧ p.mn ≤ k ∧ k ≤ n + 4096 ∧ Hid (∀ j, 1 ≤ j → j < k → j < n → cutAt p (bs.take j) = false)) (fun i => n + 4097 - (intOf i).toNat)
  case atStart => exact ⟨p.mn, rfl, Nat.le_refl _, by omega, fun j hj1 hj2 hj3 => HFEW.out _ (by rw [List.length_take]; omega)⟩
  case round =>
    obtain ⟨k, rfl, hmk, hkn, HNO⟩ := hrel
    by_cases hlt : k < n
    · have hki : (k : Int) < (n : Int) := by omega
      have hat := HAT.out k (by omega)
      have OK := Lib.hid (OV.out k (by omega))
      have hhl := hashOf_lt (bs.take k)
      have hw64 : IntKind.i64.wrap ((k : Int) + 1) = (k : Int) + 1 := IntWalk.i64_in _ (by omega)
      have hct : ∀ u : World, (Instr.sliceAt 35 (.slice B n c) none (some (.int .i64 (k : Int))) none).run Tryd.prog u = .ok (.slice B k c) u := fun u => run_cutK_to (P := Tryd.prog) Tryd.underlying35 byte_size B n c k .i64 (by omega) u
      have HSC : Hid (cutAt p (bs.take k) = true → (scan p [] bs).1 = k) := fun h => by rw [scan_find p bs [] k (by omega) (by rw [HL.out]; omega) (fun j hj1 hj2 => by rw [List.nil_append]; exact HNO.out j hj1 hj2 (by omega)) (by rw [List.nil_append]; exact h)]
      have HCT := Lib.hid (show cutAt p (bs.take k) = cutAt p (bs.take k) from rfl)
      obtain ⟨cc, hcc⟩ : ∃ cc, cc = cutAt p (bs.take k) := ⟨_, rfl⟩
      rw [← hcc] at hat HSC
      have HCC := Lib.hid hcc
      clear hcc HCT
      by_cases hA : k = p.mx
      · have e1 : ((k : Int) == (p.mx : Int)) = true := by simp; omega
        have hcut : cc = true := by rw [hat]; simp [hA]
        have hsc := Lib.hid (HSC.out hcut)
        clear hat
        go_wp2_with fail
        go_ret
        exact ⟨congrArg (fun q : Nat => Ending.returned (.int .i64 (q : Int))) (hA.symm.trans hsc.out.symm), hg⟩
      · have e1 : ((k : Int) == (p.mx : Int)) = false := by simp; omega
        generalize hashOf (bs.take k) = h at *
        have hmd : ((h : Int) % (q : Int)) = ((h % q : Nat) : Int) := by omega
        have htd : ((h : Int).tmod (q : Int)) = ((h % q : Nat) : Int) := by rw [Int.tmod_eq_emod_of_nonneg (by omega)]; omega
        have hq0 : (q : Int) ≠ 0 := by omega
        have hq0' : ((q : Int) == 0) = false := by simp; omega
        by_cases hC : h % q = 0
        · have hcut : cc = true := by rw [hat]; simp [hC, hmk]
          have hsc := Lib.hid (HSC.out hcut)
          have e3 : (((h % q : Nat) : Int) == 0) = true := by rw [hC]; rfl
          clear hat hC
          generalize h % q = r at *
          go_wp2_with fail
          refine OK.out.mono ?_
          rintro e w' ⟨rfl, rfl⟩
          go_wp2_with fail
          go_ret
          exact ⟨congrArg (fun q : Nat => Ending.returned (.int .i64 (q : Int))) hsc.out.symm, hg⟩
        · have hcut : cc = false := by rw [hat]; simp [hA, hC]
          have e3 : (((h % q : Nat) : Int) == 0) = false := by simp; omega
          clear hat hC
          generalize h % q = r at *
          go_wp2_with fail
          refine OK.out.mono ?_
          rintro e w' ⟨rfl, rfl⟩
          go_wp2_with fail
          go_round
          case rel => exact ⟨k + 1, by go_num, by omega, by omega, fun j hj1 hj2 hj3 => by
            rcases Nat.lt_or_ge j k with h | h
            · exact HNO.out j hj1 h hj3
            · obtain rfl : j = k := by omega
              rw [← HCC.out]; exact hcut⟩
          case measure => simp [intOf]; omega
    · have d1 : decide ((k : Int) < (n : Int)) = false := by simp; omega
      have hsc : Hid ((scan p [] bs).1 = n) := by
        show _ = _
        rw [scan_end p bs (fun j hj1 hj2 => HNO.out j hj1 (by rw [HL.out] at hj2; omega) (by rw [HL.out] at hj2; exact hj2)), HL.out]
      go_wp2_with fail
      go_ret
      exact ⟨congrArg (fun q : Nat => Ending.returned (.int .i64 (q : Int))) hsc.out.symm, hg⟩

set_option maxRecDepth 20000 in
set_option maxHeartbeats 1000000 in
theorem rchunks_any (p : Prm) (hp : p.Ok) (A : Option Addr) (n c : Nat) (bs : List UInt8) (w : World) (hl : bs.length = n) (hnc : n ≤ c) (hr : Lies w w.heap.size A (bs.map bv)) (hn : n ≤ 1000000) :
    Calls Tryd.prog 21 #[.slice A n c, pv p] w fun e w' => ∃ v es, e = .returned v ∧ w'.ownsRow w.heap.size 35 1 v (chunksOf p bs).length es ∧ Each (fun k => k < w.heap.size) w' es (chunksOf p bs) ∧ Grows w w' := by
  have hN := Has.new w 23 [.int .i64 (p.mn : Int), .int .i64 (p.av : Int), .int .i64 (p.mx : Int)]
  have hg := grows_alloc w (.cells [.int .i64 (p.mn : Int), .int .i64 (p.av : Int), .int .i64 (p.mx : Int)].toArray 23)
  have RW := Lib.hid (rwords_any (w.alloc (.cells [.int .i64 (p.mn : Int), .int .i64 (p.av : Int), .int .i64 (p.mx : Int)].toArray 23)))
  have FI := Lib.hid (fun A1 cA B n c bs u h1 h2 h3 h4 h5 => rfirst_any p hp A1 cA B n c bs u h1 h2 h3 h4 h5)
  have hpv : pv p = .agg #[.int .i64 p.mn, .int .i64 p.av, .int .i64 p.mx] := rfl
  rw [hpv] at *
  go_enter Tryd.func21, Tryd.ntmps21
  go_wp2_with fail
  refine RW.out.mono ?_
  rintro e w1 ⟨A1, cA, rfl, hW1, hg1⟩
  have hN1 := hN.later hg1
  have hgw1 := Grows.trans hg hg1
  have hr1 : LiesIn (fun k => k < w.heap.size) w1 A (bs.map bv) := (LiesIn.of_lies hr (fun _ h => h)).later hgw1
  have hcl := chunks_len p bs
  obtain ⟨i0, hi0, hz0, hz1, hz2⟩ := info_parts slc_info
  clear RW hg hN hg1
  go_wp2_with fail
  go_loopw [0, 6] (fun rv lv wr => ∃ (A' : Option Addr) (n' c' : Nat) (rest : List UInt8) (T : List (List UInt8)) (es : List Value), rv = .slice A' n' c' ∧ rest.length = n' ∧ n' ≤ c' ∧ n' ≤ 1000000 ∧ LiesIn (fun k => k < w.heap.size) wr A' (rest.map bv) ∧
    Hid (chunksOf p bs = T ++ chunksOf p rest) ∧ wr.ownsRow w1.heap.size 35 1 lv T.length es ∧ Each (fun k => k < w.heap.size) wr es T ∧ Grows w1 wr) (fun rv _ _ => slen rv)
  case atStart => exact ⟨A, n, c, bs, [], [], rfl, hl, hnc, hn, hr1, rfl, World.ownsRow_nil _ _ _ _, Each.nil _ _, Grows.refl _⟩
  case round =>
    obtain ⟨A', n', c', rest, T, es, rfl, hl', hnc', hn', hr', HC, hown, heach, hgr⟩ := hrel
    obtain ⟨A5, c5, rfl, hc5⟩ := own_form hown
    by_cases hrest : rest = []
    · subst hrest
      obtain rfl : n' = 0 := by simpa using hl'.symm
      have HC' := HC.out
      rw [chunksOf_nil, List.append_nil] at HC'
      have HC' := Lib.hid HC'
      clear HC
      go_wp2_with fail
      go_ret
      exact ⟨_, es, rfl, by rw [HC'.out]; exact own_base hown hgw1.size, by rw [HC'.out]; exact heach, Grows.trans hgw1 hgr⟩
    · have hpos : 0 < n' := by rw [← hl']; exact List.length_pos_iff.2 hrest
      have d1 : decide ((n' : Int) > 0) = true := by simp; omega
      have hNr := hN1.later hgr
      have P0 := hNr.cell (k := 0) rfl
      have P1 := hNr.cell (k := 1) rfl
      have P2 := hNr.cell (k := 2) rfl
      have hgw := Grows.trans hgw1 hgr
      have hsz := hgw.size
      have FR := Lib.hid (FI.out A1 cA A' n' c' rest wr (hW1.later hgr) hl' hnc' (hr'.lies (fun k hk => by omega)) hn')
      have hk1 := scan_pos p [] hrest
      have hk2 := scan_le p rest []
      have HCC := chunksOf_cons p hrest
      have hTl : T.length ≤ 1000000 := by
        have := congrArg List.length HC.out
        rw [List.length_append] at this
        omega
      generalize (scan p [] rest).1 = k at *
      have HCC := Lib.hid HCC
      have HLL := Lib.hid hl'
      have hkn : k ≤ n' := by rw [← hl']; exact hk2
      have hkl : (rest.take k).length = k := by rw [List.length_take, hl', Nat.min_eq_left hkn]
      have hc1 := fun u => run_cutK_to (P := Tryd.prog) (t := 35) (e := 5) Tryd.underlying35 byte_size A' n' c' k .i64 (by omega) u
      have hc2 := fun u => run_cutK_from (P := Tryd.prog) (t := 35) (e := 5) Tryd.underlying35 byte_size A' n' c' k .i64 hkn hnc' u
      have HKL := Lib.hid hkl
      clear hk2 hl' hkl
      go_wp2_with fail
      refine FR.out.mono ?_
      rintro e w2 ⟨rfl, hg2⟩
      have hown2 := own_later hown hg2
      have heach2 := heach.later hg2
      have hgr2 := Grows.trans hgr hg2
      have hr2 := hr'.later hg2
      have hsz2 : w.heap.size ≤ w2.heap.size := Nat.le_trans hsz hg2.size
      have hL := (Lies.new w2 35 [.slice A' k c']).mono (B' := (w2.alloc (.cells #[.slice A' k c'] 35)).heap.size) (by simp)
      go_wp2_with (at_builtin; refine wpList_append_src _ rfl (.tmp 16) (.tmp 20) _ rfl w1.heap.size 35 i0 _ 24 Tryd.underlying42 hi0 hz0 hz1 hz2 rfl _ T.length es rfl (hown2.alloc _) _ (some ⟨w2.heap.size, 0, none⟩) 1 1 [.slice A' k c'] rfl rfl hL (by simp [Value.oneCell']) (by unfold maxLen; omega) (by omega) (by rw [World.size_alloc]; have := hgr2.size; omega) ?_; intro v4 w4 hown4 hg4 hat4)
      have hg5 : Grows w1 w4 := Below.grown (Grows.trans hgr2 (grows_alloc w2 _)) hg4 (by rw [World.size_alloc]; have := hgr2.size; omega) (own_ge hown2)
      have ht4 : Turns (fun k => w1.heap.size ≤ k) w2 w4 := (Turns.of_grows (grows_alloc w2 _)).trans (Turns.of_by hg4 fun g e _ => own_ge hown2 g e)
      have hno : ∀ q, q < w.heap.size → ¬ w1.heap.size ≤ q := fun q hq h => by have := hgw1.size; omega
      have hr4 := hr2.turned ht4 hno
      have he4 := heach2.turned ht4 hno
      have he5 := he4.snoc (A := A') (c := c') (x := rest.take k) (by rw [HKL.out]; omega) (by rw [List.map_take]; exact hr4.take k)
      rw [HKL.out] at he5
      exact ⟨⟨cutA A' c' k 1, n' - k, c' - k, rest.drop k, T ++ [rest.take k], _, rfl, by rw [List.length_drop, HLL.out], by omega, by omega, by rw [List.map_drop]; exact hr4.cutA (by rw [List.length_map, HLL.out]; exact hnc'), by show _ = _; rw [HC.out, HCC.out]; simp, by rw [List.length_append, List.length_singleton]; exact hown4, he5, hg5⟩, by simp only [slen]; omega⟩
end Go.Proofs.YtkgkkobdpgnicaaDoor
