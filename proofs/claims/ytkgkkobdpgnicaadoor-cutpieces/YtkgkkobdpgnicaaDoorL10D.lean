/-
  The walk of CutPieces: in whatever pieces bytes are written, their chunks are the same.
-/
import Derived.Test.YtkgkkobdpgnicaaDoorCutK
import Derived.Test.YtkgkkobdpgnicaaDoorCutR
import Derived.Test.YtkgkkobdpgnicaaDoorCut2
namespace Go.Proofs.YtkgkkobdpgnicaaDoor
open Go.RowKit
set_option linter.unusedVariables false

/-- Where the pieces that were told lie: apart from the cutter, its row, and the list. -/
def GotP (base cb kb rb : Nat) (v gv : Value) (k : Nat) : Prop := base ≤ k ∧ v.ownBlock ≠ some k ∧ gv.ownBlock ≠ some k ∧ k ≠ cb ∧ k ≠ kb ∧ k ≠ rb
theorem Each.append {ok : Nat → Prop} {w : World} {es fs : List Value} {l m : List (List UInt8)} (h : Each ok w es l) (k : Each ok w fs m) : Each ok w (es ++ fs) (l ++ m) := by
  refine ⟨by rw [List.length_append, List.length_append, h.1, k.1], fun i x hx => ?_⟩
  rcases Nat.lt_or_ge i l.length with hi | hi
  · rw [List.getElem?_append_left hi] at hx
    rw [List.getElem?_append_left (by rw [h.1]; exact hi)]
    exact h.2 i x hx
  · rw [List.getElem?_append_right hi] at hx
    rw [List.getElem?_append_right (by rw [h.1]; exact hi), h.1]
    exact k.2 _ x hx
theorem take_split (l : List UInt8) {t n : Nat} (h : t ≤ n) : l.take n = l.take t ++ (l.drop t).take (n - t) := by
  obtain ⟨k, rfl⟩ : ∃ k, n = t + k := ⟨n - t, by omega⟩
  rw [List.take_add, Nat.add_sub_cancel_left]
theorem each_one {ok : Nat → Prop} {w : World} {es : List Value} {l : List (List UInt8)} (h : Each ok w es l) : ∀ u ∈ es, u.oneCell' = true := fun u hu => by
  obtain ⟨i, hi⟩ := List.mem_iff_getElem?.1 hu
  have hlt := (List.getElem?_eq_some_iff.1 hi).1
  rw [h.1] at hlt
  obtain ⟨A, c, e, _⟩ := h.2 i _ (List.getElem?_eq_getElem hlt)
  rw [hi] at e
  injection e with e
  rw [e]; rfl

set_option maxRecDepth 20000 in
set_option maxHeartbeats 8000000 in
theorem pieces_walk10 (A : Option Addr) (n c : Nat) (bs : List UInt8) (a b d : Int) (Z : Option Addr) (zn zc : Nat) (zs : List Int) (w : World) (hs : Starts w) (hl : bs.length = n) (hr : Lies w w.heap.size A (bs.map bv)) (hnc : n ≤ c) (hcm : c ≤ maxLen) (ha : I64 a) (hb : I64 b) (hd : I64 d)
    (hzl : zs.length = zn) (hzr : Lies w w.heap.size Z (zs.map zv)) (hznc : zn ≤ zc) (hzcm : zc ≤ maxLen) (hzi : ∀ z ∈ zs, -9223372036854775808 ≤ z ∧ z ≤ 9223372036854775807) :
    Calls Tryd.prog 5 #[.slice A n c, pz a b d, .slice Z zn zc] w fun e w' => e = .returned (.bool true) ∧ Grows w w' := by
  have hp := goodP_ok a b d
  have FW := Lib.hid (fun u (h : Grows w u) => few_bytes A n c 150 bs u hl (hr.later h) hnc (by decide) hcm)
  have GD := Lib.hid (fun u => good_any a b d u ha hb hd)
  have NW := Lib.hid (fun u (h : Starts u) => newcut_any (goodP a b d) u hp h)
  have CH := Lib.hid (fun u A' n' c' bs' (h1 : bs'.length = n') (h2 : n' ≤ c') (h3 : Lies u u.heap.size A' (bs'.map bv)) (h5 : n' ≤ 1000000) => rchunks_any (goodP a b d) hp A' n' c' bs' u h1 h2 h3 h5)
  have hN := Has.new w 23 [.int .i64 a, .int .i64 b, .int .i64 d]
  have g1 := grows_alloc w (.cells [.int .i64 a, .int .i64 b, .int .i64 d].toArray 23)
  have hpz : pz a b d = .agg #[.int .i64 a, .int .i64 b, .int .i64 d] := rfl
  generalize goodP a b d = p at *
  rw [hpz] at *
  have hpp : pv p = .agg #[.int .i64 p.mn, .int .i64 p.av, .int .i64 p.mx] := rfl
  rw [hpp] at *
  go_enter Tryd.func5, Tryd.ntmps5
  go_wp2_with fail
  refine (FW.out _ g1).mono ?_
  rintro e w1 ⟨A1, c1, rfl, hc1, hown1, hL1, hg1⟩
  have hN1 := hN.later hg1
  have P0 := hN1.cell (k := 0) rfl
  have P1 := hN1.cell (k := 1) rfl
  have P2 := hN1.cell (k := 2) rfl
  have gw1 : Grows w w1 := Grows.trans g1 hg1
  have HL1 : Hid ((bs.take 150).length = min n 150) := by show _ = _; rw [List.length_take, hl, Nat.min_comm]
  have hm1 : min n 150 ≤ 150 := Nat.min_le_right _ _
  generalize bs.take 150 = own at *
  generalize min n 150 = m1 at *
  clear FW hown1 hg1 g1 hN hN1
  go_wp2_with fail
  refine (GD.out _).mono ?_
  rintro e w2 ⟨rfl, hg2⟩
  have gw2 := Grows.trans gw1 hg2
  have hL2 := hL1.later hg2
  have hR := Has.new w2 23 [.int .i64 0, .int .i64 0, .int .i64 0]
  have hga := grows_alloc w2 (.cells [.int .i64 0, .int .i64 0, .int .i64 0].toArray 23)
  clear GD hg2 hL1 P0 P1 P2
  go_wp2_with (refine wpList_storev rfl 23 (.tmp 8) (.tmp 20) rfl w2.heap.size _ [.int .i64 p.mn, .int .i64 p.av, .int .i64 p.mx] 3 rfl rfl hR rfl rfl prm_size (prm_one _ _ _) ?_; intro w3 hbox3 hbel3; have Q0 := hbox3.cell (k := 0) rfl; have Q1 := hbox3.cell (k := 1) rfl; have Q2 := hbox3.cell (k := 2) rfl)
  have hg3 : Grows w2 w3 := hbel3 _ _ (Nat.le_refl _) hga
  have gw3 := Grows.trans gw2 hg3
  have hL3 := hL2.later hg3
  refine (NW.out w3 (hs.later gw3)).mono ?_
  rintro e w4 ⟨cb, kb, rb, rfl, K4, hcb, hkb, hrb, hg4⟩
  have gw4 := Grows.trans gw3 hg4
  have hL4 : LiesIn (fun k => k < w3.heap.size) w4 A1 (own.map bv) := (LiesIn.of_lies hL3 (fun _ h => h)).later hg4
  have hbox4 := hbox3.later hg4
  have hz4 : LiesIn (fun k => k < w.heap.size) w4 Z (zs.map zv) := (LiesIn.of_lies hzr (fun _ h => h)).later gw4
  have hcl4 := K4.lt cb (.inl rfl)
  have hkl4 := K4.lt kb (.inr (.inl rfl))
  have hrl4 := K4.lt rb (.inr (.inr (.inl rfl)))
  have hsz := gw3.size
  have hs3 := (hs.later gw3).pos
  have hpos := hs.pos
  have hs4 := hs.later gw4
  have hbg3 := hbox3.lt
  have hcne : ∀ u, (binOp .eql 28 (.pointer (some ⟨cb, 0, none⟩)) (.pointer none)).run Tryd.prog u = .ok (.bool false) u := fun u => by kernel_rfl
  clear hbox3 hbel3 hg3 hL2 hga hR Q0 Q1 Q2 NW hg4 hL3
  obtain ⟨bg, hbg⟩ : ∃ k, k = w2.heap.size := ⟨_, rfl⟩
  rw [← hbg] at hbox4 hbg3
  obtain ⟨i1, hi1, hy0, hy1, hy2⟩ := info_parts slc_info
  go_wp2_with fail
  rw [← hbg]
  clear hbg
  go_loopw [11, 12, 13] (fun gv av iv wr => ∃ (t j : Nat) (T : List (List UInt8)) (es : List Value) (v : Value) (r : List UInt8), av = .int .i64 (t : Int) ∧ t ≤ m1 ∧ iv = .int .i64 (j : Int) ∧ j ≤ 9 * t + j % 9 ∧ Cutr wr cb kb rb p v r ∧ wr.ownsRow w4.heap.size 35 1 gv T.length es ∧
    Each (GotP w4.heap.size cb kb rb v gv) wr es T ∧ (∀ g, gv.ownBlock = some g → v.ownBlock ≠ some g) ∧ (∀ g, v.ownBlock = some g → w4.heap.size ≤ g) ∧ Hid (T.flatten ++ r = own.take t) ∧ (∀ x ∈ T, Shut p x) ∧ Turns (fun k => k = cb ∨ k = kb ∨ k = rb) w4 wr)
    (fun _ av iv _ => (m1 - (intOf av).toNat) * 9 + (8 - (intOf iv).toNat % 9))
  case atStart => exact ⟨0, 0, [], [], .slice none 0 0, [], rfl, Nat.zero_le _, rfl, Nat.zero_le _, K4, World.ownsRow_nil _ _ _ _, Each.nil _ _, fun g hg => by simp [Value.ownBlock] at hg, fun g hg => by simp [Value.ownBlock] at hg, by show _ = _; rw [List.take_zero]; rfl, fun x hx => by simp at hx, Turns.refl _ _⟩
  case round =>
    obtain ⟨t, j, T, es, v, r, rfl, ht, rfl, hj, K, hown, hE, hgv, hvb, HC, hsh, TT⟩ := hrel
    obtain ⟨A5, c5, rfl, hc5⟩ := own_form hown
    by_cases hlt : t < m1
    · have hti : (t : Int) < (m1 : Int) := by omega
      have hjw : IntKind.i64.wrap ((j : Int) + 1) = (j : Int) + 1 := IntWalk.i64_in _ (by omega)
      obtain ⟨j9, h9⟩ : ∃ x, x = j % 9 := ⟨_, rfl⟩
      have hj9 : ((j : Int).tmod 9) = (j9 : Int) := by rw [Int.tmod_eq_emod_of_nonneg (by omega)]; omega
      have hj9' : (j : Int) % 9 = (j9 : Int) := by omega
      rw [← h9] at hj
      have HJ9 : Hid (j9 ≤ 8 ∧ (j9 ≠ 8 → (j + 1) % 9 = j9 + 1) ∧ (j9 = 8 → (j + 1) % 9 = 0)) := ⟨by omega, fun h => by omega, fun h => by omega⟩
      have H9 := Lib.hid h9
      clear h9
      by_cases hzn : zn = 0
      · have d1 : decide ((zn : Int) > 0) = false := by simp; omega
        have d1' : decide (0 < zn) = false := by simp; omega
        clear hzn
        have HPR : Hid (j9 = 8 → 1 ≤ 7) := fun _ => by omega
        by_cases h8 : j9 = 8
        · have e8 : ((j9 : Int) == 8) = true := by rw [h8]; rfl
          clear h8
          have hnv : 7 ≤ 31 := by omega
          have hwn : IntKind.i64.wrap ((t : Int) + 7) = (t : Int) + 7 := IntWalk.i64_in _ (by omega)
          by_cases hle : t + 7 ≤ m1
          · have hleI : (t : Int) + 7 ≤ (m1 : Int) := by omega
            obtain ⟨Ac, hcut, hLc⟩ := cut_mid (P := Tryd.prog) Tryd.underlying35 byte_size A1 m1 c1 .i64 .i64 (t : Int) ((t : Int) + 7) t (t + 7) rfl (by omega) (by omega) (by omega)
            obtain ⟨q, hq⟩ : ∃ q, q = (t + 7) - t := ⟨_, rfl⟩
            rw [← hq] at hcut hLc
            have hqt : t + q = t + 7 := by omega
            have hpl : ((own.drop t).take q).length = q := by rw [List.length_take, List.length_drop, HL1.out]; omega
            have hLw : Lies wr w3.heap.size A1 (own.map bv) := (hL4.turned TT (fun q hq h => by omega)).lies (fun q hq => hq)
            have hLp := hLc wr w3.heap.size (own.map bv) hLw
            rw [← List.map_drop, ← List.map_take] at hLp
            have hsW := hs4.turned TT (fun h => by omega)
            have hrl : r.length ≤ 150 := by
              have := congrArg List.length HC.out
              rw [List.length_append, List.length_take] at this
              omega
            have HCX : Hid (own.take (t + 7) = own.take t ++ (own.drop t).take q) := by
              show _ = _
              rw [hq]; exact take_split own (by omega)
            have hq150 : q ≤ 150 := by omega
            have HQT := Lib.hid hqt
            have HQE := Lib.hid hq
            clear hq hqt
            have WR := Lib.hid (write_any cb kb rb w3.heap.size p hp v r Ac q (c1 - t) _ wr K hsW (by omega) hpl (by have := HQT.out; omega) (LiesIn.of_lies hLp (fun _ h => h)) hcb hkb hrb (fun g hg => by have := hvb g hg; omega) (by omega))
            have hLg : Lies wr w3.heap.size (Option.map (fun x => x.add t) A1) (((own.drop t).take q).map bv) := by
              rw [List.map_take, List.map_drop]; exact (hLw.from_ t).take _
            have WRg := Lib.hid (write_any cb kb rb w3.heap.size p hp v r (Option.map (fun x => x.add t) A1) q (c1 - t) _ wr K hsW (by omega) hpl (by have := HQT.out; omega) (LiesIn.of_lies hLg (fun _ h => h)) hcb hkb hrb (fun g hg => by have := hvb g hg; omega) (by omega))
            have hTl : T.length ≤ 150 := by
              have h1 := shut_len p T hsh
              have := congrArg List.length HC.out
              rw [List.length_append, List.length_take] at this
              omega
            have hPL := Lib.hid hpl
            clear hpl hLp hLw hLc hLg
            generalize (own.drop t).take q = pc at *
            have hgl := own_lt hown
            have hgge := own_ge hown
            have hwr4 := TT.size
            go_wp2_with fail
            try rw [← HQE.out]
            first | (with_reducible refine WR.out.mono ?_) | (with_reducible refine WRg.out.mono ?_)
            rintro e w5 ⟨tv, v', T', es', r', rfl, K5, hv5, hownT, hET, htv, hC5, hsh5, T5⟩
            obtain ⟨At, ct, rfl, hct⟩ := own_form hownT
            have hET1 := each_one hET
            have hEll := hET.1
            have hown5 := own_turned hown T5 (fun g hg h => by
              have := hgge g hg
              rcases h with h | h | h | h
              · omega
              · omega
              · omega
              · exact hgv g hg h)
            have hLT := Lies.of_own hownT
            have hTl5 : T'.length ≤ 1000 := by
              have h1 := shut_len p T' hsh5
              have := congrArg List.length hC5
              rw [List.length_append, List.length_append, hPL.out] at this
              omega
            have hw5s := T5.size
            have hK5l := own_lt K5.row
            have HC5 := Lib.hid hC5
            clear WR WRg hcut hC5
            go_wp2_with (at_builtin; refine wpList_append_src _ rfl (.tmp 60) (.tmp 66) _ rfl w4.heap.size 35 i1 _ 24 Tryd.underlying42 hi1 hy0 hy1 hy2 rfl (.slice A5 T.length c5) T.length es rfl hown5 _ At T'.length ct es' rfl hEll hLT hET1 (by unfold maxLen; omega) (by omega) (by omega) ?_; intro v6 w6 hown6 hg6 hat6)
            have T6 : Turns (fun q => (Value.slice A5 T.length c5).ownBlock = some q) w5 w6 := Turns.of_by hg6 fun g e _ => e
            have hvg : ∀ q, (Value.slice A5 T.length c5).ownBlock = some q → v'.ownBlock ≠ some q := fun q hq e => by
              rcases hv5 q e with h | h
              · exact hgv q hq h
              · have := hgl q hq; omega
            have T56 : Turns (fun q => CutS cb kb rb v q ∨ (Value.slice A5 T.length c5).ownBlock = some q) wr w6 := (T5.mono fun q _ h => .inl h).trans (T6.mono fun q _ h => .inr h)
            have hE6 : Each (GotP w4.heap.size cb kb rb v' v6) w6 es T := each_kept hE T56 (fun q hq hqs => by
              obtain ⟨q1, q2, q3, q4, q5, q6⟩ := hq
              refine ⟨fun h => ?_, q1, fun e => ?_, ?_, q4, q5, q6⟩
              · rcases h with (h | h | h | h) | h
                · exact q4 h
                · exact q5 h
                · exact q6 h
                · exact q2 h
                · exact q3 h
              · rcases hv5 q e with h | h
                · exact q2 h
                · omega
              · rcases hat6 with h | h
                · exact fun e => q3 (by rw [← e]; exact h.symm)
                · rw [h]; intro e; injection e with e; omega)
            have hE6' : Each (GotP w4.heap.size cb kb rb v' v6) w6 es' T' := each_kept hET T6 (fun q hq hqs => by
              obtain ⟨q1, q2, q3, q4, q5, q6⟩ := hq
              have hng : (Value.slice A5 T.length c5).ownBlock ≠ some q := fun h => by
                rcases q1 with q1 | q1
                · have := hgl q h; omega
                · exact hgv q h q1
              refine ⟨hng, ?_, q2, ?_, q4, q5, q6⟩
              · rcases q1 with q1 | q1
                · omega
                · exact hvb q q1
              · rcases hat6 with h | h
                · exact fun e => hng (by rw [← e]; exact h.symm)
                · rw [h]; intro e; injection e with e; omega)
            have hE7 := hE6.append hE6'
            have hgv6 : ∀ g, v6.ownBlock = some g → v'.ownBlock ≠ some g := fun g hg e => by
              rcases hat6 with h | h
              · exact hvg g (by rw [← h]; exact hg) e
              · rw [h] at hg
                injection hg with hg
                have := hK5l g e
                omega
            have hvb6 : ∀ g, v'.ownBlock = some g → w4.heap.size ≤ g := fun g hg => by
              rcases hv5 g hg with h | h
              · exact hvb g h
              · omega
            have K6 := K5.turned T6 (fun q hq h => by
              rcases hq with hq | hq | hq | hq
              · have := hgge q h; omega
              · have := hgge q h; omega
              · have := hgge q h; omega
              · exact hvg q h hq)
            have TT6 : Turns (fun k => k = cb ∨ k = kb ∨ k = rb) w4 w6 := TT.then_ T56 (fun i hi h => by
              rcases h with (h | h | h | h) | h
              · exact .inl h
              · exact .inr (.inl h)
              · exact .inr (.inr h)
              · have := hvb i h; omega
              · have := hgge i h; omega)
            have hqt := HQT.out
            have hfin : j + 1 ≤ 9 * (t + 7) + (j + 1) % 9 ∧ (m1 - (t + 7)) * 9 + (8 - (j + 1) % 9) < (m1 - t) * 9 + (8 - j9) := by
              obtain ⟨h1, h2, h3⟩ := HJ9.out
              have h4 := HPR.out
              by_cases hh : j9 = 8
              · have h5 := h3 hh
                have h6 := h4 hh
                omega
              · have h5 := h2 hh
                omega
            go_roundw
            case rel => exact ⟨t + 7, j + 1, T ++ T', es ++ es', v', r', by first | rfl | exact congrArg (Value.int .i64) (by omega), by omega, by go_num, hfin.1, K6, by rw [List.length_append]; exact hown6, hE7, hgv6, hvb6, by show _ = _; rw [HCX.out, ← HC.out, List.flatten_append, List.append_assoc, HC5.out, List.append_assoc], fun x hx => (List.mem_append.1 hx).elim (hsh x) (hsh5 x), TT6⟩
            case measure =>
              have h1 : (intOf (.int .i64 ((t : Int) + 7))).toNat = t + 7 := by simp only [intOf]; omega
              have h2 : (intOf (.int .i64 ((j : Int) + 1))).toNat = j + 1 := by simp only [intOf]; omega
              have h3 : (intOf (.int .i64 (t : Int))).toNat = t := by simp only [intOf]; omega
              have h4 : (intOf (.int .i64 (j : Int))).toNat = j := by simp only [intOf]; omega
              rw [h1, h2, h3, h4, ← H9.out]
              exact hfin.2
          · have hleI : ¬ ((t : Int) + 7 ≤ (m1 : Int)) := by omega
            obtain ⟨Ac, hcut, hLc⟩ := cut_mid (P := Tryd.prog) Tryd.underlying35 byte_size A1 m1 c1 .i64 .i64 (t : Int) (m1 : Int) t m1 rfl rfl (by omega) (by omega)
            obtain ⟨q, hq⟩ : ∃ q, q = (m1) - t := ⟨_, rfl⟩
            rw [← hq] at hcut hLc
            have hqt : t + q = m1 := by omega
            have hpl : ((own.drop t).take q).length = q := by rw [List.length_take, List.length_drop, HL1.out]; omega
            have hLw : Lies wr w3.heap.size A1 (own.map bv) := (hL4.turned TT (fun q hq h => by omega)).lies (fun q hq => hq)
            have hLp := hLc wr w3.heap.size (own.map bv) hLw
            rw [← List.map_drop, ← List.map_take] at hLp
            have hsW := hs4.turned TT (fun h => by omega)
            have hrl : r.length ≤ 150 := by
              have := congrArg List.length HC.out
              rw [List.length_append, List.length_take] at this
              omega
            have HCX : Hid (own.take (m1) = own.take t ++ (own.drop t).take q) := by
              show _ = _
              rw [hq]; exact take_split own (by omega)
            have hq150 : q ≤ 150 := by omega
            have HQT := Lib.hid hqt
            have HQE := Lib.hid hq
            clear hq hqt
            have WR := Lib.hid (write_any cb kb rb w3.heap.size p hp v r Ac q (c1 - t) _ wr K hsW (by omega) hpl (by have := HQT.out; omega) (LiesIn.of_lies hLp (fun _ h => h)) hcb hkb hrb (fun g hg => by have := hvb g hg; omega) (by omega))
            have hLg : Lies wr w3.heap.size (Option.map (fun x => x.add t) A1) (((own.drop t).take q).map bv) := by
              rw [List.map_take, List.map_drop]; exact (hLw.from_ t).take _
            have WRg := Lib.hid (write_any cb kb rb w3.heap.size p hp v r (Option.map (fun x => x.add t) A1) q (c1 - t) _ wr K hsW (by omega) hpl (by have := HQT.out; omega) (LiesIn.of_lies hLg (fun _ h => h)) hcb hkb hrb (fun g hg => by have := hvb g hg; omega) (by omega))
            have hTl : T.length ≤ 150 := by
              have h1 := shut_len p T hsh
              have := congrArg List.length HC.out
              rw [List.length_append, List.length_take] at this
              omega
            have hPL := Lib.hid hpl
            clear hpl hLp hLw hLc hLg
            generalize (own.drop t).take q = pc at *
            have hgl := own_lt hown
            have hgge := own_ge hown
            have hwr4 := TT.size
            go_wp2_with fail
            try rw [← HQE.out]
            first | (with_reducible refine WR.out.mono ?_) | (with_reducible refine WRg.out.mono ?_)
            rintro e w5 ⟨tv, v', T', es', r', rfl, K5, hv5, hownT, hET, htv, hC5, hsh5, T5⟩
            obtain ⟨At, ct, rfl, hct⟩ := own_form hownT
            have hET1 := each_one hET
            have hEll := hET.1
            have hown5 := own_turned hown T5 (fun g hg h => by
              have := hgge g hg
              rcases h with h | h | h | h
              · omega
              · omega
              · omega
              · exact hgv g hg h)
            have hLT := Lies.of_own hownT
            have hTl5 : T'.length ≤ 1000 := by
              have h1 := shut_len p T' hsh5
              have := congrArg List.length hC5
              rw [List.length_append, List.length_append, hPL.out] at this
              omega
            have hw5s := T5.size
            have hK5l := own_lt K5.row
            have HC5 := Lib.hid hC5
            clear WR WRg hcut hC5
            go_wp2_with (at_builtin; refine wpList_append_src _ rfl (.tmp 60) (.tmp 66) _ rfl w4.heap.size 35 i1 _ 24 Tryd.underlying42 hi1 hy0 hy1 hy2 rfl (.slice A5 T.length c5) T.length es rfl hown5 _ At T'.length ct es' rfl hEll hLT hET1 (by unfold maxLen; omega) (by omega) (by omega) ?_; intro v6 w6 hown6 hg6 hat6)
            have T6 : Turns (fun q => (Value.slice A5 T.length c5).ownBlock = some q) w5 w6 := Turns.of_by hg6 fun g e _ => e
            have hvg : ∀ q, (Value.slice A5 T.length c5).ownBlock = some q → v'.ownBlock ≠ some q := fun q hq e => by
              rcases hv5 q e with h | h
              · exact hgv q hq h
              · have := hgl q hq; omega
            have T56 : Turns (fun q => CutS cb kb rb v q ∨ (Value.slice A5 T.length c5).ownBlock = some q) wr w6 := (T5.mono fun q _ h => .inl h).trans (T6.mono fun q _ h => .inr h)
            have hE6 : Each (GotP w4.heap.size cb kb rb v' v6) w6 es T := each_kept hE T56 (fun q hq hqs => by
              obtain ⟨q1, q2, q3, q4, q5, q6⟩ := hq
              refine ⟨fun h => ?_, q1, fun e => ?_, ?_, q4, q5, q6⟩
              · rcases h with (h | h | h | h) | h
                · exact q4 h
                · exact q5 h
                · exact q6 h
                · exact q2 h
                · exact q3 h
              · rcases hv5 q e with h | h
                · exact q2 h
                · omega
              · rcases hat6 with h | h
                · exact fun e => q3 (by rw [← e]; exact h.symm)
                · rw [h]; intro e; injection e with e; omega)
            have hE6' : Each (GotP w4.heap.size cb kb rb v' v6) w6 es' T' := each_kept hET T6 (fun q hq hqs => by
              obtain ⟨q1, q2, q3, q4, q5, q6⟩ := hq
              have hng : (Value.slice A5 T.length c5).ownBlock ≠ some q := fun h => by
                rcases q1 with q1 | q1
                · have := hgl q h; omega
                · exact hgv q h q1
              refine ⟨hng, ?_, q2, ?_, q4, q5, q6⟩
              · rcases q1 with q1 | q1
                · omega
                · exact hvb q q1
              · rcases hat6 with h | h
                · exact fun e => hng (by rw [← e]; exact h.symm)
                · rw [h]; intro e; injection e with e; omega)
            have hE7 := hE6.append hE6'
            have hgv6 : ∀ g, v6.ownBlock = some g → v'.ownBlock ≠ some g := fun g hg e => by
              rcases hat6 with h | h
              · exact hvg g (by rw [← h]; exact hg) e
              · rw [h] at hg
                injection hg with hg
                have := hK5l g e
                omega
            have hvb6 : ∀ g, v'.ownBlock = some g → w4.heap.size ≤ g := fun g hg => by
              rcases hv5 g hg with h | h
              · exact hvb g h
              · omega
            have K6 := K5.turned T6 (fun q hq h => by
              rcases hq with hq | hq | hq | hq
              · have := hgge q h; omega
              · have := hgge q h; omega
              · have := hgge q h; omega
              · exact hvg q h hq)
            have TT6 : Turns (fun k => k = cb ∨ k = kb ∨ k = rb) w4 w6 := TT.then_ T56 (fun i hi h => by
              rcases h with (h | h | h | h) | h
              · exact .inl h
              · exact .inr (.inl h)
              · exact .inr (.inr h)
              · have := hvb i h; omega
              · have := hgge i h; omega)
            have hqt := HQT.out
            have hfin : j + 1 ≤ 9 * (m1) + (j + 1) % 9 ∧ (m1 - (m1)) * 9 + (8 - (j + 1) % 9) < (m1 - t) * 9 + (8 - j9) := by
              obtain ⟨h1, h2, h3⟩ := HJ9.out
              have h4 := HPR.out
              by_cases hh : j9 = 8
              · have h5 := h3 hh
                have h6 := h4 hh
                omega
              · have h5 := h2 hh
                omega
            go_roundw
            case rel => exact ⟨m1, j + 1, T ++ T', es ++ es', v', r', by first | rfl | exact congrArg (Value.int .i64) (by omega), by omega, by go_num, hfin.1, K6, by rw [List.length_append]; exact hown6, hE7, hgv6, hvb6, by show _ = _; rw [HCX.out, ← HC.out, List.flatten_append, List.append_assoc, HC5.out, List.append_assoc], fun x hx => (List.mem_append.1 hx).elim (hsh x) (hsh5 x), TT6⟩
            case measure =>
              have h1 : (intOf (.int .i64 (m1 : Int))).toNat = m1 := by simp only [intOf]; omega
              have h2 : (intOf (.int .i64 ((j : Int) + 1))).toNat = j + 1 := by simp only [intOf]; omega
              have h3 : (intOf (.int .i64 (t : Int))).toNat = t := by simp only [intOf]; omega
              have h4 : (intOf (.int .i64 (j : Int))).toNat = j := by simp only [intOf]; omega
              rw [h1, h2, h3, h4, ← H9.out]
              exact hfin.2
        · have e8 : ((j9 : Int) == 8) = false := by simp; omega
          clear h8
          have hnv : 7 ≤ 31 := by omega
          have hwn : IntKind.i64.wrap ((t : Int) + 7) = (t : Int) + 7 := IntWalk.i64_in _ (by omega)
          by_cases hle : t + 7 ≤ m1
          · have hleI : (t : Int) + 7 ≤ (m1 : Int) := by omega
            obtain ⟨Ac, hcut, hLc⟩ := cut_mid (P := Tryd.prog) Tryd.underlying35 byte_size A1 m1 c1 .i64 .i64 (t : Int) ((t : Int) + 7) t (t + 7) rfl (by omega) (by omega) (by omega)
            obtain ⟨q, hq⟩ : ∃ q, q = (t + 7) - t := ⟨_, rfl⟩
            rw [← hq] at hcut hLc
            have hqt : t + q = t + 7 := by omega
            have hpl : ((own.drop t).take q).length = q := by rw [List.length_take, List.length_drop, HL1.out]; omega
            have hLw : Lies wr w3.heap.size A1 (own.map bv) := (hL4.turned TT (fun q hq h => by omega)).lies (fun q hq => hq)
            have hLp := hLc wr w3.heap.size (own.map bv) hLw
            rw [← List.map_drop, ← List.map_take] at hLp
            have hsW := hs4.turned TT (fun h => by omega)
            have hrl : r.length ≤ 150 := by
              have := congrArg List.length HC.out
              rw [List.length_append, List.length_take] at this
              omega
            have HCX : Hid (own.take (t + 7) = own.take t ++ (own.drop t).take q) := by
              show _ = _
              rw [hq]; exact take_split own (by omega)
            have hq150 : q ≤ 150 := by omega
            have HQT := Lib.hid hqt
            have HQE := Lib.hid hq
            clear hq hqt
            have WR := Lib.hid (write_any cb kb rb w3.heap.size p hp v r Ac q (c1 - t) _ wr K hsW (by omega) hpl (by have := HQT.out; omega) (LiesIn.of_lies hLp (fun _ h => h)) hcb hkb hrb (fun g hg => by have := hvb g hg; omega) (by omega))
            have hLg : Lies wr w3.heap.size (Option.map (fun x => x.add t) A1) (((own.drop t).take q).map bv) := by
              rw [List.map_take, List.map_drop]; exact (hLw.from_ t).take _
            have WRg := Lib.hid (write_any cb kb rb w3.heap.size p hp v r (Option.map (fun x => x.add t) A1) q (c1 - t) _ wr K hsW (by omega) hpl (by have := HQT.out; omega) (LiesIn.of_lies hLg (fun _ h => h)) hcb hkb hrb (fun g hg => by have := hvb g hg; omega) (by omega))
            have hTl : T.length ≤ 150 := by
              have h1 := shut_len p T hsh
              have := congrArg List.length HC.out
              rw [List.length_append, List.length_take] at this
              omega
            have hPL := Lib.hid hpl
            clear hpl hLp hLw hLc hLg
            generalize (own.drop t).take q = pc at *
            have hgl := own_lt hown
            have hgge := own_ge hown
            have hwr4 := TT.size
            go_wp2_with fail
            try rw [← HQE.out]
            first | (with_reducible refine WR.out.mono ?_) | (with_reducible refine WRg.out.mono ?_)
            rintro e w5 ⟨tv, v', T', es', r', rfl, K5, hv5, hownT, hET, htv, hC5, hsh5, T5⟩
            obtain ⟨At, ct, rfl, hct⟩ := own_form hownT
            have hET1 := each_one hET
            have hEll := hET.1
            have hown5 := own_turned hown T5 (fun g hg h => by
              have := hgge g hg
              rcases h with h | h | h | h
              · omega
              · omega
              · omega
              · exact hgv g hg h)
            have hLT := Lies.of_own hownT
            have hTl5 : T'.length ≤ 1000 := by
              have h1 := shut_len p T' hsh5
              have := congrArg List.length hC5
              rw [List.length_append, List.length_append, hPL.out] at this
              omega
            have hw5s := T5.size
            have hK5l := own_lt K5.row
            have HC5 := Lib.hid hC5
            clear WR WRg hcut hC5
            go_wp2_with (at_builtin; refine wpList_append_src _ rfl (.tmp 60) (.tmp 66) _ rfl w4.heap.size 35 i1 _ 24 Tryd.underlying42 hi1 hy0 hy1 hy2 rfl (.slice A5 T.length c5) T.length es rfl hown5 _ At T'.length ct es' rfl hEll hLT hET1 (by unfold maxLen; omega) (by omega) (by omega) ?_; intro v6 w6 hown6 hg6 hat6)
            have T6 : Turns (fun q => (Value.slice A5 T.length c5).ownBlock = some q) w5 w6 := Turns.of_by hg6 fun g e _ => e
            have hvg : ∀ q, (Value.slice A5 T.length c5).ownBlock = some q → v'.ownBlock ≠ some q := fun q hq e => by
              rcases hv5 q e with h | h
              · exact hgv q hq h
              · have := hgl q hq; omega
            have T56 : Turns (fun q => CutS cb kb rb v q ∨ (Value.slice A5 T.length c5).ownBlock = some q) wr w6 := (T5.mono fun q _ h => .inl h).trans (T6.mono fun q _ h => .inr h)
            have hE6 : Each (GotP w4.heap.size cb kb rb v' v6) w6 es T := each_kept hE T56 (fun q hq hqs => by
              obtain ⟨q1, q2, q3, q4, q5, q6⟩ := hq
              refine ⟨fun h => ?_, q1, fun e => ?_, ?_, q4, q5, q6⟩
              · rcases h with (h | h | h | h) | h
                · exact q4 h
                · exact q5 h
                · exact q6 h
                · exact q2 h
                · exact q3 h
              · rcases hv5 q e with h | h
                · exact q2 h
                · omega
              · rcases hat6 with h | h
                · exact fun e => q3 (by rw [← e]; exact h.symm)
                · rw [h]; intro e; injection e with e; omega)
            have hE6' : Each (GotP w4.heap.size cb kb rb v' v6) w6 es' T' := each_kept hET T6 (fun q hq hqs => by
              obtain ⟨q1, q2, q3, q4, q5, q6⟩ := hq
              have hng : (Value.slice A5 T.length c5).ownBlock ≠ some q := fun h => by
                rcases q1 with q1 | q1
                · have := hgl q h; omega
                · exact hgv q h q1
              refine ⟨hng, ?_, q2, ?_, q4, q5, q6⟩
              · rcases q1 with q1 | q1
                · omega
                · exact hvb q q1
              · rcases hat6 with h | h
                · exact fun e => hng (by rw [← e]; exact h.symm)
                · rw [h]; intro e; injection e with e; omega)
            have hE7 := hE6.append hE6'
            have hgv6 : ∀ g, v6.ownBlock = some g → v'.ownBlock ≠ some g := fun g hg e => by
              rcases hat6 with h | h
              · exact hvg g (by rw [← h]; exact hg) e
              · rw [h] at hg
                injection hg with hg
                have := hK5l g e
                omega
            have hvb6 : ∀ g, v'.ownBlock = some g → w4.heap.size ≤ g := fun g hg => by
              rcases hv5 g hg with h | h
              · exact hvb g h
              · omega
            have K6 := K5.turned T6 (fun q hq h => by
              rcases hq with hq | hq | hq | hq
              · have := hgge q h; omega
              · have := hgge q h; omega
              · have := hgge q h; omega
              · exact hvg q h hq)
            have TT6 : Turns (fun k => k = cb ∨ k = kb ∨ k = rb) w4 w6 := TT.then_ T56 (fun i hi h => by
              rcases h with (h | h | h | h) | h
              · exact .inl h
              · exact .inr (.inl h)
              · exact .inr (.inr h)
              · have := hvb i h; omega
              · have := hgge i h; omega)
            have hqt := HQT.out
            have hfin : j + 1 ≤ 9 * (t + 7) + (j + 1) % 9 ∧ (m1 - (t + 7)) * 9 + (8 - (j + 1) % 9) < (m1 - t) * 9 + (8 - j9) := by
              obtain ⟨h1, h2, h3⟩ := HJ9.out
              have h4 := HPR.out
              by_cases hh : j9 = 8
              · have h5 := h3 hh
                have h6 := h4 hh
                omega
              · have h5 := h2 hh
                omega
            go_roundw
            case rel => exact ⟨t + 7, j + 1, T ++ T', es ++ es', v', r', by first | rfl | exact congrArg (Value.int .i64) (by omega), by omega, by go_num, hfin.1, K6, by rw [List.length_append]; exact hown6, hE7, hgv6, hvb6, by show _ = _; rw [HCX.out, ← HC.out, List.flatten_append, List.append_assoc, HC5.out, List.append_assoc], fun x hx => (List.mem_append.1 hx).elim (hsh x) (hsh5 x), TT6⟩
            case measure =>
              have h1 : (intOf (.int .i64 ((t : Int) + 7))).toNat = t + 7 := by simp only [intOf]; omega
              have h2 : (intOf (.int .i64 ((j : Int) + 1))).toNat = j + 1 := by simp only [intOf]; omega
              have h3 : (intOf (.int .i64 (t : Int))).toNat = t := by simp only [intOf]; omega
              have h4 : (intOf (.int .i64 (j : Int))).toNat = j := by simp only [intOf]; omega
              rw [h1, h2, h3, h4, ← H9.out]
              exact hfin.2
          · have hleI : ¬ ((t : Int) + 7 ≤ (m1 : Int)) := by omega
            obtain ⟨Ac, hcut, hLc⟩ := cut_mid (P := Tryd.prog) Tryd.underlying35 byte_size A1 m1 c1 .i64 .i64 (t : Int) (m1 : Int) t m1 rfl rfl (by omega) (by omega)
            obtain ⟨q, hq⟩ : ∃ q, q = (m1) - t := ⟨_, rfl⟩
            rw [← hq] at hcut hLc
            have hqt : t + q = m1 := by omega
            have hpl : ((own.drop t).take q).length = q := by rw [List.length_take, List.length_drop, HL1.out]; omega
            have hLw : Lies wr w3.heap.size A1 (own.map bv) := (hL4.turned TT (fun q hq h => by omega)).lies (fun q hq => hq)
            have hLp := hLc wr w3.heap.size (own.map bv) hLw
            rw [← List.map_drop, ← List.map_take] at hLp
            have hsW := hs4.turned TT (fun h => by omega)
            have hrl : r.length ≤ 150 := by
              have := congrArg List.length HC.out
              rw [List.length_append, List.length_take] at this
              omega
            have HCX : Hid (own.take (m1) = own.take t ++ (own.drop t).take q) := by
              show _ = _
              rw [hq]; exact take_split own (by omega)
            have hq150 : q ≤ 150 := by omega
            have HQT := Lib.hid hqt
            have HQE := Lib.hid hq
            clear hq hqt
            have WR := Lib.hid (write_any cb kb rb w3.heap.size p hp v r Ac q (c1 - t) _ wr K hsW (by omega) hpl (by have := HQT.out; omega) (LiesIn.of_lies hLp (fun _ h => h)) hcb hkb hrb (fun g hg => by have := hvb g hg; omega) (by omega))
            have hLg : Lies wr w3.heap.size (Option.map (fun x => x.add t) A1) (((own.drop t).take q).map bv) := by
              rw [List.map_take, List.map_drop]; exact (hLw.from_ t).take _
            have WRg := Lib.hid (write_any cb kb rb w3.heap.size p hp v r (Option.map (fun x => x.add t) A1) q (c1 - t) _ wr K hsW (by omega) hpl (by have := HQT.out; omega) (LiesIn.of_lies hLg (fun _ h => h)) hcb hkb hrb (fun g hg => by have := hvb g hg; omega) (by omega))
            have hTl : T.length ≤ 150 := by
              have h1 := shut_len p T hsh
              have := congrArg List.length HC.out
              rw [List.length_append, List.length_take] at this
              omega
            have hPL := Lib.hid hpl
            clear hpl hLp hLw hLc hLg
            generalize (own.drop t).take q = pc at *
            have hgl := own_lt hown
            have hgge := own_ge hown
            have hwr4 := TT.size
            go_wp2_with fail
            try rw [← HQE.out]
            first | (with_reducible refine WR.out.mono ?_) | (with_reducible refine WRg.out.mono ?_)
            rintro e w5 ⟨tv, v', T', es', r', rfl, K5, hv5, hownT, hET, htv, hC5, hsh5, T5⟩
            obtain ⟨At, ct, rfl, hct⟩ := own_form hownT
            have hET1 := each_one hET
            have hEll := hET.1
            have hown5 := own_turned hown T5 (fun g hg h => by
              have := hgge g hg
              rcases h with h | h | h | h
              · omega
              · omega
              · omega
              · exact hgv g hg h)
            have hLT := Lies.of_own hownT
            have hTl5 : T'.length ≤ 1000 := by
              have h1 := shut_len p T' hsh5
              have := congrArg List.length hC5
              rw [List.length_append, List.length_append, hPL.out] at this
              omega
            have hw5s := T5.size
            have hK5l := own_lt K5.row
            have HC5 := Lib.hid hC5
            clear WR WRg hcut hC5
            go_wp2_with (at_builtin; refine wpList_append_src _ rfl (.tmp 60) (.tmp 66) _ rfl w4.heap.size 35 i1 _ 24 Tryd.underlying42 hi1 hy0 hy1 hy2 rfl (.slice A5 T.length c5) T.length es rfl hown5 _ At T'.length ct es' rfl hEll hLT hET1 (by unfold maxLen; omega) (by omega) (by omega) ?_; intro v6 w6 hown6 hg6 hat6)
            have T6 : Turns (fun q => (Value.slice A5 T.length c5).ownBlock = some q) w5 w6 := Turns.of_by hg6 fun g e _ => e
            have hvg : ∀ q, (Value.slice A5 T.length c5).ownBlock = some q → v'.ownBlock ≠ some q := fun q hq e => by
              rcases hv5 q e with h | h
              · exact hgv q hq h
              · have := hgl q hq; omega
            have T56 : Turns (fun q => CutS cb kb rb v q ∨ (Value.slice A5 T.length c5).ownBlock = some q) wr w6 := (T5.mono fun q _ h => .inl h).trans (T6.mono fun q _ h => .inr h)
            have hE6 : Each (GotP w4.heap.size cb kb rb v' v6) w6 es T := each_kept hE T56 (fun q hq hqs => by
              obtain ⟨q1, q2, q3, q4, q5, q6⟩ := hq
              refine ⟨fun h => ?_, q1, fun e => ?_, ?_, q4, q5, q6⟩
              · rcases h with (h | h | h | h) | h
                · exact q4 h
                · exact q5 h
                · exact q6 h
                · exact q2 h
                · exact q3 h
              · rcases hv5 q e with h | h
                · exact q2 h
                · omega
              · rcases hat6 with h | h
                · exact fun e => q3 (by rw [← e]; exact h.symm)
                · rw [h]; intro e; injection e with e; omega)
            have hE6' : Each (GotP w4.heap.size cb kb rb v' v6) w6 es' T' := each_kept hET T6 (fun q hq hqs => by
              obtain ⟨q1, q2, q3, q4, q5, q6⟩ := hq
              have hng : (Value.slice A5 T.length c5).ownBlock ≠ some q := fun h => by
                rcases q1 with q1 | q1
                · have := hgl q h; omega
                · exact hgv q h q1
              refine ⟨hng, ?_, q2, ?_, q4, q5, q6⟩
              · rcases q1 with q1 | q1
                · omega
                · exact hvb q q1
              · rcases hat6 with h | h
                · exact fun e => hng (by rw [← e]; exact h.symm)
                · rw [h]; intro e; injection e with e; omega)
            have hE7 := hE6.append hE6'
            have hgv6 : ∀ g, v6.ownBlock = some g → v'.ownBlock ≠ some g := fun g hg e => by
              rcases hat6 with h | h
              · exact hvg g (by rw [← h]; exact hg) e
              · rw [h] at hg
                injection hg with hg
                have := hK5l g e
                omega
            have hvb6 : ∀ g, v'.ownBlock = some g → w4.heap.size ≤ g := fun g hg => by
              rcases hv5 g hg with h | h
              · exact hvb g h
              · omega
            have K6 := K5.turned T6 (fun q hq h => by
              rcases hq with hq | hq | hq | hq
              · have := hgge q h; omega
              · have := hgge q h; omega
              · have := hgge q h; omega
              · exact hvg q h hq)
            have TT6 : Turns (fun k => k = cb ∨ k = kb ∨ k = rb) w4 w6 := TT.then_ T56 (fun i hi h => by
              rcases h with (h | h | h | h) | h
              · exact .inl h
              · exact .inr (.inl h)
              · exact .inr (.inr h)
              · have := hvb i h; omega
              · have := hgge i h; omega)
            have hqt := HQT.out
            have hfin : j + 1 ≤ 9 * (m1) + (j + 1) % 9 ∧ (m1 - (m1)) * 9 + (8 - (j + 1) % 9) < (m1 - t) * 9 + (8 - j9) := by
              obtain ⟨h1, h2, h3⟩ := HJ9.out
              have h4 := HPR.out
              by_cases hh : j9 = 8
              · have h5 := h3 hh
                have h6 := h4 hh
                omega
              · have h5 := h2 hh
                omega
            go_roundw
            case rel => exact ⟨m1, j + 1, T ++ T', es ++ es', v', r', by first | rfl | exact congrArg (Value.int .i64) (by omega), by omega, by go_num, hfin.1, K6, by rw [List.length_append]; exact hown6, hE7, hgv6, hvb6, by show _ = _; rw [HCX.out, ← HC.out, List.flatten_append, List.append_assoc, HC5.out, List.append_assoc], fun x hx => (List.mem_append.1 hx).elim (hsh x) (hsh5 x), TT6⟩
            case measure =>
              have h1 : (intOf (.int .i64 (m1 : Int))).toNat = m1 := by simp only [intOf]; omega
              have h2 : (intOf (.int .i64 ((j : Int) + 1))).toNat = j + 1 := by simp only [intOf]; omega
              have h3 : (intOf (.int .i64 (t : Int))).toNat = t := by simp only [intOf]; omega
              have h4 : (intOf (.int .i64 (j : Int))).toNat = j := by simp only [intOf]; omega
              rw [h1, h2, h3, h4, ← H9.out]
              exact hfin.2
      · have d1 : decide ((zn : Int) > 0) = true := by simp; omega
        have d1' : decide (0 < zn) = true := by simp; omega
        have hzn0 : ((zn : Int) == 0) = false := by simp; omega
        have hzn1 : (zn : Int) ≠ 0 := by omega
        obtain ⟨jm, hjm⟩ : ∃ x, x = j % zn := ⟨_, rfl⟩
        have hjmt : (j : Int).tmod (zn : Int) = (jm : Int) := by rw [Int.tmod_eq_emod_of_nonneg (by omega), hjm]; omega
        have hjmt' : (j : Int) % (zn : Int) = (jm : Int) := by rw [hjm]; omega
        have hjml : jm < zn := by rw [hjm]; exact Nat.mod_lt _ (by omega)
        have hjmi : (jm : Int) < (zn : Int) := by omega
        obtain ⟨z, hz⟩ : ∃ z, zs[jm]? = some z := ⟨_, List.getElem?_eq_getElem (by rw [hzl]; exact hjml)⟩
        obtain ⟨adz, rfl, _, hcz⟩ := (hz4.turned TT (fun q hq h => by omega)) jm (zv z) (by rw [List.getElem?_map, hz]; rfl)
        have ARZ := Lib.hid (around_any z 31 wr (hzi z (List.mem_of_getElem? hz)) (by decide))
        have hy31 := around_lt z (m := 31) (by decide)
        generalize around z 31 = y at *
        clear hjm hz hzn
        go_wp2_with fail
        refine ARZ.out.mono ?_
        rintro e wr' ⟨rfl, rfl⟩
        by_cases h8 : j9 = 8
        · have e8 : ((j9 : Int) == 8) = true := by rw [h8]; rfl
          clear h8
          by_cases hy0 : y = 0
          · subst hy0
            have HPR : Hid (j9 = 8 → 1 ≤ 1) := fun _ => by omega
            have hnv : 1 ≤ 31 := by omega
            have hwn : IntKind.i64.wrap ((t : Int) + 1) = (t : Int) + 1 := IntWalk.i64_in _ (by omega)
            by_cases hle : t + 1 ≤ m1
            · have hleI : (t : Int) + 1 ≤ (m1 : Int) := by omega
              obtain ⟨Ac, hcut, hLc⟩ := cut_mid (P := Tryd.prog) Tryd.underlying35 byte_size A1 m1 c1 .i64 .i64 (t : Int) ((t : Int) + 1) t (t + 1) rfl (by omega) (by omega) (by omega)
              obtain ⟨q, hq⟩ : ∃ q, q = (t + 1) - t := ⟨_, rfl⟩
              rw [← hq] at hcut hLc
              have hqt : t + q = t + 1 := by omega
              have hpl : ((own.drop t).take q).length = q := by rw [List.length_take, List.length_drop, HL1.out]; omega
              have hLw : Lies wr w3.heap.size A1 (own.map bv) := (hL4.turned TT (fun q hq h => by omega)).lies (fun q hq => hq)
              have hLp := hLc wr w3.heap.size (own.map bv) hLw
              rw [← List.map_drop, ← List.map_take] at hLp
              have hsW := hs4.turned TT (fun h => by omega)
              have hrl : r.length ≤ 150 := by
                have := congrArg List.length HC.out
                rw [List.length_append, List.length_take] at this
                omega
              have HCX : Hid (own.take (t + 1) = own.take t ++ (own.drop t).take q) := by
                show _ = _
                rw [hq]; exact take_split own (by omega)
              have hq150 : q ≤ 150 := by omega
              have HQT := Lib.hid hqt
              have HQE := Lib.hid hq
              clear hq hqt
              have WR := Lib.hid (write_any cb kb rb w3.heap.size p hp v r Ac q (c1 - t) _ wr K hsW (by omega) hpl (by have := HQT.out; omega) (LiesIn.of_lies hLp (fun _ h => h)) hcb hkb hrb (fun g hg => by have := hvb g hg; omega) (by omega))
              have hLg : Lies wr w3.heap.size (Option.map (fun x => x.add t) A1) (((own.drop t).take q).map bv) := by
                rw [List.map_take, List.map_drop]; exact (hLw.from_ t).take _
              have WRg := Lib.hid (write_any cb kb rb w3.heap.size p hp v r (Option.map (fun x => x.add t) A1) q (c1 - t) _ wr K hsW (by omega) hpl (by have := HQT.out; omega) (LiesIn.of_lies hLg (fun _ h => h)) hcb hkb hrb (fun g hg => by have := hvb g hg; omega) (by omega))
              have hTl : T.length ≤ 150 := by
                have h1 := shut_len p T hsh
                have := congrArg List.length HC.out
                rw [List.length_append, List.length_take] at this
                omega
              have hPL := Lib.hid hpl
              clear hpl hLp hLw hLc hLg
              generalize (own.drop t).take q = pc at *
              have hgl := own_lt hown
              have hgge := own_ge hown
              have hwr4 := TT.size
              go_wp2_with fail
              try rw [← HQE.out]
              first | (with_reducible refine WR.out.mono ?_) | (with_reducible refine WRg.out.mono ?_)
              rintro e w5 ⟨tv, v', T', es', r', rfl, K5, hv5, hownT, hET, htv, hC5, hsh5, T5⟩
              obtain ⟨At, ct, rfl, hct⟩ := own_form hownT
              have hET1 := each_one hET
              have hEll := hET.1
              have hown5 := own_turned hown T5 (fun g hg h => by
                have := hgge g hg
                rcases h with h | h | h | h
                · omega
                · omega
                · omega
                · exact hgv g hg h)
              have hLT := Lies.of_own hownT
              have hTl5 : T'.length ≤ 1000 := by
                have h1 := shut_len p T' hsh5
                have := congrArg List.length hC5
                rw [List.length_append, List.length_append, hPL.out] at this
                omega
              have hw5s := T5.size
              have hK5l := own_lt K5.row
              have HC5 := Lib.hid hC5
              clear WR WRg hcut hC5
              go_wp2_with (at_builtin; refine wpList_append_src _ rfl (.tmp 60) (.tmp 66) _ rfl w4.heap.size 35 i1 _ 24 Tryd.underlying42 hi1 hy0 hy1 hy2 rfl (.slice A5 T.length c5) T.length es rfl hown5 _ At T'.length ct es' rfl hEll hLT hET1 (by unfold maxLen; omega) (by omega) (by omega) ?_; intro v6 w6 hown6 hg6 hat6)
              have T6 : Turns (fun q => (Value.slice A5 T.length c5).ownBlock = some q) w5 w6 := Turns.of_by hg6 fun g e _ => e
              have hvg : ∀ q, (Value.slice A5 T.length c5).ownBlock = some q → v'.ownBlock ≠ some q := fun q hq e => by
                rcases hv5 q e with h | h
                · exact hgv q hq h
                · have := hgl q hq; omega
              have T56 : Turns (fun q => CutS cb kb rb v q ∨ (Value.slice A5 T.length c5).ownBlock = some q) wr w6 := (T5.mono fun q _ h => .inl h).trans (T6.mono fun q _ h => .inr h)
              have hE6 : Each (GotP w4.heap.size cb kb rb v' v6) w6 es T := each_kept hE T56 (fun q hq hqs => by
                obtain ⟨q1, q2, q3, q4, q5, q6⟩ := hq
                refine ⟨fun h => ?_, q1, fun e => ?_, ?_, q4, q5, q6⟩
                · rcases h with (h | h | h | h) | h
                  · exact q4 h
                  · exact q5 h
                  · exact q6 h
                  · exact q2 h
                  · exact q3 h
                · rcases hv5 q e with h | h
                  · exact q2 h
                  · omega
                · rcases hat6 with h | h
                  · exact fun e => q3 (by rw [← e]; exact h.symm)
                  · rw [h]; intro e; injection e with e; omega)
              have hE6' : Each (GotP w4.heap.size cb kb rb v' v6) w6 es' T' := each_kept hET T6 (fun q hq hqs => by
                obtain ⟨q1, q2, q3, q4, q5, q6⟩ := hq
                have hng : (Value.slice A5 T.length c5).ownBlock ≠ some q := fun h => by
                  rcases q1 with q1 | q1
                  · have := hgl q h; omega
                  · exact hgv q h q1
                refine ⟨hng, ?_, q2, ?_, q4, q5, q6⟩
                · rcases q1 with q1 | q1
                  · omega
                  · exact hvb q q1
                · rcases hat6 with h | h
                  · exact fun e => hng (by rw [← e]; exact h.symm)
                  · rw [h]; intro e; injection e with e; omega)
              have hE7 := hE6.append hE6'
              have hgv6 : ∀ g, v6.ownBlock = some g → v'.ownBlock ≠ some g := fun g hg e => by
                rcases hat6 with h | h
                · exact hvg g (by rw [← h]; exact hg) e
                · rw [h] at hg
                  injection hg with hg
                  have := hK5l g e
                  omega
              have hvb6 : ∀ g, v'.ownBlock = some g → w4.heap.size ≤ g := fun g hg => by
                rcases hv5 g hg with h | h
                · exact hvb g h
                · omega
              have K6 := K5.turned T6 (fun q hq h => by
                rcases hq with hq | hq | hq | hq
                · have := hgge q h; omega
                · have := hgge q h; omega
                · have := hgge q h; omega
                · exact hvg q h hq)
              have TT6 : Turns (fun k => k = cb ∨ k = kb ∨ k = rb) w4 w6 := TT.then_ T56 (fun i hi h => by
                rcases h with (h | h | h | h) | h
                · exact .inl h
                · exact .inr (.inl h)
                · exact .inr (.inr h)
                · have := hvb i h; omega
                · have := hgge i h; omega)
              have hqt := HQT.out
              have hfin : j + 1 ≤ 9 * (t + 1) + (j + 1) % 9 ∧ (m1 - (t + 1)) * 9 + (8 - (j + 1) % 9) < (m1 - t) * 9 + (8 - j9) := by
                obtain ⟨h1, h2, h3⟩ := HJ9.out
                have h4 := HPR.out
                by_cases hh : j9 = 8
                · have h5 := h3 hh
                  have h6 := h4 hh
                  omega
                · have h5 := h2 hh
                  omega
              go_roundw
              case rel => exact ⟨t + 1, j + 1, T ++ T', es ++ es', v', r', by first | rfl | exact congrArg (Value.int .i64) (by omega), by omega, by go_num, hfin.1, K6, by rw [List.length_append]; exact hown6, hE7, hgv6, hvb6, by show _ = _; rw [HCX.out, ← HC.out, List.flatten_append, List.append_assoc, HC5.out, List.append_assoc], fun x hx => (List.mem_append.1 hx).elim (hsh x) (hsh5 x), TT6⟩
              case measure =>
                have h1 : (intOf (.int .i64 ((t : Int) + 1))).toNat = t + 1 := by simp only [intOf]; omega
                have h2 : (intOf (.int .i64 ((j : Int) + 1))).toNat = j + 1 := by simp only [intOf]; omega
                have h3 : (intOf (.int .i64 (t : Int))).toNat = t := by simp only [intOf]; omega
                have h4 : (intOf (.int .i64 (j : Int))).toNat = j := by simp only [intOf]; omega
                rw [h1, h2, h3, h4, ← H9.out]
                exact hfin.2
            · have hleI : ¬ ((t : Int) + 1 ≤ (m1 : Int)) := by omega
              obtain ⟨Ac, hcut, hLc⟩ := cut_mid (P := Tryd.prog) Tryd.underlying35 byte_size A1 m1 c1 .i64 .i64 (t : Int) (m1 : Int) t m1 rfl rfl (by omega) (by omega)
              obtain ⟨q, hq⟩ : ∃ q, q = (m1) - t := ⟨_, rfl⟩
              rw [← hq] at hcut hLc
              have hqt : t + q = m1 := by omega
              have hpl : ((own.drop t).take q).length = q := by rw [List.length_take, List.length_drop, HL1.out]; omega
              have hLw : Lies wr w3.heap.size A1 (own.map bv) := (hL4.turned TT (fun q hq h => by omega)).lies (fun q hq => hq)
              have hLp := hLc wr w3.heap.size (own.map bv) hLw
              rw [← List.map_drop, ← List.map_take] at hLp
              have hsW := hs4.turned TT (fun h => by omega)
              have hrl : r.length ≤ 150 := by
                have := congrArg List.length HC.out
                rw [List.length_append, List.length_take] at this
                omega
              have HCX : Hid (own.take (m1) = own.take t ++ (own.drop t).take q) := by
                show _ = _
                rw [hq]; exact take_split own (by omega)
              have hq150 : q ≤ 150 := by omega
              have HQT := Lib.hid hqt
              have HQE := Lib.hid hq
              clear hq hqt
              have WR := Lib.hid (write_any cb kb rb w3.heap.size p hp v r Ac q (c1 - t) _ wr K hsW (by omega) hpl (by have := HQT.out; omega) (LiesIn.of_lies hLp (fun _ h => h)) hcb hkb hrb (fun g hg => by have := hvb g hg; omega) (by omega))
              have hLg : Lies wr w3.heap.size (Option.map (fun x => x.add t) A1) (((own.drop t).take q).map bv) := by
                rw [List.map_take, List.map_drop]; exact (hLw.from_ t).take _
              have WRg := Lib.hid (write_any cb kb rb w3.heap.size p hp v r (Option.map (fun x => x.add t) A1) q (c1 - t) _ wr K hsW (by omega) hpl (by have := HQT.out; omega) (LiesIn.of_lies hLg (fun _ h => h)) hcb hkb hrb (fun g hg => by have := hvb g hg; omega) (by omega))
              have hTl : T.length ≤ 150 := by
                have h1 := shut_len p T hsh
                have := congrArg List.length HC.out
                rw [List.length_append, List.length_take] at this
                omega
              have hPL := Lib.hid hpl
              clear hpl hLp hLw hLc hLg
              generalize (own.drop t).take q = pc at *
              have hgl := own_lt hown
              have hgge := own_ge hown
              have hwr4 := TT.size
              go_wp2_with fail
              try rw [← HQE.out]
              first | (with_reducible refine WR.out.mono ?_) | (with_reducible refine WRg.out.mono ?_)
              rintro e w5 ⟨tv, v', T', es', r', rfl, K5, hv5, hownT, hET, htv, hC5, hsh5, T5⟩
              obtain ⟨At, ct, rfl, hct⟩ := own_form hownT
              have hET1 := each_one hET
              have hEll := hET.1
              have hown5 := own_turned hown T5 (fun g hg h => by
                have := hgge g hg
                rcases h with h | h | h | h
                · omega
                · omega
                · omega
                · exact hgv g hg h)
              have hLT := Lies.of_own hownT
              have hTl5 : T'.length ≤ 1000 := by
                have h1 := shut_len p T' hsh5
                have := congrArg List.length hC5
                rw [List.length_append, List.length_append, hPL.out] at this
                omega
              have hw5s := T5.size
              have hK5l := own_lt K5.row
              have HC5 := Lib.hid hC5
              clear WR WRg hcut hC5
              go_wp2_with (at_builtin; refine wpList_append_src _ rfl (.tmp 60) (.tmp 66) _ rfl w4.heap.size 35 i1 _ 24 Tryd.underlying42 hi1 hy0 hy1 hy2 rfl (.slice A5 T.length c5) T.length es rfl hown5 _ At T'.length ct es' rfl hEll hLT hET1 (by unfold maxLen; omega) (by omega) (by omega) ?_; intro v6 w6 hown6 hg6 hat6)
              have T6 : Turns (fun q => (Value.slice A5 T.length c5).ownBlock = some q) w5 w6 := Turns.of_by hg6 fun g e _ => e
              have hvg : ∀ q, (Value.slice A5 T.length c5).ownBlock = some q → v'.ownBlock ≠ some q := fun q hq e => by
                rcases hv5 q e with h | h
                · exact hgv q hq h
                · have := hgl q hq; omega
              have T56 : Turns (fun q => CutS cb kb rb v q ∨ (Value.slice A5 T.length c5).ownBlock = some q) wr w6 := (T5.mono fun q _ h => .inl h).trans (T6.mono fun q _ h => .inr h)
              have hE6 : Each (GotP w4.heap.size cb kb rb v' v6) w6 es T := each_kept hE T56 (fun q hq hqs => by
                obtain ⟨q1, q2, q3, q4, q5, q6⟩ := hq
                refine ⟨fun h => ?_, q1, fun e => ?_, ?_, q4, q5, q6⟩
                · rcases h with (h | h | h | h) | h
                  · exact q4 h
                  · exact q5 h
                  · exact q6 h
                  · exact q2 h
                  · exact q3 h
                · rcases hv5 q e with h | h
                  · exact q2 h
                  · omega
                · rcases hat6 with h | h
                  · exact fun e => q3 (by rw [← e]; exact h.symm)
                  · rw [h]; intro e; injection e with e; omega)
              have hE6' : Each (GotP w4.heap.size cb kb rb v' v6) w6 es' T' := each_kept hET T6 (fun q hq hqs => by
                obtain ⟨q1, q2, q3, q4, q5, q6⟩ := hq
                have hng : (Value.slice A5 T.length c5).ownBlock ≠ some q := fun h => by
                  rcases q1 with q1 | q1
                  · have := hgl q h; omega
                  · exact hgv q h q1
                refine ⟨hng, ?_, q2, ?_, q4, q5, q6⟩
                · rcases q1 with q1 | q1
                  · omega
                  · exact hvb q q1
                · rcases hat6 with h | h
                  · exact fun e => hng (by rw [← e]; exact h.symm)
                  · rw [h]; intro e; injection e with e; omega)
              have hE7 := hE6.append hE6'
              have hgv6 : ∀ g, v6.ownBlock = some g → v'.ownBlock ≠ some g := fun g hg e => by
                rcases hat6 with h | h
                · exact hvg g (by rw [← h]; exact hg) e
                · rw [h] at hg
                  injection hg with hg
                  have := hK5l g e
                  omega
              have hvb6 : ∀ g, v'.ownBlock = some g → w4.heap.size ≤ g := fun g hg => by
                rcases hv5 g hg with h | h
                · exact hvb g h
                · omega
              have K6 := K5.turned T6 (fun q hq h => by
                rcases hq with hq | hq | hq | hq
                · have := hgge q h; omega
                · have := hgge q h; omega
                · have := hgge q h; omega
                · exact hvg q h hq)
              have TT6 : Turns (fun k => k = cb ∨ k = kb ∨ k = rb) w4 w6 := TT.then_ T56 (fun i hi h => by
                rcases h with (h | h | h | h) | h
                · exact .inl h
                · exact .inr (.inl h)
                · exact .inr (.inr h)
                · have := hvb i h; omega
                · have := hgge i h; omega)
              have hqt := HQT.out
              have hfin : j + 1 ≤ 9 * (m1) + (j + 1) % 9 ∧ (m1 - (m1)) * 9 + (8 - (j + 1) % 9) < (m1 - t) * 9 + (8 - j9) := by
                obtain ⟨h1, h2, h3⟩ := HJ9.out
                have h4 := HPR.out
                by_cases hh : j9 = 8
                · have h5 := h3 hh
                  have h6 := h4 hh
                  omega
                · have h5 := h2 hh
                  omega
              go_roundw
              case rel => exact ⟨m1, j + 1, T ++ T', es ++ es', v', r', by first | rfl | exact congrArg (Value.int .i64) (by omega), by omega, by go_num, hfin.1, K6, by rw [List.length_append]; exact hown6, hE7, hgv6, hvb6, by show _ = _; rw [HCX.out, ← HC.out, List.flatten_append, List.append_assoc, HC5.out, List.append_assoc], fun x hx => (List.mem_append.1 hx).elim (hsh x) (hsh5 x), TT6⟩
              case measure =>
                have h1 : (intOf (.int .i64 (m1 : Int))).toNat = m1 := by simp only [intOf]; omega
                have h2 : (intOf (.int .i64 ((j : Int) + 1))).toNat = j + 1 := by simp only [intOf]; omega
                have h3 : (intOf (.int .i64 (t : Int))).toNat = t := by simp only [intOf]; omega
                have h4 : (intOf (.int .i64 (j : Int))).toNat = j := by simp only [intOf]; omega
                rw [h1, h2, h3, h4, ← H9.out]
                exact hfin.2
          · have hyp1 : (1 : Int) ≤ (y : Int) := by omega
            have hyp2 : ¬ ((y : Int) < 1) := by omega
            have HPR : Hid (j9 = 8 → 1 ≤ y) := fun _ => by omega
            clear hy0
            have hnv : y ≤ 31 := by omega
            have hwn : IntKind.i64.wrap ((t : Int) + (y : Int)) = (t : Int) + (y : Int) := IntWalk.i64_in _ (by omega)
            by_cases hle : t + y ≤ m1
            · have hleI : (t : Int) + (y : Int) ≤ (m1 : Int) := by omega
              obtain ⟨Ac, hcut, hLc⟩ := cut_mid (P := Tryd.prog) Tryd.underlying35 byte_size A1 m1 c1 .i64 .i64 (t : Int) ((t : Int) + (y : Int)) t (t + y) rfl (by omega) (by omega) (by omega)
              obtain ⟨q, hq⟩ : ∃ q, q = (t + y) - t := ⟨_, rfl⟩
              rw [← hq] at hcut hLc
              have hqt : t + q = t + y := by omega
              have hpl : ((own.drop t).take q).length = q := by rw [List.length_take, List.length_drop, HL1.out]; omega
              have hLw : Lies wr w3.heap.size A1 (own.map bv) := (hL4.turned TT (fun q hq h => by omega)).lies (fun q hq => hq)
              have hLp := hLc wr w3.heap.size (own.map bv) hLw
              rw [← List.map_drop, ← List.map_take] at hLp
              have hsW := hs4.turned TT (fun h => by omega)
              have hrl : r.length ≤ 150 := by
                have := congrArg List.length HC.out
                rw [List.length_append, List.length_take] at this
                omega
              have HCX : Hid (own.take (t + y) = own.take t ++ (own.drop t).take q) := by
                show _ = _
                rw [hq]; exact take_split own (by omega)
              have hq150 : q ≤ 150 := by omega
              have HQT := Lib.hid hqt
              have HQE := Lib.hid hq
              clear hq hqt
              have WR := Lib.hid (write_any cb kb rb w3.heap.size p hp v r Ac q (c1 - t) _ wr K hsW (by omega) hpl (by have := HQT.out; omega) (LiesIn.of_lies hLp (fun _ h => h)) hcb hkb hrb (fun g hg => by have := hvb g hg; omega) (by omega))
              have hLg : Lies wr w3.heap.size (Option.map (fun x => x.add t) A1) (((own.drop t).take q).map bv) := by
                rw [List.map_take, List.map_drop]; exact (hLw.from_ t).take _
              have WRg := Lib.hid (write_any cb kb rb w3.heap.size p hp v r (Option.map (fun x => x.add t) A1) q (c1 - t) _ wr K hsW (by omega) hpl (by have := HQT.out; omega) (LiesIn.of_lies hLg (fun _ h => h)) hcb hkb hrb (fun g hg => by have := hvb g hg; omega) (by omega))
              have hTl : T.length ≤ 150 := by
                have h1 := shut_len p T hsh
                have := congrArg List.length HC.out
                rw [List.length_append, List.length_take] at this
                omega
              have hPL := Lib.hid hpl
              clear hpl hLp hLw hLc hLg
              generalize (own.drop t).take q = pc at *
              have hgl := own_lt hown
              have hgge := own_ge hown
              have hwr4 := TT.size
              go_wp2_with fail
              try rw [← HQE.out]
              first | (with_reducible refine WR.out.mono ?_) | (with_reducible refine WRg.out.mono ?_)
              rintro e w5 ⟨tv, v', T', es', r', rfl, K5, hv5, hownT, hET, htv, hC5, hsh5, T5⟩
              obtain ⟨At, ct, rfl, hct⟩ := own_form hownT
              have hET1 := each_one hET
              have hEll := hET.1
              have hown5 := own_turned hown T5 (fun g hg h => by
                have := hgge g hg
                rcases h with h | h | h | h
                · omega
                · omega
                · omega
                · exact hgv g hg h)
              have hLT := Lies.of_own hownT
              have hTl5 : T'.length ≤ 1000 := by
                have h1 := shut_len p T' hsh5
                have := congrArg List.length hC5
                rw [List.length_append, List.length_append, hPL.out] at this
                omega
              have hw5s := T5.size
              have hK5l := own_lt K5.row
              have HC5 := Lib.hid hC5
              clear WR WRg hcut hC5
              go_wp2_with (at_builtin; refine wpList_append_src _ rfl (.tmp 60) (.tmp 66) _ rfl w4.heap.size 35 i1 _ 24 Tryd.underlying42 hi1 hy0 hy1 hy2 rfl (.slice A5 T.length c5) T.length es rfl hown5 _ At T'.length ct es' rfl hEll hLT hET1 (by unfold maxLen; omega) (by omega) (by omega) ?_; intro v6 w6 hown6 hg6 hat6)
              have T6 : Turns (fun q => (Value.slice A5 T.length c5).ownBlock = some q) w5 w6 := Turns.of_by hg6 fun g e _ => e
              have hvg : ∀ q, (Value.slice A5 T.length c5).ownBlock = some q → v'.ownBlock ≠ some q := fun q hq e => by
                rcases hv5 q e with h | h
                · exact hgv q hq h
                · have := hgl q hq; omega
              have T56 : Turns (fun q => CutS cb kb rb v q ∨ (Value.slice A5 T.length c5).ownBlock = some q) wr w6 := (T5.mono fun q _ h => .inl h).trans (T6.mono fun q _ h => .inr h)
              have hE6 : Each (GotP w4.heap.size cb kb rb v' v6) w6 es T := each_kept hE T56 (fun q hq hqs => by
                obtain ⟨q1, q2, q3, q4, q5, q6⟩ := hq
                refine ⟨fun h => ?_, q1, fun e => ?_, ?_, q4, q5, q6⟩
                · rcases h with (h | h | h | h) | h
                  · exact q4 h
                  · exact q5 h
                  · exact q6 h
                  · exact q2 h
                  · exact q3 h
                · rcases hv5 q e with h | h
                  · exact q2 h
                  · omega
                · rcases hat6 with h | h
                  · exact fun e => q3 (by rw [← e]; exact h.symm)
                  · rw [h]; intro e; injection e with e; omega)
              have hE6' : Each (GotP w4.heap.size cb kb rb v' v6) w6 es' T' := each_kept hET T6 (fun q hq hqs => by
                obtain ⟨q1, q2, q3, q4, q5, q6⟩ := hq
                have hng : (Value.slice A5 T.length c5).ownBlock ≠ some q := fun h => by
                  rcases q1 with q1 | q1
                  · have := hgl q h; omega
                  · exact hgv q h q1
                refine ⟨hng, ?_, q2, ?_, q4, q5, q6⟩
                · rcases q1 with q1 | q1
                  · omega
                  · exact hvb q q1
                · rcases hat6 with h | h
                  · exact fun e => hng (by rw [← e]; exact h.symm)
                  · rw [h]; intro e; injection e with e; omega)
              have hE7 := hE6.append hE6'
              have hgv6 : ∀ g, v6.ownBlock = some g → v'.ownBlock ≠ some g := fun g hg e => by
                rcases hat6 with h | h
                · exact hvg g (by rw [← h]; exact hg) e
                · rw [h] at hg
                  injection hg with hg
                  have := hK5l g e
                  omega
              have hvb6 : ∀ g, v'.ownBlock = some g → w4.heap.size ≤ g := fun g hg => by
                rcases hv5 g hg with h | h
                · exact hvb g h
                · omega
              have K6 := K5.turned T6 (fun q hq h => by
                rcases hq with hq | hq | hq | hq
                · have := hgge q h; omega
                · have := hgge q h; omega
                · have := hgge q h; omega
                · exact hvg q h hq)
              have TT6 : Turns (fun k => k = cb ∨ k = kb ∨ k = rb) w4 w6 := TT.then_ T56 (fun i hi h => by
                rcases h with (h | h | h | h) | h
                · exact .inl h
                · exact .inr (.inl h)
                · exact .inr (.inr h)
                · have := hvb i h; omega
                · have := hgge i h; omega)
              have hqt := HQT.out
              have hfin : j + 1 ≤ 9 * (t + y) + (j + 1) % 9 ∧ (m1 - (t + y)) * 9 + (8 - (j + 1) % 9) < (m1 - t) * 9 + (8 - j9) := by
                obtain ⟨h1, h2, h3⟩ := HJ9.out
                have h4 := HPR.out
                by_cases hh : j9 = 8
                · have h5 := h3 hh
                  have h6 := h4 hh
                  omega
                · have h5 := h2 hh
                  omega
              go_roundw
              case rel => exact ⟨t + y, j + 1, T ++ T', es ++ es', v', r', by first | rfl | exact congrArg (Value.int .i64) (by omega), by omega, by go_num, hfin.1, K6, by rw [List.length_append]; exact hown6, hE7, hgv6, hvb6, by show _ = _; rw [HCX.out, ← HC.out, List.flatten_append, List.append_assoc, HC5.out, List.append_assoc], fun x hx => (List.mem_append.1 hx).elim (hsh x) (hsh5 x), TT6⟩
              case measure =>
                have h1 : (intOf (.int .i64 ((t : Int) + (y : Int)))).toNat = t + y := by simp only [intOf]; omega
                have h2 : (intOf (.int .i64 ((j : Int) + 1))).toNat = j + 1 := by simp only [intOf]; omega
                have h3 : (intOf (.int .i64 (t : Int))).toNat = t := by simp only [intOf]; omega
                have h4 : (intOf (.int .i64 (j : Int))).toNat = j := by simp only [intOf]; omega
                rw [h1, h2, h3, h4, ← H9.out]
                exact hfin.2
            · have hleI : ¬ ((t : Int) + (y : Int) ≤ (m1 : Int)) := by omega
              obtain ⟨Ac, hcut, hLc⟩ := cut_mid (P := Tryd.prog) Tryd.underlying35 byte_size A1 m1 c1 .i64 .i64 (t : Int) (m1 : Int) t m1 rfl rfl (by omega) (by omega)
              obtain ⟨q, hq⟩ : ∃ q, q = (m1) - t := ⟨_, rfl⟩
              rw [← hq] at hcut hLc
              have hqt : t + q = m1 := by omega
              have hpl : ((own.drop t).take q).length = q := by rw [List.length_take, List.length_drop, HL1.out]; omega
              have hLw : Lies wr w3.heap.size A1 (own.map bv) := (hL4.turned TT (fun q hq h => by omega)).lies (fun q hq => hq)
              have hLp := hLc wr w3.heap.size (own.map bv) hLw
              rw [← List.map_drop, ← List.map_take] at hLp
              have hsW := hs4.turned TT (fun h => by omega)
              have hrl : r.length ≤ 150 := by
                have := congrArg List.length HC.out
                rw [List.length_append, List.length_take] at this
                omega
              have HCX : Hid (own.take (m1) = own.take t ++ (own.drop t).take q) := by
                show _ = _
                rw [hq]; exact take_split own (by omega)
              have hq150 : q ≤ 150 := by omega
              have HQT := Lib.hid hqt
              have HQE := Lib.hid hq
              clear hq hqt
              have WR := Lib.hid (write_any cb kb rb w3.heap.size p hp v r Ac q (c1 - t) _ wr K hsW (by omega) hpl (by have := HQT.out; omega) (LiesIn.of_lies hLp (fun _ h => h)) hcb hkb hrb (fun g hg => by have := hvb g hg; omega) (by omega))
              have hLg : Lies wr w3.heap.size (Option.map (fun x => x.add t) A1) (((own.drop t).take q).map bv) := by
                rw [List.map_take, List.map_drop]; exact (hLw.from_ t).take _
              have WRg := Lib.hid (write_any cb kb rb w3.heap.size p hp v r (Option.map (fun x => x.add t) A1) q (c1 - t) _ wr K hsW (by omega) hpl (by have := HQT.out; omega) (LiesIn.of_lies hLg (fun _ h => h)) hcb hkb hrb (fun g hg => by have := hvb g hg; omega) (by omega))
              have hTl : T.length ≤ 150 := by
                have h1 := shut_len p T hsh
                have := congrArg List.length HC.out
                rw [List.length_append, List.length_take] at this
                omega
              have hPL := Lib.hid hpl
              clear hpl hLp hLw hLc hLg
              generalize (own.drop t).take q = pc at *
              have hgl := own_lt hown
              have hgge := own_ge hown
              have hwr4 := TT.size
              go_wp2_with fail
              try rw [← HQE.out]
              first | (with_reducible refine WR.out.mono ?_) | (with_reducible refine WRg.out.mono ?_)
              rintro e w5 ⟨tv, v', T', es', r', rfl, K5, hv5, hownT, hET, htv, hC5, hsh5, T5⟩
              obtain ⟨At, ct, rfl, hct⟩ := own_form hownT
              have hET1 := each_one hET
              have hEll := hET.1
              have hown5 := own_turned hown T5 (fun g hg h => by
                have := hgge g hg
                rcases h with h | h | h | h
                · omega
                · omega
                · omega
                · exact hgv g hg h)
              have hLT := Lies.of_own hownT
              have hTl5 : T'.length ≤ 1000 := by
                have h1 := shut_len p T' hsh5
                have := congrArg List.length hC5
                rw [List.length_append, List.length_append, hPL.out] at this
                omega
              have hw5s := T5.size
              have hK5l := own_lt K5.row
              have HC5 := Lib.hid hC5
              clear WR WRg hcut hC5
              go_wp2_with (at_builtin; refine wpList_append_src _ rfl (.tmp 60) (.tmp 66) _ rfl w4.heap.size 35 i1 _ 24 Tryd.underlying42 hi1 hy0 hy1 hy2 rfl (.slice A5 T.length c5) T.length es rfl hown5 _ At T'.length ct es' rfl hEll hLT hET1 (by unfold maxLen; omega) (by omega) (by omega) ?_; intro v6 w6 hown6 hg6 hat6)
              have T6 : Turns (fun q => (Value.slice A5 T.length c5).ownBlock = some q) w5 w6 := Turns.of_by hg6 fun g e _ => e
              have hvg : ∀ q, (Value.slice A5 T.length c5).ownBlock = some q → v'.ownBlock ≠ some q := fun q hq e => by
                rcases hv5 q e with h | h
                · exact hgv q hq h
                · have := hgl q hq; omega
              have T56 : Turns (fun q => CutS cb kb rb v q ∨ (Value.slice A5 T.length c5).ownBlock = some q) wr w6 := (T5.mono fun q _ h => .inl h).trans (T6.mono fun q _ h => .inr h)
              have hE6 : Each (GotP w4.heap.size cb kb rb v' v6) w6 es T := each_kept hE T56 (fun q hq hqs => by
                obtain ⟨q1, q2, q3, q4, q5, q6⟩ := hq
                refine ⟨fun h => ?_, q1, fun e => ?_, ?_, q4, q5, q6⟩
                · rcases h with (h | h | h | h) | h
                  · exact q4 h
                  · exact q5 h
                  · exact q6 h
                  · exact q2 h
                  · exact q3 h
                · rcases hv5 q e with h | h
                  · exact q2 h
                  · omega
                · rcases hat6 with h | h
                  · exact fun e => q3 (by rw [← e]; exact h.symm)
                  · rw [h]; intro e; injection e with e; omega)
              have hE6' : Each (GotP w4.heap.size cb kb rb v' v6) w6 es' T' := each_kept hET T6 (fun q hq hqs => by
                obtain ⟨q1, q2, q3, q4, q5, q6⟩ := hq
                have hng : (Value.slice A5 T.length c5).ownBlock ≠ some q := fun h => by
                  rcases q1 with q1 | q1
                  · have := hgl q h; omega
                  · exact hgv q h q1
                refine ⟨hng, ?_, q2, ?_, q4, q5, q6⟩
                · rcases q1 with q1 | q1
                  · omega
                  · exact hvb q q1
                · rcases hat6 with h | h
                  · exact fun e => hng (by rw [← e]; exact h.symm)
                  · rw [h]; intro e; injection e with e; omega)
              have hE7 := hE6.append hE6'
              have hgv6 : ∀ g, v6.ownBlock = some g → v'.ownBlock ≠ some g := fun g hg e => by
                rcases hat6 with h | h
                · exact hvg g (by rw [← h]; exact hg) e
                · rw [h] at hg
                  injection hg with hg
                  have := hK5l g e
                  omega
              have hvb6 : ∀ g, v'.ownBlock = some g → w4.heap.size ≤ g := fun g hg => by
                rcases hv5 g hg with h | h
                · exact hvb g h
                · omega
              have K6 := K5.turned T6 (fun q hq h => by
                rcases hq with hq | hq | hq | hq
                · have := hgge q h; omega
                · have := hgge q h; omega
                · have := hgge q h; omega
                · exact hvg q h hq)
              have TT6 : Turns (fun k => k = cb ∨ k = kb ∨ k = rb) w4 w6 := TT.then_ T56 (fun i hi h => by
                rcases h with (h | h | h | h) | h
                · exact .inl h
                · exact .inr (.inl h)
                · exact .inr (.inr h)
                · have := hvb i h; omega
                · have := hgge i h; omega)
              have hqt := HQT.out
              have hfin : j + 1 ≤ 9 * (m1) + (j + 1) % 9 ∧ (m1 - (m1)) * 9 + (8 - (j + 1) % 9) < (m1 - t) * 9 + (8 - j9) := by
                obtain ⟨h1, h2, h3⟩ := HJ9.out
                have h4 := HPR.out
                by_cases hh : j9 = 8
                · have h5 := h3 hh
                  have h6 := h4 hh
                  omega
                · have h5 := h2 hh
                  omega
              go_roundw
              case rel => exact ⟨m1, j + 1, T ++ T', es ++ es', v', r', by first | rfl | exact congrArg (Value.int .i64) (by omega), by omega, by go_num, hfin.1, K6, by rw [List.length_append]; exact hown6, hE7, hgv6, hvb6, by show _ = _; rw [HCX.out, ← HC.out, List.flatten_append, List.append_assoc, HC5.out, List.append_assoc], fun x hx => (List.mem_append.1 hx).elim (hsh x) (hsh5 x), TT6⟩
              case measure =>
                have h1 : (intOf (.int .i64 (m1 : Int))).toNat = m1 := by simp only [intOf]; omega
                have h2 : (intOf (.int .i64 ((j : Int) + 1))).toNat = j + 1 := by simp only [intOf]; omega
                have h3 : (intOf (.int .i64 (t : Int))).toNat = t := by simp only [intOf]; omega
                have h4 : (intOf (.int .i64 (j : Int))).toNat = j := by simp only [intOf]; omega
                rw [h1, h2, h3, h4, ← H9.out]
                exact hfin.2
        · have e8 : ((j9 : Int) == 8) = false := by simp; omega
          have HPR : Hid (j9 = 8 → 1 ≤ y) := fun h => absurd h h8
          clear h8
          have hnv : y ≤ 31 := by omega
          have hwn : IntKind.i64.wrap ((t : Int) + (y : Int)) = (t : Int) + (y : Int) := IntWalk.i64_in _ (by omega)
          by_cases hle : t + y ≤ m1
          · have hleI : (t : Int) + (y : Int) ≤ (m1 : Int) := by omega
            obtain ⟨Ac, hcut, hLc⟩ := cut_mid (P := Tryd.prog) Tryd.underlying35 byte_size A1 m1 c1 .i64 .i64 (t : Int) ((t : Int) + (y : Int)) t (t + y) rfl (by omega) (by omega) (by omega)
            obtain ⟨q, hq⟩ : ∃ q, q = (t + y) - t := ⟨_, rfl⟩
            rw [← hq] at hcut hLc
            have hqt : t + q = t + y := by omega
            have hpl : ((own.drop t).take q).length = q := by rw [List.length_take, List.length_drop, HL1.out]; omega
            have hLw : Lies wr w3.heap.size A1 (own.map bv) := (hL4.turned TT (fun q hq h => by omega)).lies (fun q hq => hq)
            have hLp := hLc wr w3.heap.size (own.map bv) hLw
            rw [← List.map_drop, ← List.map_take] at hLp
            have hsW := hs4.turned TT (fun h => by omega)
            have hrl : r.length ≤ 150 := by
              have := congrArg List.length HC.out
              rw [List.length_append, List.length_take] at this
              omega
            have HCX : Hid (own.take (t + y) = own.take t ++ (own.drop t).take q) := by
              show _ = _
              rw [hq]; exact take_split own (by omega)
            have hq150 : q ≤ 150 := by omega
            have HQT := Lib.hid hqt
            have HQE := Lib.hid hq
            clear hq hqt
            have WR := Lib.hid (write_any cb kb rb w3.heap.size p hp v r Ac q (c1 - t) _ wr K hsW (by omega) hpl (by have := HQT.out; omega) (LiesIn.of_lies hLp (fun _ h => h)) hcb hkb hrb (fun g hg => by have := hvb g hg; omega) (by omega))
            have hLg : Lies wr w3.heap.size (Option.map (fun x => x.add t) A1) (((own.drop t).take q).map bv) := by
              rw [List.map_take, List.map_drop]; exact (hLw.from_ t).take _
            have WRg := Lib.hid (write_any cb kb rb w3.heap.size p hp v r (Option.map (fun x => x.add t) A1) q (c1 - t) _ wr K hsW (by omega) hpl (by have := HQT.out; omega) (LiesIn.of_lies hLg (fun _ h => h)) hcb hkb hrb (fun g hg => by have := hvb g hg; omega) (by omega))
            have hTl : T.length ≤ 150 := by
              have h1 := shut_len p T hsh
              have := congrArg List.length HC.out
              rw [List.length_append, List.length_take] at this
              omega
            have hPL := Lib.hid hpl
            clear hpl hLp hLw hLc hLg
            generalize (own.drop t).take q = pc at *
            have hgl := own_lt hown
            have hgge := own_ge hown
            have hwr4 := TT.size
            go_wp2_with fail
            try rw [← HQE.out]
            first | (with_reducible refine WR.out.mono ?_) | (with_reducible refine WRg.out.mono ?_)
            rintro e w5 ⟨tv, v', T', es', r', rfl, K5, hv5, hownT, hET, htv, hC5, hsh5, T5⟩
            obtain ⟨At, ct, rfl, hct⟩ := own_form hownT
            have hET1 := each_one hET
            have hEll := hET.1
            have hown5 := own_turned hown T5 (fun g hg h => by
              have := hgge g hg
              rcases h with h | h | h | h
              · omega
              · omega
              · omega
              · exact hgv g hg h)
            have hLT := Lies.of_own hownT
            have hTl5 : T'.length ≤ 1000 := by
              have h1 := shut_len p T' hsh5
              have := congrArg List.length hC5
              rw [List.length_append, List.length_append, hPL.out] at this
              omega
            have hw5s := T5.size
            have hK5l := own_lt K5.row
            have HC5 := Lib.hid hC5
            clear WR WRg hcut hC5
            go_wp2_with (at_builtin; refine wpList_append_src _ rfl (.tmp 60) (.tmp 66) _ rfl w4.heap.size 35 i1 _ 24 Tryd.underlying42 hi1 hy0 hy1 hy2 rfl (.slice A5 T.length c5) T.length es rfl hown5 _ At T'.length ct es' rfl hEll hLT hET1 (by unfold maxLen; omega) (by omega) (by omega) ?_; intro v6 w6 hown6 hg6 hat6)
            have T6 : Turns (fun q => (Value.slice A5 T.length c5).ownBlock = some q) w5 w6 := Turns.of_by hg6 fun g e _ => e
            have hvg : ∀ q, (Value.slice A5 T.length c5).ownBlock = some q → v'.ownBlock ≠ some q := fun q hq e => by
              rcases hv5 q e with h | h
              · exact hgv q hq h
              · have := hgl q hq; omega
            have T56 : Turns (fun q => CutS cb kb rb v q ∨ (Value.slice A5 T.length c5).ownBlock = some q) wr w6 := (T5.mono fun q _ h => .inl h).trans (T6.mono fun q _ h => .inr h)
            have hE6 : Each (GotP w4.heap.size cb kb rb v' v6) w6 es T := each_kept hE T56 (fun q hq hqs => by
              obtain ⟨q1, q2, q3, q4, q5, q6⟩ := hq
              refine ⟨fun h => ?_, q1, fun e => ?_, ?_, q4, q5, q6⟩
              · rcases h with (h | h | h | h) | h
                · exact q4 h
                · exact q5 h
                · exact q6 h
                · exact q2 h
                · exact q3 h
              · rcases hv5 q e with h | h
                · exact q2 h
                · omega
              · rcases hat6 with h | h
                · exact fun e => q3 (by rw [← e]; exact h.symm)
                · rw [h]; intro e; injection e with e; omega)
            have hE6' : Each (GotP w4.heap.size cb kb rb v' v6) w6 es' T' := each_kept hET T6 (fun q hq hqs => by
              obtain ⟨q1, q2, q3, q4, q5, q6⟩ := hq
              have hng : (Value.slice A5 T.length c5).ownBlock ≠ some q := fun h => by
                rcases q1 with q1 | q1
                · have := hgl q h; omega
                · exact hgv q h q1
              refine ⟨hng, ?_, q2, ?_, q4, q5, q6⟩
              · rcases q1 with q1 | q1
                · omega
                · exact hvb q q1
              · rcases hat6 with h | h
                · exact fun e => hng (by rw [← e]; exact h.symm)
                · rw [h]; intro e; injection e with e; omega)
            have hE7 := hE6.append hE6'
            have hgv6 : ∀ g, v6.ownBlock = some g → v'.ownBlock ≠ some g := fun g hg e => by
              rcases hat6 with h | h
              · exact hvg g (by rw [← h]; exact hg) e
              · rw [h] at hg
                injection hg with hg
                have := hK5l g e
                omega
            have hvb6 : ∀ g, v'.ownBlock = some g → w4.heap.size ≤ g := fun g hg => by
              rcases hv5 g hg with h | h
              · exact hvb g h
              · omega
            have K6 := K5.turned T6 (fun q hq h => by
              rcases hq with hq | hq | hq | hq
              · have := hgge q h; omega
              · have := hgge q h; omega
              · have := hgge q h; omega
              · exact hvg q h hq)
            have TT6 : Turns (fun k => k = cb ∨ k = kb ∨ k = rb) w4 w6 := TT.then_ T56 (fun i hi h => by
              rcases h with (h | h | h | h) | h
              · exact .inl h
              · exact .inr (.inl h)
              · exact .inr (.inr h)
              · have := hvb i h; omega
              · have := hgge i h; omega)
            have hqt := HQT.out
            have hfin : j + 1 ≤ 9 * (t + y) + (j + 1) % 9 ∧ (m1 - (t + y)) * 9 + (8 - (j + 1) % 9) < (m1 - t) * 9 + (8 - j9) := by
              obtain ⟨h1, h2, h3⟩ := HJ9.out
              have h4 := HPR.out
              by_cases hh : j9 = 8
              · have h5 := h3 hh
                have h6 := h4 hh
                omega
              · have h5 := h2 hh
                omega
            go_roundw
            case rel => exact ⟨t + y, j + 1, T ++ T', es ++ es', v', r', by first | rfl | exact congrArg (Value.int .i64) (by omega), by omega, by go_num, hfin.1, K6, by rw [List.length_append]; exact hown6, hE7, hgv6, hvb6, by show _ = _; rw [HCX.out, ← HC.out, List.flatten_append, List.append_assoc, HC5.out, List.append_assoc], fun x hx => (List.mem_append.1 hx).elim (hsh x) (hsh5 x), TT6⟩
            case measure =>
              have h1 : (intOf (.int .i64 ((t : Int) + (y : Int)))).toNat = t + y := by simp only [intOf]; omega
              have h2 : (intOf (.int .i64 ((j : Int) + 1))).toNat = j + 1 := by simp only [intOf]; omega
              have h3 : (intOf (.int .i64 (t : Int))).toNat = t := by simp only [intOf]; omega
              have h4 : (intOf (.int .i64 (j : Int))).toNat = j := by simp only [intOf]; omega
              rw [h1, h2, h3, h4, ← H9.out]
              exact hfin.2
          · have hleI : ¬ ((t : Int) + (y : Int) ≤ (m1 : Int)) := by omega
            obtain ⟨Ac, hcut, hLc⟩ := cut_mid (P := Tryd.prog) Tryd.underlying35 byte_size A1 m1 c1 .i64 .i64 (t : Int) (m1 : Int) t m1 rfl rfl (by omega) (by omega)
            obtain ⟨q, hq⟩ : ∃ q, q = (m1) - t := ⟨_, rfl⟩
            rw [← hq] at hcut hLc
            have hqt : t + q = m1 := by omega
            have hpl : ((own.drop t).take q).length = q := by rw [List.length_take, List.length_drop, HL1.out]; omega
            have hLw : Lies wr w3.heap.size A1 (own.map bv) := (hL4.turned TT (fun q hq h => by omega)).lies (fun q hq => hq)
            have hLp := hLc wr w3.heap.size (own.map bv) hLw
            rw [← List.map_drop, ← List.map_take] at hLp
            have hsW := hs4.turned TT (fun h => by omega)
            have hrl : r.length ≤ 150 := by
              have := congrArg List.length HC.out
              rw [List.length_append, List.length_take] at this
              omega
            have HCX : Hid (own.take (m1) = own.take t ++ (own.drop t).take q) := by
              show _ = _
              rw [hq]; exact take_split own (by omega)
            have hq150 : q ≤ 150 := by omega
            have HQT := Lib.hid hqt
            have HQE := Lib.hid hq
            clear hq hqt
            have WR := Lib.hid (write_any cb kb rb w3.heap.size p hp v r Ac q (c1 - t) _ wr K hsW (by omega) hpl (by have := HQT.out; omega) (LiesIn.of_lies hLp (fun _ h => h)) hcb hkb hrb (fun g hg => by have := hvb g hg; omega) (by omega))
            have hLg : Lies wr w3.heap.size (Option.map (fun x => x.add t) A1) (((own.drop t).take q).map bv) := by
              rw [List.map_take, List.map_drop]; exact (hLw.from_ t).take _
            have WRg := Lib.hid (write_any cb kb rb w3.heap.size p hp v r (Option.map (fun x => x.add t) A1) q (c1 - t) _ wr K hsW (by omega) hpl (by have := HQT.out; omega) (LiesIn.of_lies hLg (fun _ h => h)) hcb hkb hrb (fun g hg => by have := hvb g hg; omega) (by omega))
            have hTl : T.length ≤ 150 := by
              have h1 := shut_len p T hsh
              have := congrArg List.length HC.out
              rw [List.length_append, List.length_take] at this
              omega
            have hPL := Lib.hid hpl
            clear hpl hLp hLw hLc hLg
            generalize (own.drop t).take q = pc at *
            have hgl := own_lt hown
            have hgge := own_ge hown
            have hwr4 := TT.size
            go_wp2_with fail
            try rw [← HQE.out]
            first | (with_reducible refine WR.out.mono ?_) | (with_reducible refine WRg.out.mono ?_)
            rintro e w5 ⟨tv, v', T', es', r', rfl, K5, hv5, hownT, hET, htv, hC5, hsh5, T5⟩
            obtain ⟨At, ct, rfl, hct⟩ := own_form hownT
            have hET1 := each_one hET
            have hEll := hET.1
            have hown5 := own_turned hown T5 (fun g hg h => by
              have := hgge g hg
              rcases h with h | h | h | h
              · omega
              · omega
              · omega
              · exact hgv g hg h)
            have hLT := Lies.of_own hownT
            have hTl5 : T'.length ≤ 1000 := by
              have h1 := shut_len p T' hsh5
              have := congrArg List.length hC5
              rw [List.length_append, List.length_append, hPL.out] at this
              omega
            have hw5s := T5.size
            have hK5l := own_lt K5.row
            have HC5 := Lib.hid hC5
            clear WR WRg hcut hC5
            go_wp2_with (at_builtin; refine wpList_append_src _ rfl (.tmp 60) (.tmp 66) _ rfl w4.heap.size 35 i1 _ 24 Tryd.underlying42 hi1 hy0 hy1 hy2 rfl (.slice A5 T.length c5) T.length es rfl hown5 _ At T'.length ct es' rfl hEll hLT hET1 (by unfold maxLen; omega) (by omega) (by omega) ?_; intro v6 w6 hown6 hg6 hat6)
            have T6 : Turns (fun q => (Value.slice A5 T.length c5).ownBlock = some q) w5 w6 := Turns.of_by hg6 fun g e _ => e
            have hvg : ∀ q, (Value.slice A5 T.length c5).ownBlock = some q → v'.ownBlock ≠ some q := fun q hq e => by
              rcases hv5 q e with h | h
              · exact hgv q hq h
              · have := hgl q hq; omega
            have T56 : Turns (fun q => CutS cb kb rb v q ∨ (Value.slice A5 T.length c5).ownBlock = some q) wr w6 := (T5.mono fun q _ h => .inl h).trans (T6.mono fun q _ h => .inr h)
            have hE6 : Each (GotP w4.heap.size cb kb rb v' v6) w6 es T := each_kept hE T56 (fun q hq hqs => by
              obtain ⟨q1, q2, q3, q4, q5, q6⟩ := hq
              refine ⟨fun h => ?_, q1, fun e => ?_, ?_, q4, q5, q6⟩
              · rcases h with (h | h | h | h) | h
                · exact q4 h
                · exact q5 h
                · exact q6 h
                · exact q2 h
                · exact q3 h
              · rcases hv5 q e with h | h
                · exact q2 h
                · omega
              · rcases hat6 with h | h
                · exact fun e => q3 (by rw [← e]; exact h.symm)
                · rw [h]; intro e; injection e with e; omega)
            have hE6' : Each (GotP w4.heap.size cb kb rb v' v6) w6 es' T' := each_kept hET T6 (fun q hq hqs => by
              obtain ⟨q1, q2, q3, q4, q5, q6⟩ := hq
              have hng : (Value.slice A5 T.length c5).ownBlock ≠ some q := fun h => by
                rcases q1 with q1 | q1
                · have := hgl q h; omega
                · exact hgv q h q1
              refine ⟨hng, ?_, q2, ?_, q4, q5, q6⟩
              · rcases q1 with q1 | q1
                · omega
                · exact hvb q q1
              · rcases hat6 with h | h
                · exact fun e => hng (by rw [← e]; exact h.symm)
                · rw [h]; intro e; injection e with e; omega)
            have hE7 := hE6.append hE6'
            have hgv6 : ∀ g, v6.ownBlock = some g → v'.ownBlock ≠ some g := fun g hg e => by
              rcases hat6 with h | h
              · exact hvg g (by rw [← h]; exact hg) e
              · rw [h] at hg
                injection hg with hg
                have := hK5l g e
                omega
            have hvb6 : ∀ g, v'.ownBlock = some g → w4.heap.size ≤ g := fun g hg => by
              rcases hv5 g hg with h | h
              · exact hvb g h
              · omega
            have K6 := K5.turned T6 (fun q hq h => by
              rcases hq with hq | hq | hq | hq
              · have := hgge q h; omega
              · have := hgge q h; omega
              · have := hgge q h; omega
              · exact hvg q h hq)
            have TT6 : Turns (fun k => k = cb ∨ k = kb ∨ k = rb) w4 w6 := TT.then_ T56 (fun i hi h => by
              rcases h with (h | h | h | h) | h
              · exact .inl h
              · exact .inr (.inl h)
              · exact .inr (.inr h)
              · have := hvb i h; omega
              · have := hgge i h; omega)
            have hqt := HQT.out
            have hfin : j + 1 ≤ 9 * (m1) + (j + 1) % 9 ∧ (m1 - (m1)) * 9 + (8 - (j + 1) % 9) < (m1 - t) * 9 + (8 - j9) := by
              obtain ⟨h1, h2, h3⟩ := HJ9.out
              have h4 := HPR.out
              by_cases hh : j9 = 8
              · have h5 := h3 hh
                have h6 := h4 hh
                omega
              · have h5 := h2 hh
                omega
            go_roundw
            case rel => exact ⟨m1, j + 1, T ++ T', es ++ es', v', r', by first | rfl | exact congrArg (Value.int .i64) (by omega), by omega, by go_num, hfin.1, K6, by rw [List.length_append]; exact hown6, hE7, hgv6, hvb6, by show _ = _; rw [HCX.out, ← HC.out, List.flatten_append, List.append_assoc, HC5.out, List.append_assoc], fun x hx => (List.mem_append.1 hx).elim (hsh x) (hsh5 x), TT6⟩
            case measure =>
              have h1 : (intOf (.int .i64 (m1 : Int))).toNat = m1 := by simp only [intOf]; omega
              have h2 : (intOf (.int .i64 ((j : Int) + 1))).toNat = j + 1 := by simp only [intOf]; omega
              have h3 : (intOf (.int .i64 (t : Int))).toNat = t := by simp only [intOf]; omega
              have h4 : (intOf (.int .i64 (j : Int))).toNat = j := by simp only [intOf]; omega
              rw [h1, h2, h3, h4, ← H9.out]
              exact hfin.2
    · have htm : t = m1 := by omega
      have d1 : decide ((t : Int) < (m1 : Int)) = false := by simp; omega
      have hHC : T.flatten ++ r = own := by rw [HC.out, List.take_of_length_le (by rw [HL1.out]; omega)]
      have hCO : chunksOf p own = T ++ (if r = [] then [] else [r]) := by rw [← hHC, shuts_chunks p hsh r, open_chunks p K.opn]
      have hTl : T.length ≤ 150 := by
        have h1 := shut_len p T hsh
        have := congrArg List.length hHC
        rw [List.length_append, HL1.out] at this
        omega
      clear htm hHC
      have hgge := own_ge hown
      have hKr := own_form K.row
      obtain ⟨Av, cv, rfl, hcv⟩ := hKr
      have EN := Lib.hid (end_any cb kb rb p (.slice Av r.length cv) r wr K)
      go_wp2_with fail
      refine EN.out.mono ?_
      rintro e w5 ⟨rfl, K5, hrow5, T5⟩
      have hown5 := own_turned hown T5 (fun g hg h => by have := hgge g hg; omega)
      have hE5 := hE.turned T5 (fun q hq h => by obtain ⟨q1, q2, q3, q4, q5, q6⟩ := hq; rcases h with h | h | h; exact q4 h; exact q5 h; exact q6 h)
      have TT5 : Turns (fun k => k = cb ∨ k = kb ∨ k = rb) w4 w5 := TT.trans T5
      have gw5 : Grows w w5 := turns_then_grows gw4 TT5 (fun k h => by omega)
      have hbox5 := hbox4.turned TT5 (fun h => by omega)
      have hL5 := hL4.turned TT5 (fun q hq h => by omega)
      have hsz5 := TT5.size
      clear EN hE hown T5 TT
      by_cases hr0 : r = []
      · have hG : Hid (chunksOf p own = T) := by show _ = _; rw [hCO, if_pos hr0, List.append_nil]
        have hrl : r.length = 0 := by rw [hr0]; rfl
        clear hCO hr0
        have d2 : decide ((r.length : Int) > 0) = false := by rw [hrl]; rfl
        have d2' : decide (0 < r.length) = false := by rw [hrl]; rfl
        obtain ⟨G, hGe⟩ : ∃ G, G = T := ⟨_, rfl⟩
        rw [← hGe] at hG
        have hGot : Pcl w5 (.slice A5 T.length c5) G := by rw [hGe]; exact ⟨A5, c5, es, rfl, hc5, Lies.of_own hown5, hE5.mono (fun k hk _ => hk)⟩
        have KW := K5
        have gW := gw5
        have hboxW := hbox5
        have hLW : Lies w5 w5.heap.size A1 (own.map bv) := hL5.lies (fun k hk => by omega)
        generalize r.length = rl at *
        clear hrl hGe
        have hGL : G.length ≤ 1000000 := by rw [← hG.out]; have := chunks_len p own; rw [HL1.out] at this; omega
        have Q0 := hboxW.cell (k := 0) rfl
        have Q1 := hboxW.cell (k := 1) rfl
        have Q2 := hboxW.cell (k := 2) rfl
        have CHW := Lib.hid (CH.out w5 A1 m1 c1 own HL1.out hc1 hLW (by omega))
        rw [hG.out] at CHW
        go_wp2_with fail
        refine CHW.out.mono ?_
        rintro e w8 ⟨v8, es8, rfl, hown8, heach8, hg8⟩
        obtain ⟨A8, c8, rfl, hc8⟩ := own_form hown8
        have hP8 : Pcl w8 (.slice A8 G.length c8) G := ⟨A8, c8, es8, rfl, hc8, Lies.of_own hown8, heach8.mono (fun k hk _ => hk)⟩
        have gw8 := Grows.trans gW hg8
        have K8 := KW.later hg8
        have SM := Lib.hid (same_eq (.slice A5 T.length c5) (.slice A8 G.length c8) G w8 (hGot.later hg8) hP8 hGL)
        clear hP8 hown8 heach8 CHW Q0 Q1 Q2 hGot
        go_wp2_with fail
        refine SM.out.mono ?_
        rintro e w9 ⟨rfl, hg9⟩
        have gw9 := Grows.trans gw8 hg9
        have K9 := K8.later hg9
        have EN2 := Lib.hid (end_any cb kb rb p (.slice none 0 0) [] w9 K9)
        go_wp2_with fail
        refine EN2.out.mono ?_
        rintro e w10 ⟨rfl, K10, hrow10, T10⟩
        have gw10 : Grows w w10 := turns_then_grows gw9 T10 (fun k h => by omega)
        have LV := Lib.hid (lives10_any w10 (hs.later gw10))
        clear EN2 SM
        go_wp2_with fail
        refine LV.out.mono ?_
        rintro e w11 ⟨rfl, hg11⟩
        have gw11 := Grows.trans gw10 hg11
        go_wp2_with fail
        go_ret
        exact ⟨rfl, gw11⟩
      · have hG0 : chunksOf p own = T ++ [r] := by rw [hCO, if_neg hr0]
        have hrl : 0 < r.length := List.length_pos_iff.2 hr0
        have d2 : decide ((r.length : Int) > 0) = true := by simp; omega
        have d2' : decide (0 < r.length) = true := by simp; omega
        have hL := (Lies.new w5 35 [.slice Av r.length cv]).mono (B' := (w5.alloc (.cells #[.slice Av r.length cv] 35)).heap.size) (by simp)
        clear hCO hr0
        go_wp2_with (at_builtin; refine wpList_append_src _ rfl (.tmp 74) (.tmp 76) _ rfl w4.heap.size 35 i1 _ 24 Tryd.underlying42 hi1 hy0 hy1 hy2 rfl (.slice A5 T.length c5) T.length es rfl (hown5.alloc _) _ (some ⟨w5.heap.size, 0, none⟩) 1 1 [.slice Av r.length cv] rfl rfl hL (by simp [Value.oneCell']) (by unfold maxLen; omega) (by omega) (by rw [World.size_alloc]; omega) ?_; intro v6 w6 hown6 hg6 hat6; obtain ⟨A6, c6, rfl, hc6⟩ := own_form hown6; have T6 : Turns (fun q => (Value.slice A5 T.length c5).ownBlock = some q) w5 w6 := (Turns.of_grows (grows_alloc w5 _)).trans (Turns.of_by hg6 fun g e _ => e); have hno6 : ∀ q, q < w4.heap.size → ¬ (Value.slice A5 T.length c5).ownBlock = some q := (fun q hq h => absurd (hgge q h) (by omega)); have hboxW := hbox5.turned T6 (hno6 _ (by omega)); have Q0 := hboxW.cell (k := 0) rfl; have Q1 := hboxW.cell (k := 1) rfl; have Q2 := hboxW.cell (k := 2) rfl)
        have hE6 : Each (fun _ => True) w6 es T := each_kept hE5 T6 (fun q hq _ => ⟨hq.2.2.1, trivial⟩)
        have hx6 : LiesIn (fun _ => True) w6 Av (r.map bv) := lies_kept (lies_own hrow5) T6 (fun q hq _ => ⟨fun h => hgv q h hq, trivial⟩)
        have hE7 := hE6.snoc hcv hx6
        have hG : Hid (chunksOf p own = T ++ [r]) := hG0
        clear hG0
        obtain ⟨G, hGe⟩ : ∃ G, G = T ++ [r] := ⟨_, rfl⟩
        have hGl : G.length = T.length + 1 := by rw [hGe]; simp
        rw [← hGe] at hG hE7
        rw [← hGl] at hown6 hc6 ⊢
        have hGot : Pcl w6 (.slice A6 G.length c6) G := ⟨A6, c6, _, rfl, hc6, Lies.of_own hown6, hE7.mono (fun k hk _ => hk)⟩
        have KW := K5.turned T6 (fun q hq h => by
          have h1 := hgge q h
          rcases hq with hq | hq | hq | hq
          · omega
          · omega
          · omega
          · simp [Value.ownBlock] at hq)
        have gW : Grows w w6 := turns_then_grows gw5 T6 (fun k h => by have := hgge k h; omega)
        have hLW : Lies w6 w6.heap.size A1 (own.map bv) := (hL5.turned T6 (fun q hq => hno6 q (by omega))).lies (fun k hk => by have := T6.size; omega)
        have hGL : G.length ≤ 1000000 := by omega
        clear hGe hGl hat6 hg6 hown6
        have Q0 := hboxW.cell (k := 0) rfl
        have Q1 := hboxW.cell (k := 1) rfl
        have Q2 := hboxW.cell (k := 2) rfl
        have CHW := Lib.hid (CH.out w6 A1 m1 c1 own HL1.out hc1 hLW (by omega))
        rw [hG.out] at CHW
        refine CHW.out.mono ?_
        rintro e w8 ⟨v8, es8, rfl, hown8, heach8, hg8⟩
        obtain ⟨A8, c8, rfl, hc8⟩ := own_form hown8
        have hP8 : Pcl w8 (.slice A8 G.length c8) G := ⟨A8, c8, es8, rfl, hc8, Lies.of_own hown8, heach8.mono (fun k hk _ => hk)⟩
        have gw8 := Grows.trans gW hg8
        have K8 := KW.later hg8
        have SM := Lib.hid (same_eq (.slice A6 G.length c6) (.slice A8 G.length c8) G w8 (hGot.later hg8) hP8 hGL)
        clear hP8 hown8 heach8 CHW Q0 Q1 Q2 hGot
        go_wp2_with fail
        refine SM.out.mono ?_
        rintro e w9 ⟨rfl, hg9⟩
        have gw9 := Grows.trans gw8 hg9
        have K9 := K8.later hg9
        have EN2 := Lib.hid (end_any cb kb rb p (.slice none 0 0) [] w9 K9)
        go_wp2_with fail
        refine EN2.out.mono ?_
        rintro e w10 ⟨rfl, K10, hrow10, T10⟩
        have gw10 : Grows w w10 := turns_then_grows gw9 T10 (fun k h => by omega)
        have LV := Lib.hid (lives10_any w10 (hs.later gw10))
        clear EN2 SM
        go_wp2_with fail
        refine LV.out.mono ?_
        rintro e w11 ⟨rfl, hg11⟩
        have gw11 := Grows.trans gw10 hg11
        go_wp2_with fail
        go_ret
        exact ⟨rfl, gw11⟩
end Go.Proofs.YtkgkkobdpgnicaaDoor
