/-
  Contract of sha.mixed: what a block's 64 words make of eight. Condition: the table keys holds the document's numbers.
-/
import Derived.Test.YtfpgnihibgmeeaaDoorShaE
namespace Go.Proofs.YtfpgnihibgmeeaaDoor
open Go.RowKit
set_option linter.unusedVariables false

/-- The table keys holds the document's numbers. -/
def Keys (w : World) : Prop := w.rangeAt 0 0 (roots64.map uv)
theorem Keys.later {w w' : World} (h : Keys w) (hg : Grows w w') : Keys w' := range_later h hg
theorem Keys.pos {w : World} (h : Keys w) : 0 < w.heap.size := World.block_lt_of_cell? w ⟨0, 0 + 0, none⟩ (h 0 _ rfl)
theorem Keys.below {w w' : World} {B : Nat} (h : Keys w) (hb : Below B w w') (hB : 0 < B) : Keys w' := range_below h hb hB
theorem Keys.at_ {w : World} (h : Keys w) (i : Nat) (hi : i < 64) : w.cell? ⟨0, i, none⟩ = some (.int .u32 ((roots64.getD i 0 : Nat) : Int)) := by
  have := uv_at h i (by rw [roots64_len]; exact hi)
  rwa [Nat.zero_add] at this

theorem run_index_words {P : Program} {t e : TypeId} {n : Nat} (ht : P.underlying t = some (.array n e)) (he : P.underlying e = some (.int .u32)) (hse : (P.info? e).map (·.size) = some 1) (l : List Nat) (hl : l.length = n) (i : Nat) (hi : i < n) (w : World) :
    (Instr.index t (.agg (l.map uv).toArray) (.int .i64 (i : Int))).run P w = .ok (.int .u32 ((l.getD i 0 : Nat) : Int)) w := by
  have h1 : (0 : Int) ≤ (i : Int) ∧ (i : Int) < (n : Int) := by omega
  obtain ⟨inf, hinf, hsz⟩ := Option.map_eq_some_iff.1 hse
  simp [Instr.index, run_underlying ht, asIntOf, h1, sizeOf, typeInfo, hinf, hsz, part, isAgg, run_underlying he, hl, hi]

theorem u32_not (a : Nat) (ha : a < 4294967296) : bits .xor .u32 (if IntKind.u32.signed = true then -1 else IntKind.u32.max) (a : Int) = ((4294967295 - a : Nat) : Int) := by
  show IntKind.u32.wrap ((BitVec.ofInt 32 (if IntKind.u32.signed = true then -1 else IntKind.u32.max) ^^^ BitVec.ofInt 32 (a : Int)).toNat : Int) = _
  have h1 : BitVec.ofInt 32 (if IntKind.u32.signed = true then -1 else IntKind.u32.max) = BitVec.allOnes 32 := by decide
  rw [h1, BitVec.allOnes_xor, BitVec.toNat_not, ofInt_u32 a ha, IntKind.wrap_u32']
  omega

def zeros8 : List Nat := List.replicate 8 0
theorem zeros8_len : zeros8.length = 8 := rfl
theorem u32_one : (Tryd.prog.info? 40).map (·.size) = some 1 := by kernel_rfl

theorem turned_lit {x : Nat} {z : Int} {u : World} (n : Nat) (hz : z = (n : Int)) (hx : x < 4294967296) (h0 : 0 < n) (hn : n < 32) :
    Calls Tryd.prog 31 #[.int .u32 (x : Int), .int .i64 z] u fun e u' => e = .returned (.int .u32 ((ror n x : Nat) : Int)) ∧ u = u' := by
  subst hz
  exact turned_any x n _ hx h0 hn

set_option maxRecDepth 100000 in
set_option maxHeartbeats 1000000 in
theorem mixed_any (v : V8) (ws : List Nat) (w : World) (hv : v.Ok) (hl : ws.length = 64) (hk : Keys w) :
    Calls Tryd.prog 29 #[.agg (v.list.map uv).toArray, .agg (ws.map uv).toArray] w fun e w' => e = .returned (.agg ((add8 v (rounds roots64 ws 64 v)).list.map uv).toArray) ∧ Grows w w' := by
  obtain ⟨hA, hW, hR, hg⟩ := three w (v.list.map uv) (ws.map uv) (zeros8.map uv) 45 58 45
  have HL := Lib.hid hl
  clear hl
  have hk3 := hk.later hg
  have hk0 := hk.pos
  go_enter Tryd.func29, Tryd.ntmps29
  go_wp2_with fail
  change Code.wp _ _ _ _ (((w.alloc (.cells (v.list.map uv).toArray 45)).alloc (.cells (ws.map uv).toArray 58)).alloc (.cells (zeros8.map uv).toArray 45))
  generalize ((w.alloc (.cells (v.list.map uv).toArray 45)).alloc (.cells (ws.map uv).toArray 58)).alloc (.cells (zeros8.map uv).toArray 45) = w3 at *
  have l01 : w.heap.size < w.heap.size + 1 + 1 := by omega
  have l12 : w.heap.size + 1 < w.heap.size + 1 + 1 := by omega
  generalize w.heap.size + 1 + 1 = b2 at *
  have l1 : w.heap.size ≤ w.heap.size + 1 := by omega
  generalize w.heap.size + 1 = b1 at *
  have hzl := zeros8_len
  generalize zeros8 = zs at *
  have HZL := Lib.hid hzl
  have HR0 := Lib.hid (show rounds roots64 ws 0 v = v from rfl)
  clear hzl
  have d0 := hA.cell (k := 0) rfl
  have d1 := hA.cell (k := 1) rfl
  have d2 := hA.cell (k := 2) rfl
  have d3 := hA.cell (k := 3) rfl
  have d4 := hA.cell (k := 4) rfl
  have d5 := hA.cell (k := 5) rfl
  have d6 := hA.cell (k := 6) rfl
  have d7 := hA.cell (k := 7) rfl
  simp only [uv] at d0 d1 d2 d3 d4 d5 d6 d7
  go_quiet (fail)
  clear d0 d1 d2 d3 d4 d5 d6 d7
  have hA4 := hA.drawn (m := nq)
  have hW4 := hW.drawn (m := nq)
  have hR4 := hR.drawn (m := nq)
  have hk4 : Keys (w3.drewN nq) := hk3
  have hg4 : Grows w (w3.drewN nq) := below_draws hg
  clear hA hW hR hk3 hg
  generalize w3.drewN nq = w4 at *
  go_wp2_with fail
  go_loopw [5, 6, 7, 8, 9, 10, 11, 12, 34] (fun a b c d e f g h i wr => ∃ (k : Nat) (V : V8), k ≤ 64 ∧ V = rounds roots64 ws k v ∧ V.Ok ∧ i = .int .i64 k ∧ a = uv V.a ∧ b = uv V.b ∧ c = uv V.c ∧ d = uv V.d ∧ e = uv V.e ∧ f = uv V.f ∧ g = uv V.g ∧ h = uv V.h ∧ Grows w4 wr) (fun _ _ _ _ _ _ _ _ i _ => 64 - (intOf i).toNat)
  case atStart => exact ⟨0, v, Nat.zero_le _, rfl, hv, rfl, rfl, rfl, rfl, rfl, rfl, rfl, rfl, rfl, Grows.refl _⟩
  case round =>
    obtain ⟨k, V, hk, hV, hOk, rfl, rfl, rfl, rfl, rfl, rfl, rfl, rfl, rfl, hgr⟩ := hrel
    by_cases hlt : k < 64
    · have HR := Lib.hid (show rounds roots64 ws (k + 1) v = rnd (rounds roots64 ws k v) (roots64.getD k 0) (ws.getD k 0) from rfl)
      rw [← hV] at HR
      have HV := Lib.hid hV
      clear hV
      obtain ⟨xa, xb, xc, xd, xe, xf, xg, xh⟩ := V
      obtain ⟨ba, bb, bc, bd, be, bf, bg, bh⟩ := hOk
      simp only [] at ba bb bc bd be bf bg bh
      have hkc := (hk4.later hgr).at_ k hlt
      have hwc := uv_has (hW4.later hgr) k (by rw [HL.out]; exact hlt)
      generalize roots64.getD k 0 = kk at *
      generalize ws.getD k 0 = wk at *
      have k0 : (k : Int) < 64 := by omega
      have e1 := u32_xor_nat (ror 6 xe) (ror 11 xe) (ror_lt (by omega) be) (ror_lt (by omega) be)
      have e2 : bits .xor .u32 ((ror 6 xe ^^^ ror 11 xe : Nat) : Int) (ror 25 xe : Int) = (bigE xe : Int) := u32_xor_nat _ _ (xor_lt (ror_lt (by omega) be) (ror_lt (by omega) be)) (ror_lt (by omega) be)
      generalize (ror 6 xe ^^^ ror 11 xe) = y1 at e1 e2
      have e3 := u32_and_nat xe xf be bf
      have e0 := u32_not xe be
      have e4 := u32_and_nat (4294967295 - xe) xg (by omega) bg
      have e5 : bits .xor .u32 ((xe &&& xf : Nat) : Int) (((4294967295 - xe) &&& xg : Nat) : Int) = (choose xe xf xg : Int) := u32_xor_nat _ _ (and_lt be) (and_lt (by omega))
      generalize (xe &&& xf) = y2 at e3 e5
      generalize ((4294967295 - xe) &&& xg) = y3 at e4 e5
      generalize (4294967295 - xe) = y6 at e0 e4
      have t1 := wrap_add xh (bigE xe)
      have t2 := wrap_add ((xh + bigE xe) % 4294967296) (choose xe xf xg)
      have t3 := wrap_add (((xh + bigE xe) % 4294967296 + choose xe xf xg) % 4294967296) kk
      have t4 := wrap_add ((((xh + bigE xe) % 4294967296 + choose xe xf xg) % 4294967296 + kk) % 4294967296) wk
      have HT := Lib.hid (show tee ⟨xa, xb, xc, xd, xe, xf, xg, xh⟩ kk wk = ((((xh + bigE xe) % 4294967296 + choose xe xf xg) % 4294967296 + kk) % 4294967296 + wk) % 4294967296 from rfl)
      generalize (xh + bigE xe) % 4294967296 = t1v at *
      generalize (t1v + choose xe xf xg) % 4294967296 = t2v at *
      generalize (t2v + kk) % 4294967296 = t3v at *
      generalize (t3v + wk) % 4294967296 = tv at *
      generalize bigE xe = sE at *
      generalize choose xe xf xg = sC at *
      simp only [uv]
      go_wp2_with fail
      go_quiet (((go_at_call 31; first | exact turned_quiet 6 (by rfl) be (by decide) (by decide) | exact turned_quiet 11 (by rfl) be (by decide) (by decide) | exact turned_quiet 25 (by rfl) be (by decide) (by decide))))
      have hgr1 : Grows w4 (wr.drewN nq) := below_draws hgr
      clear hgr hkc hwc e0 e1 e2 e3 e4 e5 t1 t2 t3 t4
      generalize wr.drewN nq = w5 at *
      have e1 := u32_xor_nat (ror 2 xa) (ror 13 xa) (ror_lt (by omega) ba) (ror_lt (by omega) ba)
      have e2 : bits .xor .u32 ((ror 2 xa ^^^ ror 13 xa : Nat) : Int) (ror 22 xa : Int) = (bigA xa : Int) := u32_xor_nat _ _ (xor_lt (ror_lt (by omega) ba) (ror_lt (by omega) ba)) (ror_lt (by omega) ba)
      generalize (ror 2 xa ^^^ ror 13 xa) = y1 at e1 e2
      have e3 := u32_and_nat xa xb ba bb
      have e4 := u32_and_nat xa xc ba bc
      have e5 := u32_and_nat xb xc bb bc
      have e6 := u32_xor_nat (xa &&& xb) (xa &&& xc) (and_lt ba) (and_lt ba)
      have e7 : bits .xor .u32 ((((xa &&& xb) ^^^ (xa &&& xc)) : Nat) : Int) ((xb &&& xc : Nat) : Int) = (most xa xb xc : Int) := u32_xor_nat _ _ (xor_lt (and_lt ba) (and_lt ba)) (and_lt bb)
      generalize ((xa &&& xb) ^^^ (xa &&& xc)) = y4 at e6 e7
      generalize (xa &&& xb) = y1 at e3 e6
      generalize (xa &&& xc) = y2 at e4 e6
      generalize (xb &&& xc) = y3 at e5 e7
      have HY := Lib.hid (show you ⟨xa, xb, xc, xd, xe, xf, xg, xh⟩ = (bigA xa + most xa xb xc) % 4294967296 from rfl)
      have t1 := wrap_add (bigA xa) (most xa xb xc)
      have t2 := wrap_add tv ((bigA xa + most xa xb xc) % 4294967296)
      have t3 := wrap_add xd tv
      have HV2 : Hid (rounds roots64 ws (k + 1) v = ⟨(tv + (bigA xa + most xa xb xc) % 4294967296) % 4294967296, xa, xb, xc, (xd + tv) % 4294967296, xe, xf, xg⟩) := by
        show rounds roots64 ws (k + 1) v = _
        rw [HR.out]
        simp only [rnd, HT.out, HY.out]
      generalize bigA xa = sA at *
      generalize most xa xb xc = sM at *
      generalize (sA + sM) % 4294967296 = uu at *
      have ha' : (tv + uu) % 4294967296 < 4294967296 := Nat.mod_lt _ (by decide)
      have he' : (xd + tv) % 4294967296 < 4294967296 := Nat.mod_lt _ (by decide)
      generalize (tv + uu) % 4294967296 = za at *
      generalize (xd + tv) % 4294967296 = ze at *
      go_wp2_with (go_at_call 31; first
        | (refine (turned_lit 2 (by rfl) ba (by decide) (by decide)).mono ?_; rintro e w' ⟨rfl, rfl⟩)
        | (refine (turned_lit 13 (by rfl) ba (by decide) (by decide)).mono ?_; rintro e w' ⟨rfl, rfl⟩)
        | (refine (turned_lit 22 (by rfl) ba (by decide) (by decide)).mono ?_; rintro e w' ⟨rfl, rfl⟩))
      go_roundw
      case rel => exact ⟨k + 1, _, by omega, HV2.out.symm, ⟨ha', ba, bb, bc, he', be, bf, bg⟩, by go_num, rfl, rfl, rfl, rfl, rfl, rfl, rfl, rfl, hgr1⟩
      case measure => simp [intOf]; omega
    · obtain rfl : k = 64 := by omega
      have hA5 := hA4.later hgr
      have hR5 := hR4.later hgr
      have hg5 := Grows.trans hg4 hgr
      have hadd := add8_at v V
      have hml : (add8 v V).list = (add8 v (rounds roots64 ws 64 v)).list := by rw [hV]
      have hix : ∀ k : Nat, k < 8 → ∀ w, (Instr.index 45 (.agg #[.int .u32 (V.a : Int), .int .u32 (V.b : Int), .int .u32 (V.c : Int), .int .u32 (V.d : Int), .int .u32 (V.e : Int), .int .u32 (V.f : Int), .int .u32 (V.g : Int), .int .u32 (V.h : Int)]) (.int .i64 (k : Int))).run Tryd.prog w = .ok (.int .u32 ((V.list.getD k 0 : Nat) : Int)) w := run_index_words (P := Tryd.prog) Tryd.underlying45 Tryd.underlying40 u32_one V.list rfl
      have l8 : (add8 v V).list.length = 8 := rfl
      have l8' : v.list.length = 8 := rfl
      have HML := Lib.hid hml
      have HIX := Lib.hid hix
      clear hml hA4 hW4 hR4 hg4 hV hgr hk4 hix hOk
      go_wp2_with fail
      generalize (add8 v V).list = ml at *
      generalize v.list = vl at *
      generalize V.list = rl at *
      have HA := Lib.hid hadd
      have L1 := Lib.hid l8
      have L2 := Lib.hid l8'
      clear hadd l8 l8'
      go_loopw [106] (fun i wr => ∃ k : Nat, k ≤ 8 ∧ i = .int .i64 k ∧ Has wr w.heap.size ((ml.take k ++ vl.drop k).map uv) ∧ Has wr b2 (zs.map uv) ∧ Grows w wr) (fun i _ => 8 - (intOf i).toNat)
      case atStart => exact ⟨0, by omega, rfl, by simpa using hA5, hR5, hg5⟩
      case round =>
        clear hA5 hR5 hg5
        obtain ⟨k, hk, rfl, hhas, hR, hgr⟩ := hrel
        by_cases hlt : k < 8
        · have hix := HIX.out k hlt
          have d1 := uv_has hhas k (by simp [L1.out, L2.out]; omega)
          rw [mid_getD _ _ _ (by rw [L1.out]; omega) (by rw [L2.out]; exact hlt)] at d1
          have t1 := wrap_add (vl.getD k 0) (rl.getD k 0)
          rw [Nat.add_comm (vl.getD k 0), ← HA.out k hlt] at t1
          have hset := hhas.set_ (k := k) (by simp [L1.out, L2.out]; omega) (uv (ml.getD k 0))
          rw [← List.map_set, mid_set ml vl k _ (getD_some (by rw [L1.out]; exact hlt)) (by rw [L2.out]; exact hlt)] at hset
          have hfr := hhas.free k
          have hgs := hgr.setCell (p := ⟨w.heap.size, k, none⟩) (Nat.le_refl _) (uv (ml.getD k 0))
          have hRs : Has (wr.setCell ⟨w.heap.size, k, none⟩ (uv (ml.getD k 0))) b2 (zs.map uv) := ⟨by simpa [World.setCell] using hR.lt, fun j u hu => by
            rw [World.cell?_setCell_other wr _ _ _ (by intro e; injection e with e; omega)]; exact hR.cells j u hu, fun j => by simpa using hR.free j⟩
          clear hhas hgr hR
          generalize rl.getD k 0 = x at *
          generalize vl.getD k 0 = y at *
          generalize ml.getD k 0 = z at *
          have k0 : (k : Int) < 8 := by omega
          go_wp2_with fail
          go_roundw
          case rel => exact ⟨k + 1, by omega, by go_num, hset, hRs, hgs⟩
          case measure => simp [intOf]; omega
        · obtain rfl : k = 8 := by omega
          rw [List.take_of_length_le (by rw [L1.out]; omega), List.drop_of_length_le (by rw [L2.out]; omega), List.append_nil] at hhas
          have hld := hhas.load Tryd.underlying45 rfl (by rw [List.length_map, L1.out]; exact arr8_size)
          go_wp2_with (first | (with_reducible refine wpList_loads rfl 45 (.tmp 2) rfl _ rfl _ hld ?_) | (refine wpList_storev rfl 45 (.tmp 4) (.tmp 117) rfl b2 (zs.map uv) (ml.map uv) 8 rfl rfl hR (by rw [List.length_map, HZL.out]) (by rw [List.length_map, L1.out]) arr8_size (uv_one ml) ?_; intro w6 hbox6 hbel6))
          have hfin := hbel6 _ _ (Nat.le_of_lt l01) hgr
          rw [HML.out] at hbox6
          refine bodyPost_ret (v := .agg ((add8 v (rounds roots64 ws 64 v)).list.map uv).toArray) (res_has Tryd.results29 _ rfl Tryd.underlying45 rfl (by rw [List.length_map]; exact arr8_size) hbox6) rfl ⟨rfl, hfin⟩
end Go.Proofs.YtfpgnihibgmeeaaDoor
