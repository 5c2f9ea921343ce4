/-
  Contracts, joined (ShaF ShaG ShaH ShaJ ShaC ShaD ShaI ShaK CutX CutW IxL).
-/
import Derived.Test.YtnokloedbckijaaDoorK4
import Derived.Maps.AppendAt
import Derived.Maps.Range
import Derived.Deep.AppendLies
import Derived.Deep.OwnRows
import Derived.Deep.LoopGhost
import Derived.Test.YtnokloedbckijaaDoorK2
import Derived.Test.YtnokloedbckijaaDoorK3

/-
  Contract of sha.mixed: what a block's 64 words make of eight. Condition: the table keys holds the document's numbers.
-/
namespace Go.Proofs.YtnokloedbckijaaDoor
open Go.RowKit
set_option linter.unusedVariables false
set_option maxRecDepth 20000

/-- The table keys holds the document's numbers. -/
def Keys (w : World) : Prop := w.rangeAt 1 0 (roots64.map uv)
theorem Keys.later {w w' : World} (h : Keys w) (hg : Grows w w') : Keys w' := range_later h hg
theorem Keys.pos {w : World} (h : Keys w) : 1 < w.heap.size := World.block_lt_of_cell? w ⟨1, 0 + 0, none⟩ (h 0 _ rfl)
theorem Keys.below {w w' : World} {B : Nat} (h : Keys w) (hb : Below B w w') (hB : 1 < B) : Keys w' := range_below h hb hB
theorem Keys.at_ {w : World} (h : Keys w) (i : Nat) (hi : i < 64) : w.cell? ⟨1, i, none⟩ = some (.int .u32 ((roots64.getD i 0 : Nat) : Int)) := by
  have := uv_at h i (by rw [roots64_len]; exact hi)
  rwa [Nat.zero_add] at this

theorem run_index_words {P : Program} {t e : TypeId} {n : Nat} (ht : P.underlying t = some (.array n e)) (he : P.underlying e = some (.int .u32)) (hse : (P.info? e).map (·.size) = some 1) (l : List Nat) (hl : l.length = n) (i : Nat) (hi : i < n) (w : World) :
    (Instr.index t (.agg (l.map uv).toArray) (.int .i64 (i : Int))).run P w = .ok (.int .u32 ((l.getD i 0 : Nat) : Int)) w := by
  have h1 : (0 : Int) ≤ (i : Int) ∧ (i : Int) < (n : Int) := by omega
  obtain ⟨inf, hinf, hsz⟩ := Option.map_eq_some_iff.1 hse
  simp [Instr.index, run_underlying ht, asIntOf, h1, sizeOf, typeInfo, hinf, hsz, part, isAgg, run_underlying he, hl, hi]

theorem u32_not (a : Nat) (ha : a < 4294967296) : bits .xor .u32 (if IntKind.u32.signed = true then -1 else IntKind.u32.max) (a : Int) = ((4294967295 - a : Nat) : Int) := by
  show IntKind.u32.wrap ((BitVec.ofInt 32 (if IntKind.u32.signed = true then -1 else IntKind.u32.max) ^^^ BitVec.ofInt 32 (a : Int)).toNat : Int) = _
  have h1 : BitVec.ofInt 32 (if IntKind.u32.signed = true then -1 else IntKind.u32.max) = BitVec.allOnes 32 := by decide
  rw [h1, BitVec.allOnes_xor, BitVec.toNat_not, ofInt_u32 a ha, IntKind.wrap_u32']
  omega

def zeros8 : List Nat := List.replicate 8 0
theorem zeros8_len : zeros8.length = 8 := rfl
theorem u32_one : (Tryd.prog.info? 93).map (·.size) = some 1 := by kernel_rfl

theorem turned_lit {x : Nat} {z : Int} {u : World} (n : Nat) (hz : z = (n : Int)) (hx : x < 4294967296) (h0 : 0 < n) (hn : n < 32) :
    Calls Tryd.prog 121 #[.int .u32 (x : Int), .int .i64 z] u fun e u' => e = .returned (.int .u32 ((ror n x : Nat) : Int)) ∧ u = u' := by
  subst hz
  exact turned_any x n _ hx h0 hn

set_option maxRecDepth 100000 in
set_option maxHeartbeats 1000000 in
theorem mixed_any (v : V8) (ws : List Nat) (w : World) (hv : v.Ok) (hl : ws.length = 64) (hk : Keys w) :
    Calls Tryd.prog 112 #[.agg (v.list.map uv).toArray, .agg (ws.map uv).toArray] w fun e w' => e = .returned (.agg ((add8 v (rounds roots64 ws 64 v)).list.map uv).toArray) ∧ Grows w w' := by
  obtain ⟨hA, hW, hR, hg⟩ := three w (v.list.map uv) (ws.map uv) (zeros8.map uv) 128 152 128
  have HL := Lib.hid hl
  clear hl
  have hk3 := hk.later hg
  have hk0 := hk.pos
  go_enter Tryd.func112, Tryd.ntmps112
  go_wp2_with fail
  change Code.wp _ _ _ _ (((w.alloc (.cells (v.list.map uv).toArray 128)).alloc (.cells (ws.map uv).toArray 152)).alloc (.cells (zeros8.map uv).toArray 128))
  generalize ((w.alloc (.cells (v.list.map uv).toArray 128)).alloc (.cells (ws.map uv).toArray 152)).alloc (.cells (zeros8.map uv).toArray 128) = w3 at *
  have l01 : w.heap.size < w.heap.size + 1 + 1 := by omega
  have l12 : w.heap.size + 1 < w.heap.size + 1 + 1 := by omega
  generalize w.heap.size + 1 + 1 = b2 at *
  have l1 : w.heap.size ≤ w.heap.size + 1 := by omega
  generalize w.heap.size + 1 = b1 at *
  have hzl := zeros8_len
  generalize zeros8 = zs at *
  have HZL := Lib.hid hzl
  have HR0 := Lib.hid (show rounds roots64 ws 0 v = v from rfl)
  clear hzl
  have d0 := hA.cell (k := 0) rfl
  have d1 := hA.cell (k := 1) rfl
  have d2 := hA.cell (k := 2) rfl
  have d3 := hA.cell (k := 3) rfl
  have d4 := hA.cell (k := 4) rfl
  have d5 := hA.cell (k := 5) rfl
  have d6 := hA.cell (k := 6) rfl
  have d7 := hA.cell (k := 7) rfl
  simp only [uv] at d0 d1 d2 d3 d4 d5 d6 d7
  go_quiet (fail)
  clear d0 d1 d2 d3 d4 d5 d6 d7
  have hA4 := hA.drawn (m := nq)
  have hW4 := hW.drawn (m := nq)
  have hR4 := hR.drawn (m := nq)
  have hk4 : Keys (w3.drewN nq) := hk3
  have hg4 : Grows w (w3.drewN nq) := below_draws hg
  clear hA hW hR hk3 hg
  generalize w3.drewN nq = w4 at *
  go_wp2_with fail
  go_loopw [5, 6, 7, 8, 9, 10, 11, 12, 34] (fun a b c d e f g h i wr => ∃ (k : Nat) (V : V8), k ≤ 64 ∧ V = rounds roots64 ws k v ∧ V.Ok ∧ i = .int .i64 k ∧ a = uv V.a ∧ b = uv V.b ∧ c = uv V.c ∧ d = uv V.d ∧ e = uv V.e ∧ f = uv V.f ∧ g = uv V.g ∧ h = uv V.h ∧ Grows w4 wr) (fun _ _ _ _ _ _ _ _ i _ => 64 - (intOf i).toNat)
  case atStart => exact ⟨0, v, Nat.zero_le _, rfl, hv, rfl, rfl, rfl, rfl, rfl, rfl, rfl, rfl, rfl, Grows.refl _⟩
  case round =>
    obtain ⟨k, V, hk, hV, hOk, rfl, rfl, rfl, rfl, rfl, rfl, rfl, rfl, rfl, hgr⟩ := hrel
    by_cases hlt : k < 64
    · have HR := Lib.hid (show rounds roots64 ws (k + 1) v = rnd (rounds roots64 ws k v) (roots64.getD k 0) (ws.getD k 0) from rfl)
      rw [← hV] at HR
      have HV := Lib.hid hV
      clear hV
      obtain ⟨xa, xb, xc, xd, xe, xf, xg, xh⟩ := V
      obtain ⟨ba, bb, bc, bd, be, bf, bg, bh⟩ := hOk
      simp only [] at ba bb bc bd be bf bg bh
      have hkc := (hk4.later hgr).at_ k hlt
      have hwc := uv_has (hW4.later hgr) k (by rw [HL.out]; exact hlt)
      generalize roots64.getD k 0 = kk at *
      generalize ws.getD k 0 = wk at *
      have k0 : (k : Int) < 64 := by omega
      have e1 := u32_xor_nat (ror 6 xe) (ror 11 xe) (ror_lt (by omega) be) (ror_lt (by omega) be)
      have e2 : bits .xor .u32 ((ror 6 xe ^^^ ror 11 xe : Nat) : Int) (ror 25 xe : Int) = (bigE xe : Int) := u32_xor_nat _ _ (xor_lt (ror_lt (by omega) be) (ror_lt (by omega) be)) (ror_lt (by omega) be)
      generalize (ror 6 xe ^^^ ror 11 xe) = y1 at e1 e2
      have e3 := u32_and_nat xe xf be bf
      have e0 := u32_not xe be
      have e4 := u32_and_nat (4294967295 - xe) xg (by omega) bg
      have e5 : bits .xor .u32 ((xe &&& xf : Nat) : Int) (((4294967295 - xe) &&& xg : Nat) : Int) = (choose xe xf xg : Int) := u32_xor_nat _ _ (and_lt be) (and_lt (by omega))
      generalize (xe &&& xf) = y2 at e3 e5
      generalize ((4294967295 - xe) &&& xg) = y3 at e4 e5
      generalize (4294967295 - xe) = y6 at e0 e4
      have t1 := wrap_add xh (bigE xe)
      have t2 := wrap_add ((xh + bigE xe) % 4294967296) (choose xe xf xg)
      have t3 := wrap_add (((xh + bigE xe) % 4294967296 + choose xe xf xg) % 4294967296) kk
      have t4 := wrap_add ((((xh + bigE xe) % 4294967296 + choose xe xf xg) % 4294967296 + kk) % 4294967296) wk
      have HT := Lib.hid (show tee ⟨xa, xb, xc, xd, xe, xf, xg, xh⟩ kk wk = ((((xh + bigE xe) % 4294967296 + choose xe xf xg) % 4294967296 + kk) % 4294967296 + wk) % 4294967296 from rfl)
      generalize (xh + bigE xe) % 4294967296 = t1v at *
      generalize (t1v + choose xe xf xg) % 4294967296 = t2v at *
      generalize (t2v + kk) % 4294967296 = t3v at *
      generalize (t3v + wk) % 4294967296 = tv at *
      generalize bigE xe = sE at *
      generalize choose xe xf xg = sC at *
      simp only [uv]
      go_wp2_with fail
      go_quiet (((go_at_call 121; first | exact turned_quiet 6 (by rfl) be (by decide) (by decide) | exact turned_quiet 11 (by rfl) be (by decide) (by decide) | exact turned_quiet 25 (by rfl) be (by decide) (by decide))))
      have hgr1 : Grows w4 (wr.drewN nq) := below_draws hgr
      clear hgr hkc hwc e0 e1 e2 e3 e4 e5 t1 t2 t3 t4
      generalize wr.drewN nq = w5 at *
      have e1 := u32_xor_nat (ror 2 xa) (ror 13 xa) (ror_lt (by omega) ba) (ror_lt (by omega) ba)
      have e2 : bits .xor .u32 ((ror 2 xa ^^^ ror 13 xa : Nat) : Int) (ror 22 xa : Int) = (bigA xa : Int) := u32_xor_nat _ _ (xor_lt (ror_lt (by omega) ba) (ror_lt (by omega) ba)) (ror_lt (by omega) ba)
      generalize (ror 2 xa ^^^ ror 13 xa) = y1 at e1 e2
      have e3 := u32_and_nat xa xb ba bb
      have e4 := u32_and_nat xa xc ba bc
      have e5 := u32_and_nat xb xc bb bc
      have e6 := u32_xor_nat (xa &&& xb) (xa &&& xc) (and_lt ba) (and_lt ba)
      have e7 : bits .xor .u32 ((((xa &&& xb) ^^^ (xa &&& xc)) : Nat) : Int) ((xb &&& xc : Nat) : Int) = (most xa xb xc : Int) := u32_xor_nat _ _ (xor_lt (and_lt ba) (and_lt ba)) (and_lt bb)
      generalize ((xa &&& xb) ^^^ (xa &&& xc)) = y4 at e6 e7
      generalize (xa &&& xb) = y1 at e3 e6
      generalize (xa &&& xc) = y2 at e4 e6
      generalize (xb &&& xc) = y3 at e5 e7
      have HY := Lib.hid (show you ⟨xa, xb, xc, xd, xe, xf, xg, xh⟩ = (bigA xa + most xa xb xc) % 4294967296 from rfl)
      have t1 := wrap_add (bigA xa) (most xa xb xc)
      have t2 := wrap_add tv ((bigA xa + most xa xb xc) % 4294967296)
      have t3 := wrap_add xd tv
      have HV2 : Hid (rounds roots64 ws (k + 1) v = ⟨(tv + (bigA xa + most xa xb xc) % 4294967296) % 4294967296, xa, xb, xc, (xd + tv) % 4294967296, xe, xf, xg⟩) := by
        show rounds roots64 ws (k + 1) v = _
        rw [HR.out]
        simp only [rnd, HT.out, HY.out]
      generalize bigA xa = sA at *
      generalize most xa xb xc = sM at *
      generalize (sA + sM) % 4294967296 = uu at *
      have ha' : (tv + uu) % 4294967296 < 4294967296 := Nat.mod_lt _ (by decide)
      have he' : (xd + tv) % 4294967296 < 4294967296 := Nat.mod_lt _ (by decide)
      generalize (tv + uu) % 4294967296 = za at *
      generalize (xd + tv) % 4294967296 = ze at *
      go_wp2_with (go_at_call 121; first
        | (refine (turned_lit 2 (by rfl) ba (by decide) (by decide)).mono ?_; rintro e w' ⟨rfl, rfl⟩)
        | (refine (turned_lit 13 (by rfl) ba (by decide) (by decide)).mono ?_; rintro e w' ⟨rfl, rfl⟩)
        | (refine (turned_lit 22 (by rfl) ba (by decide) (by decide)).mono ?_; rintro e w' ⟨rfl, rfl⟩))
      go_roundw
      case rel => exact ⟨k + 1, _, by omega, HV2.out.symm, ⟨ha', ba, bb, bc, he', be, bf, bg⟩, by go_num, rfl, rfl, rfl, rfl, rfl, rfl, rfl, rfl, hgr1⟩
      case measure => simp [intOf]; omega
    · obtain rfl : k = 64 := by omega
      have hA5 := hA4.later hgr
      have hR5 := hR4.later hgr
      have hg5 := Grows.trans hg4 hgr
      have hadd := add8_at v V
      have hml : (add8 v V).list = (add8 v (rounds roots64 ws 64 v)).list := by rw [hV]
      have hix : ∀ k : Nat, k < 8 → ∀ w, (Instr.index 128 (.agg #[.int .u32 (V.a : Int), .int .u32 (V.b : Int), .int .u32 (V.c : Int), .int .u32 (V.d : Int), .int .u32 (V.e : Int), .int .u32 (V.f : Int), .int .u32 (V.g : Int), .int .u32 (V.h : Int)]) (.int .i64 (k : Int))).run Tryd.prog w = .ok (.int .u32 ((V.list.getD k 0 : Nat) : Int)) w := run_index_words (P := Tryd.prog) Tryd.underlying128 Tryd.underlying93 u32_one V.list rfl
      have l8 : (add8 v V).list.length = 8 := rfl
      have l8' : v.list.length = 8 := rfl
      have HML := Lib.hid hml
      have HIX := Lib.hid hix
      clear hml hA4 hW4 hR4 hg4 hV hgr hk4 hix hOk
      go_wp2_with fail
      generalize (add8 v V).list = ml at *
      generalize v.list = vl at *
      generalize V.list = rl at *
      have HA := Lib.hid hadd
      have L1 := Lib.hid l8
      have L2 := Lib.hid l8'
      clear hadd l8 l8'
      go_loopw [106] (fun i wr => ∃ k : Nat, k ≤ 8 ∧ i = .int .i64 k ∧ Has wr w.heap.size ((ml.take k ++ vl.drop k).map uv) ∧ Has wr b2 (zs.map uv) ∧ Grows w wr) (fun i _ => 8 - (intOf i).toNat)
      case atStart => exact ⟨0, by omega, rfl, by simpa using hA5, hR5, hg5⟩
      case round =>
        clear hA5 hR5 hg5
        obtain ⟨k, hk, rfl, hhas, hR, hgr⟩ := hrel
        by_cases hlt : k < 8
        · have hix := HIX.out k hlt
          have d1 := uv_has hhas k (by simp [L1.out, L2.out]; omega)
          rw [mid_getD _ _ _ (by rw [L1.out]; omega) (by rw [L2.out]; exact hlt)] at d1
          have t1 := wrap_add (vl.getD k 0) (rl.getD k 0)
          rw [Nat.add_comm (vl.getD k 0), ← HA.out k hlt] at t1
          have hset := hhas.set_ (k := k) (by simp [L1.out, L2.out]; omega) (uv (ml.getD k 0))
          rw [← List.map_set, mid_set ml vl k _ (getD_some (by rw [L1.out]; exact hlt)) (by rw [L2.out]; exact hlt)] at hset
          have hfr := hhas.free k
          have hgs := hgr.setCell (p := ⟨w.heap.size, k, none⟩) (Nat.le_refl _) (uv (ml.getD k 0))
          have hRs : Has (wr.setCell ⟨w.heap.size, k, none⟩ (uv (ml.getD k 0))) b2 (zs.map uv) := ⟨by simpa [World.setCell] using hR.lt, fun j u hu => by
            rw [World.cell?_setCell_other wr _ _ _ (by intro e; injection e with e; omega)]; exact hR.cells j u hu, fun j => by simpa using hR.free j⟩
          clear hhas hgr hR
          generalize rl.getD k 0 = x at *
          generalize vl.getD k 0 = y at *
          generalize ml.getD k 0 = z at *
          have k0 : (k : Int) < 8 := by omega
          go_wp2_with fail
          go_roundw
          case rel => exact ⟨k + 1, by omega, by go_num, hset, hRs, hgs⟩
          case measure => simp [intOf]; omega
        · obtain rfl : k = 8 := by omega
          rw [List.take_of_length_le (by rw [L1.out]; omega), List.drop_of_length_le (by rw [L2.out]; omega), List.append_nil] at hhas
          have hld := hhas.load Tryd.underlying128 rfl (by rw [List.length_map, L1.out]; exact arr8_size)
          go_wp2_with (first | (with_reducible refine wpList_loads rfl 128 (.tmp 2) rfl _ rfl _ hld ?_) | (refine wpList_storev rfl 128 (.tmp 4) (.tmp 117) rfl b2 (zs.map uv) (ml.map uv) 8 rfl rfl hR (by rw [List.length_map, HZL.out]) (by rw [List.length_map, L1.out]) arr8_size (uv_one ml) ?_; intro w6 hbox6 hbel6))
          have hfin := hbel6 _ _ (Nat.le_of_lt l01) hgr
          rw [HML.out] at hbox6
          refine bodyPost_ret (v := .agg ((add8 v (rounds roots64 ws 64 v)).list.map uv).toArray) (res_has Tryd.results112 _ rfl Tryd.underlying128 rfl (by rw [List.length_map]; exact arr8_size) hbox6) rfl ⟨rfl, hfin⟩
end Go.Proofs.YtnokloedbckijaaDoor

/-
  Contracts of sha's State: New, put, Write, Clone, Len, Sum, and of sha.Sum and sha.digest. Conditions: the table keys holds the document's numbers; the state lies in a block of its own.
-/
namespace Go.Proofs.YtnokloedbckijaaDoor
open Go.RowKit
set_option linter.unusedVariables false
set_option maxRecDepth 20000

/-- Nothing that was there has turned but block b. -/
abbrev But (b : Nat) (w w' : World) : Prop := w.grownBy w' (some b)
section
variable {b b' : Nat} {w w' w'' : World} {vs : List Value}
theorem But.refl (b : Nat) (w : World) : But b w w := World.grownBy.refl w _
theorem But.of_grows (h : Grows w w') : But b w w' := ⟨h.os, h.tape, h.output, h.size, fun i hi _ => h.block i hi⟩
theorem But.of_set (w : World) (b o : Nat) (u : Value) : But b w (w.setCell ⟨b, o, none⟩ u) :=
  ⟨rfl, rfl, rfl, by simp [World.setCell], fun i hi hne => Below.heap_setCell w _ u i (fun e => hne (by rw [e]))⟩
theorem But.setCells (b : Nat) : ∀ (vs : List Value) (o : Nat) (w : World), But b w (w.setCells b o vs)
  | [], _, w => But.refl b w
  | v :: r, o, w => World.grownBy.trans (But.of_set w b o v) (But.setCells b r (o + 1) _)
theorem Has.but (h : Has w b' vs) (hb : But b w w') (hne : b' ≠ b) : Has w' b' vs :=
  ⟨Nat.lt_of_lt_of_le h.lt hb.size, fun j u hu => hb.cell (h.cells j u hu) (fun e => hne (Option.some.inj e)), fun j => (hb.frozen_far ⟨b', j, none⟩ h.lt (fun e => hne (Option.some.inj e))).trans (h.free j)⟩
theorem Keys.but (h : Keys w) (hb : But b w w') (hne : 1 < b) : Keys w' := fun j u hu => hb.cell (h j u hu) (fun e => absurd (Option.some.inj e) (by show 1 ≠ b; omega))
theorem Lies.but {A : Option Addr} (h : Lies w b A vs) (hb : But b w w') : Lies w' b A vs := fun j u hu => by
  obtain ⟨ad, e, hlt, hc⟩ := h j u hu
  exact ⟨ad, e, hlt, hb.cell hc (fun e => by rw [add_block] at e; have := Option.some.inj e; omega)⟩
end

theorem state_size : (Tryd.prog.info? 131).map (·.size) = some 73 := by kernel_rfl
theorem v8_len (v : V8) : v.list.length = 8 := rfl
theorem uv8_len (v : V8) : (v.list.map uv).length = 8 := rfl

/-- The state in block b: the words v, the last bytes blk, n bytes in all. -/
structure St (w : World) (b : Nat) (v : V8) (blk : List UInt8) (n : Nat) : Prop where
  has : Has w b (v.list.map uv ++ (blk.map bv ++ [.int .i64 (n : Int)]))
  blen : blk.length = 64
section
variable {b n : Nat} {w w' : World} {v : V8} {blk : List UInt8}
theorem St.words (h : St w b v blk n) : w.rangeAt b 0 (v.list.map uv) := h.has.part 0 (fun j u hu => by
  rw [Nat.zero_add, List.getElem?_append_left (List.getElem?_eq_some_iff.1 hu).1]; exact hu)
theorem St.block (h : St w b v blk n) : w.rangeAt b 8 (blk.map bv) := h.has.part 8 (fun j u hu => by
  rw [List.getElem?_append_right (by rw [uv8_len]; omega), uv8_len, Nat.add_sub_cancel_left, List.getElem?_append_left (List.getElem?_eq_some_iff.1 hu).1]; exact hu)
theorem St.size (h : St w b v blk n) : w.cell? ⟨b, 72, none⟩ = some (.int .i64 (n : Int)) := h.has.cell (by
  rw [List.getElem?_append_right (by rw [uv8_len]; omega), uv8_len, List.getElem?_append_right (by rw [List.length_map, h.blen]; omega), List.length_map, h.blen]; rfl)
theorem St.setSize (h : St w b v blk n) (m : Nat) : St (w.setCell ⟨b, 72, none⟩ (.int .i64 (m : Int))) b v blk m := by
  refine ⟨?_, h.blen⟩
  have := h.has.set_ (k := 72) (by simp [v8_len, h.blen]) (.int .i64 (m : Int))
  rwa [List.set_append_right _ _ (by rw [uv8_len]; omega), uv8_len, List.set_append_right _ _ (by rw [List.length_map, h.blen]; omega), List.length_map, h.blen] at this
theorem St.setByte (h : St w b v blk n) (k : Nat) (hk : k < 64) (c : UInt8) : St (w.setCell ⟨b, 8 + k, none⟩ (bv c)) b v (blk.set k c) n := by
  refine ⟨?_, by rw [List.length_set]; exact h.blen⟩
  have := h.has.set_ (k := 8 + k) (by simp [v8_len, h.blen]; omega) (bv c)
  rwa [List.set_append_right _ _ (by rw [uv8_len]; omega), uv8_len, Nat.add_sub_cancel_left, List.set_append_left _ _ (by rw [List.length_map, h.blen]; exact hk), ← List.map_set] at this
theorem St.setWords (h : St w b v blk n) (v' : V8) : St (w.setCells b 0 (v'.list.map uv)) b v' blk n := by
  have ht : w.there b 0 (v'.list.map uv).length := by
    have := there_of h.words h.has.free
    rwa [uv8_len] at this
  refine ⟨⟨by rw [size_setCells]; exact h.has.lt, ?_, fun j => by rw [World.frozen?_setCells]; exact h.has.free j⟩, h.blen⟩
  intro j u hu
  rcases Nat.lt_or_ge j 8 with hj | hj
  · rw [List.getElem?_append_left (by rw [uv8_len]; exact hj)] at hu
    exact World.rangeAt_setCells_same w b 0 _ ht j u hu
  · have h1 : (v.list.map uv ++ (blk.map bv ++ [.int .i64 (n : Int)]))[j]? = some u := by
      rw [List.getElem?_append_right (by rw [uv8_len]; exact hj), uv8_len] at hu ⊢
      exact hu
    rw [World.cell?_setCells_out b _ 0 w ⟨b, 0 + j, none⟩ (fun _ _ => .inr (by rw [uv8_len]; show 0 + 8 ≤ 0 + j; omega))]
    exact h.has.cells j u h1
theorem St.later (h : St w b v blk n) (hg : Grows w w') : St w' b v blk n := ⟨h.has.later hg, h.blen⟩
theorem St.but {b' : Nat} (h : St w b v blk n) (hb : But b' w w') (hne : b ≠ b') : St w' b v blk n := ⟨h.has.but hb hne, h.blen⟩
end

/-- The state in block b holds the bytes l. -/
def Hold (w : World) (b : Nat) (l : List UInt8) : Prop := ∃ blk, St w b (through l (l.length / 64)) blk l.length ∧ blk.take (l.length % 64) = l.drop (64 * (l.length / 64))
theorem Hold.later {w w' : World} {b : Nat} {l : List UInt8} (h : Hold w b l) (hg : Grows w w') : Hold w' b l := h.imp fun _ ⟨h1, h2⟩ => ⟨h1.later hg, h2⟩
theorem Hold.but {w w' : World} {b b' : Nat} {l : List UInt8} (h : Hold w b l) (hb : But b' w w') (hne : b ≠ b') : Hold w' b l := h.imp fun _ ⟨h1, h2⟩ => ⟨h1.but hb hne, h2⟩

/-- The last byte fills the block. -/
theorem fill_full {l blk : List UInt8} {c : UInt8} (hb : blk.length = 64) (hp : blk.take (l.length % 64) = l.drop (64 * (l.length / 64))) (h : (l.length + 1) % 64 = 0) :
    through (l ++ [c]) ((l ++ [c]).length / 64) = mix (through l (l.length / 64)) (blk.set (l.length % 64) c) ∧ (l ++ [c]).length % 64 = 0 ∧ (l ++ [c]).drop (64 * ((l ++ [c]).length / 64)) = [] := by
  have e1 : (l ++ [c]).length = l.length + 1 := by simp
  have e2 : (l.length + 1) / 64 = l.length / 64 + 1 := by omega
  rw [e1, e2]
  refine ⟨?_, h, List.drop_of_length_le (by rw [e1]; omega)⟩
  rw [through, through_append l [c] _ (by omega)]
  congr 1
  have h63 : l.length % 64 = 63 := by omega
  rw [h63] at hp ⊢
  rw [List.drop_append_of_le_length (by omega), ← hp]
  apply List.ext_getElem?
  intro i
  rcases Nat.lt_or_ge i 63 with hi | hi
  · rw [List.getElem?_take, if_pos (by omega), List.getElem?_append_left (by simp [hb]; omega), List.getElem?_take, if_pos hi, List.getElem?_set_ne (by omega)]
  · rcases Nat.lt_or_ge 63 i with hi' | hi'
    · rw [List.getElem?_eq_none (by simp [hb]; omega), List.getElem?_eq_none (by simp [hb]; omega)]
    · obtain rfl : i = 63 := by omega
      rw [List.getElem?_take, if_pos (by omega), List.getElem?_append_right (by simp [hb]), List.getElem?_set_self (by omega)]
      simp [hb]
theorem fill_part {l blk : List UInt8} {c : UInt8} (hb : blk.length = 64) (hp : blk.take (l.length % 64) = l.drop (64 * (l.length / 64))) (h : (l.length + 1) % 64 ≠ 0) :
    through (l ++ [c]) ((l ++ [c]).length / 64) = through l (l.length / 64) ∧ (blk.set (l.length % 64) c).take ((l ++ [c]).length % 64) = (l ++ [c]).drop (64 * ((l ++ [c]).length / 64)) := by
  have e1 : (l ++ [c]).length = l.length + 1 := by simp
  have e2 : (l.length + 1) / 64 = l.length / 64 := by omega
  have e3 : (l.length + 1) % 64 = l.length % 64 + 1 := by omega
  rw [e1, e2, e3]
  refine ⟨through_append l [c] _ (by omega), ?_⟩
  rw [List.drop_append_of_le_length (by omega), ← hp, List.take_succ_eq_append_getElem (by rw [List.length_set, hb]; omega)]
  simp
  rw [List.take_set, List.set_eq_of_length_le (by simp; omega)]
end Go.Proofs.YtnokloedbckijaaDoor

/-
  Contracts of sha's State, by the memory's own words: put, New, Clone, Len, Write.
-/
namespace Go.Proofs.YtnokloedbckijaaDoor
open Go.RowKit
set_option linter.unusedVariables false
set_option maxRecDepth 20000

set_option maxRecDepth 100000 in
set_option maxHeartbeats 1000000 in
theorem put_any (b : Nat) (l : List UInt8) (c : UInt8) (w : World) (hk : Keys w) (hb0 : 1 < b) (hh : Hold w b l) (hn : l.length ≤ 1000000000) :
    Calls Tryd.prog 91 #[.pointer (some ⟨b, 0, none⟩), .int .u8 (c.toNat : Int)] w fun e w' => e = .returned (.tuple #[]) ∧ Hold w' b (l ++ [c]) ∧ But b w w' := by
  obtain ⟨blk, hst, hp⟩ := hh
  have hv := through_ok l (l.length / 64)
  have f1 : (l.length + 1) % 64 = 0 → _ := fun h => fill_full (c := c) hst.blen hp h
  have f2 : (l.length + 1) % 64 ≠ 0 → _ := fun h => fill_part (c := c) hst.blen hp h
  have hlen : (l ++ [c]).length = l.length + 1 := by simp
  have HF1 := Lib.hid f1
  have HF2 := Lib.hid f2
  have HLEN := Lib.hid hlen
  clear f1 f2 hlen hp
  generalize through l (l.length / 64) = v at *
  generalize l.length = n at *
  have hsz := hst.size
  have hbl := hst.blen
  have hm64 : n % 64 < 64 := by omega
  have tm : (n : Int).tmod 64 = ((n % 64 : Nat) : Int) := by rw [Int.tmod_eq_emod_of_nonneg (by omega)]; rfl
  generalize n % 64 = m at *
  have HST := Lib.hid hst
  have HK := Lib.hid hk
  clear hst hk
  have n2 : (m : Int) < 64 := by omega
  go_enter Tryd.func91, Tryd.ntmps91
  go_wp2_with fail
  refine wp_region_ord 10 [(0, true), (1, true), (2, true), (3, true), (4, true), (5, true), (6, true), (7, true), (8, true), (9, true)] (by kernel_rfl) (by kernel_rfl) ?_
  have f0 : ∀ u, Grows w.drew u → u.cell? ⟨b, 72, none⟩ = some (.int .i64 (n : Int)) := fun u h => hcell_later (a := w.drew) hsz h
  have hO := Grows.refl w.drew
  repeat (first | (refine ord_take hO _ ?_ (by simp only [List.getElem?_cons_succ, List.getElem?_cons_zero]; rfl) (by rfl) ?_ ?_; rotate_left; (· (intro u hu0 hu; (try go_simp); (try with_reducible rfl))); try simp only [Act.put, List.setIfInBounds_toArray, List.set_cons_zero, List.set_cons_succ]) | (refine ord_skip _ (by simp only [List.getElem?_cons_succ, List.getElem?_cons_zero]; rfl) (by rfl) ?_; try simp only [Act.put, List.setIfInBounds_toArray, List.set_cons_zero, List.set_cons_succ]))
  clear f0 hO tm
  (refine ord_done (fun u hu => ?_); simp only [List.drop_succ_cons, List.drop_zero])
  have hstu := HST.out.later (w' := u) (Grows.trans ((Grows.refl w).drew) hu)
  have hku := HK.out.later (w' := u) (Grows.trans ((Grows.refl w).drew) hu)
  have hbu : But b w u := But.of_grows (Grows.trans ((Grows.refl w).drew) hu)
  have hset := hstu.setByte m hm64 c
  have hbut := hbu.trans (But.of_set u b (8 + m) (bv c))
  have hks := hku.but (But.of_set u b (8 + m) (bv c)) hb0
  have hfr := hstu.has.free (8 + m)
  obtain ⟨y, hy⟩ : ∃ y, (blk.map bv)[m]? = some y := ⟨_, List.getElem?_eq_getElem (by rw [List.length_map, hbl]; exact hm64)⟩
  have hcy := range_cell hstu.block hy
  clear hy hsz
  generalize hw1 : u.setCell ⟨b, 8 + m, none⟩ (bv c) = w1 at *
  have HW1 := Lib.hid hw1
  clear hw1
  go_wp2_with fail
  refine NoPanic.normal ?_
  change Exit.then _ _ _ _ (u.setCell ⟨b, 8 + m, none⟩ (bv c))
  rw [HW1.out]
  have hs1 := hset.size
  have hst2 : St (w1.setCell ⟨b, 72, none⟩ (.int .i64 ((n : Int) + 1))) b v (blk.set m c) (n + 1) := hset.setSize (n + 1)
  have hbut2 : But b w (w1.setCell ⟨b, 72, none⟩ (.int .i64 ((n : Int) + 1))) := hbut.trans (But.of_set w1 b 72 _)
  have hk2 : Keys (w1.setCell ⟨b, 72, none⟩ (.int .i64 ((n : Int) + 1))) := hks.but (But.of_set w1 b 72 _) hb0
  have hfr1 := hset.has.free 72
  have hbl' : (blk.set m c).length = 64 := hset.blen
  have HHS := Lib.hid hst2
  have HBU := Lib.hid hbut2
  have HKS := Lib.hid hk2
  clear hset hbut hks hstu hku hbu hfr hcy hst2 hbut2 hk2 hu
  generalize blk.set m c = bk at *
  by_cases hfull : (n + 1) % 64 = 0
  · have o1 : (((n : Int) + 1) % 64 == 0) = true := by simp; omega
    obtain ⟨g1, g2, g3⟩ := HF1.out hfull
    have G1 := Lib.hid g1
    have G2 := Lib.hid g2
    have G3 := Lib.hid g3
    clear g1 g2 g3
    go_wp2_with fail
    generalize w1.setCell ⟨b, 72, none⟩ (.int .i64 ((n : Int) + 1)) = w2 at *
    refine wp_region_ord 13 [(0, true), (1, true), (2, true), (3, true), (4, true), (5, true), (6, true), (7, true), (8, true), (9, true), (10, true), (11, true), (12, true)] (by kernel_rfl) (by kernel_rfl) ?_
    have hgd : Grows w2 w2.drew := (Grows.refl w2).drew
    have ldW : ∀ u, Grows w2.drew u → (Instr.loadAt 128 (.pointer (some ⟨b, 0, none⟩))).run Tryd.prog u = .ok (.agg (v.list.map uv).toArray) u := fun u h =>
      range_load (HHS.out.later (Grows.trans hgd h)).words Tryd.underlying128 rfl arr8_size
    have ldB : ∀ u, Grows w2.drew u → (Instr.loadAt 129 (.pointer (some ⟨b, 8, none⟩))).run Tryd.prog u = .ok (.agg (bk.map bv).toArray) u := fun u h =>
      range_load (HHS.out.later (Grows.trans hgd h)).block Tryd.underlying129 rfl (by rw [List.length_map, hbl']; exact blk64_size)
    have hky : ∀ u, Grows w2.drew u → Keys u := fun u h => HKS.out.later (Grows.trans hgd h)
    have HKY := Lib.hid hky
    have HGD := Lib.hid hgd
    have HBL := Lib.hid hbl'
    have hO := Grows.refl w2.drew
    clear hky hgd hs1 hfr1 o1 hbl'
    repeat (first | (refine ord_load hO _ _ (by simp only [List.getElem?_cons_succ, List.getElem?_cons_zero]; rfl) (by rfl) 128 (.tmp 30) (by rfl) _ (by rfl) ldW ?_; try simp only [Act.put, List.setIfInBounds_toArray, List.set_cons_zero, List.set_cons_succ]) | (refine ord_load hO _ _ (by simp only [List.getElem?_cons_succ, List.getElem?_cons_zero]; rfl) (by rfl) 129 (.tmp 34) (by rfl) _ (by rfl) ldB ?_; try simp only [Act.put, List.setIfInBounds_toArray, List.set_cons_zero, List.set_cons_succ]) | (refine ord_take hO _ ?_ (by simp only [List.getElem?_cons_succ, List.getElem?_cons_zero]; rfl) (by rfl) ?_ ?_; rotate_left; (· (intro u hu0 hu; (try go_simp); (try with_reducible rfl))); try simp only [Act.put, List.setIfInBounds_toArray, List.set_cons_zero, List.set_cons_succ]) | (refine ord_skip _ (by simp only [List.getElem?_cons_succ, List.getElem?_cons_zero]; rfl) (by rfl) ?_; try simp only [Act.put, List.setIfInBounds_toArray, List.set_cons_zero, List.set_cons_succ]) | (refine ord_call hO _ ?_ (by simp only [List.getElem?_cons_succ, List.getElem?_cons_zero]; rfl) (by rfl) ?_ ?_; rotate_left; (· (intro u hu0 hu; go_simp; (try refine quiet_enter ?_); (first | exact spread_any bk u HBL.out | exact mixed_any v (spreadL bk) u hv (spreadL_len bk) (HKY.out u hu0)))); try simp only [Act.put, List.setIfInBounds_toArray, List.set_cons_zero, List.set_cons_succ]))
    clear ldW ldB hO
    (refine ord_done (fun u hu => ?_); simp only [List.drop_succ_cons, List.drop_zero])
    have hgu := Grows.trans HGD.out hu
    have hstu := HHS.out.later hgu
    have hset := hstu.setWords (mix v bk)
    have hbut := (HBU.out.trans (But.of_grows hgu)).trans (But.setCells b ((mix v bk).list.map uv) 0 u)
    have ht : u.there b 0 8 := there_of hstu.words hstu.has.free
    go_wp2_with (refine wpList_store_mid rfl 128 (.tmp 39) (.tmp 37) rfl b 0 ((mix v bk).list.map uv).toArray rfl rfl ht arr8_size (all_oneCell_toArray (uv_one _)) ?_)
    refine NoPanic.normal ?_
    go_wp2_with fail
    go_end0
    refine ⟨rfl, ⟨bk, ?_, ?_⟩, hbut⟩
    · rw [G1.out, HLEN.out]
      exact hset
    · rw [G2.out, G3.out, List.take_zero]
  · have o1 : (((n : Int) + 1) % 64 == 0) = false := by simp; omega
    obtain ⟨g1, g2⟩ := HF2.out hfull
    have G1 := Lib.hid g1
    have G2 := Lib.hid g2
    clear g1 g2
    go_wp2_with fail
    go_end0
    refine ⟨rfl, ⟨bk, ?_, G2.out⟩, HBU.out⟩
    rw [G1.out, HLEN.out]
    exact HHS.out
end Go.Proofs.YtnokloedbckijaaDoor

/-
  Contracts of sha's State: New, Clone, Len, Write.
-/
namespace Go.Proofs.YtnokloedbckijaaDoor
open Go.RowKit
set_option linter.unusedVariables false
set_option maxRecDepth 20000

set_option maxRecDepth 100000 in
theorem zero_state (w : World) : (zeroValue 131).run Tryd.prog w = .ok (.agg #[.int .u32 0, .int .u32 0, .int .u32 0, .int .u32 0, .int .u32 0, .int .u32 0, .int .u32 0, .int .u32 0, .int .u8 0, .int .u8 0, .int .u8 0, .int .u8 0, .int .u8 0, .int .u8 0, .int .u8 0, .int .u8 0, .int .u8 0, .int .u8 0, .int .u8 0, .int .u8 0, .int .u8 0, .int .u8 0, .int .u8 0, .int .u8 0, .int .u8 0, .int .u8 0, .int .u8 0, .int .u8 0, .int .u8 0, .int .u8 0, .int .u8 0, .int .u8 0, .int .u8 0, .int .u8 0, .int .u8 0, .int .u8 0, .int .u8 0, .int .u8 0, .int .u8 0, .int .u8 0, .int .u8 0, .int .u8 0, .int .u8 0, .int .u8 0, .int .u8 0, .int .u8 0, .int .u8 0, .int .u8 0, .int .u8 0, .int .u8 0, .int .u8 0, .int .u8 0, .int .u8 0, .int .u8 0, .int .u8 0, .int .u8 0, .int .u8 0, .int .u8 0, .int .u8 0, .int .u8 0, .int .u8 0, .int .u8 0, .int .u8 0, .int .u8 0, .int .u8 0, .int .u8 0, .int .u8 0, .int .u8 0, .int .u8 0, .int .u8 0, .int .u8 0, .int .u8 0, .int .i64 0]) w := by kernel_rfl

set_option maxRecDepth 100000 in
set_option maxHeartbeats 1000000 in
theorem new_any (w : World) : Calls Tryd.prog 74 #[] w fun e w' => e = .returned (.pointer (some ⟨w.heap.size, 0, none⟩)) ∧ Hold w' w.heap.size [] ∧ Grows w w' := by
  have hN := Has.new w 131 (start8.list.map uv ++ ((List.replicate 64 (0 : UInt8)).map bv ++ [Value.int .i64 ((0 : Nat) : Int)]))
  have hg := grows_alloc w (.cells (start8.list.map uv ++ ((List.replicate 64 (0 : UInt8)).map bv ++ [Value.int .i64 ((0 : Nat) : Int)])).toArray 131)
  have hz := zero_state
  go_enter Tryd.func74, Tryd.ntmps74
  go_wp2
  go_ret
  exact ⟨rfl, ⟨_, ⟨hN, rfl⟩, rfl⟩, hg⟩

set_option maxRecDepth 100000 in
set_option maxHeartbeats 1000000 in
theorem clone_any (b : Nat) (l : List UInt8) (w : World) (hh : Hold w b l) :
    Calls Tryd.prog 92 #[.pointer (some ⟨b, 0, none⟩)] w fun e w' => e = .returned (.pointer (some ⟨w.heap.size, 0, none⟩)) ∧ Hold w' w.heap.size l ∧ Grows w w' := by
  obtain ⟨blk, hst, hp⟩ := hh
  have hn : (((through l (l.length / 64)).list.map uv ++ (blk.map bv ++ [Value.int .i64 (l.length : Int)]))).length = 73 := by simp [v8_len, hst.blen]
  have hld := hst.has.load Tryd.underlying131 rfl (by rw [hn]; exact state_size)
  have h1 : ∀ u ∈ ((through l (l.length / 64)).list.map uv ++ (blk.map bv ++ [Value.int .i64 (l.length : Int)])), u.oneCell' = true := fun u hu => by
    rcases List.mem_append.1 hu with h | h
    · exact uv_one _ u h
    · rcases List.mem_append.1 h with h | h
      · exact bv_one _ u h
      · obtain rfl := List.mem_singleton.1 h; rfl
  have hbl := hst.blen
  have HST : ∀ w', Has w' w.heap.size ((through l (l.length / 64)).list.map uv ++ (blk.map bv ++ [Value.int .i64 (l.length : Int)])) → Hold w' w.heap.size l := fun w' h => ⟨blk, ⟨h, hbl⟩, hp⟩
  have HH := Lib.hid HST
  have HN := Lib.hid hn
  clear HST hn hst hp hbl
  generalize (through l (l.length / 64)).list.map uv ++ (blk.map bv ++ [Value.int .i64 (l.length : Int)]) = cs at *
  have hN := Has.new w 131 ((List.replicate 8 0).map uv ++ ((List.replicate 64 (0 : UInt8)).map bv ++ [Value.int .i64 0]))
  have hg := grows_alloc w (.cells ((List.replicate 8 0).map uv ++ ((List.replicate 64 (0 : UInt8)).map bv ++ [Value.int .i64 0])).toArray 131)
  have hz := zero_state
  go_enter Tryd.func92, Tryd.ntmps92
  go_wp2_with (first | (with_reducible refine wpList_loads rfl 131 (.tmp 5) rfl _ rfl _ hld ?_) | (refine wpList_storev rfl 131 (.tmp 3) (.tmp 6) rfl w.heap.size ((List.replicate 8 0).map uv ++ ((List.replicate 64 (0 : UInt8)).map bv ++ [Value.int .i64 0])) cs 73 rfl rfl hN rfl HN.out state_size h1 ?_; intro w6 hbox6 hbel6))
  go_ret
  exact ⟨rfl, HH.out _ hbox6, hbel6 _ _ (Nat.le_refl _) hg⟩

/-- The cells vs lie at A, in no cell of block b. -/
def Off (w : World) (b : Nat) (A : Option Addr) (vs : List Value) : Prop := ∀ j u, vs[j]? = some u → ∃ ad, A = some ad ∧ ad.block ≠ b ∧ w.cell? (ad.add j) = some u
theorem Off.but {w w' : World} {b : Nat} {A : Option Addr} {vs : List Value} (h : Off w b A vs) (hb : But b w w') : Off w' b A vs := fun j u hu => by
  obtain ⟨ad, e, hne, hc⟩ := h j u hu
  exact ⟨ad, e, hne, hb.cell hc (fun e => by rw [add_block] at e; exact hne (Option.some.inj e))⟩

set_option maxRecDepth 100000 in
set_option maxHeartbeats 1000000 in
theorem write_any (b : Nat) (l : List UInt8) (A : Option Addr) (n c : Nat) (bs : List UInt8) (w : World) (hk : Keys w) (hb0 : 1 < b) (hh : Hold w b l) (hl : bs.length = n) (hr : Off w b A (bs.map bv)) (hn : l.length + n ≤ 1000000) :
    Calls Tryd.prog 75 #[.pointer (some ⟨b, 0, none⟩), .slice A n c] w fun e w' => e = .returned (.tuple #[]) ∧ Hold w' b (l ++ bs) ∧ But b w w' := by
  have HL := Lib.hid hl
  have HK := Lib.hid hk
  have HR := Lib.hid hr
  clear hl hk hr
  go_enter Tryd.func75, Tryd.ntmps75
  go_wp2_with fail
  go_loopw [8] (fun i wr => ∃ k : Nat, k ≤ n ∧ i = .int .i64 k ∧ Hold wr b (l ++ bs.take k) ∧ But b w wr) (fun i _ => n - (intOf i).toNat)
  case atStart => exact ⟨0, Nat.zero_le _, rfl, by simpa using hh, But.refl _ _⟩
  case round =>
    clear hh
    obtain ⟨k, hk, rfl, hhold, hbut⟩ := hrel
    by_cases hlt : k < n
    · obtain ⟨x, hx⟩ : ∃ x, bs[k]? = some x := ⟨_, List.getElem?_eq_getElem (by rw [HL.out]; exact hlt)⟩
      obtain ⟨ad, rfl, hne, hcell⟩ := HR.out.but hbut k (bv x) (by rw [List.getElem?_map, hx]; rfl)
      have HX := Lib.hid (show l ++ bs.take (k + 1) = l ++ bs.take k ++ [x] by rw [List.take_add_one, hx, List.append_assoc]; rfl)
      have HLEN : Hid ((l ++ bs.take k).length ≤ 1000000000) := by show _ ≤ _; rw [List.length_append, List.length_take]; omega
      clear hx
      have HH := Lib.hid hhold
      have HB := Lib.hid hbut
      clear hhold hbut
      go_wp2_with fail
      refine (put_any b (l ++ bs.take k) x wr (HK.out.but HB.out hb0) hb0 HH.out HLEN.out).mono ?_
      rintro e w2 ⟨rfl, hh2, hb2⟩
      rw [← HX.out] at hh2
      have hb2' := HB.out.trans hb2
      clear hb2
      go_wp2_with fail
      go_roundw
      case rel => exact ⟨k + 1, by omega, by go_num, hh2, hb2'⟩
      case measure => simp [intOf]; omega
    · obtain rfl : k = n := by omega
      rw [List.take_of_length_le (by rw [HL.out]; omega)] at hhold
      go_wp2_with fail
      go_end0
      exact ⟨rfl, hhold, hbut⟩
end Go.Proofs.YtnokloedbckijaaDoor

/-
  Contracts of the reference's whole and Sum (layer 2): the bytes with what stands behind them, and their digest. Condition: at most a million bytes.
-/
namespace Go.Proofs.YtnokloedbckijaaDoor
open Go.RowKit
set_option linter.unusedVariables false
set_option maxRecDepth 20000

theorem byte_info2 : (Tryd.prog.info? 5).map (fun i => (i.zero, i.size, i.bytes)) = some (some (.int .u8 0), 1, 1) := by kernel_rfl
def shaLenV : Value → Nat
  | .slice _ n _ => n
  | _ => 0
theorem made_bytes (n : Nat) : ((List.replicate n (0 : UInt8)).map bv).toArray = madeCells #[.int .u8 0] n := by
  apply Array.ext'
  rw [toList_madeCells_one]
  simp [bv]
theorem gap_lt (n : Nat) : gap n < 64 := Nat.mod_lt _ (by decide)
theorem eight_at (N j : Nat) (h0 : 0 < j) (hj : j ≤ 8) : (eight N)[j - 1]? = some (UInt8.ofNat (N / 256 ^ (8 - j) % 256)) := by
  match j, h0, hj with
  | 1, _, _ => rfl
  | 2, _, _ => rfl
  | 3, _, _ => rfl
  | 4, _, _ => rfl
  | 5, _, _ => rfl
  | 6, _, _ => rfl
  | 7, _, _ => rfl
  | 8, _, _ => simp [eight]
theorem back_set {α : Type} (z e : List α) (j : Nat) (x : α) (h0 : 0 < j) (hx : e[j - 1]? = some x) (hz : j ≤ z.length) : (z.take j ++ e.drop j).set (j - 1) x = z.take (j - 1) ++ e.drop (j - 1) := by
  obtain ⟨i, rfl⟩ : ∃ i, j = i + 1 := ⟨j - 1, by omega⟩
  simp only [Nat.add_sub_cancel] at *
  have hi : i < e.length := (List.getElem?_eq_some_iff.1 hx).1
  have ex : x = e[i] := by rw [List.getElem?_eq_getElem hi] at hx; injection hx with hx; exact hx.symm
  rw [List.set_append_left _ _ (by simp; omega), List.take_succ_eq_append_getElem (by omega), List.set_append_right _ _ (by simp; omega), List.drop_eq_getElem_cons hi, ex]
  simp [Nat.min_eq_left (show i ≤ z.length by omega)]

set_option maxHeartbeats 1000000 in
theorem whole_any (A : Option Addr) (n c : Nat) (bs : List UInt8) (w : World) (hl : bs.length = n) (hr : Lies w w.heap.size A (bs.map bv)) (hn : n ≤ 1000000) :
    Calls Tryd.prog 77 #[.slice A n c] w fun e w' => ∃ g c', e = .returned (.slice (some ⟨g, 0, none⟩) (padded bs).length c') ∧ (padded bs).length ≤ c' ∧ w'.rangeAt g 0 ((padded bs).map bv) ∧ Grows w w' := by
  obtain ⟨i0, hi0, hz0, hz1, hz2⟩ := info_parts byte_info2
  have HL := Lib.hid hl
  clear hl
  go_enter Tryd.func77, Tryd.ntmps77
  go_wp2_with (at_builtin; (first
    | (refine wpList_append_src _ rfl (.tmp 7) (.tmp 8) _ rfl w.heap.size 5 i0 _ 1 Tryd.underlying22 hi0 hz0 hz1 hz2 rfl (.slice none 0 0) 0 [] rfl (World.ownsRow_nil _ _ _ _) w.heap.size A n c (bs.map bv) rfl (by rw [List.length_map]; exact HL.out) hr (bv_one bs) (by unfold maxLen; omega) (by omega) (Nat.le_refl _) ?_; intro v1 w1 hown1 hg1 hat1; rw [Nat.zero_add, List.nil_append] at hown1; have hb1 : Grows w w1 := (Grows.refl w).grown hg1 (Nat.le_refl _) (by simp [Value.ownBlock]))
    | (refine wpList_append_src _ rfl (.tmp 10) (.tmp 11) _ rfl w.heap.size 5 i0 _ 1 Tryd.underlying22 hi0 hz0 hz1 hz2 rfl v1 n _ rfl (hown1.alloc _) _ _ 1 1 [bv 128] rfl rfl (Lies.new w1 5 [bv 128]) (by simp [Value.oneCell']) (by unfold maxLen; omega) (by omega) (by have := hb1.size; simp; omega) ?_; intro v2 w2 hown2 hg2 hat2)))
  have hb2 : Grows w w2 := (hb1.alloc hb1.size _).grown hg2 (by have := hb1.size; simp; omega) (own_ge hown1)
  rw [show [bv 128] = [(128 : UInt8)].map bv from rfl, ← List.map_append] at hown2
  clear hown1 hg1 hat1 hb1 hg2 hat2
  go_loopw [3] (fun t wr => ∃ j m : Nat, j ≤ gap n ∧ m = n + 1 + j ∧ wr.ownsRow w.heap.size 5 1 t m ((bs ++ [128] ++ List.replicate j 0).map bv) ∧ Grows w wr) (fun t _ => n + 1 + gap n - shaLenV t)
  case atStart => exact ⟨0, n + 1, Nat.zero_le _, rfl, by simpa using hown2, hb2⟩
  case round =>
    clear hown2 hb2
    obtain ⟨j, m, hj, hm, hown, hbel⟩ := hrel
    obtain ⟨A', c', rfl, hmc⟩ := own_form hown
    have hgl := gap_lt n
    by_cases hlt : j < gap n
    · have o1 : ((m : Int) % 64 == 56) = false := by simp; unfold gap at hlt; omega
      have o2 : ((m : Int) % 64 != 56) = true := by simp; unfold gap at hlt; omega
      have HM := Lib.hid hm
      have hm1 : m ≤ 2000000 := by omega
      clear hm
      go_wp2_with (at_builtin; refine wpList_append_src _ rfl (.tmp 17) (.tmp 18) _ rfl w.heap.size 5 i0 _ 1 Tryd.underlying22 hi0 hz0 hz1 hz2 rfl (.slice A' m c') m _ rfl (hown.alloc _) _ _ 1 1 [bv 0] rfl rfl (Lies.new wr 5 [bv 0]) (by simp [Value.oneCell']) (by unfold maxLen; omega) (by omega) (by have := hbel.size; simp; omega) ?_; intro v2 w2 hown2 hg2 hat2)
      have hb2 : Grows w w2 := (hbel.alloc hbel.size _).grown hg2 (by have := hbel.size; simp; omega) (own_ge hown)
      rw [show [bv 0] = [(0 : UInt8)].map bv from rfl, ← List.map_append, List.append_assoc, ← List.replicate_succ'] at hown2
      obtain ⟨A2, c2, rfl, hmc2⟩ := own_form hown2
      go_roundw
      case rel => exact ⟨j + 1, m + 1, by omega, by have := HM.out; omega, hown2, hb2⟩
      case measure => have := HM.out; simp [shaLenV]; omega
    · obtain rfl : j = gap n := by omega
      have o1 : ((m : Int) % 64 == 56) = true := by simp; unfold gap at hm; omega
      have o2 : ((m : Int) % 64 != 56) = false := by simp; unfold gap at hm; omega
      have HM := Lib.hid hm
      have hm1 : m ≤ 2000000 := by omega
      clear hm hlt
      have hN := Has.new wr 5 ((List.replicate 8 0).map bv)
      have hgN := grows_alloc wr (.cells ((List.replicate 8 0).map bv).toArray 5)
      have hownN : ∀ w', Below wr.heap.size (wr.alloc (.cells ((List.replicate 8 0).map bv).toArray 5)) w' → w'.ownsRow w.heap.size 5 1 (.slice A' m c') m ((bs ++ [128] ++ List.replicate (gap n) 0).map bv) := fun w' h => own_later hown (Below.trans hgN h)
      have hrN : ∀ w', Below wr.heap.size (wr.alloc (.cells ((List.replicate 8 0).map bv).toArray 5)) w' → Grows w w' := fun w' h => Grows.trans hbel (Below.trans hgN h)
      have hz8 : wr.heap.size < (wr.alloc (.cells ((List.replicate 8 0).map bv).toArray 5)).heap.size := by simp
      have hg8 : w.heap.size ≤ wr.heap.size := hbel.size
      rw [made_bytes 8] at hN hownN hrN hz8
      go_wp2_with (at_make; (refine wpList_make_row _ rfl _ _ _ rfl 5 i0 _ Tryd.underlying22 hi0 hz0 hz1 rfl .i64 .i64 8 rfl rfl (by rw [hz2]; omega) (by omega) ?_))
      clear hown hbel hgN
      generalize wr.alloc (.cells (madeCells #[.int .u8 0] 8) 5) = w5 at *
      generalize wr.heap.size = g5 at *
      have HO := Lib.hid hownN
      have HG := Lib.hid hrN
      clear hownN hrN
      go_loopw [4, 6] (fun t i wr => ∃ j : Nat, j ≤ 8 ∧ i = .int .i64 ((j : Int) - 1) ∧ t = .int .i64 ((8 * n / 256 ^ (8 - j) : Nat) : Int) ∧ Has wr g5 (((List.replicate 8 0).take j ++ (eight (8 * n)).drop j).map bv) ∧ Below g5 w5 wr ∧ wr.heap.size = w5.heap.size) (fun _ i _ => (intOf i + 1).toNat)
      case atStart => exact ⟨8, by omega, rfl, by simp, hN, Below.refl _ _, rfl⟩
      case round =>
        clear hN
        obtain ⟨j, hj, rfl, rfl, hhas, hbel, hsz⟩ := hrel
        by_cases hlt : 0 < j
        · have he := eight_at (8 * n) j hlt hj
          have hset := hhas.set_ (k := j - 1) (by simp [eight_len]; omega) (bv (UInt8.ofNat (8 * n / 256 ^ (8 - j) % 256)))
          rw [← List.map_set, back_set _ _ j _ hlt he (by simp; omega)] at hset
          have hbx : bv (UInt8.ofNat (8 * n / 256 ^ (8 - j) % 256)) = .int .u8 (((8 * n / 256 ^ (8 - j) : Nat) : Int) % 256) := by
            have : (UInt8.ofNat (8 * n / 256 ^ (8 - j) % 256)).toNat = 8 * n / 256 ^ (8 - j) % 256 := by simp
            simp only [bv, this]
            congr 1
          rw [hbx] at hset
          have hdv : 8 * n / 256 ^ (8 - j) / 256 = 8 * n / 256 ^ (8 - (j - 1)) := by
            rw [Nat.div_div_eq_div_mul, ← Nat.pow_succ, show (8 - j).succ = 8 - (j - 1) by omega]
          have hxb : 8 * n / 256 ^ (8 - j) ≤ 8000000 := Nat.le_trans (Nat.div_le_self _ _) (by omega)
          have hfr := hhas.free (j - 1)
          obtain ⟨y, hy⟩ : ∃ y, (((List.replicate 8 0).take j ++ (eight (8 * n)).drop j).map bv)[j - 1]? = some y := ⟨_, List.getElem?_eq_getElem (by simp [eight_len]; omega)⟩
          have hcy := hhas.cell hy
          have hbs := hbel.setCell (p := ⟨g5, j - 1, none⟩) (Nat.le_refl _) (.int .u8 (((8 * n / 256 ^ (8 - j) : Nat) : Int) % 256))
          have hss : (wr.setCell ⟨g5, j - 1, none⟩ (.int .u8 (((8 * n / 256 ^ (8 - j) : Nat) : Int) % 256))).heap.size = w5.heap.size := by rw [← hsz]; simp [World.setCell]
          have HD := Lib.hid hdv
          have HS := Lib.hid hss
          clear hy hbx hdv hhas hss he hsz
          generalize 8 * n / 256 ^ (8 - j) = x at *
          have j1 : (1 : Int) ≤ (j : Int) := by omega
          have j2 : (j : Int) - 1 < 8 := by omega
          have j3 : ((j : Int) - 1).toNat = j - 1 := by omega
          go_wp2_with fail
          go_roundw
          case rel => exact ⟨j - 1, by omega, by rw [show ((j - 1 : Nat) : Int) = (j : Int) - 1 by omega], by rw [← HD.out]; rfl, hset, hbs, HS.out⟩
          case measure => simp [intOf]; omega
        · obtain rfl : j = 0 := by omega
          have hown6 := HO.out _ hbel
          have hg6 := HG.out _ hbel
          simp only [List.take_zero, List.nil_append, List.drop_zero] at hhas
          go_wp2_with (at_builtin; (refine wpList_append_src _ rfl (.tmp 36) (.tmp 37) _ rfl w.heap.size 5 i0 _ 1 Tryd.underlying22 hi0 hz0 hz1 hz2 rfl (.slice A' m c') m _ rfl hown6 _ _ 8 8 ((eight (8 * n)).map bv) rfl rfl hhas.lies (bv_one _) (by unfold maxLen; omega) (by omega) hg6.size ?_; intro v7 w7 hown7 hg7 hat7))
          have hb7 : Grows w w7 := hg6.grown hg7 hg6.size (own_ge hown6)
          rw [← List.map_append] at hown7
          have HP : padded bs = bs ++ [128] ++ List.replicate (gap n) 0 ++ eight (8 * n) := by unfold padded; rw [HL.out]
          rw [← HP] at hown7
          have HN : m + 8 = (padded bs).length := by rw [padded_len, HL.out, HM.out]; omega
          rw [HN] at hown7
          obtain ⟨g, c7, rfl, hc7, hgb, hh⟩ := own_range hown7 (by rw [← HN]; omega)
          go_ret
          exact ⟨g, c7, rfl, hc7, hh.cells, hb7⟩
end Go.Proofs.YtnokloedbckijaaDoor

/-
  Contract of the reference's Sum (layer 2): the digest of bytes. Condition: at most a million bytes.
-/
namespace Go.Proofs.YtnokloedbckijaaDoor
open Go.RowKit
set_option linter.unusedVariables false
set_option maxRecDepth 20000

theorem bytesOf_at (v : V8) (i : Nat) (hi : i < 32) : (bytesOf v)[i]? = some (UInt8.ofNat (v.list.getD (i / 4) 0 / 256 ^ (3 - i % 4) % 256)) := by
  match i, hi with
  | 0, _ => simp [bytesOf, V8.list, four]
  | 1, _ => simp [bytesOf, V8.list, four]
  | 2, _ => simp [bytesOf, V8.list, four]
  | 3, _ => simp [bytesOf, V8.list, four]
  | 4, _ => simp [bytesOf, V8.list, four]
  | 5, _ => simp [bytesOf, V8.list, four]
  | 6, _ => simp [bytesOf, V8.list, four]
  | 7, _ => simp [bytesOf, V8.list, four]
  | 8, _ => simp [bytesOf, V8.list, four]
  | 9, _ => simp [bytesOf, V8.list, four]
  | 10, _ => simp [bytesOf, V8.list, four]
  | 11, _ => simp [bytesOf, V8.list, four]
  | 12, _ => simp [bytesOf, V8.list, four]
  | 13, _ => simp [bytesOf, V8.list, four]
  | 14, _ => simp [bytesOf, V8.list, four]
  | 15, _ => simp [bytesOf, V8.list, four]
  | 16, _ => simp [bytesOf, V8.list, four]
  | 17, _ => simp [bytesOf, V8.list, four]
  | 18, _ => simp [bytesOf, V8.list, four]
  | 19, _ => simp [bytesOf, V8.list, four]
  | 20, _ => simp [bytesOf, V8.list, four]
  | 21, _ => simp [bytesOf, V8.list, four]
  | 22, _ => simp [bytesOf, V8.list, four]
  | 23, _ => simp [bytesOf, V8.list, four]
  | 24, _ => simp [bytesOf, V8.list, four]
  | 25, _ => simp [bytesOf, V8.list, four]
  | 26, _ => simp [bytesOf, V8.list, four]
  | 27, _ => simp [bytesOf, V8.list, four]
  | 28, _ => simp [bytesOf, V8.list, four]
  | 29, _ => simp [bytesOf, V8.list, four]
  | 30, _ => simp [bytesOf, V8.list, four]
  | 31, _ => simp [bytesOf, V8.list, four]
  | i + 32, hi => omega
theorem dig_size2 : (Tryd.prog.info? 42).map (·.size) = some 32 := by kernel_rfl
def zeros32 : List UInt8 := List.replicate 32 0
theorem zeros32_len : zeros32.length = 32 := rfl

set_option maxHeartbeats 1000000 in
theorem rsum_any (A : Option Addr) (n c : Nat) (bs : List UInt8) (w : World) (hl : bs.length = n) (hr : Lies w w.heap.size A (bs.map bv)) (hn : n ≤ 1000000) :
    Calls Tryd.prog 50 #[.slice A n c] w fun e w' => e = .returned (dv (shaOf bs)) ∧ Grows w w' := by
  have HL := Lib.hid hl
  clear hl
  have hbox := Has.new w 42 (zeros32.map bv)
  have hg0 := grows_alloc w (.cells (zeros32.map bv).toArray 42)
  have hr0 := hr.later hg0
  have hsz0 : (w.alloc (.cells (zeros32.map bv).toArray 42)).heap.size = w.heap.size + 1 := by simp
  have hH := Has.new (w.alloc (.cells (zeros32.map bv).toArray 42)) 93 (start8.list.map uv)
  have hg1 := grows_alloc (w.alloc (.cells (zeros32.map bv).toArray 42)) (.cells (start8.list.map uv).toArray 93)
  have hr1 := hr0.later hg1
  have hbox1 := hbox.later hg1
  have hg01 := Grows.trans hg0 hg1
  rw [hsz0] at hH
  clear hr hbox hr0 hg0 hg1 hsz0
  go_enter Tryd.func50, Tryd.ntmps50
  go_wp2_with fail
  change Calls _ _ _ ((w.alloc (.cells (zeros32.map bv).toArray 42)).alloc (.cells (start8.list.map uv).toArray 93)) _
  generalize (w.alloc (.cells (zeros32.map bv).toArray 42)).alloc (.cells (start8.list.map uv).toArray 93) = w1 at *
  refine (whole_any A n c bs w1 HL.out hr1 hn).mono ?_
  rintro e w2 ⟨g0, c0, rfl, hc0, hP, hg2⟩
  have hbox2 := hbox1.later hg2
  have hH2 := hH.cells
  have hH3 := range_later hH2 hg2
  have hg02 := Grows.trans hg01 hg2
  have HS := Lib.hid (show shaOf bs = bytesOf (through (padded bs) ((padded bs).length / 64)) from rfl)
  have hmod := padded_mod bs
  have hle := padded_len bs
  have hgl := gap_lt bs.length
  rw [HL.out] at hle hgl
  obtain ⟨K, hK⟩ : ∃ K, (padded bs).length = 64 * K := ⟨(padded bs).length / 64, by omega⟩
  rw [show (padded bs).length / 64 = K by omega] at HS
  have hK1 : K ≤ 100000 := by omega
  have HK := Lib.hid hK
  rw [hK] at hc0 ⊢
  clear hH hH2 hbox1 hr1 hg2 hg01 hmod hle hgl hK
  generalize padded bs = pd at *
  go_wp2_with fail
  go_loopw [3, 5] (fun t i wr => ∃ k : Nat, k ≤ K ∧ i = .int .i64 (64 * (k : Int)) ∧ ∃ g c, t = .slice (some ⟨g, 0, none⟩) 8 c ∧ wr.rangeAt g 0 ((through pd k).list.map uv) ∧ Grows w2 wr) (fun _ i _ => 64 * K - (intOf i).toNat)
  case atStart => exact ⟨0, Nat.zero_le _, rfl, _, _, rfl, hH3, Grows.refl _⟩
  case round =>
    clear hH3
    obtain ⟨k, hk, rfl, g, cg, rfl, hh, hgr⟩ := hrel
    by_cases hlt : k < K
    · have hPk : wr.rangeAt g0 (64 * k) (((pd.drop (64 * k)).take 64).map bv) := by
        have h1 := range_later hP hgr
        intro j u hu
        have h2 := h1 (64 * k + j) u (by
          rw [List.map_take, List.getElem?_take] at hu
          split at hu
          · rw [List.map_drop, List.getElem?_drop] at hu
            exact hu
          · cases hu)
        rwa [Nat.zero_add] at h2
      have HBL : Hid (((pd.drop (64 * k)).take 64).length = 64) := by
        show _ = _
        rw [List.length_take, List.length_drop, HK.out]
        omega
      have HT := Lib.hid (show through pd (k + 1) = mix (through pd k) ((pd.drop (64 * k)).take 64) from rfl)
      have hOk := through_ok pd k
      have k1 : (64 : Int) * (k : Int) + 64 ≤ (c0 : Int) := by omega
      have k2 : (64 : Int) * (k : Int) < 64 * (K : Int) := by omega
      go_wp2_with fail
      refine (block_any (through pd k) g cg g0 (64 * k) _ _ wr hOk hh HBL.out hPk).mono ?_
      rintro e w3 ⟨g', c', rfl, hh', hg'⟩
      rw [← HT.out] at hh'
      clear hPk hOk
      go_wp2_with fail
      go_roundw
      case rel => exact ⟨k + 1, by omega, by first | (congr 1; done) | (congr 1; omega), g', c', rfl, hh', Grows.trans hgr hg'⟩
      case measure => simp [intOf]; omega
    · obtain rfl : k = K := by omega
      have hbox3 := hbox2.later hgr
      have hg03 := Grows.trans hg02 hgr
      have hOk := through_ok pd k
      clear hbox2 hg02 hP hgr
      have hN := Has.new wr 42 (zeros32.map bv)
      have hgN := grows_alloc wr (.cells (zeros32.map bv).toArray 42)
      have hszN : wr.heap.size < (wr.alloc (.cells (zeros32.map bv).toArray 42)).heap.size := by simp
      have hhN := range_later hh hgN
      have hboxN := hbox3.later hgN
      have hg0N := Grows.trans hg03 hgN
      have hwlt : w.heap.size < wr.heap.size := hbox3.lt
      have hglt : g < wr.heap.size := World.block_lt_of_cell? wr ⟨g, 0 + 0, none⟩ (hh 0 _ rfl)
      have hD := bytesOf_at (through pd k)
      have hDl := bytesOf_len (through pd k)
      have hVl : (through pd k).list.length = 8 := rfl
      have hVb : ∀ x ∈ (through pd k).list, x < 4294967296 := by
        intro x hx
        simp only [V8.list, List.mem_cons, List.not_mem_nil, or_false] at hx
        obtain ⟨a1, a2, a3, a4, a5, a6, a7, a8⟩ := hOk
        rcases hx with rfl | rfl | rfl | rfl | rfl | rfl | rfl | rfl <;> assumption
      go_wp2_with fail
      change Code.wp _ _ _ _ (wr.alloc (.cells (zeros32.map bv).toArray 42))
      clear hh hbox3 hg03 hgN hOk
      generalize wr.alloc (.cells (zeros32.map bv).toArray 42) = w4 at *
      generalize wr.heap.size = gd at *
      generalize bytesOf (through pd k) = dg at *
      generalize (through pd k).list = vl at *
      have HD := Lib.hid hD
      have HDL := Lib.hid hDl
      have HVL := Lib.hid hVl
      have HVB := Lib.hid hVb
      clear hD hDl hVl hVb
      go_loopw [7] (fun i wr => ∃ i' : Nat, i' ≤ 32 ∧ i = .int .i64 i' ∧ Has wr gd ((dg.take i' ++ zeros32.drop i').map bv) ∧ Below gd w4 wr) (fun i _ => 32 - (intOf i).toNat)
      case atStart => exact ⟨0, Nat.zero_le _, rfl, hN, Below.refl _ _⟩
      case round =>
        clear hN
        obtain ⟨i, hi, rfl, hhas, hbel⟩ := hrel
        by_cases hlt : i < 32
        · have hcx := uv_at (range_below hhN hbel hglt) (i / 4) (by rw [HVL.out]; omega)
          rw [Nat.zero_add] at hcx
          have hxb := getD_lt HVB.out (by omega) (i / 4)
          have hd := HD.out i hlt
          have hset := hhas.set_ (k := i) (by simp [HDL.out, zeros32_len]; omega) (bv (UInt8.ofNat (vl.getD (i / 4) 0 / 256 ^ (3 - i % 4) % 256)))
          rw [← List.map_set, mid_set dg zeros32 i _ hd (by rw [zeros32_len]; exact hlt)] at hset
          have hbx : bv (UInt8.ofNat (vl.getD (i / 4) 0 / 256 ^ (3 - i % 4) % 256)) = .int .u8 (((vl.getD (i / 4) 0 / 256 ^ (3 - i % 4) : Nat) : Int) % 256) := by
            have : (UInt8.ofNat (vl.getD (i / 4) 0 / 256 ^ (3 - i % 4) % 256)).toNat = vl.getD (i / 4) 0 / 256 ^ (3 - i % 4) % 256 := by simp
            simp only [bv, this]
            congr 1
          rw [hbx] at hset
          have hfr := hhas.free i
          obtain ⟨y, hy⟩ : ∃ y, ((dg.take i ++ zeros32.drop i).map bv)[i]? = some y := ⟨_, List.getElem?_eq_getElem (by simp [HDL.out, zeros32_len]; omega)⟩
          have hcy := hhas.cell hy
          have hbs := hbel.setCell (p := ⟨gd, i, none⟩) (Nat.le_refl _) (.int .u8 (((vl.getD (i / 4) 0 / 256 ^ (3 - i % 4) : Nat) : Int) % 256))
          clear hy hbx hd hhas hbel
          generalize vl.getD (i / 4) 0 = X at *
          have i1 : (i : Int) / 4 < 8 := by omega
          have i2 : ((i : Int) / 4).toNat = i / 4 := by omega
          have i3 : (i : Int) < 32 := by omega
          go_wp2_with fail
          go_loopw [8, 9] (fun x j wr' => ∃ j' : Nat, i % 4 ≤ j' ∧ j' ≤ 3 ∧ j = .int .i64 j' ∧ x = .int .u32 ((X / 256 ^ (j' - i % 4) : Nat) : Int) ∧ wr' = wr) (fun _ j _ => 3 - (intOf j).toNat)
          case atStart => exact ⟨i % 4, by omega, by omega, by rfl, by simp, rfl⟩
          case round =>
            obtain ⟨j, hj0, hj1, rfl, rfl, rfl⟩ := hrel
            by_cases hj : j < 3
            · have HX := Lib.hid (show X / 256 ^ (j - i % 4) / 256 = X / 256 ^ (j + 1 - i % 4) by rw [Nat.div_div_eq_div_mul, ← Nat.pow_succ, show (j - i % 4).succ = j + 1 - i % 4 by omega])
              have hxb' : X / 256 ^ (j - i % 4) < 4294967296 := Nat.lt_of_le_of_lt (Nat.div_le_self _ _) hxb
              generalize X / 256 ^ (j - i % 4) = x at *
              go_wp2_with fail
              go_roundw
              case rel => exact ⟨j + 1, by omega, by omega, by go_num, by rw [← HX.out]; rfl, by trivial⟩
              case measure => simp [intOf]; omega
            · obtain rfl : j = 3 := by omega
              rw [show ((3 : Nat) : Int) = 3 from rfl]
              have hxb' : X / 256 ^ (3 - i % 4) < 4294967296 := Nat.lt_of_le_of_lt (Nat.div_le_self _ _) hxb
              generalize X / 256 ^ (3 - i % 4) = x at *
              go_wp2_with fail
              go_roundw
              case rel => exact ⟨i + 1, by omega, by go_num, hset, hbs⟩
              case measure => simp [intOf]; omega
        · obtain rfl : i = 32 := by omega
          rw [List.take_of_length_le (by rw [HDL.out]; omega), List.drop_of_length_le (by rw [zeros32_len]; omega), List.append_nil] at hhas
          have hld := hhas.load Tryd.underlying42 rfl (by rw [List.length_map, HDL.out]; exact dig_size2)
          have hboxZ := hboxN.below hbel hwlt
          go_wp2_with (first | (with_reducible refine wpList_loads rfl 42 (.tmp 6) rfl _ rfl _ hld ?_) | (refine wpList_storev rfl 42 (.tmp 2) (.tmp 48) rfl w.heap.size (zeros32.map bv) (dg.map bv) 32 rfl rfl hboxZ (by rw [List.length_map]; rfl) (by rw [List.length_map]; exact HDL.out) dig_size2 (bv_one dg) ?_; intro w6 hbox6 hbel6))
          have hfin := hbel6 _ _ (Nat.le_refl _) (Below.trans hg0N (hbel.mono (Nat.le_of_lt hwlt)))
          rw [← HS.out] at hbox6
          refine bodyPost_ret (v := dv (shaOf bs)) (res_has Tryd.results50 _ rfl Tryd.underlying42 rfl (by rw [List.length_map, shaOf_len]; exact dig_size2) hbox6) rfl ⟨rfl, hfin⟩
end Go.Proofs.YtnokloedbckijaaDoor

/-
  Contract of sha.digest: the words' bytes.
-/
namespace Go.Proofs.YtnokloedbckijaaDoor
open Go.RowKit
set_option linter.unusedVariables false
set_option maxRecDepth 20000

theorem four_at (v : V8) (k : Nat) (hk : k < 8) :
    (bytesOf v)[4 * k]? = some (UInt8.ofNat (v.list.getD k 0 / 16777216 % 256)) ∧ (bytesOf v)[4 * k + 1]? = some (UInt8.ofNat (v.list.getD k 0 / 65536 % 256)) ∧
    (bytesOf v)[4 * k + 2]? = some (UInt8.ofNat (v.list.getD k 0 / 256 % 256)) ∧ (bytesOf v)[4 * k + 3]? = some (UInt8.ofNat (v.list.getD k 0 % 256)) := by
  match k, hk with
  | 0, _ => simp [bytesOf, V8.list, four]
  | 1, _ => simp [bytesOf, V8.list, four]
  | 2, _ => simp [bytesOf, V8.list, four]
  | 3, _ => simp [bytesOf, V8.list, four]
  | 4, _ => simp [bytesOf, V8.list, four]
  | 5, _ => simp [bytesOf, V8.list, four]
  | 6, _ => simp [bytesOf, V8.list, four]
  | 7, _ => simp [bytesOf, V8.list, four]
theorem byte_of (x : Nat) : bv (UInt8.ofNat (x % 256)) = .int .u8 ((x : Int) % 256) := by
  have : (UInt8.ofNat (x % 256)).toNat = x % 256 := by simp
  simp only [bv, this]
  congr 1

set_option maxRecDepth 100000 in
set_option maxHeartbeats 1000000 in
theorem digest_of (v : V8) (w : World) (hv : v.Ok) :
    Calls Tryd.prog 93 #[.agg (v.list.map uv).toArray] w fun e w' => e = .returned (dv (bytesOf v)) ∧ Grows w w' := by
  obtain ⟨hA, hR, hD, hg⟩ := three w (v.list.map uv) (zeros32.map bv) (zeros32.map bv) 128 42 42
  have hld := hA.load Tryd.underlying128 rfl arr8_size
  have hix := run_index_words (P := Tryd.prog) Tryd.underlying128 Tryd.underlying93 u32_one v.list rfl
  have h4 := four_at v
  have hVb : ∀ x ∈ v.list, x < 4294967296 := by
    intro x hx
    simp only [V8.list, List.mem_cons, List.not_mem_nil, or_false] at hx
    obtain ⟨a1, a2, a3, a4, a5, a6, a7, a8⟩ := hv
    rcases hx with rfl | rfl | rfl | rfl | rfl | rfl | rfl | rfl <;> assumption
  have HIX := Lib.hid hix
  have H4 := Lib.hid h4
  have HVB := Lib.hid hVb
  clear hix h4 hVb
  go_enter Tryd.func93, Tryd.ntmps93
  go_wp2_with (with_reducible refine wpList_loads rfl 128 (.tmp 1) rfl _ rfl _ hld ?_)
  change Code.wp _ _ _ _ (((w.alloc (.cells (v.list.map uv).toArray 128)).alloc (.cells (zeros32.map bv).toArray 42)).alloc (.cells (zeros32.map bv).toArray 42))
  generalize ((w.alloc (.cells (v.list.map uv).toArray 128)).alloc (.cells (zeros32.map bv).toArray 42)).alloc (.cells (zeros32.map bv).toArray 42) = w3 at *
  have l01 : w.heap.size < w.heap.size + 1 + 1 := by omega
  have l12 : w.heap.size + 1 < w.heap.size + 1 + 1 := by omega
  generalize w.heap.size + 1 + 1 = b2 at *
  have l1 : w.heap.size ≤ w.heap.size + 1 := by omega
  generalize w.heap.size + 1 = b1 at *
  have hzl := zeros32_len
  have hdl := bytesOf_len v
  have HDG := Lib.hid (show bytesOf v = bytesOf v from rfl)
  generalize zeros32 = zs at *
  obtain ⟨dg, hdg⟩ : ∃ dg, dg = bytesOf v := ⟨_, rfl⟩
  rw [← hdg] at hdl H4
  have HZL := Lib.hid hzl
  have HDL := Lib.hid hdl
  have HDE := Lib.hid hdg
  clear hzl hdl hdg hA hld
  generalize v.list = vl at *
  go_loopw [7] (fun i wr => ∃ k : Nat, k ≤ 8 ∧ i = .int .i64 k ∧ Has wr b2 ((dg.take (4 * k) ++ zs.drop (4 * k)).map bv) ∧ Below b2 w3 wr) (fun i _ => 8 - (intOf i).toNat)
  case atStart => exact ⟨0, Nat.zero_le _, rfl, by simpa using hD, Below.refl _ _⟩
  case round =>
    clear hD
    obtain ⟨k, hk, rfl, hhas, hbel⟩ := hrel
    by_cases hlt : k < 8
    · have hix := HIX.out k hlt
      have hxb := getD_lt HVB.out (by omega) k
      obtain ⟨a0, a1, a2, a3⟩ := H4.out k hlt
      generalize vl.getD k 0 = x at *
      have s0 := hhas.set_ (k := 4 * k) (by simp [HDL.out, HZL.out]; omega) (bv (UInt8.ofNat (x / 16777216 % 256)))
      rw [← List.map_set, mid_set dg zs _ _ a0 (by rw [HZL.out]; omega)] at s0
      have s1 := s0.set_ (k := 4 * k + 1) (by simp [HDL.out, HZL.out]; omega) (bv (UInt8.ofNat (x / 65536 % 256)))
      rw [← List.map_set, mid_set dg zs _ _ a1 (by rw [HZL.out]; omega)] at s1
      have s2 := s1.set_ (k := 4 * k + 2) (by simp [HDL.out, HZL.out]; omega) (bv (UInt8.ofNat (x / 256 % 256)))
      rw [← List.map_set, mid_set dg zs _ _ a2 (by rw [HZL.out]; omega)] at s2
      have s3 := s2.set_ (k := 4 * k + 3) (by simp [HDL.out, HZL.out]; omega) (bv (UInt8.ofNat (x % 256)))
      rw [← List.map_set, mid_set dg zs _ _ a3 (by rw [HZL.out]; omega)] at s3
      have hbs := (((hbel.setCell (p := ⟨b2, 4 * k, none⟩) (Nat.le_refl _) (bv (UInt8.ofNat (x / 16777216 % 256)))).setCell (p := ⟨b2, 4 * k + 1, none⟩) (Nat.le_refl _) (bv (UInt8.ofNat (x / 65536 % 256)))).setCell (p := ⟨b2, 4 * k + 2, none⟩) (Nat.le_refl _) (bv (UInt8.ofNat (x / 256 % 256)))).setCell (p := ⟨b2, 4 * k + 3, none⟩) (Nat.le_refl _) (bv (UInt8.ofNat (x % 256)))
      have f0 := hhas.free (4 * k)
      have f1 := hhas.free (4 * k + 1)
      have f2 := hhas.free (4 * k + 2)
      have f3 := hhas.free (4 * k + 3)
      have hex : ∀ j, j < 32 → ∃ y, wr.cell? ⟨b2, j, none⟩ = some y := fun j hj => by
        obtain ⟨y, hy⟩ : ∃ y, ((dg.take (4 * k) ++ zs.drop (4 * k)).map bv)[j]? = some y := ⟨_, List.getElem?_eq_getElem (by simp [HDL.out, HZL.out]; omega)⟩
        exact ⟨y, hhas.cell hy⟩
      obtain ⟨y0, c0⟩ := hex (4 * k) (by omega)
      obtain ⟨y1, c1⟩ := hex (4 * k + 1) (by omega)
      obtain ⟨y2, c2⟩ := hex (4 * k + 2) (by omega)
      obtain ⟨y3, c3⟩ := hex (4 * k + 3) (by omega)
      have e0 : bv (UInt8.ofNat (x / 16777216 % 256)) = .int .u8 ((x : Int) / 16777216) := by rw [byte_of]; congr 1; omega
      have e1 : bv (UInt8.ofNat (x / 65536 % 256)) = .int .u8 ((x : Int) / 65536 % 256) := by rw [byte_of]; congr 1
      have e2 : bv (UInt8.ofNat (x / 256 % 256)) = .int .u8 ((x : Int) / 256 % 256) := by rw [byte_of]; congr 1
      have e3 := byte_of x
      rw [e0, e1, e2, e3] at s3 hbs
      have S3 := Lib.hid s3
      have HBS := Lib.hid hbs
      clear s0 s1 s2 s3 hbs hex e0 e1 e2 e3 hhas hbel a0 a1 a2 a3
      have k0 : (k : Int) < 8 := by omega
      go_wp2_with fail
      exact ⟨⟨k + 1, by omega, by go_num, S3.out, HBS.out⟩, by simp [intOf]; omega⟩
    · obtain rfl : k = 8 := by omega
      rw [List.take_of_length_le (by rw [HDL.out]; omega), List.drop_of_length_le (by rw [HZL.out]; omega), List.append_nil] at hhas
      have hld := hhas.load Tryd.underlying42 rfl (by rw [List.length_map, HDL.out]; exact dig_size2)
      have hRb := hR.below hbel l12
      go_wp2_with (first | (with_reducible refine wpList_loads rfl 42 (.tmp 3) rfl _ rfl _ hld ?_) | (refine wpList_storev rfl 42 (.tmp 2) (.tmp 38) rfl b1 (zs.map bv) (dg.map bv) 32 rfl rfl hRb (by rw [List.length_map, HZL.out]) (by rw [List.length_map, HDL.out]) dig_size2 (bv_one dg) ?_; intro w6 hbox6 hbel6))
      have hfin := hbel6 _ _ l1 (Below.trans hg (hbel.mono (Nat.le_of_lt l01)))
      rw [HDE.out] at hbox6
      refine bodyPost_ret (v := dv (bytesOf v)) (res_has Tryd.results93 _ rfl Tryd.underlying42 rfl (by rw [List.length_map, bytesOf_len]; exact dig_size2) hbox6) rfl ⟨rfl, hfin⟩
end Go.Proofs.YtnokloedbckijaaDoor

/-
  Contracts of (*State).Sum and of sha.Sum: the digest of the bytes; nothing that was there has turned. Conditions: the table keys holds the document's numbers; at most a million bytes.
-/
namespace Go.Proofs.YtnokloedbckijaaDoor
open Go.RowKit
set_option linter.unusedVariables false
set_option maxRecDepth 20000

theorem eight_next (N i : Nat) (hi : 0 < i) (h8 : i ≤ 8) : (eight N).take (8 - (i - 1)) = (eight N).take (8 - i) ++ [UInt8.ofNat (N / 256 ^ (i - 1) % 256)] := by
  match i, hi, h8 with
  | 1, _, _ => simp [eight]
  | 2, _, _ => simp [eight]
  | 3, _, _ => simp [eight]
  | 4, _, _ => simp [eight]
  | 5, _, _ => simp [eight]
  | 6, _, _ => simp [eight]
  | 7, _, _ => simp [eight]
  | 8, _, _ => simp [eight]

set_option maxRecDepth 100000 in
set_option maxHeartbeats 1000000 in
theorem ssum_any (b : Nat) (l : List UInt8) (w : World) (hk : Keys w) (hh : Hold w b l) (hn : l.length ≤ 1000000) :
    Calls Tryd.prog 76 #[.pointer (some ⟨b, 0, none⟩)] w fun e w' => e = .returned (dv (shaOf l)) ∧ Grows w w' := by
  have hbox := Has.new w 42 (zeros32.map bv)
  have hg0 := grows_alloc w (.cells (zeros32.map bv).toArray 42)
  have hh0 := hh.later hg0
  have hk0 := hk.later hg0
  clear hh hk
  go_enter Tryd.func76, Tryd.ntmps76
  go_wp2_with fail
  change Calls _ _ _ (w.alloc (.cells (zeros32.map bv).toArray 42)) _
  generalize w.alloc (.cells (zeros32.map bv).toArray 42) = w0 at *
  have hzl := zeros32_len
  generalize zeros32 = zs at *
  have HZL := Lib.hid hzl
  clear hzl
  refine (clone_any b l w0 hh0).mono ?_
  rintro e w1 ⟨rfl, hh1, hg1⟩
  have hs1 := hh0.later hg1
  have hk1 := hk0.later hg1
  have hbox1 := hbox.later hg1
  have hbw : w.heap.size < w0.heap.size := hbox.lt
  have hbb : b < w0.heap.size := by obtain ⟨_, h, _⟩ := hh0; exact h.has.lt
  have hg01 := Grows.trans hg0 hg1
  have hbe := hk0.pos
  generalize w0.heap.size = be at *
  clear hh0 hk0 hbox hg0 hg1
  go_wp2_with fail
  refine (put_any be l 128 w1 hk1 hbe hh1 (by omega)).mono ?_
  rintro e w2 ⟨rfl, hh2, hb2⟩
  have hgl := gap_lt l.length
  have HP := Lib.hid (show padded l = l ++ [128] ++ List.replicate (gap l.length) 0 ++ eight (8 * l.length) from rfl)
  clear hh1
  go_wp2_with fail
  go_loopg [] (gap l.length) (fun k wr => ∃ j : Nat, j + k = gap l.length ∧ Hold wr be (l ++ [128] ++ List.replicate j 0) ∧ But be w1 wr)
  case atStart => exact ⟨0, by omega, by simpa using hh2, hb2⟩
  case round =>
    clear hh2 hb2
    obtain ⟨j, hj, hhold, hbut⟩ := hrel
    have hlen : (l ++ [128] ++ List.replicate j 0).length = l.length + 1 + j := by simp; omega
    have hsz : wr.cell? ⟨be, 72, none⟩ = some (.int .i64 ((l.length + 1 + j : Nat) : Int)) := by
      obtain ⟨blk, hst, _⟩ := hhold
      have := hst.size
      rwa [hlen] at this
    have hkr := hk1.but hbut hbe
    by_cases hlt : j < gap l.length
    · have o1 : (((l.length + 1 + j : Nat) : Int) % 64 == 56) = false := by simp; unfold gap at hlt; omega
      have o2 : (((l.length + 1 + j : Nat) : Int) % 64 != 56) = true := by simp; unfold gap at hlt; omega
      have HLEN := Lib.hid hlen
      have HH := Lib.hid hhold
      have HB := Lib.hid hbut
      have HKR := Lib.hid hkr
      have HJ := Lib.hid hj
      have hm : l.length + 1 + j ≤ 2000000 := by omega
      have HLT := Lib.hid hlt
      clear hlen hhold hbut hkr hj hlt
      generalize l.length + 1 + j = m at *
      go_wp2_with fail
      refine (put_any be (l ++ [128] ++ List.replicate j 0) 0 wr HKR.out hbe HH.out (by rw [HLEN.out]; omega)).mono ?_
      rintro e w3 ⟨rfl, hh3, hb3⟩
      rw [List.append_assoc, ← List.replicate_succ'] at hh3
      have hb3' := HB.out.trans hb3
      clear hb3
      go_wp2_with fail
      go_roundg (gk - 1)
      case rel => exact ⟨j + 1, by have h1 := HJ.out; have h2 := HLT.out; omega, hh3, hb3'⟩
      case measure => have h1 := HJ.out; have h2 := HLT.out; omega
    · obtain rfl : j = gap l.length := by omega
      have o1 : (((l.length + 1 + gap l.length : Nat) : Int) % 64 == 56) = true := by simp; unfold gap; omega
      have o2 : (((l.length + 1 + gap l.length : Nat) : Int) % 64 != 56) = false := by simp; unfold gap; omega
      have HLEN := Lib.hid hlen
      have HH := Lib.hid hhold
      have HB := Lib.hid hbut
      have HKR := Lib.hid hkr
      have hm : l.length + 1 + gap l.length ≤ 2000000 := by omega
      clear hlen hhold hbut hkr hj hlt
      generalize l.length + 1 + gap l.length = m at *
      generalize l ++ [128] ++ List.replicate (gap l.length) 0 = pre at *
      go_wp2_with fail
      go_loopw [4] (fun t wr => ∃ i : Nat, i ≤ 8 ∧ t = .int .i64 (8 * (i : Int) - 8) ∧ Hold wr be (pre ++ (eight (8 * l.length)).take (8 - i)) ∧ But be w1 wr) (fun t _ => (intOf t + 8).toNat)
      case atStart => exact ⟨8, by omega, rfl, by simpa using HH.out, HB.out⟩
      case round =>
        clear HH HB HKR hsz o1 o2
        obtain ⟨i, hi, rfl, hhold, hbut⟩ := hrel
        by_cases hlt : 0 < i
        · have hE := eight_next (8 * l.length) i hlt hi
          have hsz : wr.cell? ⟨b, 72, none⟩ = some (.int .i64 (l.length : Int)) := by
            obtain ⟨blk, hst, _⟩ := hs1.but hbut (by omega)
            exact hst.size
          have hkr := hk1.but hbut hbe
          have hll : (pre ++ (eight (8 * l.length)).take (8 - i)).length ≤ 3000000 := by simp [HLEN.out, eight_len]; omega
          have hsh : (8 * (l.length : Int)) / 2 ^ (8 * (i : Int) - 8).toNat = ((8 * l.length / 256 ^ (i - 1) : Nat) : Int) := by
            rw [show (8 * (i : Int) - 8).toNat = 8 * (i - 1) by omega, show ((2 : Int) ^ (8 * (i - 1))) = ((2 ^ (8 * (i - 1)) : Nat) : Int) by simp, Nat.pow_mul]
            simp
          have HE := Lib.hid hE
          have HH := Lib.hid hhold
          have HB := Lib.hid hbut
          have HKR := Lib.hid hkr
          have HLL := Lib.hid hll
          clear hE hhold hbut hkr hll
          have i1 : (0 : Int) ≤ 8 * (i : Int) - 8 := by omega
          have i2 : 8 * (i : Int) - 8 ≤ 64 := by omega
          have i3 : (8 : Int) ≤ 8 * (i : Int) := by omega
          have hcv : Value.int .u8 (8 * (l.length : Int) / 256 ^ (i - 1) % 256) = .int .u8 ((UInt8.ofNat (8 * l.length / 256 ^ (i - 1) % 256)).toNat : Int) := by
            have := byte_of (8 * l.length / 256 ^ (i - 1))
            simp only [bv] at this
            rw [this]
            congr 1
          have HCV := Lib.hid hcv
          clear hcv
          go_wp2_with fail
          rw [HCV.out]
          refine (put_any be _ _ wr HKR.out hbe HH.out (Nat.le_trans HLL.out (by omega))).mono ?_
          rintro e w3 ⟨rfl, hh3, hb3⟩
          rw [List.append_assoc, ← HE.out] at hh3
          have hb3' := HB.out.trans hb3
          clear hb3 hsh
          go_wp2_with fail
          go_roundw
          case rel => exact ⟨i - 1, by omega, by congr 1; omega, hh3, hb3'⟩
          case measure => simp [intOf]; omega
        · obtain rfl : i = 0 := by omega
          have hfull : Hold wr be (padded l) := by
            rw [HP.out]
            have := hhold
            rwa [List.take_of_length_le (by rw [eight_len]; omega)] at this
          obtain ⟨blk, hst, _⟩ := hfull
          have hok := through_ok (padded l) ((padded l).length / 64)
          have HS := Lib.hid (show shaOf l = bytesOf (through (padded l) ((padded l).length / 64)) from rfl)
          generalize through (padded l) ((padded l).length / 64) = V at *
          have hld := range_load hst.words Tryd.underlying128 rfl arr8_size
          have hboxr := hbox1.but hbut (by omega)
          have hgr : Grows w wr := hg01.grown hbut hg01.size (fun k hk => by have := Option.some.inj hk; omega)
          clear hst hhold
          go_wp2_with (with_reducible refine wpList_loads rfl 128 (.tmp 34) rfl _ rfl _ hld ?_)
          refine (digest_of V wr hok).mono ?_
          rintro e w5 ⟨rfl, hg5⟩
          have hbox5 := hboxr.later hg5
          clear hld
          go_wp2_with (refine wpList_storev rfl 42 (.tmp 2) (.tmp 36) rfl w.heap.size (zs.map bv) ((bytesOf V).map bv) 32 rfl rfl hbox5 (by rw [List.length_map, HZL.out]) (by rw [List.length_map, bytesOf_len]) dig_size2 (bv_one _) ?_; intro w6 hbox6 hbel6)
          have hfin := hbel6 _ _ (Nat.le_refl _) (Grows.trans hgr hg5)
          rw [← HS.out] at hbox6
          refine bodyPost_ret (v := dv (shaOf l)) (res_has Tryd.results76 _ rfl Tryd.underlying42 rfl (by rw [List.length_map, shaOf_len]; exact dig_size2) hbox6) rfl ⟨rfl, hfin⟩

set_option maxRecDepth 100000 in
set_option maxHeartbeats 1000000 in
theorem sum_any (A : Option Addr) (n c : Nat) (bs : List UInt8) (w : World) (hk : Keys w) (hl : bs.length = n) (hr : Lies w w.heap.size A (bs.map bv)) (hn : n ≤ 1000000) :
    Calls Tryd.prog 49 #[.slice A n c] w fun e w' => e = .returned (dv (shaOf bs)) ∧ Grows w w' := by
  have hbox := Has.new w 42 (zeros32.map bv)
  have hg0 := grows_alloc w (.cells (zeros32.map bv).toArray 42)
  have hk0 := hk.later hg0
  have hr0 := hr.later hg0
  have HL := Lib.hid hl
  clear hk hr hl
  go_enter Tryd.func49, Tryd.ntmps49
  go_wp2_with fail
  change Calls _ _ _ (w.alloc (.cells (zeros32.map bv).toArray 42)) _
  generalize w.alloc (.cells (zeros32.map bv).toArray 42) = w0 at *
  have hzl := zeros32_len
  generalize zeros32 = zs at *
  have HZL := Lib.hid hzl
  clear hzl
  refine (new_any w0).mono ?_
  rintro e w1 ⟨rfl, hh1, hg1⟩
  have hk1 := hk0.later hg1
  have hbox1 := hbox.later hg1
  have hbw : w.heap.size < w0.heap.size := hbox.lt
  have hr1 : Off w1 w0.heap.size A (bs.map bv) := fun j u hu => by
    obtain ⟨ad, e, hlt, hc⟩ := hr0 j u hu
    exact ⟨ad, e, by omega, hcell_later hc hg1⟩
  have hg01 := Grows.trans hg0 hg1
  have hbe := hk0.pos
  generalize w0.heap.size = be at *
  clear hk0 hbox hg0 hg1 hr0
  go_wp2_with fail
  refine (write_any be [] A n c bs w1 hk1 hbe hh1 HL.out hr1 (by simpa using hn)).mono ?_
  rintro e w2 ⟨rfl, hh2, hb2⟩
  have hk2 := hk1.but hb2 hbe
  have hbox2 := hbox1.but hb2 (by omega)
  have hg2 : Grows w w2 := hg01.grown hb2 hg01.size (fun k hk => by have := Option.some.inj hk; omega)
  rw [List.nil_append] at hh2
  clear hh1 hk1 hbox1 hg01 hr1
  go_wp2_with fail
  refine (ssum_any be bs w2 hk2 hh2 (by rw [HL.out]; exact hn)).mono ?_
  rintro e w3 ⟨rfl, hg3⟩
  have hbox3 := hbox2.later hg3
  go_wp2_with (refine wpList_storev rfl 42 (.tmp 2) (.tmp 9) rfl w.heap.size (zs.map bv) ((shaOf bs).map bv) 32 rfl rfl hbox3 (by rw [List.length_map, HZL.out]) (by rw [List.length_map, shaOf_len]) dig_size2 (bv_one _) ?_; intro w6 hbox6 hbel6)
  have hfin := hbel6 _ _ (Nat.le_refl _) (Grows.trans hg2 hg3)
  refine bodyPost_ret (v := dv (shaOf bs)) (res_has Tryd.results49 _ rfl Tryd.underlying42 rfl (by rw [List.length_map, shaOf_len]; exact dig_size2) hbox6) rfl ⟨rfl, hfin⟩
end Go.Proofs.YtnokloedbckijaaDoor

/-
  Contracts of cut.Items, of the reference's Items and SameItems.
-/
namespace Go.Proofs.YtnokloedbckijaaDoor
open Go.RowKit Go.Shelf
set_option linter.unusedVariables false
set_option maxRecDepth 20000
attribute [local go_sem] Oper.semAt_some

/-- The items of bytes. -/
def itemOf (c : List UInt8) : Itm := (shaOf c, (c.length : Int))
def itemsOf (p : Prm) (b : List UInt8) : List Itm := (chunksOf p b).map itemOf
theorem itemOf_ok (c : List UInt8) : (itemOf c).1.length = 32 := shaOf_len c
/-- A row of items of its own. -/
def OwnIt (base : Nat) (w : World) (v : Value) (l : List Itm) : Prop := w.ownsRow base 61 33 v l.length (l.map icells).flatten
theorem OwnIt.nil (base : Nat) (w : World) : OwnIt base w (.slice none 0 0) [] := World.ownsRow_nil _ _ _ _
theorem OwnIt.later {base : Nat} {w w' : World} {v : Value} {l : List Itm} (h : OwnIt base w v l) (hg : Grows w w') : OwnIt base w' v l := own_later h hg
theorem flat_snoc (l : List Itm) (x : Itm) : ((l ++ [x]).map icells).flatten = (l.map icells).flatten ++ icells x := by simp

set_option maxRecDepth 20000 in
set_option maxHeartbeats 2000000 in
theorem items_any (p : Prm) (hp : p.Ok) (A : Option Addr) (n c : Nat) (bs : List UInt8) (w : World) (hl : bs.length = n) (hnc : n ≤ c) (hr : Lies w w.heap.size A (bs.map bv)) (hs : Starts w) (hk : Keys w) (hn : n ≤ 1000000) :
    Calls Tryd.prog 14 #[.slice A n c, pv p] w fun e w' => ∃ v, e = .returned (.tuple #[v, .int .i64 0]) ∧ OwnIt w.heap.size w' v (itemsOf p bs) ∧ Grows w w' := by
  have hpz : pv p = .agg #[.int .i64 p.mn, .int .i64 p.av, .int .i64 p.mx] := rfl
  have M0 : Hid (∀ u, Calls Tryd.prog 47 #[.agg #[.int .i64 p.mn, .int .i64 p.av, .int .i64 p.mx]] u fun e w' => e = .returned (.bool true) ∧ Grows u w') := fun u => by
    have := may_any p.mn p.av p.mx u
    rwa [may_ok hp] at this
  have hb0 := Has.new w 24 [.int .i64 (p.mn : Int), .int .i64 (p.av : Int), .int .i64 (p.mx : Int)]
  have hg0 := grows_alloc w (.cells [.int .i64 (p.mn : Int), .int .i64 (p.av : Int), .int .i64 (p.mx : Int)].toArray 24)
  refine calls_marks Tryd.func14 rfl ?_
  simp only [Tryd.ntmps14, List.size_toArray, List.length_cons, List.length_nil, Nat.reduceAdd, Nat.reduceSub, Array.replicate_succ, Array.replicate_zero, List.push_toArray, List.append_toArray, List.nil_append, List.cons_append]
  rw [hpz]
  gi_wp2_with fail
  refine call_wide (M0.out _) ?_
  rintro e w1 ⟨rfl, hg1⟩
  have hb1 := hb0.later hg1
  have P0 := hb1.cell (k := 0) rfl
  have P1 := hb1.cell (k := 1) rfl
  have P2 := hb1.cell (k := 2) rfl
  have hgw1 := Grows.trans hg0 hg1
  have hx1 := Has.new w1 29 [.slice none 0 0]
  have hgx := grows_alloc w1 (.cells [.slice none 0 0].toArray 29)
  have hlt1 := hb1.lt
  clear hb0 hg0 hg1
  gi_wp2_with fail
  refine call_wide (chunks_any p A n c _) ?_
  rintro e w3 ⟨bb, bp, rfl, hbb, hbp, hB, hP, hg3⟩
  have hx3 := hx1.later hg3
  have hgw3 := Grows.trans hgw1 (Grows.trans hgx hg3)
  have hb0s : w.heap.size ≤ w1.heap.size := hgw1.size
  have hxl := hx3.lt
  have hseq := chunks_seq p hp bb bp (fun k => k < w.heap.size) A n c bs w3 hB hP hl hnc ((LiesIn.of_lies hr (fun _ h => h)).later hgw3) (fun k h => Nat.lt_of_lt_of_le h hgw3.size) (hs.later hgw3) hn
  rw [World.size_alloc] at hbb hbp
  generalize hx : w1.heap.size = bx at *
  have hbs : Starts w := hs
  have hz := hs.pos
  have hkz := hk.pos
  have hBl := hB.lt
  have hPl := hP.lt
  clear hgx hg3 hx1 hx
  gi_wp2_with fail
  refine wp_range (gf := 71) (lb := #[.pointer (some ⟨bp, 0, none⟩), .pointer (some ⟨bb, 0, none⟩)]) rfl (enters_of Tryd.func71 (by kernel_rfl) rfl) rfl hseq ?gInp (fun k => k = bx) ?gO (fun k h => by rw [h]; exact hxl)
    (fun m pre W => ∃ v, Has W bx [v] ∧ OwnIt m W v (pre.map itemOf) ∧ Grows w W) (fun _ _ _ _ => False) ?gI (fun _ _ _ _ _ h _ => h) ?gh0
    (fun v => { tmps := #[.slice A n c, .agg #[.int .i64 p.mn, .int .i64 p.av, .int .i64 p.mx], undef, .pointer (some ⟨w.heap.size, 0, none⟩), .slice none 0 0, .int .i64 0, .pointer (some ⟨bx, 0, none⟩), v, .agg #[.int .i64 p.mn, .int .i64 p.av, .int .i64 p.mx], .bool true, .bool false, .slice A n c,
      .agg #[.int .i64 p.mn, .int .i64 p.av, .int .i64 p.mx], .func (.func 71) #[] #[.pointer (some ⟨bp, 0, none⟩), .pointer (some ⟨bb, 0, none⟩)], v, undef, undef, undef, undef, undef, undef, undef, undef, undef], defers := [] })
    ?gassign ?gA ?gbody ?gdone (fun _ _ _ _ _ _ _ _ _ h _ => h.elim)
  case gInp => rintro k (rfl | rfl | rfl | h) <;> omega
  case gO => rintro k (rfl | rfl | rfl | h) h' <;> omega
  case gI =>
    rintro m pre A' B' ⟨v, h1, h2, h3⟩ ht
    exact ⟨v, h1.turned ht (fun h => by have := h.1; omega), own_turned h2 ht (fun g hg h => by have := own_ge h2 g hg; have := h.2; omega), turns_then_grows h3 ht (fun k h => Nat.le_trans hgw3.size h.1)⟩
  case gh0 => exact fun m W1 _ _ hg => ⟨_, hx3.later hg, World.ownsRow_nil _ _ _ _, Grows.trans hgw3 hg⟩
  case gassign =>
    intro l v W K hK
    gi_wp2
    exact hK
  case gA =>
    rintro m W0 x v A' B' _ _ ⟨Ax, cx, rfl, h1, h2⟩ ht
    exact ⟨Ax, cx, rfl, h1, h2.turned ht (fun k hk h => by have := h.1; have := hgw3.size; omega)⟩
  case gbody =>
    rintro l m pre x v W0 W hm hmW0 _ ⟨v0, hx, hrow, hgw⟩ hT0 hpre ⟨Ax, cx, rfl, hxc, hLx⟩
    have hmW := Nat.le_trans hmW0 hT0.size
    clear hT0
    have hlen : pre.length + 1 ≤ 1000000 := by
      have h1 := hpre.length_le
      have h2 := chunks_len p bs
      rw [List.length_append, List.length_singleton] at h1
      omega
    have hxn : x.length ≤ 1000000 := by
      have h1 := chunks_flat p bs
      obtain ⟨t, ht⟩ := hpre
      have := congrArg List.length h1
      rw [← ht] at this
      simp at this
      omega
    have hgd := (Grows.refl W).drew
    have hO := Grows.refl W.drew
    have c0 : ∀ u, Grows W.drew u → u.cell? ⟨bx, 0, none⟩ = some v0 := fun u h => (hx.later (Grows.trans hgd h)).cell (k := 0) rfl
    have HS : Hid (∀ u, Grows W.drew u → Calls Tryd.prog 49 #[.slice Ax x.length cx] u fun e w' => e = .returned (dv (shaOf x)) ∧ Grows u w') := fun u h =>
      sum_any Ax x.length cx x u (hk.later (Grows.trans hgw (Grows.trans hgd h))) rfl ((hLx.lies (B := W.heap.size) (fun k hk => by have := hgw.size; omega)).later (Grows.trans hgd h)) hxn
    have hdl := shaOf_len x
    have hit : itemOf x = (shaOf x, (x.length : Int)) := rfl
    have HB := fun u => build_item (shaOf x) (x.length : Int) hdl u
    have HSL := fun u => slice_item (shaOf x) (x.length : Int) hdl u
    rw [← hit] at HB HSL
    have HLN : Hid ((pre ++ [x]).map itemOf = pre.map itemOf ++ [itemOf x]) := by show _ = _; simp
    have hic := icells_len (itemOf_ok x)
    have hio := icells_one (itemOf x)
    generalize itemOf x = it at *
    clear hit
    generalize shaOf x = sx at *
    generalize x.length = xl at *
    gi_wp2_with fail
    refine wpIn_region_ord 7 [(0, true), (1, true), (2, true), (3, true), (4, true), (5, true), (6, false)] (by kernel_rfl) (by kernel_rfl) (by intro _ _ h; exact h) ?_
    repeat (first | (refine ord_build hO _ _ (by simp only [List.getElem?_cons_succ, List.getElem?_cons_zero]; rfl) (by rfl) _ _ (by rfl) _ HB ?_ ?_; (· (go_simp)); try simp only [Act.put, List.setIfInBounds_toArray, List.set_cons_zero, List.set_cons_succ]) | (refine ord_load hO _ _ (by simp only [List.getElem?_cons_succ, List.getElem?_cons_zero]; rfl) (by rfl) 29 (.tmp 15) (by rfl) _ (by rfl) c0 ?_; try simp only [Act.put, List.setIfInBounds_toArray, List.set_cons_zero, List.set_cons_succ]) | (refine ord_take hO _ ?_ (by simp only [List.getElem?_cons_succ, List.getElem?_cons_zero]; rfl) (by rfl) ?_ ?_; rotate_left; (· (intro u hu0 hu; (try go_simp); (try with_reducible rfl))); try simp only [Act.put, List.setIfInBounds_toArray, List.set_cons_zero, List.set_cons_succ]) | (refine ord_skip _ (by simp only [List.getElem?_cons_succ, List.getElem?_cons_zero]; rfl) (by rfl) ?_; try simp only [Act.put, List.setIfInBounds_toArray, List.set_cons_zero, List.set_cons_succ]) | (refine ord_call hO _ ?_ (by simp only [List.getElem?_cons_succ, List.getElem?_cons_zero]; rfl) (by rfl) ?_ ?_; rotate_left; (· (intro u hu0 hu; go_simp; (try refine quiet_enter ?_); (exact HS.out u hu))); try simp only [Act.put, List.setIfInBounds_toArray, List.set_cons_zero, List.set_cons_succ]))
    refine ord_bslice _ (by simp only [List.getElem?_cons_succ, List.getElem?_cons_zero]; rfl) (by rfl) _ _ _ (by rfl) _ _ _ HSL ?_ (fun u hu => ?_)
    · go_simp
    simp only [Act.put, List.setIfInBounds_toArray, List.set_cons_zero, List.set_cons_succ]
    have hgu := Grows.trans hgd hu
    have hnu := Lies.new u 61 (icells it)
    have hna := grows_alloc u (.cells (icells it).toArray 61)
    refine ord_done (fun u2 hu2 => ?_)
    simp only [List.drop_succ_cons, List.drop_zero]
    have hg2 := Grows.trans hgu (Grows.trans hna hu2)
    have hl2 : Lies u2 u2.heap.size (some ⟨u.heap.size, 0, none⟩) (icells it) := (hnu.mono (by simp)).later hu2
    have hrow2 : u2.ownsRow m 61 33 v0 (pre.map itemOf).length ((pre.map itemOf).map icells).flatten := own_later hrow hg2
    have hm2 := hg2.size
    obtain ⟨i0, hi0, hz0, hz1, hz2⟩ := info_parts item_infoz
    have HC := fun (w4 : World) (h : u2.grownBy w4 v0.ownBlock) => coll_app (row := none) hx (by omega) hrow hg2 h
    have hpl : (pre.map itemOf).length = pre.length := by simp
    generalize pre.map itemOf = ps at *
    generalize hN : ps.length = N at *
    have HN := Lib.hid hN
    have hlen2 : N + 1 ≤ 1000000 := by omega
    clear hpl hlen hN hnu hna hgu hu hO c0 HS HB HSL
    go_wp2_with (at_builtin; refine wpList_append_recs rfl (.tmp 15) (.tmp 21) 29 rfl m 61 i0 zitem 33 40 (by decide) Tryd.underlying29 hi0 hz0 hz1 hz2 zitem_size v0 N _ rfl hrow2 _ (some ⟨u.heap.size, 0, none⟩) 1 1 (icells it) rfl (by rw [hic]) hl2 hio (by unfold maxLen; omega) (by omega) (by omega) ?_; intro v' w4 hown' hg' hat'; obtain ⟨hx4, ht4⟩ := HC w4 hg'; have hc4 := hx4.cell (k := 0) rfl; have hf4 := hx4.free 0; obtain ⟨hx5, ho5, ht5⟩ := coll_set hx4 (by omega) hown' ht4; obtain ⟨A5, c5, rfl, _⟩ := own_form hown')
    refine NoPanic.normal ?_
    gi_wp2_with fail
    exact ⟨ht5, _, hx5, by rw [HLN.out]; show World.ownsRow _ _ _ _ _ _ _; rw [flat_snoc, List.length_append, HN.out]; exact ho5, turns_then_grows hgw ht5 (fun k h => h.elim (fun h => by omega) (fun h => by have := hgw3.size; omega))⟩
  case gdone =>
    rintro D m W hm hmW rfl ⟨v, hx, hrow, hgw⟩ hD
    have hc := hx.cell (k := 0) rfl
    gi_wp2
    have ht := turns_putObj (S := fun k => k = w3.heap.size) W w3.heap.size (.deferred none) rfl
    refine marks_ret hD (fun u => results_tmp2 rfl _ _ _) ⟨v, rfl, ?_, turns_then_grows hgw ht (fun k h => by rw [h]; exact hgw3.size)⟩
    have := own_turned hrow ht (fun g hg h => by have := own_ge hrow g hg; omega)
    exact own_base this (Nat.le_trans hgw3.size (by omega))

set_option maxHeartbeats 2000000 in
theorem ritems_any (p : Prm) (hp : p.Ok) (A : Option Addr) (n c : Nat) (bs : List UInt8) (w : World) (hl : bs.length = n) (hnc : n ≤ c) (hr : Lies w w.heap.size A (bs.map bv)) (hn : n ≤ 1000000) :
    Calls Tryd.prog 17 #[.slice A n c, pv p] w fun e w' => ∃ v, e = .returned v ∧ OwnIt w.heap.size w' v (itemsOf p bs) ∧ Grows w w' := by
  unfold itemsOf
  have hN := Has.new w 24 [.int .i64 (p.mn : Int), .int .i64 (p.av : Int), .int .i64 (p.mx : Int)]
  have hg := grows_alloc w (.cells [.int .i64 (p.mn : Int), .int .i64 (p.av : Int), .int .i64 (p.mx : Int)].toArray 24)
  have P0 := hN.cell (k := 0) rfl
  have P1 := hN.cell (k := 1) rfl
  have P2 := hN.cell (k := 2) rfl
  have RC := Lib.hid (rchunks_any p hp A n c bs (w.alloc (.cells [.int .i64 (p.mn : Int), .int .i64 (p.av : Int), .int .i64 (p.mx : Int)].toArray 24)) hl hnc ((hr.later hg).mono (by simp)) hn)
  have hpv : pv p = .agg #[.int .i64 p.mn, .int .i64 p.av, .int .i64 p.mx] := rfl
  rw [hpv] at *
  have hsz : w.heap.size < (w.alloc (.cells [.int .i64 (p.mn : Int), .int .i64 (p.av : Int), .int .i64 (p.mx : Int)].toArray 24)).heap.size := by simp
  go_enter Tryd.func17, Tryd.ntmps17
  go_wp2_with fail
  refine RC.out.mono ?_
  rintro e w1 ⟨v, es, rfl, hown, heach, hg1⟩
  obtain ⟨A1, c1, rfl, hc1⟩ := own_form hown
  have hEL := Lies.of_own hown
  have hgw1 := Grows.trans hg hg1
  have hcl := chunks_len p bs
  have hcm : ∀ x ∈ chunksOf p bs, x.length ≤ 1000000 := fun x hx => by
    have h1 := chunks_flat p bs
    obtain ⟨i, hi⟩ := List.mem_iff_getElem?.1 hx
    have h2 := (List.sublist_flatten_of_mem hx).length_le
    rw [h1, hl] at h2
    omega
  generalize hcs : chunksOf p bs = cs at *
  have HCS := Lib.hid hcs
  have hsz1 := hg1.size
  clear hcs
  obtain ⟨N, hNN⟩ : ∃ N, N = cs.length := ⟨_, rfl⟩
  rw [← hNN] at hcl hc1 hown ⊢
  have HN := Lib.hid hNN
  have hN2 : N ≤ 1000000 := by omega
  clear hNN RC hN P0 P1 P2 hg1 hg hcl hown
  obtain ⟨i0, hi0, hz0, hz1, hz2⟩ := info_parts item_infoz
  go_wp2_with fail
  go_loopw [6, 7] (fun al i wr => ∃ k : Nat, k ≤ N ∧ i = .int .i64 (k : Int) ∧ OwnIt w1.heap.size wr al ((cs.take k).map itemOf) ∧ Grows w1 wr) (fun _ i _ => N - (intOf i).toNat)
  case atStart => exact ⟨0, Nat.zero_le _, rfl, by rw [List.take_zero]; exact OwnIt.nil _ _, Grows.refl _⟩
  case round =>
    obtain ⟨k, hk, rfl, hown, hg⟩ := hrel
    obtain ⟨A6, c6, rfl, _⟩ := own_form (show World.ownsRow _ _ _ _ _ _ _ from hown)
    have hlk : ((cs.take k).map itemOf).length = k := by rw [List.length_map, List.length_take, ← HN.out, Nat.min_eq_left hk]
    by_cases hlt : k < N
    · obtain ⟨x, hx⟩ : ∃ x, cs[k]? = some x := ⟨_, List.getElem?_eq_getElem (by rw [← HN.out]; exact hlt)⟩
      obtain ⟨Ax, cx, ex, hxc, hLx⟩ := heach.2 k x hx
      obtain ⟨ad, rfl, _, c1x⟩ := hEL.at_ ex
      have hxm := hcm x (List.mem_of_getElem? hx)
      have HSN : Hid ((cs.take (k + 1)).map itemOf = (cs.take k).map itemOf ++ [itemOf x]) := by show _ = _; rw [List.take_add_one, hx]; simp
      have hgd := Grows.trans hg (Grows.refl wr).drew
      have hO := Grows.refl wr.drew
      have f1 : ∀ u, Grows wr.drew u → u.cell? (ad.add k) = some (.slice Ax x.length cx) := fun u h => hcell_later c1x (Grows.trans hgd h)
      have HS : Hid (∀ u, Grows wr.drew u → Calls Tryd.prog 50 #[.slice Ax x.length cx] u fun e w' => e = .returned (dv (shaOf x)) ∧ Grows u w') := fun u h =>
        rsum_any Ax x.length cx x u rfl ((hLx.lies (B := w1.heap.size) (fun k hk => Nat.lt_of_lt_of_le hk hsz1)).later (Grows.trans hgd h)) hxm
      have hdl := shaOf_len x
      have hit : itemOf x = (shaOf x, (x.length : Int)) := rfl
      have HB := fun u => build_item (shaOf x) (x.length : Int) hdl u
      have HSL := fun u => slice_item (shaOf x) (x.length : Int) hdl u
      rw [← hit] at HB HSL
      have hic := icells_len (itemOf_ok x)
      have hione := icells_one (itemOf x)
      have hki : (k : Int) < (N : Int) := by omega
      generalize itemOf x = it at *
      clear hit hx ex hLx hdl hxc
      generalize shaOf x = sx at *
      generalize x.length = xl at *
      generalize (cs.take k).map itemOf = ps at *
      generalize hps : ps.length = P at *
      have HP := Lib.hid hps
      have hP2 : P + 1 ≤ 1000000 := by omega
      have HLK := Lib.hid hlk
      clear hps hlk
      go_wp2_with fail
      refine wp_region_ord 13 [(0, true), (1, true), (2, true), (3, true), (4, true), (5, true), (6, true), (7, true), (8, true), (9, true), (10, true), (11, true), (12, false)] (by kernel_rfl) (by kernel_rfl) ?_
      repeat (first | (refine ord_build hO _ _ (by simp only [List.getElem?_cons_succ, List.getElem?_cons_zero]; rfl) (by rfl) _ _ (by rfl) _ HB ?_ ?_; (· (go_simp)); try simp only [Act.put, List.setIfInBounds_toArray, List.set_cons_zero, List.set_cons_succ]) | (refine ord_take hO _ ?_ (by simp only [List.getElem?_cons_succ, List.getElem?_cons_zero]; rfl) (by rfl) ?_ ?_; rotate_left; (· (intro u hu0 hu; (try go_simp); (try with_reducible rfl))); try simp only [Act.put, List.setIfInBounds_toArray, List.set_cons_zero, List.set_cons_succ]) | (refine ord_skip _ (by simp only [List.getElem?_cons_succ, List.getElem?_cons_zero]; rfl) (by rfl) ?_; try simp only [Act.put, List.setIfInBounds_toArray, List.set_cons_zero, List.set_cons_succ]) | (refine ord_call hO _ ?_ (by simp only [List.getElem?_cons_succ, List.getElem?_cons_zero]; rfl) (by rfl) ?_ ?_; rotate_left; (· (intro u hu0 hu; go_simp; (try refine quiet_enter ?_); (exact HS.out u hu))); try simp only [Act.put, List.setIfInBounds_toArray, List.set_cons_zero, List.set_cons_succ]))
      refine ord_bslice _ (by simp only [List.getElem?_cons_succ, List.getElem?_cons_zero]; rfl) (by rfl) _ _ _ (by rfl) _ _ _ HSL ?_ (fun u hu => ?_)
      · go_simp
      simp only [Act.put, List.setIfInBounds_toArray, List.set_cons_zero, List.set_cons_succ]
      have hgu := Grows.trans hgd hu
      have hnu := Lies.new u 61 (icells it)
      have hna := grows_alloc u (.cells (icells it).toArray 61)
      refine ord_done (fun u2 hu2 => ?_)
      simp only [List.drop_succ_cons, List.drop_zero]
      have hg2 := Grows.trans hgu (Grows.trans hna hu2)
      have hl2 : Lies u2 u2.heap.size (some ⟨u.heap.size, 0, none⟩) (icells it) := (hnu.mono (by simp)).later hu2
      have hrow2 : u2.ownsRow w1.heap.size 61 33 (.slice A6 P c6) P (ps.map icells).flatten := by have := own_later hown (Grows.trans (Grows.refl wr).drew (Grows.trans hu (Grows.trans hna hu2))); rw [HP.out] at this; exact this
      have hm2 := hg2.size
      clear hnu hna hgu hu hO f1 HS HB HSL hown hu2
      go_wp2_with (at_builtin; refine wpList_append_recs rfl (.tmp 17) (.tmp 29) 29 rfl w1.heap.size 61 i0 zitem 33 40 (by decide) Tryd.underlying29 hi0 hz0 hz1 hz2 zitem_size (.slice A6 P c6) P _ rfl hrow2 _ (some ⟨u.heap.size, 0, none⟩) 1 1 (icells it) rfl (by rw [hic]) hl2 hione (by unfold maxLen; omega) (by omega) (by omega) ?_; intro v' w4 hown' hg' hat')
      have hg5 : Grows w1 w4 := Below.grown hg2 hg' (by omega) (own_ge hrow2)
      refine NoPanic.normal ?_
      go_wp2_with fail
      go_roundw
      case rel => exact ⟨k + 1, by omega, by go_num, by rw [HSN.out]; show World.ownsRow _ _ _ _ _ _ _; rw [flat_snoc, List.length_append, HP.out]; exact hown', hg5⟩
      case measure => simp [intOf]; omega
    · obtain rfl : k = N := by omega
      have hq : (cs.take k).map itemOf = cs.map itemOf := by rw [List.take_of_length_le (by rw [← HN.out]; exact Nat.le_refl _)]
      have d1 : decide ((k : Int) < (k : Int)) = false := by simp
      have HQ := Lib.hid hq
      have HLK := Lib.hid hlk
      clear hq hlk
      generalize (cs.take k).map itemOf = qs at *
      go_wp2_with fail
      go_ret
      exact ⟨_, rfl, by rw [HCS.out, ← HQ.out]; exact own_base hown hgw1.size, Grows.trans hgw1 hg⟩
end Go.Proofs.YtnokloedbckijaaDoor

/-
  Two package variables in one condition: the second one's own.
-/
namespace Go.Proofs.YtnokloedbckijaaDoor
open Go.RowKit
set_option linter.unusedVariables false
set_option maxRecDepth 20000
theorem laid_tail {P : Program} {W : World} {x : String × DataW Unit} {rest : List (String × DataW Unit)} (h : laidMet P (x :: rest) W) : laidMet P rest W := by
  obtain ⟨ps, ⟨g, t, cs, fuel, p, q, _, _, _, _, hq, rfl⟩, hn, hk⟩ := h
  exact ⟨q, hq, (List.nodup_append.1 hn).2.1, fun b off hm => hk b off (List.mem_append_right _ hm)⟩
theorem starts_of_laid2 {W : World} (h : laidMetH Tryd.prog [("lighterage/sha.keys", Rows.laid_lighterage_sha_keys), ("lighterage/roll.starts", Rows.laid_lighterage_roll_starts)] W) : Starts W := by
  rw [MakeChecks.laidMetH_plain _ _ _ (by kernel_rfl)] at h
  exact starts_of_laid (by rw [MakeChecks.laidMetH_plain _ _ _ (by kernel_rfl)]; exact laid_tail h)
end Go.Proofs.YtnokloedbckijaaDoor

/-
  Two package variables in one condition: the first one's own, the digests' numbers.
-/
namespace Go.Proofs.YtnokloedbckijaaDoor
open Go.RowKit
set_option linter.unusedVariables false
set_option maxRecDepth 20000
theorem gKeys2 : Tryd.prog.globalNamed "lighterage/sha.keys" = some 1 := by kernel_rfl
theorem tKeys2 : (Tryd.prog.globals[1]?).map (·.type) = some 152 := by kernel_rfl
theorem keys_tab2 : (Rows.laid_lighterage_sha_keys : DataW Unit) = Lib.tabData .u32 (roots64.map fun n : Nat => (n : Int)) := rfl
theorem keys_of_laid2 {W : World} (h : laidMetH Tryd.prog [("lighterage/sha.keys", Rows.laid_lighterage_sha_keys), ("lighterage/roll.starts", Rows.laid_lighterage_roll_starts)] W) : Keys W := by
  rw [MakeChecks.laidMetH_plain _ _ _ (by kernel_rfl), keys_tab2] at h
  have ht := Lib.tabIs_of_head gKeys2 tKeys2 Tryd.underlying152 Tryd.underlying93 (by kernel_rfl) (by kernel_rfl) h
  intro j u hu
  have hj : j < roots64.length := by have := (List.getElem?_eq_some_iff.1 hu).1; simpa using this
  have := ht.cell gKeys2 j (by simpa using hj)
  rw [Nat.zero_add, this, ← hu, List.getElem?_map, getD_some hj]
  simp [hj]
end Go.Proofs.YtnokloedbckijaaDoor
