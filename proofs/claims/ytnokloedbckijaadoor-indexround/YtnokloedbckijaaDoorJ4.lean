/-
  Contracts, joined (Rin CutQ CutR Orr ShaM ShaA ShaB ShaE ShaF ShaG ShaH).
-/
import Derived.Test.YtnokloedbckijaaDoorJ1
import Derived.Test.YtnokloedbckijaaDoorJ3
import Derived.Lib.SmallJoins
import Derived.LaidMore
import Derived.Lib.LaidTab
import Derived.ProofKit
import Derived.Stop.Joined
import Derived.OrdersIn
import Derived.RangeFuncCalls
import Derived.Deep.RegionHeld3
import Derived.Test.YtnokloedbckijaaDoorRows
import Derived.Laws.BitsAllLaws
import Derived.Outline
import Derived.Lib.Hide
import Derived.BigQuiet
import Derived.StillTailTactics
import Derived.IntWalk
import Derived.Maps.AppendAt
import Derived.Maps.Range
import Derived.Deep.AppendLies

/-
  A []int that came in, as numbers that lie there (of no program).
-/
namespace Go.Proofs.YtnokloedbckijaaDoor
open Go.RowKit
set_option linter.unusedVariables false

/-- An int, whatever it is, as a value. -/
abbrev zv (z : Int) : Value := .int .i64 z
/-- What is told of a []int that came in. -/
theorem row_ints {w : World} {a : Option Addr} {len cap : Nat} {zs : List Int}
    (h : (a = none ∧ len = 0 ∧ cap = 0 ∧ zs = []) ∨ ∃ x, a = some x ∧ len ≤ cap ∧ cap ≤ maxLen ∧ zs.length = cap ∧ (∀ i, i < zs.length → w.cell? (x.add i) = some (.int .i64 (zs.getD i 0))) ∧ ∀ n ∈ zs, (Lit.int .i64 n).wf = true) :
    ∃ l : List Int, l.length = len ∧ Lies w w.heap.size a (l.map zv) ∧ len ≤ cap ∧ cap ≤ maxLen ∧ ∀ z ∈ l, -9223372036854775808 ≤ z ∧ z ≤ 9223372036854775807 := by
  rcases h with ⟨rfl, rfl, rfl, rfl⟩ | ⟨x, rfl, hl, hm, hz, hc, hw⟩
  · exact ⟨[], rfl, Lies.empty, Nat.le_refl _, Nat.zero_le _, fun _ h => by simp at h⟩
  · refine ⟨zs.take len, by simp; omega, fun j u hu => ?_, hl, hm, fun z hz' => ?_⟩
    · rw [List.getElem?_map, List.getElem?_take] at hu
      split at hu
      · rename_i hj
        have hjz : j < zs.length := by omega
        rw [List.getElem?_eq_getElem hjz] at hu
        simp at hu
        have h1 := hc j hjz
        refine ⟨x, rfl, ?_, ?_⟩
        · have := World.block_lt_of_cell? w _ h1
          rwa [add_block] at this
        · rw [h1, ← hu]
          simp [List.getElem?_eq_getElem hjz]
      · simp at hu
    · have h2 := hw z (List.mem_of_mem_take hz')
      simp [Lit.wf, IntKind.min, IntKind.max, IntKind.signed, IntKind.bits] at h2
      omega

end Go.Proofs.YtnokloedbckijaaDoor

/-
  Parameters that came in; from the row's condition (the variable starts reads as its initialiser lays it) to what the walks ask.
-/
namespace Go.Proofs.YtnokloedbckijaaDoor
open Go.RowKit
open Go.ChangeShapes Go.WideShapes
set_option linter.unusedVariables false
set_option maxRecDepth 20000

theorem i64_wf {n : Int} (h : (Lit.int .i64 n).wf = true) : I64 n := by
  simp [Lit.wf, IntKind.min, IntKind.max, IntKind.signed, IntKind.bits] at h
  exact ⟨by omega, by omega⟩
/-- Three ints that came in as a struct. -/
theorem open_int3 {H : Type} {enc : TypeId × Value → H} {P : Program} {w : World} {base b0 : Nat} {spare : Nat → Bool} {held : Bool} {r : Reach} {t : TypeId} {f0 f1 f2 : Field} {v : Value} {d : DataW H} {p : List MemPlace}
    (hs : P.underlying t = some (.struct #[f0, f1, f2])) (hone : Go.Deep.oneCellFields P #[f0, f1, f2] = true) (hC : P.cellsOf t = 3)
    (h0 : P.underlying f0.type = some (.int .i64)) (h1 : P.underlying f1.type = some (.int .i64)) (h2 : P.underlying f2.type = some (.int .i64))
    (hv : Value.okWide P w r b0 t v) (h : DataW.Trod enc P w base spare held t v d p) : ∃ a b c : Int, v = .agg #[.int .i64 a, .int .i64 b, .int .i64 c] ∧ I64 a ∧ I64 b ∧ I64 c := by
  obtain ⟨v0, v1, v2, y0, y1, y2, n, rfl, _, _, k0, k1, k2⟩ := Go.Joins.open_agg3 hs hone hC hv h
  obtain ⟨a, e0, _, w0⟩ := DataW.trod_int h0 k0
  obtain ⟨b, e1, _, w1⟩ := DataW.trod_int h1 k1
  obtain ⟨c, e2, _, w2⟩ := DataW.trod_int h2 k2
  obtain rfl : v0 = .int .i64 a := by simpa using e0
  obtain rfl : v1 = .int .i64 b := by simpa using e1
  obtain rfl : v2 = .int .i64 c := by simpa using e2
  exact ⟨a, b, c, rfl, i64_wf w0, i64_wf w1, i64_wf w2⟩
theorem gStarts : Tryd.prog.globalNamed "lighterage/roll.starts" = some 0 := by kernel_rfl
theorem tStarts : (Tryd.prog.globals[0]?).map (·.type) = some 162 := by kernel_rfl
theorem starts_tab : (Rows.laid_lighterage_roll_starts : DataW Unit) = Lib.tabData .u32 (starts16.map fun n : Nat => (n : Int)) := rfl
theorem starts_of_laid {W : World} (h : laidMetH Tryd.prog [("lighterage/roll.starts", Rows.laid_lighterage_roll_starts)] W) : Starts W := by
  rw [MakeChecks.laidMetH_plain _ _ _ (by kernel_rfl), starts_tab] at h
  have ht := Lib.tabIs_of_head gStarts tStarts Tryd.underlying162 Tryd.underlying93 (by kernel_rfl) (by kernel_rfl) h
  intro j u hu
  have hj : j < starts16.length := by have := (List.getElem?_eq_some_iff.1 hu).1; simpa using this
  have := ht.cell gStarts j (by simpa using hj)
  rw [Nat.zero_add, this, ← hu, List.getElem?_map, List.getElem?_eq_getElem hj, List.getD_eq_getElem?_getD, List.getElem?_map, List.getElem?_eq_getElem hj]
  rfl
end Go.Proofs.YtnokloedbckijaaDoor

/-
  Contracts of the reference's Power, First, Chunks.
-/
namespace Go.Proofs.YtnokloedbckijaaDoor
open Go.RowKit
set_option linter.unusedVariables false
set_option maxRecDepth 20000

theorem slc_size : (Tryd.prog.info? 22).map (·.size) = some 1 := by kernel_rfl
theorem Each.take_ {ok : Nat → Prop} {w : World} {es : List Value} {l : List (List UInt8)} (h : Each ok w es l) (k : Nat) : Each ok w (es.take k) (l.take k) := by
  refine ⟨by rw [List.length_take, List.length_take, h.1], fun i x hx => ?_⟩
  have hi := (List.getElem?_eq_some_iff.1 hx).1
  rw [List.length_take] at hi
  rw [List.getElem?_take_of_lt (by omega)] at hx ⊢
  exact h.2 i x hx
theorem pow_step {j n : Nat} (h1 : 2 ^ j ≤ n) (h2 : n < 2 * 2 ^ j) : powOf n = 2 ^ j := by
  unfold powOf
  rw [(Nat.log2_eq_iff (by have := Nat.two_pow_pos j; omega)).2 ⟨h1, by rw [Nat.pow_succ]; omega⟩]
theorem rpower_any (n : Nat) (w : World) (h1 : 1 ≤ n) (h2 : n ≤ 1000000) :
    Calls Tryd.prog 69 #[.int .i64 (n : Int)] w fun e w' => e = .returned (.int .i64 (powOf n : Int)) ∧ w = w' := by
  go_enter Tryd.func69, Tryd.ntmps69
  go_wp2
  go_loop [3] (fun v => ∃ k j : Nat, v = .int .i64 (k : Int) ∧ k ≤ n ∧ 1 ≤ k ∧ Hid (k = 2 ^ j)) (fun v => n + 1 - (intOf v).toNat)
  case atStart => exact ⟨1, 0, rfl, h1, Nat.le_refl _, rfl⟩
  case round =>
    obtain ⟨k, j, rfl, hk, hk1, HJ⟩ := hrel
    have hw : IntKind.i64.wrap (2 * (k : Int)) = 2 * (k : Int) := IntWalk.i64_in _ (by omega)
    by_cases hlt : 2 * k ≤ n
    · have e1 : decide (2 * (k : Int) ≤ (n : Int)) = true := by simp; omega
      go_wp2
      go_round
      case rel => exact ⟨2 * k, j + 1, by go_num, hlt, by omega, by show _ = _; rw [Nat.pow_succ, HJ.out, Nat.mul_comm]⟩
      case measure => simp [intOf]; omega
    · have e1 : decide (2 * (k : Int) ≤ (n : Int)) = false := by simp; omega
      have hp : powOf n = k := by rw [HJ.out]; exact pow_step (by rw [← HJ.out]; exact hk) (by rw [← HJ.out]; omega)
      go_wp2
      go_ret
      exact ⟨rfl, rfl⟩

theorem scan_end (p : Prm) (b : List UInt8) (h : ∀ j, 1 ≤ j → j < b.length → cutAt p (b.take j) = false) : (scan p [] b).1 = b.length := by
  rcases Nat.eq_zero_or_pos b.length with h0 | h0
  · obtain rfl := List.eq_nil_of_length_eq_zero h0; rfl
  · cases hc : cutAt p b with
    | true => rw [scan_find p b [] b.length h0 (Nat.le_refl _) (fun j h1 h2 => h j h1 h2) (by rw [List.take_length]; exact hc)]
    | false =>
      rw [scan_none p b [] (fun j h1 h2 => by
        rcases Nat.lt_or_ge j b.length with h3 | h3
        · exact h j h1 h3
        · rw [List.take_of_length_le h3]; exact hc)]

set_option maxRecDepth 20000 in
set_option maxHeartbeats 1000000 in
theorem rfirst_any (p : Prm) (hp : p.Ok) (A : Option Addr) (cA : Nat) (B : Option Addr) (n c : Nat) (bs : List UInt8) (w : World) (hA : Lies w w.heap.size A ((wordList 256).map uv)) (hl : bs.length = n) (hnc : n ≤ c) (hr : Lies w w.heap.size B (bs.map bv)) (hn : n ≤ 1000000) :
    Calls Tryd.prog 46 #[.slice A 256 cA, .slice B n c, pv p] w fun e w' => e = .returned (.int .i64 ((scan p [] bs).1 : Int)) ∧ Grows w w' := by
  have hN := Has.new w 24 [.int .i64 (p.mn : Int), .int .i64 (p.av : Int), .int .i64 (p.mx : Int)]
  have hg := grows_alloc w (.cells [.int .i64 (p.mn : Int), .int .i64 (p.av : Int), .int .i64 (p.mx : Int)].toArray 24)
  have P0 := hN.cell (k := 0) rfl
  have P1 := hN.cell (k := 1) rfl
  have P2 := hN.cell (k := 2) rfl
  have h1 := hp.mn; have h2 := hp.av; have h3 := hp.mx; have h4 := hp.top
  have PW := Lib.hid (fun u => rpower_any p.av u (by omega) (by omega))
  have hpw : powOf p.av ≤ 4096 := by have := powOf_le (n := p.av) (by omega); omega
  have hpp := powOf_pos p.av
  have OV : Hid (∀ k, k ≤ n → Calls Tryd.prog 70 #[.slice A 256 cA, .slice B k c] (w.alloc (.cells [.int .i64 (p.mn : Int), .int .i64 (p.av : Int), .int .i64 (p.mx : Int)].toArray 24)) fun e w' => e = .returned (uv (hashOf (bs.take k))) ∧ _ = w') := fun k hk =>
    rover_any A cA B k c (bs.take k) _ (hA.later hg) (by rw [List.length_take]; omega) (by rw [List.map_take]; exact (hr.later hg).take k) (by omega)
  have HL := Lib.hid hl
  have HFEW := Lib.hid (fun (l : List UInt8) => cut_few hp (l := l))
  have HAT : Hid (∀ k, k ≤ n → cutAt p (bs.take k) = (decide (k = p.mx) || (decide (p.mn ≤ k) && decide (hashOf (bs.take k) % powOf p.av = 0)))) := fun k hk => by
    unfold cutAt
    rw [List.length_take, hl, Nat.min_eq_left hk]; rfl
  have hpv : pv p = .agg #[.int .i64 p.mn, .int .i64 p.av, .int .i64 p.mx] := rfl
  clear hA hl hr
  rw [hpv]
  change Calls _ _ _ _ _
  go_enter Tryd.func46, Tryd.ntmps46
  go_wp2_with fail
  refine (PW.out _).mono ?_
  rintro e w' ⟨rfl, rfl⟩
  have hw32 : (powOf p.av : Int) % 4294967296 = (powOf p.av : Int) := by omega
  generalize powOf p.av = q at *
  go_wp2_with fail
  generalize w.alloc (.cells #[.int .i64 (p.mn : Int), .int .i64 (p.av : Int), .int .i64 (p.mx : Int)] 24) = w1 at *
  go_loop [8] (fun i => ∃ k : Nat, i = .int .i64 (k : Int) ∧ p.mn ≤ k ∧ k ≤ n + 4096 ∧ Hid (∀ j, 1 ≤ j → j < k → j < n → cutAt p (bs.take j) = false)) (fun i => n + 4097 - (intOf i).toNat)
  case atStart => exact ⟨p.mn, rfl, Nat.le_refl _, by omega, fun j hj1 hj2 hj3 => HFEW.out _ (by rw [List.length_take]; omega)⟩
  case round =>
    obtain ⟨k, rfl, hmk, hkn, HNO⟩ := hrel
    by_cases hlt : k < n
    · have hki : (k : Int) < (n : Int) := by omega
      have hat := HAT.out k (by omega)
      have OK := Lib.hid (OV.out k (by omega))
      have hhl := hashOf_lt (bs.take k)
      have hw64 : IntKind.i64.wrap ((k : Int) + 1) = (k : Int) + 1 := IntWalk.i64_in _ (by omega)
      have hct : ∀ u : World, (Instr.sliceAt 22 (.slice B n c) none (some (.int .i64 (k : Int))) none).run Tryd.prog u = .ok (.slice B k c) u := fun u => run_cutK_to (P := Tryd.prog) Tryd.underlying22 byte_size B n c k .i64 (by omega) u
      have HSC : Hid (cutAt p (bs.take k) = true → (scan p [] bs).1 = k) := fun h => by rw [scan_find p bs [] k (by omega) (by rw [HL.out]; omega) (fun j hj1 hj2 => by rw [List.nil_append]; exact HNO.out j hj1 hj2 (by omega)) (by rw [List.nil_append]; exact h)]
      have HCT := Lib.hid (show cutAt p (bs.take k) = cutAt p (bs.take k) from rfl)
      obtain ⟨cc, hcc⟩ : ∃ cc, cc = cutAt p (bs.take k) := ⟨_, rfl⟩
      rw [← hcc] at hat HSC
      have HCC := Lib.hid hcc
      clear hcc HCT
      by_cases hA : k = p.mx
      · have e1 : ((k : Int) == (p.mx : Int)) = true := by simp; omega
        have hcut : cc = true := by rw [hat]; simp [hA]
        have hsc := Lib.hid (HSC.out hcut)
        clear hat
        go_wp2_with fail
        go_ret
        exact ⟨congrArg (fun q : Nat => Ending.returned (.int .i64 (q : Int))) (hA.symm.trans hsc.out.symm), hg⟩
      · have e1 : ((k : Int) == (p.mx : Int)) = false := by simp; omega
        generalize hashOf (bs.take k) = h at *
        have hmd : ((h : Int) % (q : Int)) = ((h % q : Nat) : Int) := by omega
        have htd : ((h : Int).tmod (q : Int)) = ((h % q : Nat) : Int) := by rw [Int.tmod_eq_emod_of_nonneg (by omega)]; omega
        have hq0 : (q : Int) ≠ 0 := by omega
        have hq0' : ((q : Int) == 0) = false := by simp; omega
        by_cases hC : h % q = 0
        · have hcut : cc = true := by rw [hat]; simp [hC, hmk]
          have hsc := Lib.hid (HSC.out hcut)
          have e3 : (((h % q : Nat) : Int) == 0) = true := by rw [hC]; rfl
          clear hat hC
          generalize h % q = r at *
          go_wp2_with fail
          refine OK.out.mono ?_
          rintro e w' ⟨rfl, rfl⟩
          go_wp2_with fail
          go_ret
          exact ⟨congrArg (fun q : Nat => Ending.returned (.int .i64 (q : Int))) hsc.out.symm, hg⟩
        · have hcut : cc = false := by rw [hat]; simp [hA, hC]
          have e3 : (((h % q : Nat) : Int) == 0) = false := by simp; omega
          clear hat hC
          generalize h % q = r at *
          go_wp2_with fail
          refine OK.out.mono ?_
          rintro e w' ⟨rfl, rfl⟩
          go_wp2_with fail
          go_round
          case rel => exact ⟨k + 1, by go_num, by omega, by omega, fun j hj1 hj2 hj3 => by
            rcases Nat.lt_or_ge j k with h | h
            · exact HNO.out j hj1 h hj3
            · obtain rfl : j = k := by omega
              rw [← HCC.out]; exact hcut⟩
          case measure => simp [intOf]; omega
    · have d1 : decide ((k : Int) < (n : Int)) = false := by simp; omega
      have hsc : Hid ((scan p [] bs).1 = n) := by
        show _ = _
        rw [scan_end p bs (fun j hj1 hj2 => HNO.out j hj1 (by rw [HL.out] at hj2; omega) (by rw [HL.out] at hj2; exact hj2)), HL.out]
      go_wp2_with fail
      go_ret
      exact ⟨congrArg (fun q : Nat => Ending.returned (.int .i64 (q : Int))) hsc.out.symm, hg⟩

set_option maxRecDepth 20000 in
set_option maxHeartbeats 1000000 in
theorem rchunks_any (p : Prm) (hp : p.Ok) (A : Option Addr) (n c : Nat) (bs : List UInt8) (w : World) (hl : bs.length = n) (hnc : n ≤ c) (hr : Lies w w.heap.size A (bs.map bv)) (hn : n ≤ 1000000) :
    Calls Tryd.prog 13 #[.slice A n c, pv p] w fun e w' => ∃ v es, e = .returned v ∧ w'.ownsRow w.heap.size 22 1 v (chunksOf p bs).length es ∧ Each (fun k => k < w.heap.size) w' es (chunksOf p bs) ∧ Grows w w' := by
  have hN := Has.new w 24 [.int .i64 (p.mn : Int), .int .i64 (p.av : Int), .int .i64 (p.mx : Int)]
  have hg := grows_alloc w (.cells [.int .i64 (p.mn : Int), .int .i64 (p.av : Int), .int .i64 (p.mx : Int)].toArray 24)
  have RW := Lib.hid (rwords_any (w.alloc (.cells [.int .i64 (p.mn : Int), .int .i64 (p.av : Int), .int .i64 (p.mx : Int)].toArray 24)))
  have FI := Lib.hid (fun A1 cA B n c bs u h1 h2 h3 h4 h5 => rfirst_any p hp A1 cA B n c bs u h1 h2 h3 h4 h5)
  have hpv : pv p = .agg #[.int .i64 p.mn, .int .i64 p.av, .int .i64 p.mx] := rfl
  rw [hpv] at *
  go_enter Tryd.func13, Tryd.ntmps13
  go_wp2_with fail
  refine RW.out.mono ?_
  rintro e w1 ⟨A1, cA, rfl, hW1, hg1⟩
  have hN1 := hN.later hg1
  have hgw1 := Grows.trans hg hg1
  have hr1 : LiesIn (fun k => k < w.heap.size) w1 A (bs.map bv) := (LiesIn.of_lies hr (fun _ h => h)).later hgw1
  have hcl := chunks_len p bs
  obtain ⟨i0, hi0, hz0, hz1, hz2⟩ := info_parts slc_info
  clear RW hg hN hg1
  go_wp2_with fail
  go_loopw [0, 6] (fun rv lv wr => ∃ (A' : Option Addr) (n' c' : Nat) (rest : List UInt8) (T : List (List UInt8)) (es : List Value), rv = .slice A' n' c' ∧ rest.length = n' ∧ n' ≤ c' ∧ n' ≤ 1000000 ∧ LiesIn (fun k => k < w.heap.size) wr A' (rest.map bv) ∧
    Hid (chunksOf p bs = T ++ chunksOf p rest) ∧ wr.ownsRow w1.heap.size 22 1 lv T.length es ∧ Each (fun k => k < w.heap.size) wr es T ∧ Grows w1 wr) (fun rv _ _ => slen rv)
  case atStart => exact ⟨A, n, c, bs, [], [], rfl, hl, hnc, hn, hr1, rfl, World.ownsRow_nil _ _ _ _, Each.nil _ _, Grows.refl _⟩
  case round =>
    obtain ⟨A', n', c', rest, T, es, rfl, hl', hnc', hn', hr', HC, hown, heach, hgr⟩ := hrel
    obtain ⟨A5, c5, rfl, hc5⟩ := own_form hown
    by_cases hrest : rest = []
    · subst hrest
      obtain rfl : n' = 0 := by simpa using hl'.symm
      have HC' := HC.out
      rw [chunksOf_nil, List.append_nil] at HC'
      have HC' := Lib.hid HC'
      clear HC
      go_wp2_with fail
      go_ret
      exact ⟨_, es, rfl, by rw [HC'.out]; exact own_base hown hgw1.size, by rw [HC'.out]; exact heach, Grows.trans hgw1 hgr⟩
    · have hpos : 0 < n' := by rw [← hl']; exact List.length_pos_iff.2 hrest
      have d1 : decide ((n' : Int) > 0) = true := by simp; omega
      have hNr := hN1.later hgr
      have P0 := hNr.cell (k := 0) rfl
      have P1 := hNr.cell (k := 1) rfl
      have P2 := hNr.cell (k := 2) rfl
      have hgw := Grows.trans hgw1 hgr
      have hsz := hgw.size
      have FR := Lib.hid (FI.out A1 cA A' n' c' rest wr (hW1.later hgr) hl' hnc' (hr'.lies (fun k hk => by omega)) hn')
      have hk1 := scan_pos p [] hrest
      have hk2 := scan_le p rest []
      have HCC := chunksOf_cons p hrest
      have hTl : T.length ≤ 1000000 := by
        have := congrArg List.length HC.out
        rw [List.length_append] at this
        omega
      generalize (scan p [] rest).1 = k at *
      have HCC := Lib.hid HCC
      have HLL := Lib.hid hl'
      have hkn : k ≤ n' := by rw [← hl']; exact hk2
      have hkl : (rest.take k).length = k := by rw [List.length_take, hl', Nat.min_eq_left hkn]
      have hc1 := fun u => run_cutK_to (P := Tryd.prog) (t := 22) (e := 5) Tryd.underlying22 byte_size A' n' c' k .i64 (by omega) u
      have hc2 := fun u => run_cutK_from (P := Tryd.prog) (t := 22) (e := 5) Tryd.underlying22 byte_size A' n' c' k .i64 hkn hnc' u
      have HKL := Lib.hid hkl
      clear hk2 hl' hkl
      go_wp2_with fail
      refine FR.out.mono ?_
      rintro e w2 ⟨rfl, hg2⟩
      have hown2 := own_later hown hg2
      have heach2 := heach.later hg2
      have hgr2 := Grows.trans hgr hg2
      have hr2 := hr'.later hg2
      have hsz2 : w.heap.size ≤ w2.heap.size := Nat.le_trans hsz hg2.size
      have hL := (Lies.new w2 22 [.slice A' k c']).mono (B' := (w2.alloc (.cells #[.slice A' k c'] 22)).heap.size) (by simp)
      go_wp2_with (at_builtin; refine wpList_append_src _ rfl (.tmp 16) (.tmp 20) _ rfl w1.heap.size 22 i0 _ 24 Tryd.underlying27 hi0 hz0 hz1 hz2 rfl _ T.length es rfl (hown2.alloc _) _ (some ⟨w2.heap.size, 0, none⟩) 1 1 [.slice A' k c'] rfl rfl hL (by simp [Value.oneCell']) (by unfold maxLen; omega) (by omega) (by rw [World.size_alloc]; have := hgr2.size; omega) ?_; intro v4 w4 hown4 hg4 hat4)
      have hg5 : Grows w1 w4 := Below.grown (Grows.trans hgr2 (grows_alloc w2 _)) hg4 (by rw [World.size_alloc]; have := hgr2.size; omega) (own_ge hown2)
      have ht4 : Turns (fun k => w1.heap.size ≤ k) w2 w4 := (Turns.of_grows (grows_alloc w2 _)).trans (Turns.of_by hg4 fun g e _ => own_ge hown2 g e)
      have hno : ∀ q, q < w.heap.size → ¬ w1.heap.size ≤ q := fun q hq h => by have := hgw1.size; omega
      have hr4 := hr2.turned ht4 hno
      have he4 := heach2.turned ht4 hno
      have he5 := he4.snoc (A := A') (c := c') (x := rest.take k) (by rw [HKL.out]; omega) (by rw [List.map_take]; exact hr4.take k)
      rw [HKL.out] at he5
      exact ⟨⟨cutA A' c' k 1, n' - k, c' - k, rest.drop k, T ++ [rest.take k], _, rfl, by rw [List.length_drop, HLL.out], by omega, by omega, by rw [List.map_drop]; exact hr4.cutA (by rw [List.length_map, HLL.out]; exact hnc'), by show _ = _; rw [HC.out, HCC.out]; simp, by rw [List.length_append, List.length_singleton]; exact hown4, he5, hg5⟩, by simp only [slen]; omega⟩
end Go.Proofs.YtnokloedbckijaaDoor

/-
  The rule of Ord inside a round of a loop over an iterator (of no program).
-/
namespace Go.Proofs.YtnokloedbckijaaDoor
open Go.RowKit
set_option linter.unusedVariables false
set_option maxRecDepth 20000
section
variable {P : Program} {ops : Array Oper} {Q : Exit → Act → World → Prop} {md : Region.Mode}

/-- No operation defers. -/
def plainOp : Op → Bool
  | .defer _ => false
  | _ => true
theorem wpOp_round {l i : Nat} {K K' : Act → World → Prop} {a : Act} {w : World} (hd : ∀ o, ops[i]? = some o → plainOp o.op = true) (hno : ¬ LetsOut Q) (hK : ∀ a w, K a w → K' a w) (h : wpOp P ops Q i K a w) :
    wpOpIn (Fence.wide.inRound l) 0 P ops Q i K' a w := by
  unfold wpOp at h
  unfold wpOpIn
  cases ho : ops[i]? with
  | none => simp only [ho] at h ⊢; exact hK _ _ h
  | some o =>
    simp only [ho] at h ⊢
    by_cases hw : Region.wanted o (yielded ops a.tmps) = true
    · rw [if_pos hw] at h ⊢
      rcases h with h | ⟨_, h⟩
      · refine ⟨fun _ _ => trivial, ?_⟩
        rw [Oper.semAt_eq _ _ _ (fun c e => by have := hd o ho; rw [e] at this; cases this)]
        unfold Oper.wp at h
        generalize (execOp a.eval o).run P w = r at *
        cases r with
        | ok x w' =>
          cases x with
          | value v => exact hK _ _ h
          | skip => exact hK _ _ h
          | defer d => exact hK _ _ h
          | enter f args =>
            refine ⟨fun e => by simp [Fence.wide] at e, CallsIn.inRound l (callsIn_wide.2 (Calls.mono (h : Calls P f args w' _) ?_))⟩
            intro e w'' he
            cases e with
            | returned v => exact hK _ _ he
            | panicked c => exact he
            | outgrown => exact he
          | row r args => exact ⟨fun e => by simp [Fence.wide] at e, fun c cs _ => let ⟨v, w2, r2, s2⟩ := (h : Rows P r args w' _) c cs; ⟨v, w2, hK _ _ r2, stepsIn_wide.2 s2⟩⟩
          | _ => exact (h : False).elim
        | halt x w' => cases x <;> exact h
      · exact absurd h hno
    · rw [if_neg hw] at h ⊢
      exact ⟨fun _ _ => trivial, hK _ _ h⟩
theorem wpAny_round {l : Nat} (hd : ∀ (i : Nat) o, ops[i]? = some o → plainOp o.op = true) (hno : ¬ LetsOut Q) : ∀ (g : Nat) (listed : Array Bool) (a : Act) (w : World), wpAny P md ops Q g listed a w → wpAnyIn (Fence.wide.inRound l) 0 P md ops Q g listed a w
  | 0, _, _, _, h => h
  | g + 1, listed, a, w, h => ⟨h.1, fun i hi => wpOp_round (hd i) hno (fun a w => wpAny_round hd hno g _ a w) (h.2 i hi)⟩

/-- THE RULE, in a round. -/
theorem wpIn_region_ord {lp id : Nat} {a : Act} {w : World} {l : List Oper} (n : Nat) (s : List (Nat × Bool)) (hm : P.follows .mixedOrders = true) (hB : (ordWholeB l.toArray n s && l.all fun o => plainOp o.op) = true) (hno : ∀ a w, ¬ Q .outgrown a w)
    (h : wpOrd P l.toArray (NoPanic Q) (fun a' u => wpList P l.toArray (NoPanic Q) (l.drop n) a' u) s a w.drew) : (Code.region id l.toArray true).wpIn (Fence.wide.inRound lp) 0 P Q a w := by
  rw [Bool.and_eq_true] at hB
  obtain ⟨hB, hpl⟩ := hB
  simp only [ordWholeB, Bool.and_eq_true, decide_eq_true_eq, Bool.or_eq_true, beq_iff_eq] at hB
  obtain ⟨⟨⟨⟨hsel, hn⟩, hc⟩, hl⟩, hord⟩ := hB
  have hdl : (l.drop n).length = l.toArray.size - n := by simp
  have inv0 : HeadInv .any l.toArray n (Array.replicate l.toArray.size false) :=
    ⟨by simp, fun j oj _ hl => (by rw [getD_replicate_false] at hl; cases hl), fun t _ ht => getD_in (by simpa using ht) (getD_replicate_false _ _)⟩
  have hwait : ∀ i, i < n → ∀ listed, HeadInv .any l.toArray n listed → listed.getD i true = false → ∀ j ∈ Region.ready .any l.toArray listed, j < n := fun i hi listed inv hun j hj => by
    rcases hc with hc | ⟨hs, hch⟩
    · obtain ⟨_, oj, hoj, _⟩ := mem_ready.1 hj
      have := (Array.getElem?_eq_some_iff.1 hoj).1
      omega
    · rcases Nat.lt_or_ge j n with h | h
      · exact h
      · have hjs : j < l.toArray.size := by
          obtain ⟨_, oj, hoj, _⟩ := mem_ready.1 hj
          exact (Array.getElem?_eq_some_iff.1 hoj).1
        exact absurd hj (tail_waits hs hch (by omega) inv _ i rfl hi hun j h)
  refine wpIn_mono (Q := NoPanic Q) (wpIn_region_any hm (wpAny_round (fun i o ho => ?_) (fun h => ?_) _ _ _ _ ?_)) NoPanic.imp
  · have : o ∈ l := by
      have := Array.mem_of_getElem? ho
      simpa using this
    exact List.all_eq_true.1 hpl o this
  · obtain ⟨a1, w1, h⟩ := h; exact hno a1 w1 h
  have H := wpAnyU_of_ord (md := .any) (g := l.toArray.size - n) (Q := NoPanic Q) hsel (fun c a d v w h => h) hwait s _ a w.drew inv0 hord h
  have := wpAny_of_U (Q := NoPanic Q) (g := l.toArray.size - n) (fun listed a' w' hL => by
    have := wpAny_of_seq (md := .any) (Q' := NoPanic Q) (l.drop n) n listed a' w' (fun j => by simp [List.getElem?_drop]) (by rw [hdl]; exact hL.1) (hL.2 w' (Grows.refl _))
    rwa [hdl] at this) _ _ _ _ H
  rw [hl, show n + (l.toArray.size - n) = l.toArray.size by omega] at this
  exact this
/-- A value built of parts, as one operation of a region that draws its order. -/
theorem ord_build {l : List Oper} {E : Act → World → Prop} {w0 w : World} {i : Nat} {s : List (Nat × Bool)} {a : Act} (h0 : Grows w0 w) (o : Oper) (v : Value) (ho : l[i]? = some o)
    (hw : Region.wanted o (yielded l.toArray a.tmps) = true) (t : TypeId) (parts : Array (Nat × Operand)) (hop : o.op = .build t parts) (ps : Array (Nat × Value)) (hy : ∀ u, (Instr.build t ps).run P u = .ok v u) (hp : (parts.map fun (i, x) => (i, a.eval x)) = ps)
    (h : wpOrd P l.toArray Q E s (a.put o.dst v) w) : wpOrd P l.toArray Q E ((i, true) :: s) a w :=
  ord_take h0 o v ho hw (fun u hu _ => by
    unfold execOp
    simp only [hop, hp, Sem.run_bind, hy u, Result.andThen_ok, Sem.run_pure]) h
/-- A slice built of parts. -/
theorem ord_bslice {l : List Oper} {E : Act → World → Prop} {w : World} {i : Nat} {s : List (Nat × Bool)} {a : Act} (o : Oper) (ho : l[i]? = some o)
    (hw : Region.wanted o (yielded l.toArray a.tmps) = true) (t : TypeId) (len : Nat) (parts : Array (Nat × Operand)) (hop : o.op = .buildSlice t len parts) (ps : Array (Nat × Value)) (cs : List Value) (e : TypeId)
    (hy : ∀ u, (Instr.buildSlice t len ps).run P u = .ok (.slice (some ⟨u.heap.size, 0, none⟩) len len) (u.alloc (.cells cs.toArray e))) (hp : (parts.map fun (i, x) => (i, a.eval x)) = ps)
    (h : ∀ u, Grows w u → wpOrd P l.toArray Q E s (a.put o.dst (.slice (some ⟨u.heap.size, 0, none⟩) len len)) (u.alloc (.cells cs.toArray e))) : wpOrd P l.toArray Q E ((i, false) :: s) a w :=
  ord_move o ho hw (fun u hu K hK => by
    unfold Oper.wp execOp
    simp only [hop, hp, Sem.run_bind, hy u, Result.andThen_ok, Sem.run_pure]
    exact hK.out _ _ ((Grows.refl u).alloc (Nat.le_refl _) _) (h u hu))
theorem wpList_build_as {w : World} {rest : List Oper} {o : Oper} {a : Act} (hgd : o.guard = none) (t : TypeId) (parts : Array (Nat × Operand)) (hop : o.op = .build t parts) (ps : Array (Nat × Value))
    (v : Value) (hy : ∀ u, (Instr.build t ps).run P u = .ok v u) (hp : (parts.map fun (i, x) => (i, a.eval x)) = ps) (h : wpList P ops Q rest (a.put o.dst v) w) : wpList P ops Q (o :: rest) a w := by
  refine wpList_plain hgd fun K hK => ?_
  unfold Oper.wp execOp
  simp only [hop, hp, Sem.run_bind, hy w, Result.andThen_ok, Sem.run_pure]
  exact hK _ _ h
theorem wpList_bslice {w : World} {rest : List Oper} {o : Oper} {a : Act} (hgd : o.guard = none) (t : TypeId) (len : Nat) (parts : Array (Nat × Operand)) (hop : o.op = .buildSlice t len parts) (ps : Array (Nat × Value)) (cs : List Value) (e : TypeId)
    (hy : ∀ u, (Instr.buildSlice t len ps).run P u = .ok (.slice (some ⟨u.heap.size, 0, none⟩) len len) (u.alloc (.cells cs.toArray e))) (hp : (parts.map fun (i, x) => (i, a.eval x)) = ps)
    (h : wpList P ops Q rest (a.put o.dst (.slice (some ⟨w.heap.size, 0, none⟩) len len)) (w.alloc (.cells cs.toArray e))) : wpList P ops Q (o :: rest) a w := by
  refine wpList_plain hgd fun K hK => ?_
  unfold Oper.wp execOp
  simp only [hop, hp, Sem.run_bind, hy w, Result.andThen_ok, Sem.run_pure]
  exact hK _ _ h
end
end Go.Proofs.YtnokloedbckijaaDoor

/-
  SHA-256 as functions of lists and numbers (of no program), and what the walks ask of them.
-/
namespace Go.Proofs.YtnokloedbckijaaDoor
set_option linter.unusedVariables false

/-- x turned round to the right by n. -/
def ror (n x : Nat) : Nat := x / 2 ^ n + x % 2 ^ n * 2 ^ (32 - n)
def bigE (e : Nat) : Nat := ror 6 e ^^^ ror 11 e ^^^ ror 25 e
def bigA (a : Nat) : Nat := ror 2 a ^^^ ror 13 a ^^^ ror 22 a
def choose (e f g : Nat) : Nat := (e &&& f) ^^^ ((4294967295 - e) &&& g)
def most (a b c : Nat) : Nat := (a &&& b) ^^^ (a &&& c) ^^^ (b &&& c)
def smallX (x : Nat) : Nat := ror 7 x ^^^ ror 18 x ^^^ x / 8
def smallY (y : Nat) : Nat := ror 17 y ^^^ ror 19 y ^^^ y / 1024

structure V8 where
  (a b c d e f g h : Nat)
def V8.list (v : V8) : List Nat := [v.a, v.b, v.c, v.d, v.e, v.f, v.g, v.h]
structure V8.Ok (v : V8) : Prop where
  a : v.a < 4294967296
  b : v.b < 4294967296
  c : v.c < 4294967296
  d : v.d < 4294967296
  e : v.e < 4294967296
  f : v.f < 4294967296
  g : v.g < 4294967296
  h : v.h < 4294967296
def tee (v : V8) (k w : Nat) : Nat := ((((v.h + bigE v.e) % 4294967296 + choose v.e v.f v.g) % 4294967296 + k) % 4294967296 + w) % 4294967296
def you (v : V8) : Nat := (bigA v.a + most v.a v.b v.c) % 4294967296
def rnd (v : V8) (k w : Nat) : V8 := ⟨(tee v k w + you v) % 4294967296, v.a, v.b, v.c, (v.d + tee v k w) % 4294967296, v.e, v.f, v.g⟩
def rounds (ks ws : List Nat) : Nat → V8 → V8
  | 0, v => v
  | i + 1, v => rnd (rounds ks ws i v) (ks.getD i 0) (ws.getD i 0)
def add8 (x y : V8) : V8 := ⟨(x.a + y.a) % 4294967296, (x.b + y.b) % 4294967296, (x.c + y.c) % 4294967296, (x.d + y.d) % 4294967296, (x.e + y.e) % 4294967296, (x.f + y.f) % 4294967296, (x.g + y.g) % 4294967296, (x.h + y.h) % 4294967296⟩

/-- Four bytes' word. -/
def wordAt (l : List UInt8) (i : Nat) : Nat := (l.getD i 0).toNat * 16777216 + (l.getD (i + 1) 0).toNat * 65536 + (l.getD (i + 2) 0).toNat * 256 + (l.getD (i + 3) 0).toNat
theorem wordAt_lt (l : List UInt8) (i : Nat) : wordAt l i < 4294967296 := by
  unfold wordAt
  have := (l.getD i 0).toNat_lt
  have := (l.getD (i + 1) 0).toNat_lt
  have := (l.getD (i + 2) 0).toNat_lt
  have := (l.getD (i + 3) 0).toNat_lt
  omega
def nextW (ws : List Nat) (i : Nat) : Nat := (((ws.getD (i - 16) 0 + smallX (ws.getD (i - 15) 0)) % 4294967296 + ws.getD (i - 7) 0) % 4294967296 + smallY (ws.getD (i - 2) 0)) % 4294967296
def spreadTo (blk : List UInt8) : Nat → List Nat
  | 0 => []
  | i + 1 => spreadTo blk i ++ [if i < 16 then wordAt blk (4 * i) else nextW (spreadTo blk i) i]
def spreadL (blk : List UInt8) : List Nat := spreadTo blk 64

theorem spreadTo_len (blk : List UInt8) : ∀ i, (spreadTo blk i).length = i
  | 0 => rfl
  | i + 1 => by simp [spreadTo, spreadTo_len blk i]
theorem spreadTo_take (blk : List UInt8) : ∀ n i, i ≤ n → (spreadTo blk n).take i = spreadTo blk i
  | 0, i, h => by
    obtain rfl : i = 0 := by omega
    rfl
  | n + 1, i, h => by
    by_cases hi : i = n + 1
    · subst hi
      exact List.take_of_length_le (by rw [spreadTo_len]; omega)
    · rw [spreadTo, List.take_append_of_le_length (by rw [spreadTo_len]; omega)]
      exact spreadTo_take blk n i (by omega)
theorem spreadL_len (blk : List UInt8) : (spreadL blk).length = 64 := spreadTo_len blk 64
theorem spreadL_take (blk : List UInt8) (i : Nat) (h : i ≤ 64) : (spreadL blk).take i = spreadTo blk i := spreadTo_take blk 64 i h
theorem spreadTo_getD (blk : List UInt8) (i j : Nat) (hj : j < i) (hi : i ≤ 64) : (spreadTo blk i).getD j 0 = (spreadL blk).getD j 0 := by
  rw [← spreadL_take blk i hi]
  simp [hj]
theorem spreadL_at (blk : List UInt8) (i : Nat) (h : i < 64) : (spreadL blk)[i]? = some (if i < 16 then wordAt blk (4 * i) else nextW (spreadL blk) i) := by
  have h1 : (spreadTo blk (i + 1))[i]? = some (if i < 16 then wordAt blk (4 * i) else nextW (spreadTo blk i) i) := by
    rw [spreadTo, List.getElem?_append_right (by rw [spreadTo_len]; omega), spreadTo_len, Nat.sub_self]
    rfl
  rw [← spreadL_take blk (i + 1) (by omega), List.getElem?_take] at h1
  rw [if_pos (by omega)] at h1
  rw [h1]
  by_cases h16 : i < 16
  · rw [if_pos h16, if_pos h16]
  · rw [if_neg h16, if_neg h16]
    refine congrArg some ?_
    unfold nextW
    rw [spreadTo_getD blk i (i - 16) (by omega) (by omega), spreadTo_getD blk i (i - 15) (by omega) (by omega), spreadTo_getD blk i (i - 7) (by omega) (by omega), spreadTo_getD blk i (i - 2) (by omega) (by omega)]
theorem spreadL_lt (blk : List UInt8) : ∀ x ∈ spreadL blk, x < 4294967296 := by
  intro x hx
  obtain ⟨i, hi⟩ := List.getElem?_of_mem hx
  have hl : i < 64 := by
    have := (List.getElem?_eq_some_iff.1 hi).1
    rwa [spreadL_len] at this
  rw [spreadL_at blk i hl] at hi
  injection hi with hi
  rw [← hi]
  split
  · exact wordAt_lt _ _
  · exact Nat.mod_lt _ (by decide)

theorem getD_lt {l : List Nat} {m : Nat} (h : ∀ x ∈ l, x < m) (hm : 0 < m) (i : Nat) : l.getD i 0 < m := by
  rcases Nat.lt_or_ge i l.length with hi | hi
  · have : l.getD i 0 = l[i] := by simp [hi]
    rw [this]
    exact h _ (List.getElem_mem hi)
  · have : l.getD i 0 = 0 := by simp [hi]
    omega
theorem spreadTo_lt (blk : List UInt8) (k i : Nat) (hk : k ≤ 64) : (spreadTo blk k).getD i 0 < 4294967296 :=
  getD_lt (fun x hx => spreadL_lt blk x (by rw [← spreadL_take blk k hk] at hx; exact List.mem_of_mem_take hx)) (by decide) i

def roots64 : List Nat := [1116352408, 1899447441, 3049323471, 3921009573, 961987163, 1508970993, 2453635748, 2870763221,
  3624381080, 310598401, 607225278, 1426881987, 1925078388, 2162078206, 2614888103, 3248222580,
  3835390401, 4022224774, 264347078, 604807628, 770255983, 1249150122, 1555081692, 1996064986,
  2554220882, 2821834349, 2952996808, 3210313671, 3336571891, 3584528711, 113926993, 338241895,
  666307205, 773529912, 1294757372, 1396182291, 1695183700, 1986661051, 2177026350, 2456956037,
  2730485921, 2820302411, 3259730800, 3345764771, 3516065817, 3600352804, 4094571909, 275423344,
  430227734, 506948616, 659060556, 883997877, 958139571, 1322822218, 1537002063, 1747873779,
  1955562222, 2024104815, 2227730452, 2361852424, 2428436474, 2756734187, 3204031479, 3329325298]
theorem roots64_len : roots64.length = 64 := rfl
theorem roots64_lt : ∀ x ∈ roots64, x < 4294967296 := by decide
def start8 : V8 := ⟨1779033703, 3144134277, 1013904242, 2773480762, 1359893119, 2600822924, 528734635, 1541459225⟩
theorem start8_ok : start8.Ok := by constructor <;> decide

/-- What 64 bytes make of the words. -/
def mix (v : V8) (blk : List UInt8) : V8 := add8 v (rounds roots64 (spreadL blk) 64 v)

theorem rnd_ok {v : V8} (h : v.Ok) (k w : Nat) : (rnd v k w).Ok :=
  ⟨Nat.mod_lt _ (by decide), h.a, h.b, h.c, Nat.mod_lt _ (by decide), h.e, h.f, h.g⟩
theorem rounds_ok {v : V8} (h : v.Ok) (ks ws : List Nat) : ∀ i, (rounds ks ws i v).Ok
  | 0 => h
  | i + 1 => rnd_ok (rounds_ok h ks ws i) _ _
theorem add8_ok (x y : V8) : (add8 x y).Ok := by constructor <;> exact Nat.mod_lt _ (by decide)
theorem mix_ok (v : V8) (blk : List UInt8) : (mix v blk).Ok := add8_ok _ _

/-- The words behind the first k times 64 bytes. -/
def through (l : List UInt8) : Nat → V8
  | 0 => start8
  | k + 1 => mix (through l k) ((l.drop (64 * k)).take 64)
theorem through_ok (l : List UInt8) : ∀ k, (through l k).Ok
  | 0 => start8_ok
  | k + 1 => mix_ok _ _
theorem through_append (l r : List UInt8) : ∀ k, 64 * k ≤ l.length → through (l ++ r) k = through l k
  | 0, _ => rfl
  | k + 1, h => by
    rw [through, through, through_append l r k (by omega), List.drop_append_of_le_length (by omega), List.take_append_of_le_length (by rw [List.length_drop]; omega)]

/-- A number's eight bytes, the greatest part first. -/
def eight (n : Nat) : List UInt8 := [n / 72057594037927936, n / 281474976710656, n / 1099511627776, n / 4294967296, n / 16777216, n / 65536, n / 256, n].map fun x => UInt8.ofNat (x % 256)
/-- How many bytes 0 there are. -/
def gap (n : Nat) : Nat := (119 - n % 64) % 64
def padded (l : List UInt8) : List UInt8 := l ++ [128] ++ List.replicate (gap l.length) 0 ++ eight (8 * l.length)
theorem eight_len (n : Nat) : (eight n).length = 8 := rfl
theorem padded_len (l : List UInt8) : (padded l).length = l.length + 9 + gap l.length := by
  simp [padded, eight_len]; omega
theorem padded_mod (l : List UInt8) : (padded l).length % 64 = 0 := by
  rw [padded_len]; unfold gap; omega
def four (x : Nat) : List UInt8 := [x / 16777216, x / 65536, x / 256, x].map fun x => UInt8.ofNat (x % 256)
def bytesOf (v : V8) : List UInt8 := v.list.flatMap four
theorem bytesOf_len (v : V8) : (bytesOf v).length = 32 := rfl
/-- The digest. -/
def shaOf (l : List UInt8) : List UInt8 := bytesOf (through (padded l) ((padded l).length / 64))
theorem shaOf_len (l : List UInt8) : (shaOf l).length = 32 := rfl
end Go.Proofs.YtnokloedbckijaaDoor

/-
  Contracts of sha.turned (bits.RotateLeft32) and of the reference's turn, word and roots.
-/
namespace Go.Proofs.YtnokloedbckijaaDoor
open Go.RowKit
set_option linter.unusedVariables false

theorem ret_uv {a b : Int} (h : a = b) : Ending.returned (.int .u32 a) = .returned (.int .u32 b) := by rw [h]
theorem and31 : ∀ n : Fin 32, 0 < n.val → bits .and .u64 (IntKind.u64.wrap (-(n.val : Int))) 31 = ((32 - n.val : Nat) : Int) := by decide +kernel
theorem wrap32 (a : Nat) : IntKind.u32.wrap (a : Int) = ((a % 4294967296 : Nat) : Int) := by
  simp [IntKind.wrap, IntKind.signed, IntKind.bits]
theorem pow_split {n : Nat} (hn : n ≤ 32) : 2 ^ n * 2 ^ (32 - n) = 4294967296 := by
  rw [← Nat.pow_add, show n + (32 - n) = 32 by omega]
theorem ror_lt {n x : Nat} (hn : n ≤ 32) (hx : x < 4294967296) : ror n x < 4294967296 := by
  unfold ror
  have hp := pow_split hn
  have h1 : 0 < 2 ^ n := Nat.two_pow_pos n
  have h2 : x / 2 ^ n < 2 ^ (32 - n) := Nat.div_lt_of_lt_mul (by rw [hp]; exact hx)
  have h3 : x % 2 ^ n < 2 ^ n := Nat.mod_lt _ h1
  calc x / 2 ^ n + x % 2 ^ n * 2 ^ (32 - n) < 2 ^ (32 - n) + x % 2 ^ n * 2 ^ (32 - n) := by omega
    _ = (x % 2 ^ n + 1) * 2 ^ (32 - n) := by rw [Nat.add_mul]; omega
    _ ≤ 2 ^ n * 2 ^ (32 - n) := Nat.mul_le_mul_right _ h3
    _ = 4294967296 := hp
theorem or_ror {n x : Nat} (h0 : 0 < n) (hn : n < 32) (hx : x < 4294967296) : bits .or .u32 (IntKind.u32.wrap ((x : Int) * 2 ^ (32 - n))) ((x : Int) / 2 ^ n) = (ror n x : Int) := by
  have hp := pow_split (n := n) (by omega)
  have e1 : IntKind.u32.wrap ((x : Int) * 2 ^ (32 - n)) = ((x % 2 ^ n * 2 ^ (32 - n) : Nat) : Int) := by
    have : ((x : Int) * 2 ^ (32 - n)) = ((x * 2 ^ (32 - n) : Nat) : Int) := by simp
    rw [this, wrap32, ← hp, Nat.mul_mod_mul_right]
  have e2 : (x : Int) / 2 ^ n = ((x / 2 ^ n : Nat) : Int) := by simp
  have h1 : 0 < 2 ^ n := Nat.two_pow_pos n
  have h2 : x / 2 ^ n < 2 ^ (32 - n) := Nat.div_lt_of_lt_mul (by rw [hp]; exact hx)
  have h3 : x % 2 ^ n < 2 ^ n := Nat.mod_lt _ h1
  have h4 : x % 2 ^ n * 2 ^ (32 - n) < 4294967296 := by
    rw [← hp]
    exact Nat.mul_lt_mul_of_pos_right h3 (Nat.two_pow_pos _)
  have h5 : x / 2 ^ n < 4294967296 := Nat.lt_of_le_of_lt (Nat.div_le_self _ _) hx
  rw [e1, e2, u32_or_nat _ _ h4 h5]
  congr 1
  rw [← Nat.shiftLeft_eq, ← Nat.shiftLeft_add_eq_or_of_lt h2, Nat.shiftLeft_eq]
  unfold ror
  omega

set_option maxHeartbeats 400000 in
theorem rotl_any (x n : Nat) (w : World) (hx : x < 4294967296) (h0 : 0 < n) (hn : n < 32) :
    Calls Tryd.prog 110 #[uv x, .int .i64 (-(n : Int))] w fun e w' => e = .returned (uv (ror n x)) ∧ w = w' := by
  have hor := Lib.hid (or_ror h0 hn hx)
  have h31 := and31 ⟨n, hn⟩ h0
  simp only [] at h31
  obtain ⟨m, hm⟩ : ∃ m, m = 32 - n := ⟨_, rfl⟩
  rw [← hm] at h31 hor
  have hm0 : m ≤ 32 := by omega
  have hm1 : IntKind.u64.wrap (32 - (m : Int)) = (n : Int) := by
    rw [show 32 - (m : Int) = (n : Int) by omega]
    exact IntWalk.u64_in _ (by omega)
  clear hm
  go_enter Tryd.func110, Tryd.ntmps110
  go_wp2
  go_ret
  exact ⟨ret_uv hor.out, rfl⟩

theorem ror_zero {x : Nat} : ror 0 x = x := by simp [ror, Nat.mod_one]
theorem ror_step {k x : Nat} (hk : k < 32) : ror k x / 2 + ror k x % 2 * 2147483648 = ror (k + 1) x := by
  unfold ror
  obtain ⟨j, hj⟩ : ∃ j, 32 - k = j + 1 := ⟨31 - k, by omega⟩
  rw [hj, show 32 - (k + 1) = j by omega, Nat.pow_succ 2 j, Nat.pow_succ 2 k]
  have hp : 2 ^ k * 2 ^ j = 2147483648 := by rw [← Nat.pow_add, show k + j = 31 by omega]
  have e1 : x / (2 ^ k * 2) = x / 2 ^ k / 2 := by rw [Nat.div_div_eq_div_mul]
  have e2 : x % (2 ^ k * 2) = x % 2 ^ k + 2 ^ k * (x / 2 ^ k % 2) := by rw [Nat.mod_mul]
  rw [e1, e2]
  generalize x / 2 ^ k = q
  generalize x % 2 ^ k = r
  have e3 : r * (2 ^ j * 2) = 2 * (r * 2 ^ j) := by rw [← Nat.mul_assoc, Nat.mul_comm]
  have e4 : 2 ^ k * (q % 2) * 2 ^ j = 2147483648 * (q % 2) := by rw [Nat.mul_assoc, Nat.mul_comm (q % 2), ← Nat.mul_assoc, hp]
  rw [e3, Nat.add_mul, e4]
  generalize r * 2 ^ j = s
  omega

set_option maxHeartbeats 400000 in
theorem turn_any (x n : Nat) (w : World) (hx : x < 4294967296) (hn : n < 32) :
    Calls Tryd.prog 96 #[uv x, .int .i64 (n : Int)] w fun e w' => e = .returned (uv (ror n x)) ∧ w = w' := by
  go_enter Tryd.func96, Tryd.ntmps96
  go_wp2
  go_loop [0, 5] (fun t i => ∃ k : Nat, k ≤ n ∧ i = .int .i64 k ∧ t = uv (ror k x)) (fun _ i => n - (intOf i).toNat)
  case atStart => exact ⟨0, Nat.zero_le _, rfl, by rw [ror_zero]⟩
  case round =>
    obtain ⟨k, hk, rfl, rfl⟩ := hrel
    by_cases hlt : k < n
    · have hs := Lib.hid (ror_step (k := k) (x := x) (by omega))
      have hb := ror_lt (n := k) (by omega) hx
      have hb' := ror_lt (n := k + 1) (by omega) hx
      generalize ror k x = y at *
      go_wp2
      go_round
      case rel => exact ⟨k + 1, by omega, by go_num, by have := hs.out; simp only [uv, ← this]; congr 1⟩
      case measure => simp [intOf]; omega
    · obtain rfl : k = n := by omega
      go_wp2
      go_ret
      exact ⟨rfl, rfl⟩

set_option maxHeartbeats 400000 in
theorem turned_any (x n : Nat) (w : World) (hx : x < 4294967296) (h0 : 0 < n) (hn : n < 32) :
    Calls Tryd.prog 121 #[uv x, .int .i64 (n : Int)] w fun e w' => e = .returned (uv (ror n x)) ∧ w = w' := by
  go_enter Tryd.func121, Tryd.ntmps121
  go_wp2_with fail
  refine (rotl_any x n _ hx h0 hn).mono ?_
  rintro e w' ⟨rfl, rfl⟩
  go_wp2_with fail
  go_ret
  exact ⟨rfl, rfl⟩

theorem byte_at {w : World} {b o : Nat} {l : List UInt8} (h : w.rangeAt b o (l.map bv)) (i : Nat) (hi : i < l.length) : w.cell? ⟨b, o + i, none⟩ = some (.int .u8 ((l.getD i 0).toNat : Int)) :=
  h i _ (by rw [List.getElem?_map]; simp [hi])

set_option maxHeartbeats 1000000 in
theorem word_any (b o n c i : Nat) (l : List UInt8) (w : World) (hl : l.length = n) (hr : w.rangeAt b o (l.map bv)) (hi : i + 3 < n) (hn : n ≤ 1000000) :
    Calls Tryd.prog 95 #[.slice (some ⟨b, o, none⟩) n c, .int .i64 (i : Int)] w fun e w' => e = .returned (uv (wordAt l i)) ∧ ∃ m, w' = w.drewN m := by
  have c0 := byte_at hr i (by omega)
  have c1 := byte_at hr (i + 1) (by omega)
  have c2 := byte_at hr (i + 2) (by omega)
  have c3 := byte_at hr (i + 3) (by omega)
  have b0 := (l.getD i 0).toNat_lt
  have b1 := (l.getD (i + 1) 0).toNat_lt
  have b2 := (l.getD (i + 2) 0).toNat_lt
  have b3 := (l.getD (i + 3) 0).toNat_lt
  unfold wordAt
  generalize (l.getD i 0).toNat = x0 at *
  generalize (l.getD (i + 1) 0).toNat = x1 at *
  generalize (l.getD (i + 2) 0).toNat = x2 at *
  generalize (l.getD (i + 3) 0).toNat = x3 at *
  have i0 : i < n := by omega
  have i1 : (i : Int) + 1 < (n : Int) := by omega
  have i2 : (i : Int) + 2 < (n : Int) := by omega
  have i3 : (i : Int) + 3 < (n : Int) := by omega
  have p1 : (0 : Int) ≤ (i : Int) + 1 := by omega
  have p2 : (0 : Int) ≤ (i : Int) + 2 := by omega
  have p3 : (0 : Int) ≤ (i : Int) + 3 := by omega
  have q1 : IntKind.i64.wrap ((i : Int) + 1) = (i : Int) + 1 := IntWalk.i64_in _ (by omega)
  have q2 : IntKind.i64.wrap ((i : Int) + 2) = (i : Int) + 2 := IntWalk.i64_in _ (by omega)
  have q3 : IntKind.i64.wrap ((i : Int) + 3) = (i : Int) + 3 := IntWalk.i64_in _ (by omega)
  have r1 : ((i : Int) + 1).toNat = i + 1 := by omega
  have r2 : ((i : Int) + 2).toNat = i + 2 := by omega
  have r3 : ((i : Int) + 3).toNat = i + 3 := by omega
  clear hr hl
  go_enter Tryd.func95, Tryd.ntmps95
  go_wp2
  go_quiet (fail)
  go_wp2
  go_ret
  exact ⟨ret_uv (by omega), nq, rfl⟩

theorem u32_info : (Tryd.prog.info? 93).map (fun i => (i.zero, i.size, i.bytes)) = some (some (.int .u32 0), 1, 4) := by kernel_rfl

set_option maxHeartbeats 400000 in
theorem roots_any (w : World) : Calls Tryd.prog 94 #[] w fun e w' => e = .returned (.slice (some ⟨w.heap.size, 0, none⟩) 64 64) ∧ w'.rangeAt w.heap.size 0 (roots64.map uv) ∧ Grows w w' := by
  have hh := Has.new w 93 (roots64.map uv)
  have hg := grows_alloc w (.cells (roots64.map uv).toArray 93)
  go_enter Tryd.func94, Tryd.ntmps94
  go_wp2
  go_ret
  exact ⟨rfl, hh.cells, hg⟩

/-- turn, in a region that only reads. -/
theorem turn_quiet {x m : Nat} {z : Int} {w : World} (n : Nat) (hz : z = (n : Int)) (hx : x < 4294967296) (hn : n < 32) :
    Calls Tryd.prog 96 #[.int .u32 (x : Int), .int .i64 z] (w.drewN m) fun e w'' => e = .returned (.int .u32 ((ror n x : Nat) : Int)) ∧ ∃ m, w'' = w.drewN m := by
  subst hz
  exact (turn_any x n _ hx hn).mono fun _ _ ⟨he, hw⟩ => ⟨he, m, hw.symm⟩
theorem turned_quiet {x m : Nat} {z : Int} {w : World} (n : Nat) (hz : z = (n : Int)) (hx : x < 4294967296) (h0 : 0 < n) (hn : n < 32) :
    Calls Tryd.prog 121 #[.int .u32 (x : Int), .int .i64 z] (w.drewN m) fun e w'' => e = .returned (.int .u32 ((ror n x : Nat) : Int)) ∧ ∃ m, w'' = w.drewN m := by
  subst hz
  exact (turned_any x n _ hx h0 hn).mono fun _ _ ⟨he, hw⟩ => ⟨he, m, hw.symm⟩
end Go.Proofs.YtnokloedbckijaaDoor

/-
  Contract of the reference's block (layer 2): what 64 bytes make of eight words.
-/
namespace Go.Proofs.YtnokloedbckijaaDoor
open Go.RowKit
set_option linter.unusedVariables false

theorem uv_at {w : World} {b o : Nat} {l : List Nat} (h : w.rangeAt b o (l.map uv)) (i : Nat) (hi : i < l.length) : w.cell? ⟨b, o + i, none⟩ = some (.int .u32 ((l.getD i 0 : Nat) : Int)) :=
  h i _ (by rw [List.getElem?_map]; simp [hi])
theorem uv_has {w : World} {b : Nat} {l : List Nat} (h : Has w b (l.map uv)) (i : Nat) (hi : i < l.length) : w.cell? ⟨b, i, none⟩ = some (.int .u32 ((l.getD i 0 : Nat) : Int)) :=
  h.cell (by rw [List.getElem?_map]; simp [hi])
theorem wrap_add (a b : Nat) : IntKind.u32.wrap ((a : Int) + (b : Int)) = (((a + b) % 4294967296 : Nat) : Int) := by
  rw [← Int.natCast_add]
  exact wrap32 _
theorem and_sub (e g : Nat) (he : e < 4294967296) (hg : g < 4294967296) : bits .and .u32 (4294967295 - (e : Int)) (g : Int) = (((4294967295 - e) &&& g : Nat) : Int) := by
  rw [show 4294967295 - (e : Int) = ((4294967295 - e : Nat) : Int) by omega]
  exact u32_and_nat _ _ (by omega) hg
theorem and_lt {a b : Nat} (ha : a < 4294967296) : a &&& b < 4294967296 := Nat.lt_of_le_of_lt Nat.and_le_left ha
theorem xor_lt {a b : Nat} (ha : a < 4294967296) (hb : b < 4294967296) : a ^^^ b < 4294967296 := Nat.xor_lt_two_pow (n := 32) ha hb
theorem bigE_lt {e : Nat} (he : e < 4294967296) : bigE e < 4294967296 := xor_lt (xor_lt (ror_lt (by omega) he) (ror_lt (by omega) he)) (ror_lt (by omega) he)
theorem bigA_lt {e : Nat} (he : e < 4294967296) : bigA e < 4294967296 := xor_lt (xor_lt (ror_lt (by omega) he) (ror_lt (by omega) he)) (ror_lt (by omega) he)
theorem choose_lt {e f g : Nat} (he : e < 4294967296) : choose e f g < 4294967296 := xor_lt (and_lt he) (and_lt (by omega))
theorem most_lt {a b c : Nat} (ha : a < 4294967296) (hb : b < 4294967296) : most a b c < 4294967296 := xor_lt (xor_lt (and_lt ha) (and_lt ha)) (and_lt hb)
theorem add8_at (x y : V8) (k : Nat) (hk : k < 8) : (add8 x y).list.getD k 0 = (y.list.getD k 0 + x.list.getD k 0) % 4294967296 := by
  match k, hk with
  | 0, _ => simp [add8, V8.list, Nat.add_comm]
  | 1, _ => simp [add8, V8.list, Nat.add_comm]
  | 2, _ => simp [add8, V8.list, Nat.add_comm]
  | 3, _ => simp [add8, V8.list, Nat.add_comm]
  | 4, _ => simp [add8, V8.list, Nat.add_comm]
  | 5, _ => simp [add8, V8.list, Nat.add_comm]
  | 6, _ => simp [add8, V8.list, Nat.add_comm]
  | 7, _ => simp [add8, V8.list, Nat.add_comm]
theorem getD_some {l : List Nat} {k : Nat} (h : k < l.length) : l[k]? = some (l.getD k 0) := by simp [h]
theorem mid_getD (l z : List Nat) (k : Nat) (hl : k ≤ l.length) (hz : k < z.length) : (l.take k ++ z.drop k).getD k 0 = z.getD k 0 := by
  simp [List.getElem?_append_right, List.getElem?_drop, Nat.min_eq_left hl]
theorem own_range {w : World} {base : Nat} {e : TypeId} {v : Value} {n : Nat} {vs : List Value} (h : w.ownsRow base e 1 v n vs) (hn : 0 < n) : ∃ g c, v = .slice (some ⟨g, 0, none⟩) n c ∧ n ≤ c ∧ base ≤ g ∧ Has w g vs := by
  have h0 := h
  rcases h.2 with ⟨_, h'⟩ | ⟨g, cap, cur, rfl, hb, hg, hnc, _⟩
  · omega
  · refine ⟨g, cap, rfl, hnc, hb, ?_, fun j u hu => ?_, fun j => frozen_of_row w g j cur e hg⟩
    · rcases Nat.lt_or_ge g w.heap.size with hlt | hge
      · exact hlt
      · rw [Array.getElem?_eq_none hge] at hg; cases hg
    · obtain ⟨ad, e, _, hc⟩ := Lies.of_own h0 j u hu
      injection e with e
      subst e
      rwa [add_plain] at hc
theorem spread_snoc (blk : List UInt8) (k : Nat) (x : Nat) (hx : x = if k < 16 then wordAt blk (4 * k) else nextW (spreadTo blk k) k) : (spreadTo blk (k + 1)).map uv = (spreadTo blk k).map uv ++ [uv x] := by
  rw [spreadTo, List.map_append, hx]
  rfl

set_option maxRecDepth 100000 in
set_option maxHeartbeats 1000000 in
theorem block_any (v : V8) (gh ch gb ob cb : Nat) (blk : List UInt8) (w : World) (hv : v.Ok) (hh : w.rangeAt gh 0 (v.list.map uv)) (hbl : blk.length = 64) (hb : w.rangeAt gb ob (blk.map bv)) :
    Calls Tryd.prog 78 #[.slice (some ⟨gh, 0, none⟩) 8 ch, .slice (some ⟨gb, ob, none⟩) 64 cb] w fun e w' =>
      ∃ g c, e = .returned (.slice (some ⟨g, 0, none⟩) 8 c) ∧ w'.rangeAt g 0 ((mix v blk).list.map uv) ∧ Grows w w' := by
  obtain ⟨i0, hi0, hz0, hz1, hz2⟩ := info_parts u32_info
  have HBL := Lib.hid hbl
  clear hbl
  go_enter Tryd.func78, Tryd.ntmps78
  go_wp2_with fail
  refine (roots_any w).mono ?_
  rintro e w1 ⟨rfl, hk1, hg1⟩
  have hgk : w.heap.size < w1.heap.size := World.block_lt_of_cell? w1 _ (hk1 0 (uv 1116352408) rfl)
  generalize w.heap.size = gk at hk1 hgk
  have hb1 := range_later hb hg1
  go_wp2_with fail
  go_loopw [6, 7] (fun t i wr => ∃ k : Nat, k ≤ 16 ∧ i = .int .i64 k ∧ wr.ownsRow w1.heap.size 93 1 t k ((spreadTo blk k).map uv) ∧ Grows w1 wr) (fun _ i _ => 16 - (intOf i).toNat)
  case atStart => exact ⟨0, Nat.zero_le _, rfl, World.ownsRow_nil _ _ _ _, Grows.refl _⟩
  case round =>
    obtain ⟨k, hk, rfl, hown, hgr⟩ := hrel
    by_cases hlt : k < 16
    · have hbr := range_later hb1 hgr
      have HS := Lib.hid (spread_snoc blk k (wordAt blk (4 * k)) (by rw [if_pos hlt]))
      go_wp2_with fail
      rw [show (4 : Int) * (k : Int) = ((4 * k : Nat) : Int) from by omega]
      refine (word_any gb ob 64 cb (4 * k) blk _ HBL.out hbr (by omega) (by omega)).mono ?_
      rintro e w2 ⟨rfl, m, rfl⟩
      have hown2 : (wr.drewN m).ownsRow w1.heap.size 93 1 u6 k ((spreadTo blk k).map uv) := hown
      have hgr2 : Grows w1 (wr.drewN m) := below_draws hgr
      generalize wr.drewN m = w2 at *
      clear hown hgr hbr
      have hnew := Lies.new w2 93 [uv (wordAt blk (4 * k))]
      go_wp2_with (at_builtin; refine wpList_append_src _ rfl (.tmp 24) (.tmp 29) _ rfl w1.heap.size 93 i0 _ 4 Tryd.underlying83 hi0 hz0 hz1 hz2 rfl u6 k _ rfl (hown2.alloc _) _ _ 1 1 [uv (wordAt blk (4 * k))] rfl rfl hnew (by simp [Value.oneCell']) (by unfold maxLen; omega) (by omega) (by have := hgr2.size; simp; omega) ?_; intro v' w' hown' hg' hat')
      have hb2 : Grows w1 w' := (hgr2.alloc hgr2.size _).grown hg' (by have := hgr2.size; simp; omega) (own_ge hown2)
      rw [← HS.out] at hown'
      go_roundw
      case rel => exact ⟨k + 1, by omega, by go_num, hown', hb2⟩
      case measure => simp [intOf]; omega
    · obtain rfl : k = 16 := by omega
      rw [show ((16 : Nat) : Int) = 16 from rfl]
      go_wp2_with fail
      go_loopw [6, 8] (fun t i wr => ∃ k : Nat, 16 ≤ k ∧ k ≤ 64 ∧ i = .int .i64 k ∧ wr.ownsRow w1.heap.size 93 1 t k ((spreadTo blk k).map uv) ∧ Grows w1 wr) (fun _ i _ => 64 - (intOf i).toNat)
      case atStart => exact ⟨16, by omega, by omega, rfl, hown, hgr⟩
      case round =>
        clear hown hgr
        obtain ⟨k, hk0, hk, rfl, hown, hgr⟩ := hrel
        by_cases hlt : k < 64
        · obtain ⟨g, c, rfl, hc, hgb, hhas⟩ := own_range hown (by omega)
          have hlen : (spreadTo blk k).length = k := spreadTo_len blk k
          have c15 := uv_has hhas (k - 15) (by omega)
          have c2 := uv_has hhas (k - 2) (by omega)
          have c16 := uv_has hhas (k - 16) (by omega)
          have c7 := uv_has hhas (k - 7) (by omega)
          have b15 := spreadTo_lt blk k (k - 15) hk
          have b2 := spreadTo_lt blk k (k - 2) hk
          have HS := spread_snoc blk k _ rfl
          rw [if_neg (by omega)] at HS
          unfold nextW at HS
          generalize (spreadTo blk k).getD (k - 15) 0 = x15 at *
          generalize (spreadTo blk k).getD (k - 2) 0 = x2 at *
          generalize (spreadTo blk k).getD (k - 16) 0 = x16 at *
          generalize (spreadTo blk k).getD (k - 7) 0 = x7 at *
          have e1 := u32_xor_nat (ror 7 x15) (ror 18 x15) (ror_lt (by omega) b15) (ror_lt (by omega) b15)
          have e2 : bits .xor .u32 ((ror 7 x15 ^^^ ror 18 x15 : Nat) : Int) ((x15 : Int) / 8) = (smallX x15 : Int) := u32_xor_nat _ (x15 / 8) (Nat.xor_lt_two_pow (n := 32) (ror_lt (by omega) b15) (ror_lt (by omega) b15)) (by omega)
          have e3 := u32_xor_nat (ror 17 x2) (ror 19 x2) (ror_lt (by omega) b2) (ror_lt (by omega) b2)
          have e4 : bits .xor .u32 ((ror 17 x2 ^^^ ror 19 x2 : Nat) : Int) ((x2 : Int) / 1024) = (smallY x2 : Int) := u32_xor_nat _ (x2 / 1024) (Nat.xor_lt_two_pow (n := 32) (ror_lt (by omega) b2) (ror_lt (by omega) b2)) (by omega)
          generalize (ror 7 x15 ^^^ ror 18 x15) = y1 at e1 e2
          generalize (ror 17 x2 ^^^ ror 19 x2) = y2 at e3 e4
          have s1 := wrap_add x16 (smallX x15)
          have s2 := wrap_add ((x16 + smallX x15) % 4294967296) x7
          have s3 := wrap_add (((x16 + smallX x15) % 4294967296 + x7) % 4294967296) (smallY x2)
          generalize smallX x15 = sx at *
          generalize smallY x2 = sy at *
          generalize (x16 + sx) % 4294967296 = t1 at *
          generalize (t1 + x7) % 4294967296 = t2 at *
          generalize (t2 + sy) % 4294967296 = t3 at *
          have HT := Lib.hid HS
          have HL := Lib.hid hlen
          have HO := Lib.hid hown
          clear HS hlen hown
          have q15 : IntKind.i64.wrap ((k : Int) - 15) = (k : Int) - 15 := IntWalk.i64_in _ (by omega)
          have q2 : IntKind.i64.wrap ((k : Int) - 2) = (k : Int) - 2 := IntWalk.i64_in _ (by omega)
          have q16 : IntKind.i64.wrap ((k : Int) - 16) = (k : Int) - 16 := IntWalk.i64_in _ (by omega)
          have q7 : IntKind.i64.wrap ((k : Int) - 7) = (k : Int) - 7 := IntWalk.i64_in _ (by omega)
          have p15 : 0 ≤ (k : Int) - 15 := by omega
          have p2 : 0 ≤ (k : Int) - 2 := by omega
          have p16 : 0 ≤ (k : Int) - 16 := by omega
          have p7 : 0 ≤ (k : Int) - 7 := by omega
          have n15 : ((k : Int) - 15).toNat = k - 15 := by omega
          have n2 : ((k : Int) - 2).toNat = k - 2 := by omega
          have n16 : ((k : Int) - 16).toNat = k - 16 := by omega
          have n7 : ((k : Int) - 7).toNat = k - 7 := by omega
          go_wp2_with fail
          go_quiet (((go_at_call 96; first | exact turn_quiet 7 (by rfl) b15 (by decide) | exact turn_quiet 18 (by rfl) b15 (by decide))))
          have hgr1 : Grows w1 (wr.drewN nq) := below_draws hgr
          have c2' : (wr.drewN nq).cell? ⟨g, k - 2, none⟩ = _ := c2
          have c16' : (wr.drewN nq).cell? ⟨g, k - 16, none⟩ = _ := c16
          have c7' : (wr.drewN nq).cell? ⟨g, k - 7, none⟩ = _ := c7
          have HO' := Lib.hid (own_drawn (m := nq) HO.out)
          clear c15 c2 c16 c7 HO hhas hgr e1 e2 q15 p15 n15
          generalize wr.drewN nq = w2 at *
          go_wp2_with fail
          go_quiet (((go_at_call 96; first | exact turn_quiet 17 (by rfl) b2 (by decide) | exact turn_quiet 19 (by rfl) b2 (by decide))))
          have hgr2 : Grows w1 (w2.drewN nq) := below_draws hgr1
          have c16 : (w2.drewN nq).cell? ⟨g, k - 16, none⟩ = _ := c16'
          have c7 : (w2.drewN nq).cell? ⟨g, k - 7, none⟩ = _ := c7'
          have HO := Lib.hid (own_drawn (m := nq) HO'.out)
          clear c2' c16' c7' HO' hgr1 e3 e4 q2 p2 n2
          generalize w2.drewN nq = w3 at *
          go_wp2_with fail
          refine wp_region_ord 17 [(0, true), (1, true), (2, true), (3, true), (4, true), (5, true), (6, true), (7, true), (8, true), (9, true), (10, true), (11, true), (12, true), (13, true), (14, true), (15, true), (16, false)] (by kernel_rfl) (by kernel_rfl) ?_
          have f16 : ∀ u, Grows w3.drew u → u.cell? ⟨g, k - 16, none⟩ = some (.int .u32 (x16 : Int)) := fun u h => hcell_later (a := w3.drew) c16 h
          have f7 : ∀ u, Grows w3.drew u → u.cell? ⟨g, k - 7, none⟩ = some (.int .u32 (x7 : Int)) := fun u h => hcell_later (a := w3.drew) c7 h
          have hO := Grows.refl w3.drew
          have d16 : (16 : Int) ≤ (k : Int) := by omega
          have d7 : (7 : Int) ≤ (k : Int) := by omega
          have l16 : (k : Int) - 16 < (k : Int) := by omega
          have l7 : (k : Int) - 7 < (k : Int) := by omega
          clear c16 c7
          repeat (first | (refine ord_take hO _ ?_ (by simp only [List.getElem?_cons_succ, List.getElem?_cons_zero]; rfl) (by rfl) ?_ ?_; rotate_left; (· (intro u hu0 hu; (try go_simp); (try with_reducible rfl))); try simp only [Act.put, List.setIfInBounds_toArray, List.set_cons_zero, List.set_cons_succ]) | (refine ord_skip _ (by simp only [List.getElem?_cons_succ, List.getElem?_cons_zero]; rfl) (by rfl) ?_; try simp only [Act.put, List.setIfInBounds_toArray, List.set_cons_zero, List.set_cons_succ]))
          (refine ord_move _ (by simp only [List.getElem?_cons_succ, List.getElem?_cons_zero]; rfl) (by rfl) (fun u hu K hK => ?_); go_simp)
          refine hK.out _ _ (grows_alloc _ _) ?_
          clear hK K
          have hO' := Grows.trans hu (grows_alloc u (.cells #[uv t3] 93))
          have hnew := Lies.new u 93 [uv t3]
          have hown4 := own_later (w := w3.drew) HO.out hO'
          have hgr4 := Grows.trans (below_draws (n := 1) hgr2) hO'
          clear hO HO
          have hz4 : u.heap.size + 1 = (u.alloc (.cells #[uv t3] 93)).heap.size := by simp
          have hz5 : u.heap.size < u.heap.size + 1 := Nat.lt_succ_self _
          rw [hz4] at hnew hz5
          generalize u.heap.size = gu at *
          generalize u.alloc (.cells #[uv t3] 93) = w4 at *
          clear hz4 hu f16 f7
          (refine ord_done (fun u hu => ?_); simp only [List.drop_succ_cons, List.drop_zero])
          have hnew5 := hnew.later hu
          have hown5 := own_later hown4 hu
          have hgr5 := Grows.trans hgr4 hu
          clear hnew hown4 hgr4 hu hO' hgr2
          generalize hwu : u = w5 at *
          clear hwu
          go_wp2_with (at_builtin; refine wpList_append_src _ rfl (.tmp 75) (.tmp 91) _ rfl w1.heap.size 93 i0 _ 4 Tryd.underlying83 hi0 hz0 hz1 hz2 rfl (.slice (some ⟨g, 0, none⟩) k c) k _ rfl hown5 _ _ 1 1 [uv t3] rfl rfl hnew5 (by simp [Value.oneCell']) (by unfold maxLen; omega) (by omega) hgr5.size ?_; intro v' w' hown' hg' hat')
          have hb2 : Grows w1 w' := hgr5.grown hg' hgr5.size (own_ge hown5)
          refine NoPanic.normal ?_
          go_wp2_with fail
          go_roundw
          case rel => exact ⟨k + 1, by omega, by omega, by go_num, by rw [HT.out]; exact hown', hb2⟩
          case measure => simp [intOf]; omega
        · obtain rfl : k = 64 := by omega
          rw [show ((64 : Nat) : Int) = 64 from rfl]
          obtain ⟨gw, cw, rfl, hcw, hgw, hhas⟩ := own_range hown (by omega)
          have hw5 : wr.rangeAt gw 0 ((spreadL blk).map uv) := hhas.cells
          have hk5 := range_later hk1 hgr
          have hh5 := range_later hh (Grows.trans hg1 hgr)
          have hg5 : Grows w wr := Grows.trans hg1 hgr
          have hwl := spreadL_len blk
          have hwb := spreadL_lt blk
          have HM := Lib.hid (show mix v blk = add8 v (rounds roots64 (spreadL blk) 64 v) from rfl)
          clear hown hhas hgr hk1 hh hb hb1 hgk hg1
          generalize spreadL blk = ws at *
          generalize wr = w5 at *
          have HWL := Lib.hid hwl
          have HWB := Lib.hid hwb
          clear hwl hwb
          have hLh : Lies w5 w5.heap.size (some ⟨gh, 0, none⟩) (v.list.map uv) := fun j u hu => ⟨_, rfl, World.block_lt_of_cell? w5 ⟨gh, 0 + j, none⟩ (hh5 j u hu), by rw [add_plain]; exact hh5 j u hu⟩
          go_wp2_with (at_builtin; refine wpList_append_src _ rfl (.tmp 93) (.tmp 94) _ rfl w5.heap.size 93 i0 _ 4 Tryd.underlying83 hi0 hz0 hz1 hz2 rfl (.slice none 0 0) 0 [] rfl (World.ownsRow_nil _ _ _ _) _ _ 8 ch (v.list.map uv) rfl rfl hLh (uv_one _) (by unfold maxLen; omega) (by omega) (Nat.le_refl _) ?_; intro v' w6 hown6 hg6 hat6)
          have hgr6 : Grows w5 w6 := (Grows.refl w5).grown hg6 (Nat.le_refl _) (by simp [Value.ownBlock])
          rw [Nat.zero_add, List.nil_append] at hown6
          obtain ⟨g6, c6, rfl, hc6, hgb6, hhas6⟩ := own_range hown6 (by omega)
          clear hown6 hg6 hat6 hLh
          go_loopw [11, 12] (fun t i wr => ∃ k : Nat, k ≤ 64 ∧ i = .int .i64 k ∧ ∃ g c, t = .slice (some ⟨g, 0, none⟩) 8 c ∧ w5.heap.size ≤ g ∧ Has wr g ((rounds roots64 ws k v).list.map uv) ∧ Grows w5 wr) (fun _ i _ => 64 - (intOf i).toNat)
          case atStart => exact ⟨0, by omega, rfl, g6, c6, rfl, hgb6, hhas6, hgr6⟩
          case round =>
            clear hhas6 hgr6 hgb6 hc6
            obtain ⟨k, hk, rfl, g, c, rfl, hgb, hhas, hgr⟩ := hrel
            by_cases hlt : k < 64
            · have hOk := rounds_ok hv roots64 ws k
              have HR := Lib.hid (show rounds roots64 ws (k + 1) v = rnd (rounds roots64 ws k v) (roots64.getD k 0) (ws.getD k 0) from rfl)
              generalize rounds roots64 ws k v = V at hOk HR hhas
              obtain ⟨xa, xb, xc, xd, xe, xf, xg, xh⟩ := V
              obtain ⟨ba, bb, bc, bd, be, bf, bg, bh⟩ := hOk
              simp only [] at ba bb bc bd be bf bg bh
              have hkc : ∀ u, Grows w5 u → u.cell? ⟨gk, k, none⟩ = some (.int .u32 ((roots64.getD k 0 : Nat) : Int)) := fun u h => by
                have := uv_at (range_later hk5 h) k (by rw [roots64_len]; exact hlt)
                rwa [Nat.zero_add] at this
              have hwc : ∀ u, Grows w5 u → u.cell? ⟨gw, k, none⟩ = some (.int .u32 ((ws.getD k 0 : Nat) : Int)) := fun u h => by
                have := uv_at (range_later hw5 h) k (by rw [HWL.out]; exact hlt)
                rwa [Nat.zero_add] at this
              generalize roots64.getD k 0 = kk at *
              generalize ws.getD k 0 = wk at *
              have HKC := Lib.hid hkc
              have HWC := Lib.hid hwc
              clear hkc hwc
              have k0 : (k : Int) < 64 := by omega
              -- one
              have e1 := u32_xor_nat (ror 6 xe) (ror 11 xe) (ror_lt (by omega) be) (ror_lt (by omega) be)
              have e2 : bits .xor .u32 ((ror 6 xe ^^^ ror 11 xe : Nat) : Int) (ror 25 xe : Int) = (bigE xe : Int) := u32_xor_nat _ _ (xor_lt (ror_lt (by omega) be) (ror_lt (by omega) be)) (ror_lt (by omega) be)
              generalize (ror 6 xe ^^^ ror 11 xe) = y1 at e1 e2
              have d4 := hhas.cell (k := 4) rfl
              simp only [uv] at d4
              go_wp2_with fail
              go_quiet (((go_at_call 96; first | exact turn_quiet 6 (by rfl) be (by decide) | exact turn_quiet 11 (by rfl) be (by decide) | exact turn_quiet 25 (by rfl) be (by decide))))
              have hgr1 : Grows w5 (wr.drewN nq) := below_draws hgr
              have hhas1 := hhas.drawn (m := nq)
              clear hgr hhas d4 e1 e2
              generalize wr.drewN nq = wr1 at *
              -- choose
              have e1 := u32_and_nat xe xf be bf
              have e2 := and_sub xe xg be bg
              have e3 : bits .xor .u32 ((xe &&& xf : Nat) : Int) (((4294967295 - xe) &&& xg : Nat) : Int) = (choose xe xf xg : Int) := u32_xor_nat _ _ (and_lt be) (and_lt (by omega))
              generalize (xe &&& xf) = y1 at e1 e3
              generalize ((4294967295 - xe) &&& xg) = y2 at e2 e3
              have d4 := hhas1.cell (k := 4) rfl
              have d5 := hhas1.cell (k := 5) rfl
              have d6 := hhas1.cell (k := 6) rfl
              simp only [uv] at d4 d5 d6
              go_wp2_with fail
              go_quiet (fail)
              have hgr2 : Grows w5 (wr1.drewN nq) := below_draws hgr1
              have hhas2 := hhas1.drawn (m := nq)
              clear hgr1 hhas1 d4 d5 d6 e1 e2 e3
              generalize wr1.drewN nq = wr2 at *
              -- t
              have t1 := wrap_add xh (bigE xe)
              have t2 := wrap_add ((xh + bigE xe) % 4294967296) (choose xe xf xg)
              have t3 := wrap_add (((xh + bigE xe) % 4294967296 + choose xe xf xg) % 4294967296) kk
              have t4 := wrap_add ((((xh + bigE xe) % 4294967296 + choose xe xf xg) % 4294967296 + kk) % 4294967296) wk
              have HT := Lib.hid (show tee ⟨xa, xb, xc, xd, xe, xf, xg, xh⟩ kk wk = ((((xh + bigE xe) % 4294967296 + choose xe xf xg) % 4294967296 + kk) % 4294967296 + wk) % 4294967296 from rfl)
              have d7 := hhas2.cell (k := 7) rfl
              simp only [uv] at d7
              have dk := HKC.out _ hgr2
              have dw := HWC.out _ hgr2
              generalize (xh + bigE xe) % 4294967296 = t1v at *
              generalize (t1v + choose xe xf xg) % 4294967296 = t2v at *
              generalize (t2v + kk) % 4294967296 = t3v at *
              generalize (t3v + wk) % 4294967296 = tv at *
              have HB := Lib.hid (bigE_lt be)
              generalize bigE xe = sE at *
              generalize choose xe xf xg = sC at *
              go_wp2_with fail
              go_quiet (fail)
              have hgr3 : Grows w5 (wr2.drewN nq) := below_draws hgr2
              have hhas3 := hhas2.drawn (m := nq)
              clear hgr2 hhas2 d7 dk dw t1 t2 t3 t4
              generalize wr2.drewN nq = wr3 at *
              -- two
              have e1 := u32_xor_nat (ror 2 xa) (ror 13 xa) (ror_lt (by omega) ba) (ror_lt (by omega) ba)
              have e2 : bits .xor .u32 ((ror 2 xa ^^^ ror 13 xa : Nat) : Int) (ror 22 xa : Int) = (bigA xa : Int) := u32_xor_nat _ _ (xor_lt (ror_lt (by omega) ba) (ror_lt (by omega) ba)) (ror_lt (by omega) ba)
              generalize (ror 2 xa ^^^ ror 13 xa) = y1 at e1 e2
              have d0 := hhas3.cell (k := 0) rfl
              simp only [uv] at d0
              go_wp2_with fail
              go_quiet (((go_at_call 96; first | exact turn_quiet 2 (by rfl) ba (by decide) | exact turn_quiet 13 (by rfl) ba (by decide) | exact turn_quiet 22 (by rfl) ba (by decide))))
              have hgr4 : Grows w5 (wr3.drewN nq) := below_draws hgr3
              have hhas4 := hhas3.drawn (m := nq)
              clear hgr3 hhas3 d0 e1 e2
              generalize wr3.drewN nq = wr4 at *
              -- most
              have e1 := u32_and_nat xa xb ba bb
              have e2 := u32_and_nat xa xc ba bc
              have e3 := u32_and_nat xb xc bb bc
              have e4 := u32_xor_nat (xa &&& xb) (xa &&& xc) (and_lt ba) (and_lt ba)
              have e5 : bits .xor .u32 ((((xa &&& xb) ^^^ (xa &&& xc)) : Nat) : Int) ((xb &&& xc : Nat) : Int) = (most xa xb xc : Int) := u32_xor_nat _ _ (xor_lt (and_lt ba) (and_lt ba)) (and_lt bb)
              generalize ((xa &&& xb) ^^^ (xa &&& xc)) = y4 at e4 e5
              generalize (xa &&& xb) = y1 at e1 e4
              generalize (xa &&& xc) = y2 at e2 e4
              generalize (xb &&& xc) = y3 at e3 e5
              have d0 := hhas4.cell (k := 0) rfl
              have d1 := hhas4.cell (k := 1) rfl
              have d2 := hhas4.cell (k := 2) rfl
              simp only [uv] at d0 d1 d2
              go_wp2_with fail
              go_quiet (fail)
              have hgr5 : Grows w5 (wr4.drewN nq) := below_draws hgr4
              have hhas5 := hhas4.drawn (m := nq)
              clear hgr4 hhas4 d0 d1 d2 e1 e2 e3 e4 e5
              generalize wr4.drewN nq = wr5 at *
              -- the next eight
              have HY := Lib.hid (show you ⟨xa, xb, xc, xd, xe, xf, xg, xh⟩ = (bigA xa + most xa xb xc) % 4294967296 from rfl)
              have t1 := wrap_add tv (bigA xa)
              have t2 := wrap_add ((tv + bigA xa) % 4294967296) (most xa xb xc)
              have t3 := wrap_add xd tv
              generalize bigA xa = sA at *
              generalize most xa xb xc = sM at *
              have HV : Hid ((rounds roots64 ws (k + 1) v).list = [((tv + sA) % 4294967296 + sM) % 4294967296, xa, xb, xc, (xd + tv) % 4294967296, xe, xf, xg]) := by
                show (rounds roots64 ws (k + 1) v).list = _
                rw [HR.out]
                simp only [rnd, V8.list, HT.out, HY.out]
                rw [show (tv + (sA + sM) % 4294967296) % 4294967296 = ((tv + sA) % 4294967296 + sM) % 4294967296 by omega]
              generalize (tv + sA) % 4294967296 = z1 at *
              generalize (z1 + sM) % 4294967296 = za at *
              generalize (xd + tv) % 4294967296 = ze at *
              have d0 := hhas5.cell (k := 0) rfl
              have d1 := hhas5.cell (k := 1) rfl
              have d2 := hhas5.cell (k := 2) rfl
              have d3 := hhas5.cell (k := 3) rfl
              have d4 := hhas5.cell (k := 4) rfl
              have d5 := hhas5.cell (k := 5) rfl
              have d6 := hhas5.cell (k := 6) rfl
              simp only [uv] at d0 d1 d2 d3 d4 d5 d6
              clear hhas5
              go_wp2_with fail
              go_still_tail 28, (by kernel_rfl)
              change wpList _ _ _ _ _ wr5.drew
              have hgr6 : Grows w5 wr5.drew := hgr5.drew
              clear d0 d1 d2 d3 d4 d5 d6 t1 t2 t3 hgr5
              generalize wr5.drew = wr6 at *
              have hN := Has.new wr6 93 ([za, xa, xb, xc, ze, xe, xf, xg].map uv)
              have hgN := Grows.trans hgr6 (grows_alloc wr6 (.cells ([za, xa, xb, xc, ze, xe, xf, xg].map uv).toArray 93))
              go_wp2_with fail
              go_roundw
              case rel => exact ⟨k + 1, by omega, by go_num, _, _, rfl, hgr6.size, by rw [HV.out]; exact hN, hgN⟩
              case measure => simp [intOf]; omega
            · obtain rfl : k = 64 := by omega
              rw [show ((64 : Nat) : Int) = 64 from rfl]
              have hadd := add8_at v (rounds roots64 ws 64 v)
              rw [← HM.out] at hadd
              have l1 : (mix v blk).list.length = 8 := rfl
              have l2 : (rounds roots64 ws 64 v).list.length = 8 := rfl
              have l3 : v.list.length = 8 := rfl
              clear hw5 hk5 HWL HWB HM
              generalize hml : (mix v blk).list = ml at *
              have HML := Lib.hid hml
              clear hml
              generalize (rounds roots64 ws 64 v).list = rl at *
              generalize v.list = vl at *
              have HA := Lib.hid hadd
              have L1 := Lib.hid l1
              have L2 := Lib.hid l2
              have L3 := Lib.hid l3
              clear hadd l1 l2 l3
              go_wp2_with fail
              go_loopw [18] (fun i wr => ∃ k : Nat, k ≤ 8 ∧ i = .int .i64 k ∧ Has wr g ((ml.take k ++ rl.drop k).map uv) ∧ Grows w5 wr) (fun i _ => 8 - (intOf i).toNat)
              case atStart => exact ⟨0, by omega, rfl, by simpa using hhas, hgr⟩
              case round =>
                clear hhas hgr
                obtain ⟨k, hk, rfl, hhas, hgr⟩ := hrel
                by_cases hlt : k < 8
                · have d1 := uv_has hhas k (by simp [L1.out, L2.out]; omega)
                  rw [mid_getD _ _ _ (by rw [L1.out]; omega) (by rw [L2.out]; exact hlt)] at d1
                  have d2 := uv_at (range_later hh5 hgr) k (by rw [L3.out]; exact hlt)
                  rw [Nat.zero_add] at d2
                  have t1 := wrap_add (rl.getD k 0) (vl.getD k 0)
                  rw [← HA.out k hlt] at t1
                  have hset := hhas.set_ (k := k) (by simp [L1.out, L2.out]; omega) (uv (ml.getD k 0))
                  rw [← List.map_set, mid_set ml rl k _ (getD_some (by rw [L1.out]; exact hlt)) (by rw [L2.out]; exact hlt)] at hset
                  have hfr := hhas.free k
                  have hgs := hgr.setCell (p := ⟨g, k, none⟩) hgb (uv (ml.getD k 0))
                  have hsd : ((wr.setCell ⟨g, k, none⟩ (uv (ml.getD k 0))).drew) = (wr.drew.setCell ⟨g, k, none⟩ (uv (ml.getD k 0))) := rfl
                  have hsetd := hset.drew
                  have hgsd := hgs.drew
                  rw [hsd] at hsetd hgsd
                  clear hsd hset hgs
                  generalize rl.getD k 0 = x at *
                  generalize vl.getD k 0 = y at *
                  generalize ml.getD k 0 = z at *
                  have k0 : (k : Int) < 8 := by omega
                  go_wp2_with fail
                  go_still_tail 12, (by kernel_rfl)
                  change wpList _ _ _ _ _ wr.drew
                  have hfr' : wr.drew.frozen? ⟨g, k, none⟩ = false := hfr
                  have d1' : wr.drew.cell? ⟨g, k, none⟩ = _ := d1
                  clear d1 d2 hfr hhas hgr
                  generalize wr.drew = wr2 at *
                  go_wp2_with fail
                  go_roundw
                  case rel => exact ⟨k + 1, by omega, by go_num, hsetd, hgsd⟩
                  case measure => simp [intOf]; omega
                · obtain rfl : k = 8 := by omega
                  rw [show ((8 : Nat) : Int) = 8 from rfl]
                  rw [List.take_of_length_le (by rw [L1.out]; omega), List.drop_of_length_le (by rw [L2.out]; omega), List.append_nil] at hhas
                  go_wp2_with fail
                  go_ret
                  exact ⟨g, c, rfl, by rw [HML.out]; exact hhas.cells, Grows.trans hg5 hgr⟩
end Go.Proofs.YtnokloedbckijaaDoor

/-
  Contract of sha.spread: a block's 64 words.
-/
namespace Go.Proofs.YtnokloedbckijaaDoor
open Go.RowKit
set_option linter.unusedVariables false
set_option maxRecDepth 20000

theorem arr64_size : (Tryd.prog.info? 152).map (·.size) = some 64 := by kernel_rfl
theorem blk64_size : (Tryd.prog.info? 129).map (·.size) = some 64 := by kernel_rfl
theorem arr8_size : (Tryd.prog.info? 128).map (·.size) = some 8 := by kernel_rfl
def zeros64 : List Nat := List.replicate 64 0
theorem zeros64_len : zeros64.length = 64 := rfl
theorem bv_has {w : World} {b : Nat} {l : List UInt8} (h : Has w b (l.map bv)) (i : Nat) (hi : i < l.length) : w.cell? ⟨b, i, none⟩ = some (.int .u8 ((l.getD i 0).toNat : Int)) :=
  h.cell (by rw [List.getElem?_map]; simp [hi])
theorem or_key (a b k : Nat) (h : b < 2 ^ k) : a * 2 ^ k ||| b = a * 2 ^ k + b := by
  rw [← Nat.shiftLeft_eq, ← Nat.shiftLeft_add_eq_or_of_lt h]
theorem or24 (a b : Nat) (h : b < 16777216) : a * 16777216 ||| b = a * 16777216 + b := or_key a b 24 h
theorem or16 (a b : Nat) (h : b < 65536) : a * 65536 ||| b = a * 65536 + b := or_key a b 16 h
theorem or8 (a b : Nat) (h : b < 256) : a * 256 ||| b = a * 256 + b := or_key a b 8 h
theorem or_four (x0 x1 x2 x3 : Nat) (h0 : x0 < 256) (h1 : x1 < 256) (h2 : x2 < 256) (h3 : x3 < 256) :
    bits .or .u32 ((x0 : Int) * 16777216) ((x1 : Int) * 65536) = ((x0 * 16777216 + x1 * 65536 : Nat) : Int) ∧
    bits .or .u32 ((x0 * 16777216 + x1 * 65536 : Nat) : Int) ((x2 : Int) * 256) = ((x0 * 16777216 + x1 * 65536 + x2 * 256 : Nat) : Int) ∧
    bits .or .u32 ((x0 * 16777216 + x1 * 65536 + x2 * 256 : Nat) : Int) (x3 : Int) = ((x0 * 16777216 + x1 * 65536 + x2 * 256 + x3 : Nat) : Int) := by
  refine ⟨?_, ?_, ?_⟩
  · rw [show (x0 : Int) * 16777216 = ((x0 * 16777216 : Nat) : Int) by omega, show (x1 : Int) * 65536 = ((x1 * 65536 : Nat) : Int) by omega, u32_or_nat _ _ (by omega) (by omega), or24 x0 (x1 * 65536) (by omega)]
  · rw [show (x2 : Int) * 256 = ((x2 * 256 : Nat) : Int) by omega, u32_or_nat _ _ (by omega) (by omega), show x0 * 16777216 + x1 * 65536 = (x0 * 256 + x1) * 65536 by omega, or16 _ (x2 * 256) (by omega)]
  · rw [u32_or_nat _ _ (by omega) (by omega), show x0 * 16777216 + x1 * 65536 + x2 * 256 = (x0 * 65536 + x1 * 256 + x2) * 256 by omega, or8 _ x3 h3]
theorem three (w : World) (A B C : List Value) (ta tb tc : TypeId) :
    Has (((w.alloc (.cells A.toArray ta)).alloc (.cells B.toArray tb)).alloc (.cells C.toArray tc)) w.heap.size A ∧
    Has (((w.alloc (.cells A.toArray ta)).alloc (.cells B.toArray tb)).alloc (.cells C.toArray tc)) (w.heap.size + 1) B ∧
    Has (((w.alloc (.cells A.toArray ta)).alloc (.cells B.toArray tb)).alloc (.cells C.toArray tc)) (w.heap.size + 1 + 1) C ∧
    Grows w (((w.alloc (.cells A.toArray ta)).alloc (.cells B.toArray tb)).alloc (.cells C.toArray tc)) := by
  have h0 := Has.new w ta A
  have g0 := grows_alloc w (.cells A.toArray ta)
  have s0 : (w.alloc (.cells A.toArray ta)).heap.size = w.heap.size + 1 := by simp
  generalize w.alloc (.cells A.toArray ta) = w0 at *
  have h1 := Has.new w0 tb B
  have g1 := grows_alloc w0 (.cells B.toArray tb)
  have s1 : (w0.alloc (.cells B.toArray tb)).heap.size = w.heap.size + 1 + 1 := by simp [s0]
  rw [s0] at h1
  generalize w0.alloc (.cells B.toArray tb) = w1 at *
  have h2 := Has.new w1 tc C
  have g2 := grows_alloc w1 (.cells C.toArray tc)
  rw [s1] at h2
  exact ⟨(h0.later g1).later g2, h1.later g2, h2, Grows.trans g0 (Grows.trans g1 g2)⟩

theorem turned_grow {x : Nat} {z : Int} {u : World} (n : Nat) (hz : z = (n : Int)) (hx : x < 4294967296) (h0 : 0 < n) (hn : n < 32) :
    Calls Tryd.prog 121 #[.int .u32 (x : Int), .int .i64 z] u fun e u' => e = .returned (.int .u32 ((ror n x : Nat) : Int)) ∧ Grows u u' := by
  subst hz
  exact (turned_any x n _ hx h0 hn).mono fun _ _ ⟨he, hw⟩ => ⟨he, by rw [← hw]; exact Grows.refl _⟩

set_option maxRecDepth 100000 in
set_option maxHeartbeats 1000000 in
theorem spread_any (blk : List UInt8) (w : World) (hl : blk.length = 64) :
    Calls Tryd.prog 113 #[.agg (blk.map bv).toArray] w fun e w' => e = .returned (.agg ((spreadL blk).map uv).toArray) ∧ Grows w w' := by
  obtain ⟨hA, hR, hW, hg⟩ := three w (blk.map bv) (zeros64.map uv) (zeros64.map uv) 129 152 152
  have HL := Lib.hid hl
  clear hl
  go_enter Tryd.func113, Tryd.ntmps113
  go_wp2
  change Code.wp _ _ _ _ (((w.alloc (.cells (blk.map bv).toArray 129)).alloc (.cells (zeros64.map uv).toArray 152)).alloc (.cells (zeros64.map uv).toArray 152))
  generalize ((w.alloc (.cells (blk.map bv).toArray 129)).alloc (.cells (zeros64.map uv).toArray 152)).alloc (.cells (zeros64.map uv).toArray 152) = w3 at *
  have l01 : w.heap.size < w.heap.size + 1 + 1 := by omega
  have l12 : w.heap.size + 1 < w.heap.size + 1 + 1 := by omega
  generalize w.heap.size + 1 + 1 = b2 at *
  have l1 : w.heap.size ≤ w.heap.size + 1 := by omega
  generalize w.heap.size + 1 = b1 at *
  have hsl := spreadL_len blk
  have hsa := spreadL_at blk
  have hsb := spreadL_lt blk
  have hzl := zeros64_len
  obtain ⟨ws, hws⟩ : ∃ ws, ws = spreadL blk := ⟨_, rfl⟩
  rw [← hws] at hsl hsa hsb
  generalize zeros64 = zs at *
  have HSL := Lib.hid hsl
  have HSA := Lib.hid hsa
  have HSB := Lib.hid hsb
  have HWS := Lib.hid hws
  have HZL := Lib.hid hzl
  clear hsl hsa hws hsb hzl
  go_loopw [8] (fun i wr => ∃ k : Nat, k ≤ 16 ∧ i = .int .i64 k ∧ Has wr b2 ((ws.take k ++ zs.drop k).map uv) ∧ Below b2 w3 wr) (fun i _ => 16 - (intOf i).toNat)
  case atStart => exact ⟨0, Nat.zero_le _, rfl, hW, Below.refl _ _⟩
  case round =>
    clear hW
    obtain ⟨k, hk, rfl, hhas, hbel⟩ := hrel
    by_cases hlt : k < 16
    · have hA' := hA.below hbel l01
      have c0 := bv_has hA' (4 * k) (by rw [HL.out]; omega)
      have c1 := bv_has hA' (4 * k + 1) (by rw [HL.out]; omega)
      have c2 := bv_has hA' (4 * k + 2) (by rw [HL.out]; omega)
      have c3 := bv_has hA' (4 * k + 3) (by rw [HL.out]; omega)
      have b0 := (blk.getD (4 * k) 0).toNat_lt
      have b1' := (blk.getD (4 * k + 1) 0).toNat_lt
      have b2' := (blk.getD (4 * k + 2) 0).toNat_lt
      have b3 := (blk.getD (4 * k + 3) 0).toNat_lt
      have hat := HSA.out k (by omega)
      rw [if_pos hlt] at hat
      unfold wordAt at hat
      generalize (blk.getD (4 * k) 0).toNat = x0 at *
      generalize (blk.getD (4 * k + 1) 0).toNat = x1 at *
      generalize (blk.getD (4 * k + 2) 0).toNat = x2 at *
      generalize (blk.getD (4 * k + 3) 0).toNat = x3 at *
      obtain ⟨e1, e2, e3⟩ := or_four x0 x1 x2 x3 b0 b1' b2' b3
      obtain ⟨z3, hz3⟩ : ∃ z, z = x0 * 16777216 + x1 * 65536 + x2 * 256 + x3 := ⟨_, rfl⟩
      obtain ⟨z2, hz2⟩ : ∃ z, z = x0 * 16777216 + x1 * 65536 + x2 * 256 := ⟨_, rfl⟩
      obtain ⟨z1, hz1⟩ : ∃ z, z = x0 * 16777216 + x1 * 65536 := ⟨_, rfl⟩
      rw [← hz3] at e3 hat
      rw [← hz2] at e2 e3
      rw [← hz1] at e1 e2
      clear hz1 hz2 hz3
      have HH := Lib.hid hhas
      have HB := Lib.hid hbel
      have HAT := Lib.hid hat
      clear hhas hat
      go_wp2_with fail
      have k0 : (k : Int) < 64 := by omega
      have p0 : (4 : Int) * (k : Int) < 64 := by omega
      have p1 : (4 : Int) * (k : Int) + 1 < 64 := by omega
      have p2 : (4 : Int) * (k : Int) + 2 < 64 := by omega
      have p3 : (4 : Int) * (k : Int) + 3 < 64 := by omega
      have r0 : (0 : Int) ≤ (4 : Int) * (k : Int) := by omega
      have r1 : (0 : Int) ≤ (4 : Int) * (k : Int) + 1 := by omega
      have r2 : (0 : Int) ≤ (4 : Int) * (k : Int) + 2 := by omega
      have r3 : (0 : Int) ≤ (4 : Int) * (k : Int) + 3 := by omega
      have n0 : ((4 : Int) * (k : Int)).toNat = 4 * k := by omega
      have n1 : ((4 : Int) * (k : Int) + 1).toNat = 4 * k + 1 := by omega
      have n2 : ((4 : Int) * (k : Int) + 2).toNat = 4 * k + 2 := by omega
      have n3 : ((4 : Int) * (k : Int) + 3).toNat = 4 * k + 3 := by omega
      have q0 : IntKind.i64.wrap ((4 : Int) * (k : Int)) = 4 * (k : Int) := IntWalk.i64_in _ (by omega)
      have q1 : IntKind.i64.wrap ((4 : Int) * (k : Int) + 1) = 4 * (k : Int) + 1 := IntWalk.i64_in _ (by omega)
      have q2 : IntKind.i64.wrap ((4 : Int) * (k : Int) + 2) = 4 * (k : Int) + 2 := IntWalk.i64_in _ (by omega)
      have q3 : IntKind.i64.wrap ((4 : Int) * (k : Int) + 3) = 4 * (k : Int) + 3 := IntWalk.i64_in _ (by omega)
      have s0 : IntKind.u32.wrap (x0 : Int) = (x0 : Int) := IntWalk.u32_in _ (by omega)
      have s1 : IntKind.u32.wrap (x1 : Int) = (x1 : Int) := IntWalk.u32_in _ (by omega)
      have s2 : IntKind.u32.wrap (x2 : Int) = (x2 : Int) := IntWalk.u32_in _ (by omega)
      have s3 : IntKind.u32.wrap (x3 : Int) = (x3 : Int) := IntWalk.u32_in _ (by omega)
      have t0 : IntKind.u32.wrap ((x0 : Int) * 16777216) = (x0 : Int) * 16777216 := IntWalk.u32_in _ (by omega)
      have t1 : IntKind.u32.wrap ((x1 : Int) * 65536) = (x1 : Int) * 65536 := IntWalk.u32_in _ (by omega)
      have t2 : IntKind.u32.wrap ((x2 : Int) * 256) = (x2 : Int) * 256 := IntWalk.u32_in _ (by omega)
      refine wp_region_ord 31 [(0, true), (1, true), (2, true), (3, true), (4, true), (5, true), (6, true), (7, true), (8, true), (9, true), (10, true), (11, true), (12, true), (13, true), (14, true), (15, true), (16, true), (17, true), (18, true), (19, true), (20, true), (21, true), (22, true), (23, true), (24, true), (25, true), (26, true), (27, true), (28, true), (29, true), (30, true)] (by kernel_rfl) (by kernel_rfl) ?_
      have f0 : ∀ u, Grows wr.drew u → u.cell? ⟨w.heap.size, 4 * k, none⟩ = some (.int .u8 (x0 : Int)) := fun u h => hcell_later (a := wr.drew) c0 h
      have f1 : ∀ u, Grows wr.drew u → u.cell? ⟨w.heap.size, 4 * k + 1, none⟩ = some (.int .u8 (x1 : Int)) := fun u h => hcell_later (a := wr.drew) c1 h
      have f2 : ∀ u, Grows wr.drew u → u.cell? ⟨w.heap.size, 4 * k + 2, none⟩ = some (.int .u8 (x2 : Int)) := fun u h => hcell_later (a := wr.drew) c2 h
      have f3 : ∀ u, Grows wr.drew u → u.cell? ⟨w.heap.size, 4 * k + 3, none⟩ = some (.int .u8 (x3 : Int)) := fun u h => hcell_later (a := wr.drew) c3 h
      have hO := Grows.refl wr.drew
      clear c0 c1 c2 c3 hbel
      repeat (first | (refine ord_take hO _ ?_ (by simp only [List.getElem?_cons_succ, List.getElem?_cons_zero]; rfl) (by rfl) ?_ ?_; rotate_left; (· (intro u hu0 hu; (try go_simp); (try with_reducible rfl))); try simp only [Act.put, List.setIfInBounds_toArray, List.set_cons_zero, List.set_cons_succ]) | (refine ord_skip _ (by simp only [List.getElem?_cons_succ, List.getElem?_cons_zero]; rfl) (by rfl) ?_; try simp only [Act.put, List.setIfInBounds_toArray, List.set_cons_zero, List.set_cons_succ]))
      clear f0 f1 f2 f3 e1 e2 e3 p0 p1 p2 p3 r0 r1 r2 r3 n0 n1 n2 n3 q0 q1 q2 q3 s0 s1 s2 s3 t0 t1 t2 hO
      (refine ord_done (fun u hu => ?_); simp only [List.drop_succ_cons, List.drop_zero])
      have hhu := HH.out.drew.later hu
      have hbu : Below b2 w3 u := Below.trans HB.out.drew (hu.mono (Nat.le_of_lt HH.out.lt))
      have hset := hhu.set_ (k := k) (by simp [HSL.out, HZL.out]; omega) (uv z3)
      rw [← List.map_set, mid_set _ zs k _ HAT.out (by rw [HZL.out]; omega)] at hset
      have hbs := hbu.setCell (p := ⟨b2, k, none⟩) (Nat.le_refl _) (uv z3)
      have hfr := hhu.free k
      obtain ⟨y, hy⟩ : ∃ y, ((ws.take k ++ zs.drop k).map uv)[k]? = some y := ⟨_, List.getElem?_eq_getElem (by simp [HSL.out, HZL.out]; omega)⟩
      have hcy := hhu.cell hy
      clear hy hhu hbu hu
      go_wp2_with fail
      refine NoPanic.normal ?_
      go_wp2_with fail
      go_roundw
      case rel => exact ⟨k + 1, by omega, by go_num, hset, hbs⟩
      case measure => simp [intOf]; omega
    · obtain rfl : k = 16 := by omega
      rw [show ((16 : Nat) : Int) = 16 from rfl]
      go_wp2_with fail
      go_loopw [5] (fun i wr => ∃ k : Nat, 16 ≤ k ∧ k ≤ 64 ∧ i = .int .i64 k ∧ Has wr b2 ((ws.take k ++ zs.drop k).map uv) ∧ Below b2 w3 wr) (fun i _ => 64 - (intOf i).toNat)
      case atStart => exact ⟨16, by omega, by omega, rfl, hhas, hbel⟩
      case round =>
        clear hhas hbel
        obtain ⟨k, hk0, hk, rfl, hhas, hbel⟩ := hrel
        by_cases hlt : k < 64
        · have hlen : (ws.take k ++ zs.drop k).length = 64 := by simp [HSL.out, HZL.out]; omega
          have hgd : ∀ j, j < k → (ws.take k ++ zs.drop k).getD j 0 = ws.getD j 0 := fun j hj => by
            rw [List.getD_eq_getElem?_getD, List.getD_eq_getElem?_getD, List.getElem?_append_left (by simp [HSL.out]; omega), List.getElem?_take, if_pos hj]
          have c15 := uv_has hhas (k - 15) (by omega)
          have c2 := uv_has hhas (k - 2) (by omega)
          have c16 := uv_has hhas (k - 16) (by omega)
          have c7 := uv_has hhas (k - 7) (by omega)
          rw [hgd _ (by omega)] at c15 c2 c16 c7
          have hat := HSA.out k hlt
          rw [if_neg (by omega)] at hat
          unfold nextW at hat
          have b15 := getD_lt HSB.out (by omega) (k - 15)
          have b2' := getD_lt HSB.out (by omega) (k - 2)
          generalize ws.getD (k - 15) 0 = x15 at *
          generalize ws.getD (k - 2) 0 = x2 at *
          generalize ws.getD (k - 16) 0 = x16 at *
          generalize ws.getD (k - 7) 0 = x7 at *
          have e1 := u32_xor_nat (ror 7 x15) (ror 18 x15) (ror_lt (by omega) b15) (ror_lt (by omega) b15)
          have e2 : bits .xor .u32 ((ror 7 x15 ^^^ ror 18 x15 : Nat) : Int) ((x15 : Int) / 8) = (smallX x15 : Int) := u32_xor_nat _ (x15 / 8) (xor_lt (ror_lt (by omega) b15) (ror_lt (by omega) b15)) (by omega)
          have e3 := u32_xor_nat (ror 17 x2) (ror 19 x2) (ror_lt (by omega) b2') (ror_lt (by omega) b2')
          have e4 : bits .xor .u32 ((ror 17 x2 ^^^ ror 19 x2 : Nat) : Int) ((x2 : Int) / 1024) = (smallY x2 : Int) := u32_xor_nat _ (x2 / 1024) (xor_lt (ror_lt (by omega) b2') (ror_lt (by omega) b2')) (by omega)
          generalize (ror 7 x15 ^^^ ror 18 x15) = y1 at e1 e2
          generalize (ror 17 x2 ^^^ ror 19 x2) = y2 at e3 e4
          have s1 := wrap_add x16 (smallX x15)
          have s2 := wrap_add ((x16 + smallX x15) % 4294967296) x7
          have s3 := wrap_add (((x16 + smallX x15) % 4294967296 + x7) % 4294967296) (smallY x2)
          generalize smallX x15 = sx at *
          generalize smallY x2 = sy at *
          generalize (x16 + sx) % 4294967296 = t1 at *
          generalize (t1 + x7) % 4294967296 = t2 at *
          generalize (t2 + sy) % 4294967296 = t3 at *
          have HAT := Lib.hid hat
          have HLEN := Lib.hid hlen
          have HC16 := Lib.hid c16
          have HC7 := Lib.hid c7
          clear hat hlen hgd c16 c7
          go_wp2_with fail
          have q15 : IntKind.i64.wrap ((k : Int) - 15) = (k : Int) - 15 := IntWalk.i64_in _ (by omega)
          have q2 : IntKind.i64.wrap ((k : Int) - 2) = (k : Int) - 2 := IntWalk.i64_in _ (by omega)
          have p15 : 0 ≤ (k : Int) - 15 := by omega
          have p2 : 0 ≤ (k : Int) - 2 := by omega
          have n15 : ((k : Int) - 15).toNat = k - 15 := by omega
          have n2 : ((k : Int) - 2).toNat = k - 2 := by omega
          go_quiet (fail)
          clear q15 q2 p15 p2 n15 n2
          have hhas1 := hhas.drawn (m := nq)
          have hbel1 : Below b2 w3 (wr.drewN nq) := below_draws hbel
          have c16 : (wr.drewN nq).cell? ⟨b2, k - 16, none⟩ = _ := HC16.out
          have c7 : (wr.drewN nq).cell? ⟨b2, k - 7, none⟩ = _ := HC7.out
          clear hhas hbel c15 c2 HC16 HC7
          generalize wr.drewN nq = w5 at *
          have HH := Lib.hid hhas1
          have HB := Lib.hid hbel1
          clear hhas1 hbel1
          go_wp2_with fail
          refine wp_region_ord 29 [(0, true), (1, true), (2, true), (3, true), (4, true), (5, true), (6, true), (7, true), (8, true), (9, true), (10, true), (11, true), (12, true), (13, true), (14, true), (15, true), (16, true), (17, true), (18, true), (19, true), (20, true), (21, true), (22, true), (23, true), (24, true), (25, true), (26, true), (27, true), (28, true)] (by kernel_rfl) (by kernel_rfl) ?_
          have f16 : ∀ u, Grows w5.drew u → u.cell? ⟨b2, k - 16, none⟩ = some (.int .u32 (x16 : Int)) := fun u h => hcell_later (a := w5.drew) c16 h
          have f7 : ∀ u, Grows w5.drew u → u.cell? ⟨b2, k - 7, none⟩ = some (.int .u32 (x7 : Int)) := fun u h => hcell_later (a := w5.drew) c7 h
          have hO := Grows.refl w5.drew
          have d16 : (16 : Int) ≤ (k : Int) := by omega
          have d7 : (7 : Int) ≤ (k : Int) := by omega
          have l16 : (k : Int) - 16 < 64 := by omega
          have l7 : (k : Int) - 7 < 64 := by omega
          have k0 : (k : Int) < 64 := by omega
          have q16 : IntKind.i64.wrap ((k : Int) - 16) = (k : Int) - 16 := IntWalk.i64_in _ (by omega)
          have q7 : IntKind.i64.wrap ((k : Int) - 7) = (k : Int) - 7 := IntWalk.i64_in _ (by omega)
          have n16 : ((k : Int) - 16).toNat = k - 16 := by omega
          have n7 : ((k : Int) - 7).toNat = k - 7 := by omega
          clear c16 c7
          repeat (first | (refine ord_take hO _ ?_ (by simp only [List.getElem?_cons_succ, List.getElem?_cons_zero]; rfl) (by rfl) ?_ ?_; rotate_left; (· (intro u hu0 hu; (try go_simp); (try with_reducible rfl))); try simp only [Act.put, List.setIfInBounds_toArray, List.set_cons_zero, List.set_cons_succ]) | (refine ord_skip _ (by simp only [List.getElem?_cons_succ, List.getElem?_cons_zero]; rfl) (by rfl) ?_; try simp only [Act.put, List.setIfInBounds_toArray, List.set_cons_zero, List.set_cons_succ]) | (refine ord_call hO _ ?_ (by simp only [List.getElem?_cons_succ, List.getElem?_cons_zero]; rfl) (by rfl) ?_ ?_; rotate_left; (· (intro u hu0 hu; go_simp; (try refine quiet_enter ?_); (first | exact turned_grow 7 (by rfl) b15 (by decide) (by decide) | exact turned_grow 18 (by rfl) b15 (by decide) (by decide) | exact turned_grow 17 (by rfl) b2' (by decide) (by decide) | exact turned_grow 19 (by rfl) b2' (by decide) (by decide)))); try simp only [Act.put, List.setIfInBounds_toArray, List.set_cons_zero, List.set_cons_succ]))
          clear f16 f7 hO d16 d7 l16 l7 q16 q7 n16 n7 e1 e2 e3 e4 s1 s2 s3
          (refine ord_done (fun u hu => ?_); simp only [List.drop_succ_cons, List.drop_zero])
          have hhu := HH.out.drew.later hu
          have hbu : Below b2 w3 u := Below.trans HB.out.drew (hu.mono (Nat.le_of_lt HH.out.lt))
          have hset := hhu.set_ (k := k) (by rw [List.length_map, HLEN.out]; omega) (uv t3)
          rw [← List.map_set, mid_set _ zs k _ HAT.out (by rw [HZL.out]; omega)] at hset
          have hbs := hbu.setCell (p := ⟨b2, k, none⟩) (Nat.le_refl _) (uv t3)
          have hfr := hhu.free k
          obtain ⟨y, hy⟩ : ∃ y, ((ws.take k ++ zs.drop k).map uv)[k]? = some y := ⟨_, List.getElem?_eq_getElem (by rw [List.length_map, HLEN.out]; omega)⟩
          have hcy := hhu.cell hy
          clear hy hhu hbu hu
          go_wp2_with fail
          refine NoPanic.normal ?_
          go_wp2_with fail
          go_roundw
          case rel => exact ⟨k + 1, by omega, by omega, by go_num, hset, hbs⟩
          case measure => simp [intOf]; omega
        · obtain rfl : k = 64 := by omega
          rw [List.take_of_length_le (by rw [HSL.out]; omega), List.drop_of_length_le (by rw [HZL.out]; omega), List.append_nil] at hhas
          have hld := hhas.load Tryd.underlying152 rfl (by rw [List.length_map, HSL.out]; exact arr64_size)
          have hRb := hR.below hbel l12
          go_wp2_with (first | (with_reducible refine wpList_loads rfl 152 (.tmp 3) rfl _ rfl _ hld ?_) | (refine wpList_storev rfl 152 (.tmp 2) (.tmp 84) rfl b1 (zs.map uv) (ws.map uv) 64 rfl rfl hRb (by rw [List.length_map, HZL.out]) (by rw [List.length_map, HSL.out]) arr64_size (uv_one ws) ?_; intro w6 hbox6 hbel6))
          have hfin := hbel6 _ _ l1 (Below.trans hg (hbel.mono (Nat.le_of_lt l01)))
          rw [HWS.out] at hbox6
          refine bodyPost_ret (v := .agg ((spreadL blk).map uv).toArray) (res_has Tryd.results113 _ rfl Tryd.underlying152 rfl (by rw [List.length_map, spreadL_len]; exact arr64_size) hbox6) rfl ⟨rfl, hfin⟩
end Go.Proofs.YtnokloedbckijaaDoor

/-
  Contract of sha.mixed: what a block's 64 words make of eight. Condition: the table keys holds the document's numbers.
-/
namespace Go.Proofs.YtnokloedbckijaaDoor
open Go.RowKit
set_option linter.unusedVariables false
set_option maxRecDepth 20000

/-- The table keys holds the document's numbers. -/
def Keys (w : World) : Prop := w.rangeAt 1 0 (roots64.map uv)
theorem Keys.later {w w' : World} (h : Keys w) (hg : Grows w w') : Keys w' := range_later h hg
theorem Keys.pos {w : World} (h : Keys w) : 1 < w.heap.size := World.block_lt_of_cell? w ⟨1, 0 + 0, none⟩ (h 0 _ rfl)
theorem Keys.below {w w' : World} {B : Nat} (h : Keys w) (hb : Below B w w') (hB : 1 < B) : Keys w' := range_below h hb hB
theorem Keys.at_ {w : World} (h : Keys w) (i : Nat) (hi : i < 64) : w.cell? ⟨1, i, none⟩ = some (.int .u32 ((roots64.getD i 0 : Nat) : Int)) := by
  have := uv_at h i (by rw [roots64_len]; exact hi)
  rwa [Nat.zero_add] at this

theorem run_index_words {P : Program} {t e : TypeId} {n : Nat} (ht : P.underlying t = some (.array n e)) (he : P.underlying e = some (.int .u32)) (hse : (P.info? e).map (·.size) = some 1) (l : List Nat) (hl : l.length = n) (i : Nat) (hi : i < n) (w : World) :
    (Instr.index t (.agg (l.map uv).toArray) (.int .i64 (i : Int))).run P w = .ok (.int .u32 ((l.getD i 0 : Nat) : Int)) w := by
  have h1 : (0 : Int) ≤ (i : Int) ∧ (i : Int) < (n : Int) := by omega
  obtain ⟨inf, hinf, hsz⟩ := Option.map_eq_some_iff.1 hse
  simp [Instr.index, run_underlying ht, asIntOf, h1, sizeOf, typeInfo, hinf, hsz, part, isAgg, run_underlying he, hl, hi]

theorem u32_not (a : Nat) (ha : a < 4294967296) : bits .xor .u32 (if IntKind.u32.signed = true then -1 else IntKind.u32.max) (a : Int) = ((4294967295 - a : Nat) : Int) := by
  show IntKind.u32.wrap ((BitVec.ofInt 32 (if IntKind.u32.signed = true then -1 else IntKind.u32.max) ^^^ BitVec.ofInt 32 (a : Int)).toNat : Int) = _
  have h1 : BitVec.ofInt 32 (if IntKind.u32.signed = true then -1 else IntKind.u32.max) = BitVec.allOnes 32 := by decide
  rw [h1, BitVec.allOnes_xor, BitVec.toNat_not, ofInt_u32 a ha, IntKind.wrap_u32']
  omega

def zeros8 : List Nat := List.replicate 8 0
theorem zeros8_len : zeros8.length = 8 := rfl
theorem u32_one : (Tryd.prog.info? 93).map (·.size) = some 1 := by kernel_rfl

theorem turned_lit {x : Nat} {z : Int} {u : World} (n : Nat) (hz : z = (n : Int)) (hx : x < 4294967296) (h0 : 0 < n) (hn : n < 32) :
    Calls Tryd.prog 121 #[.int .u32 (x : Int), .int .i64 z] u fun e u' => e = .returned (.int .u32 ((ror n x : Nat) : Int)) ∧ u = u' := by
  subst hz
  exact turned_any x n _ hx h0 hn

set_option maxRecDepth 100000 in
set_option maxHeartbeats 1000000 in
theorem mixed_any (v : V8) (ws : List Nat) (w : World) (hv : v.Ok) (hl : ws.length = 64) (hk : Keys w) :
    Calls Tryd.prog 112 #[.agg (v.list.map uv).toArray, .agg (ws.map uv).toArray] w fun e w' => e = .returned (.agg ((add8 v (rounds roots64 ws 64 v)).list.map uv).toArray) ∧ Grows w w' := by
  obtain ⟨hA, hW, hR, hg⟩ := three w (v.list.map uv) (ws.map uv) (zeros8.map uv) 128 152 128
  have HL := Lib.hid hl
  clear hl
  have hk3 := hk.later hg
  have hk0 := hk.pos
  go_enter Tryd.func112, Tryd.ntmps112
  go_wp2_with fail
  change Code.wp _ _ _ _ (((w.alloc (.cells (v.list.map uv).toArray 128)).alloc (.cells (ws.map uv).toArray 152)).alloc (.cells (zeros8.map uv).toArray 128))
  generalize ((w.alloc (.cells (v.list.map uv).toArray 128)).alloc (.cells (ws.map uv).toArray 152)).alloc (.cells (zeros8.map uv).toArray 128) = w3 at *
  have l01 : w.heap.size < w.heap.size + 1 + 1 := by omega
  have l12 : w.heap.size + 1 < w.heap.size + 1 + 1 := by omega
  generalize w.heap.size + 1 + 1 = b2 at *
  have l1 : w.heap.size ≤ w.heap.size + 1 := by omega
  generalize w.heap.size + 1 = b1 at *
  have hzl := zeros8_len
  generalize zeros8 = zs at *
  have HZL := Lib.hid hzl
  have HR0 := Lib.hid (show rounds roots64 ws 0 v = v from rfl)
  clear hzl
  have d0 := hA.cell (k := 0) rfl
  have d1 := hA.cell (k := 1) rfl
  have d2 := hA.cell (k := 2) rfl
  have d3 := hA.cell (k := 3) rfl
  have d4 := hA.cell (k := 4) rfl
  have d5 := hA.cell (k := 5) rfl
  have d6 := hA.cell (k := 6) rfl
  have d7 := hA.cell (k := 7) rfl
  simp only [uv] at d0 d1 d2 d3 d4 d5 d6 d7
  go_quiet (fail)
  clear d0 d1 d2 d3 d4 d5 d6 d7
  have hA4 := hA.drawn (m := nq)
  have hW4 := hW.drawn (m := nq)
  have hR4 := hR.drawn (m := nq)
  have hk4 : Keys (w3.drewN nq) := hk3
  have hg4 : Grows w (w3.drewN nq) := below_draws hg
  clear hA hW hR hk3 hg
  generalize w3.drewN nq = w4 at *
  go_wp2_with fail
  go_loopw [5, 6, 7, 8, 9, 10, 11, 12, 34] (fun a b c d e f g h i wr => ∃ (k : Nat) (V : V8), k ≤ 64 ∧ V = rounds roots64 ws k v ∧ V.Ok ∧ i = .int .i64 k ∧ a = uv V.a ∧ b = uv V.b ∧ c = uv V.c ∧ d = uv V.d ∧ e = uv V.e ∧ f = uv V.f ∧ g = uv V.g ∧ h = uv V.h ∧ Grows w4 wr) (fun _ _ _ _ _ _ _ _ i _ => 64 - (intOf i).toNat)
  case atStart => exact ⟨0, v, Nat.zero_le _, rfl, hv, rfl, rfl, rfl, rfl, rfl, rfl, rfl, rfl, rfl, Grows.refl _⟩
  case round =>
    obtain ⟨k, V, hk, hV, hOk, rfl, rfl, rfl, rfl, rfl, rfl, rfl, rfl, rfl, hgr⟩ := hrel
    by_cases hlt : k < 64
    · have HR := Lib.hid (show rounds roots64 ws (k + 1) v = rnd (rounds roots64 ws k v) (roots64.getD k 0) (ws.getD k 0) from rfl)
      rw [← hV] at HR
      have HV := Lib.hid hV
      clear hV
      obtain ⟨xa, xb, xc, xd, xe, xf, xg, xh⟩ := V
      obtain ⟨ba, bb, bc, bd, be, bf, bg, bh⟩ := hOk
      simp only [] at ba bb bc bd be bf bg bh
      have hkc := (hk4.later hgr).at_ k hlt
      have hwc := uv_has (hW4.later hgr) k (by rw [HL.out]; exact hlt)
      generalize roots64.getD k 0 = kk at *
      generalize ws.getD k 0 = wk at *
      have k0 : (k : Int) < 64 := by omega
      have e1 := u32_xor_nat (ror 6 xe) (ror 11 xe) (ror_lt (by omega) be) (ror_lt (by omega) be)
      have e2 : bits .xor .u32 ((ror 6 xe ^^^ ror 11 xe : Nat) : Int) (ror 25 xe : Int) = (bigE xe : Int) := u32_xor_nat _ _ (xor_lt (ror_lt (by omega) be) (ror_lt (by omega) be)) (ror_lt (by omega) be)
      generalize (ror 6 xe ^^^ ror 11 xe) = y1 at e1 e2
      have e3 := u32_and_nat xe xf be bf
      have e0 := u32_not xe be
      have e4 := u32_and_nat (4294967295 - xe) xg (by omega) bg
      have e5 : bits .xor .u32 ((xe &&& xf : Nat) : Int) (((4294967295 - xe) &&& xg : Nat) : Int) = (choose xe xf xg : Int) := u32_xor_nat _ _ (and_lt be) (and_lt (by omega))
      generalize (xe &&& xf) = y2 at e3 e5
      generalize ((4294967295 - xe) &&& xg) = y3 at e4 e5
      generalize (4294967295 - xe) = y6 at e0 e4
      have t1 := wrap_add xh (bigE xe)
      have t2 := wrap_add ((xh + bigE xe) % 4294967296) (choose xe xf xg)
      have t3 := wrap_add (((xh + bigE xe) % 4294967296 + choose xe xf xg) % 4294967296) kk
      have t4 := wrap_add ((((xh + bigE xe) % 4294967296 + choose xe xf xg) % 4294967296 + kk) % 4294967296) wk
      have HT := Lib.hid (show tee ⟨xa, xb, xc, xd, xe, xf, xg, xh⟩ kk wk = ((((xh + bigE xe) % 4294967296 + choose xe xf xg) % 4294967296 + kk) % 4294967296 + wk) % 4294967296 from rfl)
      generalize (xh + bigE xe) % 4294967296 = t1v at *
      generalize (t1v + choose xe xf xg) % 4294967296 = t2v at *
      generalize (t2v + kk) % 4294967296 = t3v at *
      generalize (t3v + wk) % 4294967296 = tv at *
      generalize bigE xe = sE at *
      generalize choose xe xf xg = sC at *
      simp only [uv]
      go_wp2_with fail
      go_quiet (((go_at_call 121; first | exact turned_quiet 6 (by rfl) be (by decide) (by decide) | exact turned_quiet 11 (by rfl) be (by decide) (by decide) | exact turned_quiet 25 (by rfl) be (by decide) (by decide))))
      have hgr1 : Grows w4 (wr.drewN nq) := below_draws hgr
      clear hgr hkc hwc e0 e1 e2 e3 e4 e5 t1 t2 t3 t4
      generalize wr.drewN nq = w5 at *
      have e1 := u32_xor_nat (ror 2 xa) (ror 13 xa) (ror_lt (by omega) ba) (ror_lt (by omega) ba)
      have e2 : bits .xor .u32 ((ror 2 xa ^^^ ror 13 xa : Nat) : Int) (ror 22 xa : Int) = (bigA xa : Int) := u32_xor_nat _ _ (xor_lt (ror_lt (by omega) ba) (ror_lt (by omega) ba)) (ror_lt (by omega) ba)
      generalize (ror 2 xa ^^^ ror 13 xa) = y1 at e1 e2
      have e3 := u32_and_nat xa xb ba bb
      have e4 := u32_and_nat xa xc ba bc
      have e5 := u32_and_nat xb xc bb bc
      have e6 := u32_xor_nat (xa &&& xb) (xa &&& xc) (and_lt ba) (and_lt ba)
      have e7 : bits .xor .u32 ((((xa &&& xb) ^^^ (xa &&& xc)) : Nat) : Int) ((xb &&& xc : Nat) : Int) = (most xa xb xc : Int) := u32_xor_nat _ _ (xor_lt (and_lt ba) (and_lt ba)) (and_lt bb)
      generalize ((xa &&& xb) ^^^ (xa &&& xc)) = y4 at e6 e7
      generalize (xa &&& xb) = y1 at e3 e6
      generalize (xa &&& xc) = y2 at e4 e6
      generalize (xb &&& xc) = y3 at e5 e7
      have HY := Lib.hid (show you ⟨xa, xb, xc, xd, xe, xf, xg, xh⟩ = (bigA xa + most xa xb xc) % 4294967296 from rfl)
      have t1 := wrap_add (bigA xa) (most xa xb xc)
      have t2 := wrap_add tv ((bigA xa + most xa xb xc) % 4294967296)
      have t3 := wrap_add xd tv
      have HV2 : Hid (rounds roots64 ws (k + 1) v = ⟨(tv + (bigA xa + most xa xb xc) % 4294967296) % 4294967296, xa, xb, xc, (xd + tv) % 4294967296, xe, xf, xg⟩) := by
        show rounds roots64 ws (k + 1) v = _
        rw [HR.out]
        simp only [rnd, HT.out, HY.out]
      generalize bigA xa = sA at *
      generalize most xa xb xc = sM at *
      generalize (sA + sM) % 4294967296 = uu at *
      have ha' : (tv + uu) % 4294967296 < 4294967296 := Nat.mod_lt _ (by decide)
      have he' : (xd + tv) % 4294967296 < 4294967296 := Nat.mod_lt _ (by decide)
      generalize (tv + uu) % 4294967296 = za at *
      generalize (xd + tv) % 4294967296 = ze at *
      go_wp2_with (go_at_call 121; first
        | (refine (turned_lit 2 (by rfl) ba (by decide) (by decide)).mono ?_; rintro e w' ⟨rfl, rfl⟩)
        | (refine (turned_lit 13 (by rfl) ba (by decide) (by decide)).mono ?_; rintro e w' ⟨rfl, rfl⟩)
        | (refine (turned_lit 22 (by rfl) ba (by decide) (by decide)).mono ?_; rintro e w' ⟨rfl, rfl⟩))
      go_roundw
      case rel => exact ⟨k + 1, _, by omega, HV2.out.symm, ⟨ha', ba, bb, bc, he', be, bf, bg⟩, by go_num, rfl, rfl, rfl, rfl, rfl, rfl, rfl, rfl, hgr1⟩
      case measure => simp [intOf]; omega
    · obtain rfl : k = 64 := by omega
      have hA5 := hA4.later hgr
      have hR5 := hR4.later hgr
      have hg5 := Grows.trans hg4 hgr
      have hadd := add8_at v V
      have hml : (add8 v V).list = (add8 v (rounds roots64 ws 64 v)).list := by rw [hV]
      have hix : ∀ k : Nat, k < 8 → ∀ w, (Instr.index 128 (.agg #[.int .u32 (V.a : Int), .int .u32 (V.b : Int), .int .u32 (V.c : Int), .int .u32 (V.d : Int), .int .u32 (V.e : Int), .int .u32 (V.f : Int), .int .u32 (V.g : Int), .int .u32 (V.h : Int)]) (.int .i64 (k : Int))).run Tryd.prog w = .ok (.int .u32 ((V.list.getD k 0 : Nat) : Int)) w := run_index_words (P := Tryd.prog) Tryd.underlying128 Tryd.underlying93 u32_one V.list rfl
      have l8 : (add8 v V).list.length = 8 := rfl
      have l8' : v.list.length = 8 := rfl
      have HML := Lib.hid hml
      have HIX := Lib.hid hix
      clear hml hA4 hW4 hR4 hg4 hV hgr hk4 hix hOk
      go_wp2_with fail
      generalize (add8 v V).list = ml at *
      generalize v.list = vl at *
      generalize V.list = rl at *
      have HA := Lib.hid hadd
      have L1 := Lib.hid l8
      have L2 := Lib.hid l8'
      clear hadd l8 l8'
      go_loopw [106] (fun i wr => ∃ k : Nat, k ≤ 8 ∧ i = .int .i64 k ∧ Has wr w.heap.size ((ml.take k ++ vl.drop k).map uv) ∧ Has wr b2 (zs.map uv) ∧ Grows w wr) (fun i _ => 8 - (intOf i).toNat)
      case atStart => exact ⟨0, by omega, rfl, by simpa using hA5, hR5, hg5⟩
      case round =>
        clear hA5 hR5 hg5
        obtain ⟨k, hk, rfl, hhas, hR, hgr⟩ := hrel
        by_cases hlt : k < 8
        · have hix := HIX.out k hlt
          have d1 := uv_has hhas k (by simp [L1.out, L2.out]; omega)
          rw [mid_getD _ _ _ (by rw [L1.out]; omega) (by rw [L2.out]; exact hlt)] at d1
          have t1 := wrap_add (vl.getD k 0) (rl.getD k 0)
          rw [Nat.add_comm (vl.getD k 0), ← HA.out k hlt] at t1
          have hset := hhas.set_ (k := k) (by simp [L1.out, L2.out]; omega) (uv (ml.getD k 0))
          rw [← List.map_set, mid_set ml vl k _ (getD_some (by rw [L1.out]; exact hlt)) (by rw [L2.out]; exact hlt)] at hset
          have hfr := hhas.free k
          have hgs := hgr.setCell (p := ⟨w.heap.size, k, none⟩) (Nat.le_refl _) (uv (ml.getD k 0))
          have hRs : Has (wr.setCell ⟨w.heap.size, k, none⟩ (uv (ml.getD k 0))) b2 (zs.map uv) := ⟨by simpa [World.setCell] using hR.lt, fun j u hu => by
            rw [World.cell?_setCell_other wr _ _ _ (by intro e; injection e with e; omega)]; exact hR.cells j u hu, fun j => by simpa using hR.free j⟩
          clear hhas hgr hR
          generalize rl.getD k 0 = x at *
          generalize vl.getD k 0 = y at *
          generalize ml.getD k 0 = z at *
          have k0 : (k : Int) < 8 := by omega
          go_wp2_with fail
          go_roundw
          case rel => exact ⟨k + 1, by omega, by go_num, hset, hRs, hgs⟩
          case measure => simp [intOf]; omega
        · obtain rfl : k = 8 := by omega
          rw [List.take_of_length_le (by rw [L1.out]; omega), List.drop_of_length_le (by rw [L2.out]; omega), List.append_nil] at hhas
          have hld := hhas.load Tryd.underlying128 rfl (by rw [List.length_map, L1.out]; exact arr8_size)
          go_wp2_with (first | (with_reducible refine wpList_loads rfl 128 (.tmp 2) rfl _ rfl _ hld ?_) | (refine wpList_storev rfl 128 (.tmp 4) (.tmp 117) rfl b2 (zs.map uv) (ml.map uv) 8 rfl rfl hR (by rw [List.length_map, HZL.out]) (by rw [List.length_map, L1.out]) arr8_size (uv_one ml) ?_; intro w6 hbox6 hbel6))
          have hfin := hbel6 _ _ (Nat.le_of_lt l01) hgr
          rw [HML.out] at hbox6
          refine bodyPost_ret (v := .agg ((add8 v (rounds roots64 ws 64 v)).list.map uv).toArray) (res_has Tryd.results112 _ rfl Tryd.underlying128 rfl (by rw [List.length_map]; exact arr8_size) hbox6) rfl ⟨rfl, hfin⟩
end Go.Proofs.YtnokloedbckijaaDoor

/-
  Contracts of sha's State: New, put, Write, Clone, Len, Sum, and of sha.Sum and sha.digest. Conditions: the table keys holds the document's numbers; the state lies in a block of its own.
-/
namespace Go.Proofs.YtnokloedbckijaaDoor
open Go.RowKit
set_option linter.unusedVariables false
set_option maxRecDepth 20000

/-- Nothing that was there has turned but block b. -/
abbrev But (b : Nat) (w w' : World) : Prop := w.grownBy w' (some b)
section
variable {b b' : Nat} {w w' w'' : World} {vs : List Value}
theorem But.refl (b : Nat) (w : World) : But b w w := World.grownBy.refl w _
theorem But.of_grows (h : Grows w w') : But b w w' := ⟨h.os, h.tape, h.output, h.size, fun i hi _ => h.block i hi⟩
theorem But.of_set (w : World) (b o : Nat) (u : Value) : But b w (w.setCell ⟨b, o, none⟩ u) :=
  ⟨rfl, rfl, rfl, by simp [World.setCell], fun i hi hne => Below.heap_setCell w _ u i (fun e => hne (by rw [e]))⟩
theorem But.setCells (b : Nat) : ∀ (vs : List Value) (o : Nat) (w : World), But b w (w.setCells b o vs)
  | [], _, w => But.refl b w
  | v :: r, o, w => World.grownBy.trans (But.of_set w b o v) (But.setCells b r (o + 1) _)
theorem Has.but (h : Has w b' vs) (hb : But b w w') (hne : b' ≠ b) : Has w' b' vs :=
  ⟨Nat.lt_of_lt_of_le h.lt hb.size, fun j u hu => hb.cell (h.cells j u hu) (fun e => hne (Option.some.inj e)), fun j => (hb.frozen_far ⟨b', j, none⟩ h.lt (fun e => hne (Option.some.inj e))).trans (h.free j)⟩
theorem Keys.but (h : Keys w) (hb : But b w w') (hne : 1 < b) : Keys w' := fun j u hu => hb.cell (h j u hu) (fun e => absurd (Option.some.inj e) (by show 1 ≠ b; omega))
theorem Lies.but {A : Option Addr} (h : Lies w b A vs) (hb : But b w w') : Lies w' b A vs := fun j u hu => by
  obtain ⟨ad, e, hlt, hc⟩ := h j u hu
  exact ⟨ad, e, hlt, hb.cell hc (fun e => by rw [add_block] at e; have := Option.some.inj e; omega)⟩
end

theorem state_size : (Tryd.prog.info? 131).map (·.size) = some 73 := by kernel_rfl
theorem v8_len (v : V8) : v.list.length = 8 := rfl
theorem uv8_len (v : V8) : (v.list.map uv).length = 8 := rfl

/-- The state in block b: the words v, the last bytes blk, n bytes in all. -/
structure St (w : World) (b : Nat) (v : V8) (blk : List UInt8) (n : Nat) : Prop where
  has : Has w b (v.list.map uv ++ (blk.map bv ++ [.int .i64 (n : Int)]))
  blen : blk.length = 64
section
variable {b n : Nat} {w w' : World} {v : V8} {blk : List UInt8}
theorem St.words (h : St w b v blk n) : w.rangeAt b 0 (v.list.map uv) := h.has.part 0 (fun j u hu => by
  rw [Nat.zero_add, List.getElem?_append_left (List.getElem?_eq_some_iff.1 hu).1]; exact hu)
theorem St.block (h : St w b v blk n) : w.rangeAt b 8 (blk.map bv) := h.has.part 8 (fun j u hu => by
  rw [List.getElem?_append_right (by rw [uv8_len]; omega), uv8_len, Nat.add_sub_cancel_left, List.getElem?_append_left (List.getElem?_eq_some_iff.1 hu).1]; exact hu)
theorem St.size (h : St w b v blk n) : w.cell? ⟨b, 72, none⟩ = some (.int .i64 (n : Int)) := h.has.cell (by
  rw [List.getElem?_append_right (by rw [uv8_len]; omega), uv8_len, List.getElem?_append_right (by rw [List.length_map, h.blen]; omega), List.length_map, h.blen]; rfl)
theorem St.setSize (h : St w b v blk n) (m : Nat) : St (w.setCell ⟨b, 72, none⟩ (.int .i64 (m : Int))) b v blk m := by
  refine ⟨?_, h.blen⟩
  have := h.has.set_ (k := 72) (by simp [v8_len, h.blen]) (.int .i64 (m : Int))
  rwa [List.set_append_right _ _ (by rw [uv8_len]; omega), uv8_len, List.set_append_right _ _ (by rw [List.length_map, h.blen]; omega), List.length_map, h.blen] at this
theorem St.setByte (h : St w b v blk n) (k : Nat) (hk : k < 64) (c : UInt8) : St (w.setCell ⟨b, 8 + k, none⟩ (bv c)) b v (blk.set k c) n := by
  refine ⟨?_, by rw [List.length_set]; exact h.blen⟩
  have := h.has.set_ (k := 8 + k) (by simp [v8_len, h.blen]; omega) (bv c)
  rwa [List.set_append_right _ _ (by rw [uv8_len]; omega), uv8_len, Nat.add_sub_cancel_left, List.set_append_left _ _ (by rw [List.length_map, h.blen]; exact hk), ← List.map_set] at this
theorem St.setWords (h : St w b v blk n) (v' : V8) : St (w.setCells b 0 (v'.list.map uv)) b v' blk n := by
  have ht : w.there b 0 (v'.list.map uv).length := by
    have := there_of h.words h.has.free
    rwa [uv8_len] at this
  refine ⟨⟨by rw [size_setCells]; exact h.has.lt, ?_, fun j => by rw [World.frozen?_setCells]; exact h.has.free j⟩, h.blen⟩
  intro j u hu
  rcases Nat.lt_or_ge j 8 with hj | hj
  · rw [List.getElem?_append_left (by rw [uv8_len]; exact hj)] at hu
    exact World.rangeAt_setCells_same w b 0 _ ht j u hu
  · have h1 : (v.list.map uv ++ (blk.map bv ++ [.int .i64 (n : Int)]))[j]? = some u := by
      rw [List.getElem?_append_right (by rw [uv8_len]; exact hj), uv8_len] at hu ⊢
      exact hu
    rw [World.cell?_setCells_out b _ 0 w ⟨b, 0 + j, none⟩ (fun _ _ => .inr (by rw [uv8_len]; show 0 + 8 ≤ 0 + j; omega))]
    exact h.has.cells j u h1
theorem St.later (h : St w b v blk n) (hg : Grows w w') : St w' b v blk n := ⟨h.has.later hg, h.blen⟩
theorem St.but {b' : Nat} (h : St w b v blk n) (hb : But b' w w') (hne : b ≠ b') : St w' b v blk n := ⟨h.has.but hb hne, h.blen⟩
end

/-- The state in block b holds the bytes l. -/
def Hold (w : World) (b : Nat) (l : List UInt8) : Prop := ∃ blk, St w b (through l (l.length / 64)) blk l.length ∧ blk.take (l.length % 64) = l.drop (64 * (l.length / 64))
theorem Hold.later {w w' : World} {b : Nat} {l : List UInt8} (h : Hold w b l) (hg : Grows w w') : Hold w' b l := h.imp fun _ ⟨h1, h2⟩ => ⟨h1.later hg, h2⟩
theorem Hold.but {w w' : World} {b b' : Nat} {l : List UInt8} (h : Hold w b l) (hb : But b' w w') (hne : b ≠ b') : Hold w' b l := h.imp fun _ ⟨h1, h2⟩ => ⟨h1.but hb hne, h2⟩

/-- The last byte fills the block. -/
theorem fill_full {l blk : List UInt8} {c : UInt8} (hb : blk.length = 64) (hp : blk.take (l.length % 64) = l.drop (64 * (l.length / 64))) (h : (l.length + 1) % 64 = 0) :
    through (l ++ [c]) ((l ++ [c]).length / 64) = mix (through l (l.length / 64)) (blk.set (l.length % 64) c) ∧ (l ++ [c]).length % 64 = 0 ∧ (l ++ [c]).drop (64 * ((l ++ [c]).length / 64)) = [] := by
  have e1 : (l ++ [c]).length = l.length + 1 := by simp
  have e2 : (l.length + 1) / 64 = l.length / 64 + 1 := by omega
  rw [e1, e2]
  refine ⟨?_, h, List.drop_of_length_le (by rw [e1]; omega)⟩
  rw [through, through_append l [c] _ (by omega)]
  congr 1
  have h63 : l.length % 64 = 63 := by omega
  rw [h63] at hp ⊢
  rw [List.drop_append_of_le_length (by omega), ← hp]
  apply List.ext_getElem?
  intro i
  rcases Nat.lt_or_ge i 63 with hi | hi
  · rw [List.getElem?_take, if_pos (by omega), List.getElem?_append_left (by simp [hb]; omega), List.getElem?_take, if_pos hi, List.getElem?_set_ne (by omega)]
  · rcases Nat.lt_or_ge 63 i with hi' | hi'
    · rw [List.getElem?_eq_none (by simp [hb]; omega), List.getElem?_eq_none (by simp [hb]; omega)]
    · obtain rfl : i = 63 := by omega
      rw [List.getElem?_take, if_pos (by omega), List.getElem?_append_right (by simp [hb]), List.getElem?_set_self (by omega)]
      simp [hb]
theorem fill_part {l blk : List UInt8} {c : UInt8} (hb : blk.length = 64) (hp : blk.take (l.length % 64) = l.drop (64 * (l.length / 64))) (h : (l.length + 1) % 64 ≠ 0) :
    through (l ++ [c]) ((l ++ [c]).length / 64) = through l (l.length / 64) ∧ (blk.set (l.length % 64) c).take ((l ++ [c]).length % 64) = (l ++ [c]).drop (64 * ((l ++ [c]).length / 64)) := by
  have e1 : (l ++ [c]).length = l.length + 1 := by simp
  have e2 : (l.length + 1) / 64 = l.length / 64 := by omega
  have e3 : (l.length + 1) % 64 = l.length % 64 + 1 := by omega
  rw [e1, e2, e3]
  refine ⟨through_append l [c] _ (by omega), ?_⟩
  rw [List.drop_append_of_le_length (by omega), ← hp, List.take_succ_eq_append_getElem (by rw [List.length_set, hb]; omega)]
  simp
  rw [List.take_set, List.set_eq_of_length_le (by simp; omega)]
end Go.Proofs.YtnokloedbckijaaDoor

/-
  Contracts of sha's State, by the memory's own words: put, New, Clone, Len, Write.
-/
namespace Go.Proofs.YtnokloedbckijaaDoor
open Go.RowKit
set_option linter.unusedVariables false
set_option maxRecDepth 20000

set_option maxRecDepth 100000 in
set_option maxHeartbeats 1000000 in
theorem put_any (b : Nat) (l : List UInt8) (c : UInt8) (w : World) (hk : Keys w) (hb0 : 1 < b) (hh : Hold w b l) (hn : l.length ≤ 1000000000) :
    Calls Tryd.prog 91 #[.pointer (some ⟨b, 0, none⟩), .int .u8 (c.toNat : Int)] w fun e w' => e = .returned (.tuple #[]) ∧ Hold w' b (l ++ [c]) ∧ But b w w' := by
  obtain ⟨blk, hst, hp⟩ := hh
  have hv := through_ok l (l.length / 64)
  have f1 : (l.length + 1) % 64 = 0 → _ := fun h => fill_full (c := c) hst.blen hp h
  have f2 : (l.length + 1) % 64 ≠ 0 → _ := fun h => fill_part (c := c) hst.blen hp h
  have hlen : (l ++ [c]).length = l.length + 1 := by simp
  have HF1 := Lib.hid f1
  have HF2 := Lib.hid f2
  have HLEN := Lib.hid hlen
  clear f1 f2 hlen hp
  generalize through l (l.length / 64) = v at *
  generalize l.length = n at *
  have hsz := hst.size
  have hbl := hst.blen
  have hm64 : n % 64 < 64 := by omega
  have tm : (n : Int).tmod 64 = ((n % 64 : Nat) : Int) := by rw [Int.tmod_eq_emod_of_nonneg (by omega)]; rfl
  generalize n % 64 = m at *
  have HST := Lib.hid hst
  have HK := Lib.hid hk
  clear hst hk
  have n2 : (m : Int) < 64 := by omega
  go_enter Tryd.func91, Tryd.ntmps91
  go_wp2_with fail
  refine wp_region_ord 10 [(0, true), (1, true), (2, true), (3, true), (4, true), (5, true), (6, true), (7, true), (8, true), (9, true)] (by kernel_rfl) (by kernel_rfl) ?_
  have f0 : ∀ u, Grows w.drew u → u.cell? ⟨b, 72, none⟩ = some (.int .i64 (n : Int)) := fun u h => hcell_later (a := w.drew) hsz h
  have hO := Grows.refl w.drew
  repeat (first | (refine ord_take hO _ ?_ (by simp only [List.getElem?_cons_succ, List.getElem?_cons_zero]; rfl) (by rfl) ?_ ?_; rotate_left; (· (intro u hu0 hu; (try go_simp); (try with_reducible rfl))); try simp only [Act.put, List.setIfInBounds_toArray, List.set_cons_zero, List.set_cons_succ]) | (refine ord_skip _ (by simp only [List.getElem?_cons_succ, List.getElem?_cons_zero]; rfl) (by rfl) ?_; try simp only [Act.put, List.setIfInBounds_toArray, List.set_cons_zero, List.set_cons_succ]))
  clear f0 hO tm
  (refine ord_done (fun u hu => ?_); simp only [List.drop_succ_cons, List.drop_zero])
  have hstu := HST.out.later (w' := u) (Grows.trans ((Grows.refl w).drew) hu)
  have hku := HK.out.later (w' := u) (Grows.trans ((Grows.refl w).drew) hu)
  have hbu : But b w u := But.of_grows (Grows.trans ((Grows.refl w).drew) hu)
  have hset := hstu.setByte m hm64 c
  have hbut := hbu.trans (But.of_set u b (8 + m) (bv c))
  have hks := hku.but (But.of_set u b (8 + m) (bv c)) hb0
  have hfr := hstu.has.free (8 + m)
  obtain ⟨y, hy⟩ : ∃ y, (blk.map bv)[m]? = some y := ⟨_, List.getElem?_eq_getElem (by rw [List.length_map, hbl]; exact hm64)⟩
  have hcy := range_cell hstu.block hy
  clear hy hsz
  generalize hw1 : u.setCell ⟨b, 8 + m, none⟩ (bv c) = w1 at *
  have HW1 := Lib.hid hw1
  clear hw1
  go_wp2_with fail
  refine NoPanic.normal ?_
  change Exit.then _ _ _ _ (u.setCell ⟨b, 8 + m, none⟩ (bv c))
  rw [HW1.out]
  have hs1 := hset.size
  have hst2 : St (w1.setCell ⟨b, 72, none⟩ (.int .i64 ((n : Int) + 1))) b v (blk.set m c) (n + 1) := hset.setSize (n + 1)
  have hbut2 : But b w (w1.setCell ⟨b, 72, none⟩ (.int .i64 ((n : Int) + 1))) := hbut.trans (But.of_set w1 b 72 _)
  have hk2 : Keys (w1.setCell ⟨b, 72, none⟩ (.int .i64 ((n : Int) + 1))) := hks.but (But.of_set w1 b 72 _) hb0
  have hfr1 := hset.has.free 72
  have hbl' : (blk.set m c).length = 64 := hset.blen
  have HHS := Lib.hid hst2
  have HBU := Lib.hid hbut2
  have HKS := Lib.hid hk2
  clear hset hbut hks hstu hku hbu hfr hcy hst2 hbut2 hk2 hu
  generalize blk.set m c = bk at *
  by_cases hfull : (n + 1) % 64 = 0
  · have o1 : (((n : Int) + 1) % 64 == 0) = true := by simp; omega
    obtain ⟨g1, g2, g3⟩ := HF1.out hfull
    have G1 := Lib.hid g1
    have G2 := Lib.hid g2
    have G3 := Lib.hid g3
    clear g1 g2 g3
    go_wp2_with fail
    generalize w1.setCell ⟨b, 72, none⟩ (.int .i64 ((n : Int) + 1)) = w2 at *
    refine wp_region_ord 13 [(0, true), (1, true), (2, true), (3, true), (4, true), (5, true), (6, true), (7, true), (8, true), (9, true), (10, true), (11, true), (12, true)] (by kernel_rfl) (by kernel_rfl) ?_
    have hgd : Grows w2 w2.drew := (Grows.refl w2).drew
    have ldW : ∀ u, Grows w2.drew u → (Instr.loadAt 128 (.pointer (some ⟨b, 0, none⟩))).run Tryd.prog u = .ok (.agg (v.list.map uv).toArray) u := fun u h =>
      range_load (HHS.out.later (Grows.trans hgd h)).words Tryd.underlying128 rfl arr8_size
    have ldB : ∀ u, Grows w2.drew u → (Instr.loadAt 129 (.pointer (some ⟨b, 8, none⟩))).run Tryd.prog u = .ok (.agg (bk.map bv).toArray) u := fun u h =>
      range_load (HHS.out.later (Grows.trans hgd h)).block Tryd.underlying129 rfl (by rw [List.length_map, hbl']; exact blk64_size)
    have hky : ∀ u, Grows w2.drew u → Keys u := fun u h => HKS.out.later (Grows.trans hgd h)
    have HKY := Lib.hid hky
    have HGD := Lib.hid hgd
    have HBL := Lib.hid hbl'
    have hO := Grows.refl w2.drew
    clear hky hgd hs1 hfr1 o1 hbl'
    repeat (first | (refine ord_load hO _ _ (by simp only [List.getElem?_cons_succ, List.getElem?_cons_zero]; rfl) (by rfl) 128 (.tmp 30) (by rfl) _ (by rfl) ldW ?_; try simp only [Act.put, List.setIfInBounds_toArray, List.set_cons_zero, List.set_cons_succ]) | (refine ord_load hO _ _ (by simp only [List.getElem?_cons_succ, List.getElem?_cons_zero]; rfl) (by rfl) 129 (.tmp 34) (by rfl) _ (by rfl) ldB ?_; try simp only [Act.put, List.setIfInBounds_toArray, List.set_cons_zero, List.set_cons_succ]) | (refine ord_take hO _ ?_ (by simp only [List.getElem?_cons_succ, List.getElem?_cons_zero]; rfl) (by rfl) ?_ ?_; rotate_left; (· (intro u hu0 hu; (try go_simp); (try with_reducible rfl))); try simp only [Act.put, List.setIfInBounds_toArray, List.set_cons_zero, List.set_cons_succ]) | (refine ord_skip _ (by simp only [List.getElem?_cons_succ, List.getElem?_cons_zero]; rfl) (by rfl) ?_; try simp only [Act.put, List.setIfInBounds_toArray, List.set_cons_zero, List.set_cons_succ]) | (refine ord_call hO _ ?_ (by simp only [List.getElem?_cons_succ, List.getElem?_cons_zero]; rfl) (by rfl) ?_ ?_; rotate_left; (· (intro u hu0 hu; go_simp; (try refine quiet_enter ?_); (first | exact spread_any bk u HBL.out | exact mixed_any v (spreadL bk) u hv (spreadL_len bk) (HKY.out u hu0)))); try simp only [Act.put, List.setIfInBounds_toArray, List.set_cons_zero, List.set_cons_succ]))
    clear ldW ldB hO
    (refine ord_done (fun u hu => ?_); simp only [List.drop_succ_cons, List.drop_zero])
    have hgu := Grows.trans HGD.out hu
    have hstu := HHS.out.later hgu
    have hset := hstu.setWords (mix v bk)
    have hbut := (HBU.out.trans (But.of_grows hgu)).trans (But.setCells b ((mix v bk).list.map uv) 0 u)
    have ht : u.there b 0 8 := there_of hstu.words hstu.has.free
    go_wp2_with (refine wpList_store_mid rfl 128 (.tmp 39) (.tmp 37) rfl b 0 ((mix v bk).list.map uv).toArray rfl rfl ht arr8_size (all_oneCell_toArray (uv_one _)) ?_)
    refine NoPanic.normal ?_
    go_wp2_with fail
    go_end0
    refine ⟨rfl, ⟨bk, ?_, ?_⟩, hbut⟩
    · rw [G1.out, HLEN.out]
      exact hset
    · rw [G2.out, G3.out, List.take_zero]
  · have o1 : (((n : Int) + 1) % 64 == 0) = false := by simp; omega
    obtain ⟨g1, g2⟩ := HF2.out hfull
    have G1 := Lib.hid g1
    have G2 := Lib.hid g2
    clear g1 g2
    go_wp2_with fail
    go_end0
    refine ⟨rfl, ⟨bk, ?_, G2.out⟩, HBU.out⟩
    rw [G1.out, HLEN.out]
    exact HHS.out
end Go.Proofs.YtnokloedbckijaaDoor
