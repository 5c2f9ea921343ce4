/-
  Contracts, joined (IxQ CrcT IxR).
-/
import Derived.Test.YtnokloedbckijaaDoorJ6
import Derived.Test.YtnokloedbckijaaDoorJ3
import Derived.Laws.BitsAllLaws
import Derived.Laws.Cover3
import Derived.Test.YtnokloedbckijaaDoorN1

/-
  What index.Read takes off its bytes: numbers and digests.
-/
namespace Go.Proofs.YtnokloedbckijaaDoor
open Go.RowKit
set_option linter.unusedVariables false
set_option maxRecDepth 20000

theorem i64_or_nat (a b : Nat) (ha : a < 4611686018427387904) (hb : b < 4611686018427387904) : bits .or .i64 (a : Int) (b : Int) = ((a ||| b : Nat) : Int) := by
  have hx : a ||| b < 2 ^ 62 := Nat.or_lt_two_pow (by omega) (by omega)
  have e : ∀ n : Nat, n < 4611686018427387904 → (BitVec.ofInt 64 (n : Int)).toNat = n := fun n hn => by rw [BitVec.toNat_ofInt]; omega
  show IntKind.i64.wrap ((BitVec.ofInt 64 (a : Int) ||| BitVec.ofInt 64 (b : Int)).toNat : Int) = _
  rw [BitVec.toNat_or, e a ha, e b hb]
  exact IntWalk.i64_in _ (by omega)
theorem or_place64 (x b k : Nat) (hk : k < 4) (hx : x < 2 ^ (8 * k)) (hb : b < 256) : bits .or .i64 (x : Int) ((b : Int) * 2 ^ (8 * k)) = ((x + b * 2 ^ (8 * k) : Nat) : Int) := by
  have hp : 2 ^ (8 * k) * 256 ≤ 4294967296 := by
    have : 2 ^ (8 * k) * 256 = 2 ^ (8 * k + 8) := by rw [Nat.pow_add]
    rw [this]
    exact Nat.pow_le_pow_right (n := 2) (by omega) (show 8 * k + 8 ≤ 32 by omega)
  have h1 : b * 2 ^ (8 * k) < 4294967296 := by
    have : b * 2 ^ (8 * k) ≤ 255 * 2 ^ (8 * k) := Nat.mul_le_mul_right _ (by omega)
    have : 0 < 2 ^ (8 * k) := Nat.two_pow_pos _
    omega
  have e1 : (b : Int) * 2 ^ (8 * k) = ((b * 2 ^ (8 * k) : Nat) : Int) := by simp
  rw [e1, i64_or_nat _ _ (by omega) (by omega)]
  congr 1
  rw [Nat.or_comm, ← Nat.shiftLeft_eq, ← Nat.shiftLeft_add_eq_or_of_lt hx, Nat.add_comm]
theorem place_lt {b k : Nat} (hk : k < 4) (hb : b < 256) : b * 2 ^ (8 * k) < 4294967296 := by
  have hp : 2 ^ (8 * k) * 256 ≤ 4294967296 := by
    have : 2 ^ (8 * k) * 256 = 2 ^ (8 * k + 8) := by rw [Nat.pow_add]
    rw [this]
    exact Nat.pow_le_pow_right (n := 2) (by omega) (show 8 * k + 8 ≤ 32 by omega)
  have : b * 2 ^ (8 * k) ≤ 255 * 2 ^ (8 * k) := Nat.mul_le_mul_right _ (by omega)
  have : 0 < 2 ^ (8 * k) := Nat.two_pow_pos _
  omega
theorem numTo_take (l : List UInt8) : ∀ k, k ≤ 4 → numTo (l.take 4) k = numTo l k
  | 0, _ => rfl
  | k + 1, h => by
    rw [numTo, numTo, numTo_take l k (by omega)]
    congr 2
    simp only [List.getD, List.getElem?_take]
    rw [if_pos (by omega)]

/-- The reader in block b has these bytes left. -/
structure Rdr (w : World) (b : Nat) (ok : Nat → Prop) (A : Option Addr) (n c : Nat) (l : List UInt8) : Prop where
  has : Has w b [.slice A n c]
  len : l.length = n
  cap : n ≤ c
  lies : LiesIn ok w A (l.map bv)
set_option maxHeartbeats 4000000 in
theorem rdnum_any (b : Nat) (ok : Nat → Prop) (A : Option Addr) (n c : Nat) (l : List UInt8) (w : World) (h : Rdr w b ok A n c l) (hn : 4 ≤ n) (hm : n ≤ 100000000) (hok : ∀ k, ok k → k ≠ b) :
    Calls Tryd.prog 59 #[.pointer (some ⟨b, 0, none⟩)] w fun e w' => e = .returned (.int .i64 (numTo l 4 : Int)) ∧ Rdr w' b ok (cutA A c 4 1) (n - 4) (c - 4) (l.drop 4) ∧ Turns (fun k => k = b) w w' := by
  obtain ⟨hb, hl, hc, hr⟩ := h
  have HL := Lib.hid hl
  have P0 := hb.cell (k := 0) rfl
  have hct := fun u => run_cutK_from (P := Tryd.prog) (t := 22) (e := 5) Tryd.underlying22 byte_size A n c 4 .i64 hn hc u
  have hfz := hb.free 0
  clear hl
  go_enter Tryd.func59, Tryd.ntmps59
  go_wp2_with fail
  go_loop [3, 5] (fun x i => ∃ k : Nat, k ≤ 4 ∧ i = .int .i64 k ∧ x = .int .i64 (numTo l k : Int)) (fun _ i => 4 - (intOf i).toNat)
  case atStart => exact ⟨0, by omega, rfl, rfl⟩
  case round =>
    obtain ⟨k, hk, rfl, rfl⟩ := hrel
    by_cases hlt : k < 4
    · obtain ⟨x1, hbk⟩ : ∃ b, l[k]? = some b := ⟨_, List.getElem?_eq_getElem (by rw [HL.out]; omega)⟩
      obtain ⟨ad, rfl, _, cx⟩ := hr k (bv x1) (by rw [List.getElem?_map, hbk]; rfl)
      have HS : Hid (numTo l (k + 1) = numTo l k + x1.toNat * 2 ^ (8 * k)) := by show _ = _; rw [numTo, List.getD, hbk]; rfl
      have hx := numTo_lt l k
      clear hbk
      generalize numTo l k = x at *
      have hb8 := x1.toNat_lt
      have hkn : (k : Int) < (n : Int) := by omega
      have hw8 : IntKind.i64.wrap (8 * (k : Int)) = 8 * (k : Int) := IntWalk.i64_in _ (by omega)
      have hpl : x1.toNat * 2 ^ (8 * k) < 4294967296 := place_lt hlt hb8
      have hcast : ((x1.toNat : Int) * 2 ^ (8 * k)) = ((x1.toNat * 2 ^ (8 * k) : Nat) : Int) := by simp
      have hwr : wrap64 ((x1.toNat : Int) * 2 ^ (8 * k)) = (x1.toNat : Int) * 2 ^ (8 * k) := by rw [hcast]; unfold wrap64; omega
      have HOR := Lib.hid (or_place64 x x1.toNat k hlt hx hb8)
      have HWR := Lib.hid hwr
      clear hcast hwr hpl
      go_wp2_with fail
      refine ⟨⟨k + 1, by omega, by go_num, ?_⟩, by simp [intOf]; omega⟩
      rw [HWR.out, HOR.out, HS.out]
    · obtain rfl : k = 4 := by omega
      have hrc := hr.cutA (m := 4) (c := c) (by rw [List.length_map, HL.out]; exact hc)
      by_cases hc4 : c = 4
      · subst hc4
        have hn4 : n = 4 := by omega
        subst hn4
        have hcA : cutA A 4 4 1 = A := by unfold cutA; rw [if_pos rfl]
        rw [hcA] at hrc
        have HCA := Lib.hid hcA
        clear hcA
        go_wp2_with fail
        go_ret
        have hs := hb.set_ (k := 0) (by simp) (.slice A 0 0)
        exact ⟨rfl, ⟨by rw [HCA.out]; exact hs, by simp [HL.out], by omega, by rw [HCA.out, List.map_drop]; exact hrc.turned (Turns.of_set (S := fun q => q = b) w _ rfl) hok⟩, Turns.of_set w _ rfl⟩
      · have hcA : cutA A c 4 1 = A.map (·.add 4) := by unfold cutA; rw [if_neg hc4]
        rw [hcA] at hrc
        have HCA := Lib.hid hcA
        clear hcA
        go_wp2_with fail
        go_ret
        have hs := hb.set_ (k := 0) (by simp) (.slice (A.map (·.add 4)) (n - 4) (c - 4))
        exact ⟨rfl, ⟨by rw [HCA.out]; exact hs, by rw [List.length_drop, HL.out], by omega, by rw [HCA.out, List.map_drop]; exact hrc.turned (Turns.of_set (S := fun q => q = b) w _ rfl) hok⟩, Turns.of_set w _ rfl⟩

set_option maxHeartbeats 4000000 in
theorem rddig_any (b : Nat) (ok : Nat → Prop) (A : Option Addr) (n c : Nat) (l : List UInt8) (w : World) (h : Rdr w b ok A n c l) (hn : 32 ≤ n) (hm : n ≤ 100000000) (hok : ∀ k, ok k → k ≠ b) :
    Calls Tryd.prog 60 #[.pointer (some ⟨b, 0, none⟩)] w fun e w' => e = .returned (dv (l.take 32)) ∧ Rdr w' b ok (cutA A c 32 1) (n - 32) (c - 32) (l.drop 32) ∧ Turns (fun k => k = b) w w' := by
  obtain ⟨hb, hl, hc, hr⟩ := h
  have HL := Lib.hid hl
  have hbl := hb.lt
  have hD := Has.new w 42 (zeros32.map bv)
  have g1 := grows_alloc w (.cells (zeros32.map bv).toArray 42)
  have hb1 := hb.later g1
  have hr1 := hr.later g1
  have P0 := hb1.cell (k := 0) rfl
  obtain ⟨ad, rfl⟩ : ∃ ad, A = some ad := by
    obtain ⟨ad, e, _⟩ := hr 0 (bv (l[0]'(by omega))) (by rw [List.getElem?_map, List.getElem?_eq_getElem (by omega)]; rfl)
    exact ⟨ad, e⟩
  have htl : (l.take 32).length = 32 := by rw [List.length_take]; omega
  have ldk : ∀ u, LiesIn ok u (some ad) (l.map bv) → (Instr.loadAt 42 (.pointer (some ad))).run Tryd.prog u = .ok (dv (l.take 32)) u := fun u hu =>
    load_any u _ _ ((l.take 32).map bv) _ (fun j v hv => by
      rw [List.map_take] at hv
      obtain ⟨ad', e, _, hc'⟩ := (hu.take 32) j v hv
      injection e with e
      subst e
      exact hc') Tryd.underlying42 rfl (by rw [List.length_map, htl]; exact dig_size2)
  have hct := fun u => run_cutK_to (P := Tryd.prog) (t := 22) (e := 5) Tryd.underlying22 byte_size (some ad) n c 32 .i64 (by omega) u
  have hzl := zeros32_len
  generalize hds : l.take 32 = ds at *
  have HDS := Lib.hid hds
  clear hl hds
  have hat := fun (u : World) => run_arrayAt (P := Tryd.prog) u 42 5 32 (some ad) 32 c Tryd.underlying42 (Nat.le_refl _)
  by_cases hc4 : c = 32
  · have hn4 : n = 32 := by omega
    subst hc4
    subst hn4
    go_enter Tryd.func60, Tryd.ntmps60
    go_wp2_with (first
      | (change wpList _ _ _ _ _ (w.alloc (.cells (zeros32.map bv).toArray 42)); generalize w.alloc (.cells (zeros32.map bv).toArray 42) = w1 at *)
      | (with_reducible refine wpList_loads rfl 42 (.tmp 9) rfl _ rfl _ (ldk _ hr1) ?_)
      | (refine wpList_storeT rfl 42 (.tmp 3) (.tmp 10) rfl w1.heap.size (zeros32.map bv) (ds.map bv) 32 rfl rfl (Has.new w1 42 (zeros32.map bv)) (by rw [List.length_map, hzl]) (by rw [List.length_map, htl]) dig_size2 (bv_one _) ?_; intro w2 hbox2 ht2; have hg12 : Grows w1 w2 := turns_grow (grows_alloc w1 (.cells (zeros32.map bv).toArray 42)) ht2 (Nat.le_refl _); have hDl := hD.lt; have hb2 := hb1.later hg12; have hD2 := hD.later hg12; have hr2 := hr1.later hg12; have Q0 := hb2.cell (k := 0) rfl; have hfz := hb2.free 0; have htS := Turns.of_set (S := fun q => q = b) (b := b) (o := 0) w2 (.slice (some ad) 0 0) rfl; have hbx3 := hbox2.turned htS (by omega); have hD3 := hD2.turned htS (by omega); have ld3 := hbx3.load Tryd.underlying42 rfl (by rw [List.length_map, htl]; exact dig_size2); have hs := hb2.set_ (k := 0) (by simp) (.slice (some ad) 0 0))
      | (with_reducible refine wpList_loads rfl 42 (.tmp 3) rfl _ rfl _ ld3 ?_)
      | (refine wpList_storeT rfl 42 (.tmp 2) (.tmp 19) rfl w.heap.size (zeros32.map bv) (ds.map bv) 32 rfl rfl hD3 (by rw [List.length_map, hzl]) (by rw [List.length_map, htl]) dig_size2 (bv_one _) ?_; intro w4 hbox4 ht4))
    have hfin : Turns (fun k => k = b) w w4 := ((((Turns.of_grows (Grows.trans g1 hg12)).trans htS).then_ ht4 (fun i hi h => by omega)))
    have hb4 := hs.turned ht4 (by omega)
    have hrc := (hr2.turned htS hok)
    have hr4 : LiesIn ok w4 (some ad) (l.map bv) := fun j v hv => by
      obtain ⟨ad', e, ho, hcl⟩ := hr j v hv
      exact ⟨ad', e, ho, hfin.cell hcl (by rw [add_block]; exact hok _ ho)⟩
    have hrf := hr4.cutA (m := 32) (c := 32) (by rw [List.length_map, HL.out]; exact hc)
    refine bodyPost_ret (res_has (vs := ds.map bv) Tryd.results60 _ rfl Tryd.underlying42 rfl (by rw [List.length_map, htl]; exact dig_size2) hbox4) rfl ⟨rfl, ⟨?_, by rw [List.length_drop, HL.out], by omega, by rw [List.map_drop]; exact hrf⟩, hfin⟩
    rw [show cutA (some ad) 32 32 1 = some ad by unfold cutA; rw [if_pos rfl]]; exact hb4
  · skip
    go_enter Tryd.func60, Tryd.ntmps60
    go_wp2_with (first
      | (change wpList _ _ _ _ _ (w.alloc (.cells (zeros32.map bv).toArray 42)); generalize w.alloc (.cells (zeros32.map bv).toArray 42) = w1 at *)
      | (with_reducible refine wpList_loads rfl 42 (.tmp 9) rfl _ rfl _ (ldk _ hr1) ?_)
      | (refine wpList_storeT rfl 42 (.tmp 3) (.tmp 10) rfl w1.heap.size (zeros32.map bv) (ds.map bv) 32 rfl rfl (Has.new w1 42 (zeros32.map bv)) (by rw [List.length_map, hzl]) (by rw [List.length_map, htl]) dig_size2 (bv_one _) ?_; intro w2 hbox2 ht2; have hg12 : Grows w1 w2 := turns_grow (grows_alloc w1 (.cells (zeros32.map bv).toArray 42)) ht2 (Nat.le_refl _); have hDl := hD.lt; have hb2 := hb1.later hg12; have hD2 := hD.later hg12; have hr2 := hr1.later hg12; have Q0 := hb2.cell (k := 0) rfl; have hfz := hb2.free 0; have htS := Turns.of_set (S := fun q => q = b) (b := b) (o := 0) w2 (.slice (some (ad.add 32)) (n - 32) (c - 32)) rfl; have hbx3 := hbox2.turned htS (by omega); have hD3 := hD2.turned htS (by omega); have ld3 := hbx3.load Tryd.underlying42 rfl (by rw [List.length_map, htl]; exact dig_size2); have hs := hb2.set_ (k := 0) (by simp) (.slice (some (ad.add 32)) (n - 32) (c - 32)))
      | (with_reducible refine wpList_loads rfl 42 (.tmp 3) rfl _ rfl _ ld3 ?_)
      | (refine wpList_storeT rfl 42 (.tmp 2) (.tmp 19) rfl w.heap.size (zeros32.map bv) (ds.map bv) 32 rfl rfl hD3 (by rw [List.length_map, hzl]) (by rw [List.length_map, htl]) dig_size2 (bv_one _) ?_; intro w4 hbox4 ht4))
    have hfin : Turns (fun k => k = b) w w4 := ((((Turns.of_grows (Grows.trans g1 hg12)).trans htS).then_ ht4 (fun i hi h => by omega)))
    have hb4 := hs.turned ht4 (by omega)
    have hrc := (hr2.turned htS hok)
    have hr4 : LiesIn ok w4 (some ad) (l.map bv) := fun j v hv => by
      obtain ⟨ad', e, ho, hcl⟩ := hr j v hv
      exact ⟨ad', e, ho, hfin.cell hcl (by rw [add_block]; exact hok _ ho)⟩
    have hrf := hr4.cutA (m := 32) (c := c) (by rw [List.length_map, HL.out]; exact hc)
    refine bodyPost_ret (res_has (vs := ds.map bv) Tryd.results60 _ rfl Tryd.underlying42 rfl (by rw [List.length_map, htl]; exact dig_size2) hbox4) rfl ⟨rfl, ⟨?_, by rw [List.length_drop, HL.out], by omega, by rw [List.map_drop]; exact hrf⟩, hfin⟩
    rw [show cutA (some ad) c 32 1 = some (ad.add 32) by unfold cutA; rw [if_neg hc4]; rfl]; exact hb4
end Go.Proofs.YtnokloedbckijaaDoor

/-
  What crc.Take answers, with the room that its answer has.
-/
namespace Go.Proofs.YtnokloedbckijaaDoor
open Go.RowKit
set_option linter.unusedVariables false
set_option maxRecDepth 20000

set_option maxHeartbeats 1000000 in
theorem take_room (A : Option Addr) (n c : Nat) (bs : List UInt8) (w : World) (hl : bs.length = n) (hr : Lies w w.heap.size A (bs.map bv)) (hc : n ≤ c) (hn : n ≤ 1000000000000) :
    Calls Tryd.prog 58 #[.slice A n c] w fun e w' => ∃ A' c', (takeOf bs).1.length ≤ c' ∧ e = .returned (.tuple #[.slice A' (takeOf bs).1.length c', .int .i64 ((takeOf bs).2 : Int)]) ∧ Lies w' w'.heap.size A' ((takeOf bs).1.map bv) ∧ Grows w w' := by
  obtain ⟨i0, hi0, hz0, hz1, hz2⟩ := info_parts byte_info
  by_cases h4 : n < 4
  · have ht : takeOf bs = ([], 2) := by unfold takeOf; rw [if_pos (by omega)]
    rw [ht]
    clear ht
    go_enter Tryd.func58, Tryd.ntmps58
    go_wp2
    go_ret2
    exact ⟨none, 0, Nat.le_refl _, rfl, Lies.empty, Grows.refl _⟩
  · obtain ⟨m, rfl⟩ : ∃ m, n = m + 4 := ⟨n - 4, by omega⟩
    have HB := Lib.hid hl
    clear hl h4
    have hm4 : ((m + 4 : Nat) : Int) - 4 = (m : Int) := by omega
    have ct := run_cut_to (P := Tryd.prog) Tryd.underlying22 byte_one A (m + 4) c m .i64 (by omega)
    have cf := run_cut_from (P := Tryd.prog) Tryd.underlying22 byte_one A (m + 4) c m .i64 (by omega) (by omega)
    rw [show m + 4 - m = 4 by omega] at cf
    have hrt : Lies w w.heap.size A ((bs.take m).map bv) := by rw [List.map_take]; exact hr.take m
    have hrf : Lies w w.heap.size (A.map (·.add m)) ((bs.drop m).map bv) := by rw [List.map_drop]; exact hr.from_ m
    have HT : Hid ((bs.take m).length = m) := by show _ = _; rw [List.length_take, HB.out]; omega
    have HF : Hid ((bs.drop m).length = 4) := by show _ = _; rw [List.length_drop, HB.out]; omega
    have hs : crcOf (bs.take m) < 4294967296 := cmore_lt (s := 0) (by omega) _
    have HN := Lib.hid (num_inj (bs.drop m) (crcOf (bs.take m)) HF.out hs)
    have HTK : Hid (takeOf bs = if bs.drop m = fourC (crcOf (bs.take m)) then (bs.take m, 0) else ([], 7)) := by
      show _ = _
      unfold takeOf
      rw [HB.out, if_neg (by omega), show m + 4 - 4 = m by omega]
    have HCT := Lib.hid ct
    have HCF := Lib.hid cf
    clear ct cf
    go_enter Tryd.func58, Tryd.ntmps58
    go_wp2_with fail
    refine wp_region_ord 9 [(0, true), (1, true), (2, true), (3, true), (4, true), (5, true), (6, true), (7, true), (8, true)] (by kernel_rfl) (by kernel_rfl) ?_
    have hgd : Grows w w.drew := (Grows.refl w).drew
    have hLT := Lib.hid (hrt.later hgd)
    have hLF := Lib.hid (hrf.later hgd)
    have HGD := Lib.hid hgd
    have ct := HCT.out
    have cf := HCF.out
    have hO := Grows.refl w.drew
    clear hrt hrf hgd
    generalize hs0 : crcOf (bs.take m) = s at *
    have HS0 := Lib.hid hs0
    clear hs0
    generalize hx0 : numTo (bs.drop m) 4 = x at *
    have HX0 := Lib.hid hx0
    clear hx0
    repeat (first | (refine ord_cut hO _ ?_ (by simp only [List.getElem?_cons_succ, List.getElem?_cons_zero]; rfl) (by rfl) 22 (.tmp 15) none (some (.tmp 16)) none (by rfl) ?_ ?_; rotate_left; (· (exact ct)); try simp only [Act.put, List.setIfInBounds_toArray, List.set_cons_zero, List.set_cons_succ]) | (refine ord_cut hO _ ?_ (by simp only [List.getElem?_cons_succ, List.getElem?_cons_zero]; rfl) (by rfl) 22 (.tmp 11) (some (.tmp 12)) none none (by rfl) ?_ ?_; rotate_left; (· (exact cf)); try simp only [Act.put, List.setIfInBounds_toArray, List.set_cons_zero, List.set_cons_succ]) | (refine ord_take hO _ ?_ (by simp only [List.getElem?_cons_succ, List.getElem?_cons_zero]; rfl) (by rfl) ?_ ?_; rotate_left; (· (intro u hu0 hu; (try go_simp); (try with_reducible rfl))); try simp only [Act.put, List.setIfInBounds_toArray, List.set_cons_zero, List.set_cons_succ]) | (refine ord_skip _ (by simp only [List.getElem?_cons_succ, List.getElem?_cons_zero]; rfl) (by rfl) ?_; try simp only [Act.put, List.setIfInBounds_toArray, List.set_cons_zero, List.set_cons_succ]) | (refine ord_call hO _ ?_ (by simp only [List.getElem?_cons_succ, List.getElem?_cons_zero]; rfl) (by rfl) ?_ ?_; rotate_left; (· (intro u hu0 hu; go_simp; (try refine quiet_enter ?_); (first | exact number_g _ _ HX0 _ HF.out (hLF.out.later hu0) | exact sum_g _ _ _ HS0 _ HT.out (hLT.out.later hu0) (by omega)))); try simp only [Act.put, List.setIfInBounds_toArray, List.set_cons_zero, List.set_cons_succ]))
    clear hO ct cf HCT HCF
    (refine ord_done (fun u hu => ?_); simp only [List.drop_succ_cons, List.drop_zero])
    have hgu := Grows.trans HGD.out hu
    have hru := hr.later hgu
    clear hLT hLF HGD hr hu
    by_cases hxs : x = s
    · have HK : Hid (takeOf bs = (bs.take m, 0)) := by show _ = _; rw [HTK.out, if_pos (HN.out.1 hxs)]
      have hq : ((x : Int) != (s : Int)) = false := by simp [hxs]
      clear HTK HN HX0 HS0 hxs
      refine NoPanic.normal ?_
      go_wp2_with (first
        | (at_make; refine wpList_make_room _ rfl _ _ _ rfl u.heap.size 5 i0 _ Tryd.underlying22 hi0 hz0 hz1 rfl .i64 .i64 _ _ m m rfl rfl (by omega) (by omega) (Nat.le_refl _) (by rw [hz2]; omega) (by unfold maxLen; omega) (Nat.le_refl _) ?_; intro w1 hown1 hg1 hsz1)
        | (refine wpList_copy_row rfl (.tmp 22) (.tmp 23) 22 22 rfl 5 Tryd.underlying22 byte_one u.heap.size (.slice (some ⟨u.heap.size, 0, none⟩) m m) m _ rfl hown1 u.heap.size A (m + 4) c (bs.map bv) rfl (by rw [List.length_map]; exact HB.out) (hru.below hg1) (bv_one bs) u hg1 ?_; intro w2 hown2 hg2 hsz2))
      have e1 : (bs.map bv).take m ++ (List.replicate m (Value.int .u8 0)).drop (m + 4) = (bs.take m).map bv := by
        rw [List.drop_eq_nil_of_le (by simp), List.append_nil, List.map_take]
      rw [e1] at hown2
      have hg02 := Grows.trans hgu hg2
      have hL2 := Lies.of_own hown2
      go_ret2
      rw [HK.out]
      exact ⟨_, m, Nat.le_of_eq HT.out, by rw [HT.out]; rfl, hL2, hg02⟩
    · have HK : Hid (takeOf bs = ([], 7)) := by show _ = _; rw [HTK.out, if_neg (fun h => hxs (HN.out.2 h))]
      have hq : ((x : Int) != (s : Int)) = true := by simp; omega
      clear HTK HN HX0 HS0 hxs
      refine NoPanic.normal ?_
      go_wp2_with fail
      go_ret2
      rw [HK.out]
      exact ⟨none, 0, Nat.le_refl _, rfl, Lies.empty, hgu⟩
end Go.Proofs.YtnokloedbckijaaDoor

/-
  What is read of an index's own bytes is the index (mathematics).
-/
namespace Go.Proofs.YtnokloedbckijaaDoor
open Go.RowKit
set_option linter.unusedVariables false
set_option maxRecDepth 20000

theorem numAt_here (p r : List UInt8) (n i : Nat) (hn : n < 4294967296) (hi : p.length = i) : numAt (p ++ (fourC n ++ r)) i = n := by
  subst hi
  have e : ((p ++ (fourC n ++ r)).drop p.length).take 4 = fourC n := by
    rw [List.drop_left, List.take_append_of_le_length (by rw [four_len]; omega), List.take_of_length_le (by rw [four_len]; omega)]
  unfold numAt
  rw [e]
  exact (num_inj (fourC n) n (four_len n) hn).2 rfl
theorem decIts_of : ∀ (l : List Itm), (∀ it ∈ l, it.1.length = 32 ∧ 0 ≤ it.2 ∧ it.2 < 4294967296) → decIts l.length ((l.map itemBytes).flatten) = l
  | [], _ => rfl
  | x :: l, h => by
    obtain ⟨h1, h2, h3⟩ := h x (by simp)
    obtain ⟨d, s⟩ := x
    dsimp only at h1 h2 h3
    have e : (((d, s) :: l).map itemBytes).flatten = d ++ (fourC s.toNat ++ (l.map itemBytes).flatten) := by
      rw [List.map_cons, List.flatten_cons, itemBytes, List.append_assoc]
    have e36 : (d ++ (fourC s.toNat ++ (l.map itemBytes).flatten)).drop 36 = (l.map itemBytes).flatten := by
      rw [← List.append_assoc]
      exact List.drop_left' (by simp [h1, four_len])
    rw [e, List.length_cons, decIts, e36, decIts_of l fun y hy => h y (by simp [hy]), numAt_here d _ _ 32 (by omega) h1, List.take_left' h1]
    congr 2
    omega
/-- An index that may be is read of its bytes. -/
theorem decI_of (x : Ixd) (hx : x.Ok) (hM : IMay x) : decI x.its.length (ixBytes x) = x ∧ (ixBytes x).take 4 = [76, 84, 73, 49] ∧ numAt (ixBytes x) 48 = x.its.length := by
  obtain ⟨m1, m2, m3, m4⟩ := mayZ_iff.1 hM.prm
  have hfew := hM.few
  have hsz : ∀ it ∈ x.its, it.1.length = 32 ∧ 0 ≤ it.2 ∧ it.2 < 4294967296 := fun it hi => by
    obtain ⟨i, he⟩ := List.mem_iff_getElem?.1 hi
    obtain ⟨s1, s2, _⟩ := hM.sizes i it he
    exact ⟨(hx.its it hi).1, by omega, by omega⟩
  have him := hx.im
  obtain ⟨a, b, c, im, its⟩ := x
  dsimp only at *
  have e : ixBytes ⟨a, b, c, im, its⟩ = [76, 84, 73, 49] ++ (fourC a.toNat ++ (fourC b.toNat ++ (fourC c.toNat ++ (im ++ (fourC its.length ++ (its.map itemBytes).flatten))))) := by
    unfold ixBytes headBytes
    simp only [List.append_assoc]
  have n1 : numAt (ixBytes ⟨a, b, c, im, its⟩) 4 = a.toNat := by rw [e]; exact numAt_here _ _ _ 4 (by omega) rfl
  have n2 : numAt (ixBytes ⟨a, b, c, im, its⟩) 8 = b.toNat := by
    rw [e, ← List.append_assoc]; exact numAt_here _ _ _ 8 (by omega) (by simp [four_len])
  have n3 : numAt (ixBytes ⟨a, b, c, im, its⟩) 12 = c.toNat := by
    rw [e, ← List.append_assoc, ← List.append_assoc]; exact numAt_here _ _ _ 12 (by omega) (by simp [four_len])
  have n4 : ((ixBytes ⟨a, b, c, im, its⟩).drop 16).take 32 = im := by
    rw [e, ← List.append_assoc, ← List.append_assoc, ← List.append_assoc, List.drop_left' (by simp [four_len]), List.take_left' him]
  have n5 : numAt (ixBytes ⟨a, b, c, im, its⟩) 48 = its.length := by
    rw [e, ← List.append_assoc, ← List.append_assoc, ← List.append_assoc, ← List.append_assoc]; exact numAt_here _ _ _ 48 (by omega) (by simp [four_len, him])
  have n6 : (ixBytes ⟨a, b, c, im, its⟩).drop 52 = (its.map itemBytes).flatten := by
    rw [e, ← List.append_assoc, ← List.append_assoc, ← List.append_assoc, ← List.append_assoc, ← List.append_assoc]; exact List.drop_left' (by simp [four_len, him])
  refine ⟨?_, by rw [e]; rfl, n5⟩
  unfold decI
  rw [n1, n2, n3, n4, n6, decIts_of its hsz, Int.toNat_of_nonneg (by omega), Int.toNat_of_nonneg (by omega), Int.toNat_of_nonneg (by omega)]
/-- What Take takes off all its bytes. -/
theorem takeOf_all (b : List UInt8) : takeOf (b ++ fourC (crcOf b)) = (b, 0) := by
  unfold takeOf
  rw [if_neg (by rw [List.length_append, four_len]; omega)]
  have e : (b ++ fourC (crcOf b)).length - 4 = b.length := by rw [List.length_append, four_len]; omega
  rw [e, List.take_left, List.drop_left, if_pos rfl]
end Go.Proofs.YtnokloedbckijaaDoor
