/-
  The walks of ShaOwns and ShaLengths. Condition: the table keys holds the document's numbers.
-/
import Derived.Test.YtfpgnihibgmeeaaDoorL2A
namespace Go.Proofs.YtfpgnihibgmeeaaDoor
open Go.RowKit
set_option linter.unusedVariables false

section
variable {b : Nat} {G : Option Nat} {w w' : World} {vs : List Value}
theorem Has.kept (h : Has w b vs) (hb : w.grownBy w' G) (hne : G ≠ some b) : Has w' b vs :=
  ⟨Nat.lt_of_lt_of_le h.lt hb.size, fun j u hu => hb.cell (h.cells j u hu) (fun e => hne e.symm), fun j => (hb.frozen_far ⟨b, j, none⟩ h.lt (fun e => hne e.symm)).trans (h.free j)⟩
theorem Hold.kept {l : List UInt8} (h : Hold w b l) (hb : w.grownBy w' G) (hne : G ≠ some b) : Hold w' b l := h.imp fun _ ⟨h1, h2⟩ => ⟨⟨h1.has.kept hb hne, h1.blen⟩, h2⟩
theorem Keys.kept (h : Keys w) (hb : w.grownBy w' G) (hne : G ≠ some 0) : Keys w' := fun j u hu => hb.cell (h j u hu) (fun e => hne e.symm)
end

set_option maxRecDepth 100000 in
set_option maxHeartbeats 1000000 in
theorem owns_walk (A : Option Addr) (n c : Nat) (bs : List UInt8) (y : Nat) (w : World) (hk : Keys w) (hl : bs.length = n) (hr : Lies w w.heap.size A (bs.map bv)) (hc : n ≤ c) (hm : c ≤ maxLen) (hy : y < 256) :
    Calls Tryd.prog 7 #[.slice A n c, .int .u8 (y : Int)] w fun e w' => e = .returned (.bool true) ∧ Grows w w' := by
  have HL := Lib.hid hl
  clear hl
  go_enter Tryd.func7, Tryd.ntmps7
  go_wp2_with fail
  refine (few_bytes A n c 70 bs w HL.out hr hc (by omega) hm).mono ?_
  rintro e w1 ⟨A1, c1, rfl, hc1, hown1, hL1, hg1⟩
  have HL1 : Hid ((bs.take 70).length = min n 70) := by show _ = _; rw [List.length_take, HL.out, Nat.min_comm]
  have hmin : min n 70 ≤ 70 := Nat.min_le_right _ _
  generalize min n 70 = n1 at *
  have hk1 := hk.later hg1
  go_wp2_with fail
  refine (new_any w1).mono ?_
  rintro e w2 ⟨rfl, hh2, hg2⟩
  have hk2 := hk1.later hg2
  have hown2 := own_later hown1 hg2
  have hbe : w.heap.size ≤ w1.heap.size := hg1.size
  have hpos := hk.pos
  have hlt1 : ∀ g, (Value.slice A1 n1 c1).ownBlock = some g → g < w1.heap.size := fun g hg => by
    rcases hown1.2 with ⟨e, _⟩ | ⟨g', cap, cur, e, _, hh, _⟩
    · rw [e] at hg; simp [Value.ownBlock] at hg
    · rw [e] at hg
      simp [Value.ownBlock] at hg
      subst hg
      rcases Nat.lt_or_ge g' w1.heap.size with hlt | hge
      · exact hlt
      · rw [Array.getElem?_eq_none hge] at hh; cases hh
  have hr2 : Off w2 w1.heap.size A1 ((bs.take 70).map bv) := fun j u hu => by
    obtain ⟨ad, e, hlt, hc⟩ := hL1 j u hu
    exact ⟨ad, e, by omega, hcell_later hc hg2⟩
  have hg12 := Grows.trans hg1 hg2
  generalize w1.heap.size = be at *
  have hbe0 : 0 < be := by omega
  clear hown1 hL1 hg1 hg2 hk1
  go_wp2_with fail
  refine (write_any be [] A1 n1 c1 (bs.take 70) w2 hk2 hbe0 hh2 HL1.out hr2 (by simp; omega)).mono ?_
  rintro e w3 ⟨rfl, hh3, hb3⟩
  rw [List.nil_append] at hh3
  have hk3 := hk2.but hb3 hbe0
  have hg3 : Grows w w3 := hg12.grown hb3 hg12.size (fun k hk => by have := Option.some.inj hk; omega)
  have hgeG := own_ge hown2
  have hownG : 0 < n1 → ∃ g, A1 = some ⟨g, 0, none⟩ ∧ w.heap.size ≤ g ∧ g < be ∧ Has w3 g ((bs.take 70).map bv) := fun h0 => by
    obtain ⟨g, c', e, _, hge, hh⟩ := own_range hown2 h0
    have hlt := hlt1 g (by rw [e]; rfl)
    injection e with e
    exact ⟨g, e, hge, hlt, hh.but hb3 (by omega)⟩
  have HG := Lib.hid hownG
  have HGE : Hid (∀ g, (Value.slice A1 n1 c1).ownBlock = some g → w.heap.size ≤ g ∧ g < be) := fun g hg => ⟨hgeG g hg, hlt1 g hg⟩
  have HK := Lib.hid hk3
  have HH := Lib.hid hh3
  have HY := Lib.hid hy
  clear hownG hown2 hh2 hk2 hr2 hb3 hg12 hlt1 hgeG hk3 hh3
  obtain ⟨G, hG⟩ : ∃ G, G = (Value.slice A1 n1 c1).ownBlock := ⟨_, rfl⟩
  rw [← hG] at HGE
  have HGQ := Lib.hid hG
  clear hG
  go_wp2_with fail
  go_loopw [7] (fun i wr => ∃ (k : Nat) (cur : List UInt8), k ≤ n1 ∧ i = .int .i64 k ∧ cur.length = n1 ∧ (∀ g, 0 < n1 → A1 = some ⟨g, 0, none⟩ → Has wr g (cur.map bv)) ∧ w3.grownBy wr G) (fun i _ => n1 - (intOf i).toNat)
  case atStart => exact ⟨0, bs.take 70, Nat.zero_le _, rfl, HL1.out, fun g h0 e => by
    obtain ⟨g', e', _, _, hh⟩ := HG.out h0
    rw [e'] at e
    injection e with e
    injection e with e
    rw [← e]
    exact hh, World.grownBy.refl _ _⟩
  case round =>
    obtain ⟨k, cur, hk', rfl, hcl, hcur, hgb⟩ := hrel
    by_cases hlt : k < n1
    · obtain ⟨g, rfl, hg0, hgbe, _⟩ := HG.out (by omega)
      have hh := hcur g (by omega) rfl
      obtain ⟨x, hx⟩ : ∃ x, cur[k]? = some x := ⟨_, List.getElem?_eq_getElem (by rw [hcl]; exact hlt)⟩
      have cx := hh.cell (k := k) (u := bv x) (by rw [List.getElem?_map, hx]; rfl)
      have hfr := hh.free k
      have hxb := x.toNat_lt
      have e1 := u8_xor_nat x.toNat y hxb hy
      have hxy : x.toNat ^^^ y < 256 := Nat.xor_lt_two_pow (n := 8) hxb hy
      have hbv : bv (UInt8.ofNat (x.toNat ^^^ y)) = .int .u8 ((x.toNat ^^^ y : Nat) : Int) := by
        have : (UInt8.ofNat (x.toNat ^^^ y)).toNat = x.toNat ^^^ y := by rw [UInt8.toNat_ofNat']; exact Nat.mod_eq_of_lt hxy
        simp only [bv, this]
      have hset := hh.set_ (k := k) (by rw [List.length_map, hcl]; exact hlt) (bv (UInt8.ofNat (x.toNat ^^^ y)))
      rw [← List.map_set, hbv] at hset
      have hgs : w3.grownBy (wr.setCell ⟨g, k, none⟩ (.int .u8 ((x.toNat ^^^ y : Nat) : Int))) G := by
        rw [HGQ.out] at hgb ⊢
        exact hgb.trans (But.of_set wr g k _)
      have HSET := Lib.hid hset
      have HGS := Lib.hid hgs
      have HCL := Lib.hid hcl
      have E1 := Lib.hid e1
      clear hset hgs hcl hcur hgb hbv hx hh HG e1
      have k0 : (k : Int) < (n1 : Int) := by omega
      go_wp2_with fail
      rw [E1.out]
      exact ⟨⟨k + 1, cur.set k (UInt8.ofNat (x.toNat ^^^ y)), by omega, by go_num, by rw [List.length_set]; exact HCL.out, fun g' _ e => by
        injection e with e
        injection e with e
        rw [← e]
        exact HSET.out, HGS.out⟩, by simp [intOf]; omega⟩
    · have hkr := HK.out.kept hgb (fun e => by have := HGE.out 0 e; omega)
      have hhr := HH.out.kept hgb (fun e => by have := HGE.out be e; omega)
      have hgr : Grows w wr := hg3.grown hgb hg3.size (fun g hg => (HGE.out g hg).1)
      have hr4 := hr.later hgr
      clear hcur hgb HK HH hg3 hr hk HG hcl
      go_wp2_with fail
      refine (ssum_any be (bs.take 70) wr hkr hhr (by rw [HL1.out]; omega)).mono ?_
      rintro e w4 ⟨rfl, hg4⟩
      have hr5 := hr4.later hg4
      go_wp2_with fail
      refine (few_bytes A n c 70 bs w4 HL.out hr5 hc (by omega) hm).mono ?_
      rintro e w5 ⟨A5, c5, rfl, hc5, hown5, hL5, hg5⟩
      have HL5 : Hid ((bs.take 70).length = min n 70) := by show _ = _; rw [List.length_take, HL.out, Nat.min_comm]
      have hmin5 : min n 70 ≤ 70 := Nat.min_le_right _ _
      clear hown5
      generalize min n 70 = n5 at *
      go_wp2_with fail
      refine (rsum_any A5 n5 c5 (bs.take 70) w5 HL5.out hL5 (by omega)).mono ?_
      rintro e w6 ⟨rfl, hg6⟩
      have q1 := same_dig (bs.take 70)
      have hg46 := Grows.trans hg4 (Grows.trans hg5 hg6)
      have hk6 := hkr.later hg46
      have hh6 := hhr.later hg46
      clear hkr hhr hr4 hr5 hg4 hg5 hg6 hL5
      go_wp2_with fail
      refine (ssum_any be (bs.take 70) w6 hk6 hh6 (by rw [HL1.out]; omega)).mono ?_
      rintro e w7 ⟨rfl, hg7⟩
      have hk7 := hk6.later hg7
      have hh7 := hh6.later hg7
      go_wp2_with fail
      refine (ssum_any be (bs.take 70) w7 hk7 hh7 (by rw [HL1.out]; omega)).mono ?_
      rintro e w8 ⟨rfl, hg8⟩
      have hk8 := hk7.later hg8
      go_wp2_with fail
      refine (lives_any w8 hk8).mono ?_
      rintro e w9 ⟨rfl, hg9⟩
      go_wp2_with fail
      go_ret
      exact ⟨rfl, Grows.trans hgr (Grows.trans hg46 (Grows.trans hg7 (Grows.trans hg8 hg9)))⟩
end Go.Proofs.YtfpgnihibgmeeaaDoor
