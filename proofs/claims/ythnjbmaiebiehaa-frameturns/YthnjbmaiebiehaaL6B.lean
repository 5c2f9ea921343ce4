/-
  The walk of FrameTurns.
-/
import Derived.Test.YthnjbmaiebiehaaL6A
import Derived.Test.YthnjbmaiebiehaaL3B
import Derived.Test.YthnjbmaiebiehaaFrI
namespace Go.Proofs.Ythnjbmaiebiehaa
open Go.RowKit
set_option linter.unusedVariables false

theorem seal_plain {b : List UInt8} (h : (sealOf b).length = b.length + 10) : sealOf b = frameOf 0 b.length b (crcOf b) := by
  unfold sealOf at *
  split at h
  · rw [frame_len] at h; omega
  · rename_i h2; rw [if_neg h2]
/-- A frame that is not packed, one byte of which behind the number is another one. -/
theorem open_other (b : List UInt8) (j : Nat) (x z : UInt8) (most : Int) (hm : (b.length : Int) ≤ most) (hb : b.length < 4294967296) (hx : (frameOf 0 b.length b (crcOf b))[6 + j]? = some x) (hz : z ≠ x) :
    openOf ((frameOf 0 b.length b (crcOf b)).set (6 + j) z) most = ([], 7) := by
  rw [frame_cons, show 6 + j = j + 1 + 1 + 1 + 1 + 1 + 1 by omega] at hx ⊢
  simp only [List.getElem?_cons_succ] at hx
  simp only [List.set_cons_succ]
  have ht := take_other b j x z hx hz
  have hf := four_len (crcOf b)
  have hlen : ((b ++ four (crcOf b)).set j z).length = b.length + 4 := by simp [hf]
  generalize (b ++ four (crcOf b)).set j z = g at *
  have hs : (g.drop b.length).length = 4 := by rw [List.length_drop]; omega
  have hnum : g.drop b.length = four (numTo (g.drop b.length) 4) := (num_inj _ _ hs (numTo_lt _ 4)).1 rfl
  have hlt : numTo (g.drop b.length) 4 < 4294967296 := numTo_lt _ 4
  have hne : crcOf (g.take b.length) ≠ numTo (g.drop b.length) 4 := by
    intro h
    unfold takeOf at ht
    rw [hlen, if_neg (by omega), show b.length + 4 - 4 = b.length by omega, h, ← hnum, if_pos rfl] at ht
    injection ht with _ ht
    cases ht
  have hg : g = g.take b.length ++ four (numTo (g.drop b.length) 4) := by rw [← hnum, List.take_append_drop]
  have htl : (g.take b.length).length = b.length := by rw [List.length_take]; omega
  generalize numTo (g.drop b.length) 4 = s at *
  generalize g.take b.length = mid at *
  subst hg
  rw [← frame_cons]
  unfold openOf
  rw [frame_form _ _ _ _ (.inl rfl), frame_told _ _ _ _ hb, frame_pk, frame_kept, frame_sum _ _ _ _ hlt, if_neg Bool.noConfusion, if_neg (by omega)]
  unfold wereOf
  rw [if_neg (by decide), if_pos htl]
  show (if crcOf mid = s then (mid, 0) else ([], 7)) = _
  rw [if_neg hne]

set_option maxRecDepth 20000 in
set_option maxHeartbeats 4000000 in
theorem frameturns_walk (A : Option Addr) (n c : Nat) (bs : List UInt8) (m : Int) (y0 : Nat) (w : World) (hl : bs.length = n) (hr : Lies w w.heap.size A (bs.map bv)) (hc : n ≤ c) (hm : c ≤ maxLen)
    (hi : -9223372036854775808 ≤ m ∧ m ≤ 9223372036854775807) (hy0 : y0 < 256) :
    Calls Try.prog 7 #[.slice A n c, .int .i64 m, .int .u8 (y0 : Int)] w fun e w' => e = .returned (.bool true) ∧ Grows w w' := by
  have HL := Lib.hid hl
  clear hl
  go_enter Try.func7, Try.ntmps7
  go_wp2_with fail
  refine (few_bytes A n c 40 bs w HL.out hr hc (by omega) hm).mono ?_
  rintro e w1 ⟨A1, c1, rfl, hc1, hown1, hL1, hg1⟩
  have HL1 := Lib.hid (min_take (m := 40) HL.out)
  have hmin : min n 40 ≤ 40 := Nat.min_le_right _ _
  clear hr hL1
  generalize min n 40 = n1 at *
  generalize bs.take 40 = l at *
  go_wp2_with fail
  go_loopw [8] (fun q wr => ∃ (i : Nat) (l' : List UInt8), i ≤ n1 ∧ q = iv i ∧ Hid (l'.length = n1) ∧ wr.ownsRow w.heap.size 5 1 (.slice A1 n1 c1) n1 (l'.map bv) ∧ Below w.heap.size w wr) (fun q _ => n1 - (intOf q).toNat)
  case atStart => exact ⟨0, l, Nat.zero_le _, rfl, HL1, hown1, hg1⟩
  case round =>
    clear hown1 hg1 HL1
    obtain ⟨i, l', hi1, rfl, HL', hown, hgr⟩ := hrel
    by_cases hin : i < n1
    · have hin' : (i : Int) < (n1 : Int) := by omega
      obtain ⟨g, cg, e1, hcg, hmg, hgb, hh⟩ := own_has hown (by omega)
      injection e1 with e1 _ e3
      subst e1 e3
      obtain ⟨x, hx⟩ : ∃ x, l'[i]? = some x := ⟨_, List.getElem?_eq_getElem (by rw [HL'.out]; exact hin)⟩
      have cx := hh.cell (k := i) (u := bv x) (by rw [List.getElem?_map, hx]; rfl)
      have hfr := hh.free i
      have hxb := x.toNat_lt
      clear hx hh
      go_wp2_with fail
      have hz : ∃ z : UInt8, Value.int IntKind.u8 ((7 * (i : Int) + (x.toNat : Int) % 3) % 256) = bv z := ⟨UInt8.ofNat ((7 * i + x.toNat % 3) % 256), by simp only [bv, UInt8.toNat_ofNat']; congr 1; omega⟩
      obtain ⟨z, hz⟩ := hz
      rw [hz]
      have hown2 := own_store (k := i) (x := bv z) hown
      rw [← List.map_set] at hown2
      exact ⟨⟨i + 1, l'.set i z, by omega, by go_num, by show _ = _; rw [List.length_set]; exact HL'.out, hown2, Below.setCell hgr (p := ⟨g, i, none⟩) hgb _⟩, by simp [intOf]; omega⟩
    · obtain rfl : i = n1 := by omega
      have hL := Lies.of_own hown
      clear hown
      go_wp2_with fail
      refine (seal_out A1 i c1 l' wr HL'.out hL hc1 (by omega)).mono ?_
      rintro e w2 ⟨f, fn, c2, A2, HS, HFn, h10, hfn, rfl, hc2, hown2, hL2, hg2⟩
      have hg02 := Grows.trans hgr hg2
      by_cases hfe : fn = i + 10
      · subst hfe
        have HF : Hid (frameOf 0 l'.length l' (crcOf l') = f) := by show _ = _; rw [← HS.out]; exact (seal_plain (by rw [HS.out, HFn.out, HL'.out])).symm
        obtain ⟨g, c3, e1, hc3, hm3, hgb, hh⟩ := own_has hown2 (by omega)
        injection e1 with e1 _ e3
        subst e1 e3
        clear hown2 hL hL2 HS
        have hgb' : w.heap.size ≤ g := Nat.le_trans hgr.size hgb
        by_cases hz : y0 = 0
        · subst hz
          go_wp2_with fail
          refine (around_any m (i + 4) w2 hi (by omega)).mono ?_
          rintro e w' ⟨rfl, rfl⟩
          have hk := around_lt m (m := i + 4) (by omega)
          generalize around m (i + 4) = k at *
          obtain ⟨x, hx⟩ : ∃ x, f[6 + k]? = some x := ⟨_, List.getElem?_eq_getElem (by rw [HFn.out]; omega)⟩
          have cx := hh.cell (k := 6 + k) (u := bv x) (by rw [List.getElem?_map, hx]; rfl)
          have hfr := hh.free (6 + k)
          have hxb := x.toNat_lt
          have e1 : bits .xor .u8 (x.toNat : Int) 1 = ((x.toNat ^^^ 1 : Nat) : Int) := u8_xor_nat x.toNat 1 hxb (by omega)
          have hxy : x.toNat ^^^ 1 < 256 := Nat.xor_lt_two_pow (n := 8) hxb (by omega)
          have hbv : bv (UInt8.ofNat (x.toNat ^^^ 1)) = .int .u8 ((x.toNat ^^^ 1 : Nat) : Int) := by
            have : (UInt8.ofNat (x.toNat ^^^ 1)).toNat = x.toNat ^^^ 1 := by rw [UInt8.toNat_ofNat']; exact Nat.mod_eq_of_lt hxy
            simp only [bv, this]
          have hset := hh.set_ (k := 6 + k) (by rw [List.length_map, HFn.out]; omega) (bv (UInt8.ofNat (x.toNat ^^^ 1)))
          rw [← List.map_set, hbv] at hset
          have hne : UInt8.ofNat (x.toNat ^^^ 1) ≠ x := by
            intro h
            have h2 := congrArg UInt8.toNat h
            rw [UInt8.toNat_ofNat', Nat.mod_eq_of_lt hxy] at h2
            have h3 := congrArg (fun z => x.toNat ^^^ z) h2
            simp only [← Nat.xor_assoc, Nat.xor_self, Nat.zero_xor] at h3
            omega
          have HTK : Hid (openOf (f.set (6 + k) (UInt8.ofNat (x.toNat ^^^ 1))) 100 = ([], 7)) := by
            show _ = _
            rw [← HF.out]
            exact open_other l' k x _ 100 (by rw [HL'.out]; omega) (by rw [HL'.out]; omega) (by rw [HF.out]; exact hx) hne
          have HPS : Hid ((f.set (6 + k) (UInt8.ofNat (x.toNat ^^^ 1))).length = i + 10) := by show _ = _; rw [List.length_set]; exact HFn.out
          have hgs : Grows w (w2.setCell ⟨g, 6 + k, none⟩ (.int .u8 ((x.toNat ^^^ 1 : Nat) : Int))) := Below.setCell hg02 (p := ⟨g, 6 + k, none⟩) hgb' _
          have HSET := Lib.hid hset
          have HGS := Lib.hid hgs
          clear hset hgs hh hbv hx hne
          have k0 : 6 + (k : Int) < (i : Int) + 10 := by omega
          generalize x.toNat ^^^ 1 = xy at *
          go_wp2_with fail
          clear cx hfr e1
          generalize w2.setCell ⟨g, 6 + k, none⟩ (.int .u8 (xy : Int)) = w3 at *
          generalize f.set (6 + k) (UInt8.ofNat xy) = f' at *
          refine (open_any _ (i + 10) c2 f' 100 w3 HPS.out HSET.out.lies hc2 (by omega)).mono ?_
          rintro e w4 ⟨x4, er, xn, c4, A4, HO, HXn, rfl, hc4, hL4, hg4⟩
          have hO := HO.out
          rw [HTK.out] at hO
          injection hO with h1 h2
          subst h1 h2
          obtain rfl : xn = 0 := by have := HXn.out; simpa using this.symm
          clear HO
          go_wp2_with fail
          refine (lives6_any _).mono ?_
          rintro e w5 ⟨rfl, hg5⟩
          go_wp2_with fail
          go_ret
          exact ⟨rfl, Grows.trans HGS.out (Grows.trans hg4 hg5)⟩
        · have hyz : 0 < y0 := by omega
          have hq0 : ((y0 : Int) == 0) = false := by simp; omega
          have hq1 : ¬ ((y0 : Int) = 0) := by omega
          go_wp2_with fail
          refine (around_any m (i + 4) w2 hi (by omega)).mono ?_
          rintro e w' ⟨rfl, rfl⟩
          have hk := around_lt m (m := i + 4) (by omega)
          generalize around m (i + 4) = k at *
          obtain ⟨x, hx⟩ : ∃ x, f[6 + k]? = some x := ⟨_, List.getElem?_eq_getElem (by rw [HFn.out]; omega)⟩
          have cx := hh.cell (k := 6 + k) (u := bv x) (by rw [List.getElem?_map, hx]; rfl)
          have hfr := hh.free (6 + k)
          have hxb := x.toNat_lt
          have e1 : bits .xor .u8 (x.toNat : Int) (y0 : Int) = ((x.toNat ^^^ y0 : Nat) : Int) := u8_xor_nat x.toNat y0 hxb (by omega)
          have hxy : x.toNat ^^^ y0 < 256 := Nat.xor_lt_two_pow (n := 8) hxb (by omega)
          have hbv : bv (UInt8.ofNat (x.toNat ^^^ y0)) = .int .u8 ((x.toNat ^^^ y0 : Nat) : Int) := by
            have : (UInt8.ofNat (x.toNat ^^^ y0)).toNat = x.toNat ^^^ y0 := by rw [UInt8.toNat_ofNat']; exact Nat.mod_eq_of_lt hxy
            simp only [bv, this]
          have hset := hh.set_ (k := 6 + k) (by rw [List.length_map, HFn.out]; omega) (bv (UInt8.ofNat (x.toNat ^^^ y0)))
          rw [← List.map_set, hbv] at hset
          have hne : UInt8.ofNat (x.toNat ^^^ y0) ≠ x := by
            intro h
            have h2 := congrArg UInt8.toNat h
            rw [UInt8.toNat_ofNat', Nat.mod_eq_of_lt hxy] at h2
            have h3 := congrArg (fun z => x.toNat ^^^ z) h2
            simp only [← Nat.xor_assoc, Nat.xor_self, Nat.zero_xor] at h3
            omega
          have HTK : Hid (openOf (f.set (6 + k) (UInt8.ofNat (x.toNat ^^^ y0))) 100 = ([], 7)) := by
            show _ = _
            rw [← HF.out]
            exact open_other l' k x _ 100 (by rw [HL'.out]; omega) (by rw [HL'.out]; omega) (by rw [HF.out]; exact hx) hne
          have HPS : Hid ((f.set (6 + k) (UInt8.ofNat (x.toNat ^^^ y0))).length = i + 10) := by show _ = _; rw [List.length_set]; exact HFn.out
          have hgs : Grows w (w2.setCell ⟨g, 6 + k, none⟩ (.int .u8 ((x.toNat ^^^ y0 : Nat) : Int))) := Below.setCell hg02 (p := ⟨g, 6 + k, none⟩) hgb' _
          have HSET := Lib.hid hset
          have HGS := Lib.hid hgs
          clear hset hgs hh hbv hx hne
          have k0 : 6 + (k : Int) < (i : Int) + 10 := by omega
          generalize x.toNat ^^^ y0 = xy at *
          go_wp2_with fail
          clear cx hfr e1
          generalize w2.setCell ⟨g, 6 + k, none⟩ (.int .u8 (xy : Int)) = w3 at *
          generalize f.set (6 + k) (UInt8.ofNat xy) = f' at *
          refine (open_any _ (i + 10) c2 f' 100 w3 HPS.out HSET.out.lies hc2 (by omega)).mono ?_
          rintro e w4 ⟨x4, er, xn, c4, A4, HO, HXn, rfl, hc4, hL4, hg4⟩
          have hO := HO.out
          rw [HTK.out] at hO
          injection hO with h1 h2
          subst h1 h2
          obtain rfl : xn = 0 := by have := HXn.out; simpa using this.symm
          clear HO
          go_wp2_with fail
          refine (lives6_any _).mono ?_
          rintro e w5 ⟨rfl, hg5⟩
          go_wp2_with fail
          go_ret
          exact ⟨rfl, Grows.trans HGS.out (Grows.trans hg4 hg5)⟩
      · have hq : ((fn : Int) != (i : Int) + 10) = true := by simp; omega
        have hq1 : ¬ ((fn : Int) = (i : Int) + 10) := by omega
        have hq2 : decide (9 < (fn : Int)) = true := by simp; omega
        have hq3 : (9 : Int) < (fn : Int) := by omega
        go_wp2_with fail
        refine (lives6_any _).mono ?_
        rintro e w5 ⟨rfl, hg5⟩
        go_wp2_with fail
        go_ret
        exact ⟨rfl, Grows.trans hg02 hg5⟩
end Go.Proofs.Ythnjbmaiebiehaa
