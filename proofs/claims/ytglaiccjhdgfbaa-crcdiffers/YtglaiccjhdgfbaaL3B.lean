/-
  The walks of the laws of layer 3: CrcTurns, CrcDiffers.
-/
import Derived.Test.YtglaiccjhdgfbaaL3A
import Derived.Test.YtglaiccjhdgfbaaCrcC
import Derived.Test.YtglaiccjhdgfbaaRAro
namespace Go.Proofs.Ytglaiccjhdgfbaa
open Go.RowKit
set_option linter.unusedVariables false

theorem four_inj {s t : Nat} (hs : s < 4294967296) (ht : t < 4294967296) (h : four s = four t) : s = t :=
  ((num_inj (four t) s (four_len t) hs).2 h.symm).symm.trans ((num_inj (four t) t (four_len t) ht).2 rfl)
theorem set_split {l : List UInt8} {k : Nat} {x : UInt8} (h : l[k]? = some x) (z : UInt8) : l = l.take k ++ x :: l.drop (k + 1) ∧ l.set k z = l.take k ++ z :: l.drop (k + 1) := by
  have hk := (List.getElem?_eq_some_iff.1 h).1
  have hx := (List.getElem?_eq_some_iff.1 h).2
  constructor
  · rw [← hx, ← List.drop_eq_getElem_cons hk, List.take_append_drop]
  · rw [List.set_eq_take_append_cons_drop, if_pos hk]
theorem crc_set {l : List UInt8} {k : Nat} {x : UInt8} (h : l[k]? = some x) (z : UInt8) (hz : z ≠ x) : crcOf (l.set k z) ≠ crcOf l := by
  obtain ⟨h1, h2⟩ := set_split h z
  have := crc_differs (l.take k) (l.drop (k + 1)) z x hz
  rwa [← h1, ← h2] at this
/-- If one byte of what was put is another one, it is not taken. -/
theorem take_other (l : List UInt8) (k : Nat) (x z : UInt8) (hx : (l ++ four (crcOf l))[k]? = some x) (hz : z ≠ x) : takeOf ((l ++ four (crcOf l)).set k z) = ([], 7) := by
  have hf := four_len (crcOf l)
  unfold takeOf
  have hlen : ((l ++ four (crcOf l)).set k z).length = l.length + 4 := by simp [hf]
  rw [hlen, if_neg (by omega), show l.length + 4 - 4 = l.length by omega]
  refine if_neg ?_
  rcases Nat.lt_or_ge k l.length with hk | hk
  · rw [List.set_append_left _ _ hk]
    have e1 : (l.set k z ++ four (crcOf l)).take l.length = l.set k z := by
      have := List.take_left (l₁ := l.set k z) (l₂ := four (crcOf l)); rwa [List.length_set] at this
    have e2 : (l.set k z ++ four (crcOf l)).drop l.length = four (crcOf l) := by
      have := List.drop_left (l₁ := l.set k z) (l₂ := four (crcOf l)); rwa [List.length_set] at this
    rw [e1, e2]
    intro h
    rw [List.getElem?_append_left hk] at hx
    exact crc_set hx z hz (four_inj (cmore_lt (s := 0) (by omega) _) (cmore_lt (s := 0) (by omega) _) h).symm
  · rw [List.set_append_right _ _ hk, List.take_left, List.drop_left]
    rw [List.getElem?_append_right hk] at hx
    intro h
    have h2 := congrArg (fun q => q[k - l.length]?) h
    have hlt := (List.getElem?_eq_some_iff.1 hx).1
    simp only [List.getElem?_set_self hlt] at h2
    rw [hx] at h2
    injection h2 with h2
    exact hz h2

set_option maxHeartbeats 2000000 in
theorem crcturns_walk (A : Option Addr) (n c : Nat) (bs : List UInt8) (m : Int) (y0 : Nat) (w : World) (hl : bs.length = n) (hr : Lies w w.heap.size A (bs.map bv)) (hc : n ≤ c) (hm : c ≤ maxLen)
    (hi : -9223372036854775808 ≤ m ∧ m ≤ 9223372036854775807) (hy0 : y0 < 256) :
    Calls Try.prog 6 #[.slice A n c, .int .i64 m, .int .u8 (y0 : Int)] w fun e w' => e = .returned (.bool true) ∧ Grows w w' := by
  have HL := Lib.hid hl
  clear hl
  go_enter Try.func6, Try.ntmps6
  go_wp2_with fail
  refine (few_bytes A n c 40 bs w HL.out hr hc (by omega) hm).mono ?_
  rintro e w1 ⟨A1, c1, rfl, hc1, hown1, hL1, hg1⟩
  have HL1 := Lib.hid (min_take (m := 40) HL.out)
  have hmin : min n 40 ≤ 40 := Nat.min_le_right _ _
  clear hown1 hr
  generalize min n 40 = n1 at *
  generalize bs.take 40 = l at *
  go_wp2_with fail
  refine (put_any A1 n1 c1 l w1 HL1.out hL1 (by omega)).mono ?_
  rintro e w2 ⟨v2, rfl, hown2, hg2⟩
  have hg02 := Grows.trans hg1 hg2
  have HP : Hid ((l ++ four (crcOf l)).length = n1 + 4) := by show _ = _; rw [List.length_append, HL1.out, four_len]
  obtain ⟨g, cp, rfl, hcp, hmp, hgb, hh⟩ := own_has hown2 (by omega)
  clear hown2 hL1
  generalize hpp : l ++ four (crcOf l) = p at *
  have HPP := Lib.hid hpp
  clear hpp
  by_cases hz : y0 = 0
  · subst hz
    go_wp2_with fail
    refine (around_any m (n1 + 4) w2 hi (by omega)).mono ?_
    rintro e w' ⟨rfl, rfl⟩
    have hk := around_lt m (m := n1 + 4) (by omega)
    generalize around m (n1 + 4) = k at *
    obtain ⟨x, hx⟩ : ∃ x, p[k]? = some x := ⟨_, List.getElem?_eq_getElem (by rw [HP.out]; exact hk)⟩
    have cx := hh.cell (k := k) (u := bv x) (by rw [List.getElem?_map, hx]; rfl)
    have hfr := hh.free k
    have hxb := x.toNat_lt
    have e1 : bits .xor .u8 (x.toNat : Int) 1 = ((x.toNat ^^^ 1 : Nat) : Int) := u8_xor_nat x.toNat 1 hxb (by omega)
    have hxy : x.toNat ^^^ 1 < 256 := Nat.xor_lt_two_pow (n := 8) hxb (by omega)
    have hbv : bv (UInt8.ofNat (x.toNat ^^^ 1)) = .int .u8 ((x.toNat ^^^ 1 : Nat) : Int) := by
      have : (UInt8.ofNat (x.toNat ^^^ 1)).toNat = x.toNat ^^^ 1 := by rw [UInt8.toNat_ofNat']; exact Nat.mod_eq_of_lt hxy
      simp only [bv, this]
    have hset := hh.set_ (k := k) (by rw [List.length_map, HP.out]; exact hk) (bv (UInt8.ofNat (x.toNat ^^^ 1)))
    rw [← List.map_set, hbv] at hset
    have hne : UInt8.ofNat (x.toNat ^^^ 1) ≠ x := by
      intro h
      have h2 := congrArg UInt8.toNat h
      rw [UInt8.toNat_ofNat', Nat.mod_eq_of_lt hxy] at h2
      have h3 := congrArg (fun z => x.toNat ^^^ z) h2
      simp only [← Nat.xor_assoc, Nat.xor_self, Nat.zero_xor] at h3
      omega
    have HTK : Hid (takeOf (p.set k (UInt8.ofNat (x.toNat ^^^ 1))) = ([], 7)) := by
      show _ = _
      rw [← HPP.out]
      exact take_other l k x _ (by rw [HPP.out]; exact hx) hne
    have HPS : Hid ((p.set k (UInt8.ofNat (x.toNat ^^^ 1))).length = n1 + 4) := by show _ = _; rw [List.length_set]; exact HP.out
    have hgs : Grows w (w2.setCell ⟨g, k, none⟩ (.int .u8 ((x.toNat ^^^ 1 : Nat) : Int))) := Below.setCell hg02 (p := ⟨g, k, none⟩) (Nat.le_trans hg1.size hgb) _
    have HSET := Lib.hid hset
    have HGS := Lib.hid hgs
    clear hset hgs hh hbv hx hne
    have k0 : (k : Int) < (n1 : Int) + 4 := by omega
    generalize x.toNat ^^^ 1 = xy at *
    go_wp2_with fail
    clear cx hfr e1
    generalize w2.setCell ⟨g, k, none⟩ (.int .u8 (xy : Int)) = w3 at *
    generalize p.set k (UInt8.ofNat xy) = p' at *
    refine (take_any _ (n1 + 4) cp p' w3 HPS.out HSET.out.lies hcp (by omega)).mono ?_
    rw [HTK.out]
    rintro e w4 ⟨A4, c4, rfl, hL4, hg4⟩
    go_wp2_with fail
    refine (lives3_any _).mono ?_
    rintro e w5 ⟨rfl, hg5⟩
    go_wp2_with fail
    go_ret
    exact ⟨rfl, Grows.trans HGS.out (Grows.trans hg4 hg5)⟩
  · have hyz : 0 < y0 := by omega
    go_wp2_with fail
    refine (around_any m (n1 + 4) w2 hi (by omega)).mono ?_
    rintro e w' ⟨rfl, rfl⟩
    have hk := around_lt m (m := n1 + 4) (by omega)
    generalize around m (n1 + 4) = k at *
    obtain ⟨x, hx⟩ : ∃ x, p[k]? = some x := ⟨_, List.getElem?_eq_getElem (by rw [HP.out]; exact hk)⟩
    have cx := hh.cell (k := k) (u := bv x) (by rw [List.getElem?_map, hx]; rfl)
    have hfr := hh.free k
    have hxb := x.toNat_lt
    have e1 : bits .xor .u8 (x.toNat : Int) (y0 : Int) = ((x.toNat ^^^ y0 : Nat) : Int) := u8_xor_nat x.toNat y0 hxb (by omega)
    have hxy : x.toNat ^^^ y0 < 256 := Nat.xor_lt_two_pow (n := 8) hxb (by omega)
    have hbv : bv (UInt8.ofNat (x.toNat ^^^ y0)) = .int .u8 ((x.toNat ^^^ y0 : Nat) : Int) := by
      have : (UInt8.ofNat (x.toNat ^^^ y0)).toNat = x.toNat ^^^ y0 := by rw [UInt8.toNat_ofNat']; exact Nat.mod_eq_of_lt hxy
      simp only [bv, this]
    have hset := hh.set_ (k := k) (by rw [List.length_map, HP.out]; exact hk) (bv (UInt8.ofNat (x.toNat ^^^ y0)))
    rw [← List.map_set, hbv] at hset
    have hne : UInt8.ofNat (x.toNat ^^^ y0) ≠ x := by
      intro h
      have h2 := congrArg UInt8.toNat h
      rw [UInt8.toNat_ofNat', Nat.mod_eq_of_lt hxy] at h2
      have h3 := congrArg (fun z => x.toNat ^^^ z) h2
      simp only [← Nat.xor_assoc, Nat.xor_self, Nat.zero_xor] at h3
      omega
    have HTK : Hid (takeOf (p.set k (UInt8.ofNat (x.toNat ^^^ y0))) = ([], 7)) := by
      show _ = _
      rw [← HPP.out]
      exact take_other l k x _ (by rw [HPP.out]; exact hx) hne
    have HPS : Hid ((p.set k (UInt8.ofNat (x.toNat ^^^ y0))).length = n1 + 4) := by show _ = _; rw [List.length_set]; exact HP.out
    have hgs : Grows w (w2.setCell ⟨g, k, none⟩ (.int .u8 ((x.toNat ^^^ y0 : Nat) : Int))) := Below.setCell hg02 (p := ⟨g, k, none⟩) (Nat.le_trans hg1.size hgb) _
    have HSET := Lib.hid hset
    have HGS := Lib.hid hgs
    clear hset hgs hh hbv hx hne
    have k0 : (k : Int) < (n1 : Int) + 4 := by omega
    generalize x.toNat ^^^ y0 = xy at *
    go_wp2_with fail
    clear cx hfr e1
    generalize w2.setCell ⟨g, k, none⟩ (.int .u8 (xy : Int)) = w3 at *
    generalize p.set k (UInt8.ofNat xy) = p' at *
    refine (take_any _ (n1 + 4) cp p' w3 HPS.out HSET.out.lies hcp (by omega)).mono ?_
    rw [HTK.out]
    rintro e w4 ⟨A4, c4, rfl, hL4, hg4⟩
    go_wp2_with fail
    refine (lives3_any _).mono ?_
    rintro e w5 ⟨rfl, hg5⟩
    go_wp2_with fail
    go_ret
    exact ⟨rfl, Grows.trans HGS.out (Grows.trans hg4 hg5)⟩

set_option maxHeartbeats 2000000 in
theorem crcdiffers_walk (A : Option Addr) (n c : Nat) (bs : List UInt8) (m : Int) (y0 : Nat) (w : World) (hl : bs.length = n) (hr : Lies w w.heap.size A (bs.map bv)) (hc : n ≤ c) (hm : c ≤ maxLen)
    (hi : -9223372036854775808 ≤ m ∧ m ≤ 9223372036854775807) (hy0 : y0 < 256) :
    Calls Try.prog 8 #[.slice A n c, .int .i64 m, .int .u8 (y0 : Int)] w fun e w' => e = .returned (.bool true) ∧ Grows w w' := by
  obtain ⟨i0, hi0, hz0, hz1, hz2⟩ := info_parts byte_info
  have HL := Lib.hid hl
  clear hl
  by_cases hz : y0 = 0
  · subst hz
    go_enter Try.func8, Try.ntmps8
    go_wp2_with fail
    refine (few_bytes A n c 40 bs w HL.out hr hc (by omega) hm).mono ?_
    rintro e w1 ⟨A1, c1, rfl, hc1, hown1, hL1, hg1⟩
    have HL1 := Lib.hid (min_take (m := 40) HL.out)
    have hmin : min n 40 ≤ 40 := Nat.min_le_right _ _
    clear hL1 hr
    generalize min n 40 = n1 at *
    generalize bs.take 40 = l at *
    have hnew := Lies.new w1 5 [bv 1]
    have hsz := hg1.size
    go_wp2_with (at_builtin; refine wpList_append_src _ rfl (.tmp 11) (.tmp 12) _ rfl w.heap.size 5 i0 _ 1 Try.underlying22 hi0 hz0 hz1 hz2 rfl (.slice A1 n1 c1) n1 _ rfl (hown1.alloc _) _ _ 1 1 [bv 1] rfl rfl hnew (by simp [Value.oneCell']) (by unfold maxLen; omega) (by omega) (by rw [World.size_alloc]; omega) ?_; intro v2 w2 hown2 hg2 hat2)
    have hb2 : Below w.heap.size w1 w2 := ((Below.refl _ w1).alloc hg1.size _).grown hg2 (by rw [World.size_alloc]; omega) (own_ge hown1)
    have HG : Hid (Grows w w2) := Below.trans hg1 hb2
    rw [show [bv 1] = [(1 : UInt8)].map bv from rfl, ← List.map_append] at hown2
    obtain ⟨go, co, rfl, hco, hmo, hgo, hho⟩ := own_has hown2 (by omega)
    have hLo := hho.lies
    have HP : Hid ((l ++ [1]).length = n1 + 1) := by show _ = _; rw [List.length_append, HL1.out]; rfl
    have HMN : Hid (min (n1 + 1) 60 = n1 + 1) := by show _ = _; omega
    clear hown1 hown2 hg2 hat2 hb2 hnew hho hgo hsz
    generalize (some ⟨go, 0, none⟩ : Option Addr) = Ao at *
    generalize l ++ [1] = p at *
    go_wp2_with fail
    refine (few_bytes Ao (n1 + 1) co 60 p w2 HP.out hLo hco (by omega) hmo).mono ?_
    rintro e w3 ⟨A3, c3, rfl, hc3, hown3, hL3, hg3⟩
    rw [HMN.out, List.take_of_length_le (show p.length ≤ 60 by rw [HP.out]; omega)] at hown3
    rw [HMN.out]
    obtain ⟨g, cp, ecp, hcp, hmp, hgb, hh⟩ := own_has hown3 (by omega)
    injection ecp with ecp1 ecp2 ecp3
    subst ecp1 ecp3
    clear hown3 hL3 hc3
    go_wp2_with fail
    refine (around_any m (n1 + 1) w3 hi (by omega)).mono ?_
    rintro e w' ⟨rfl, rfl⟩
    have hk := around_lt m (m := n1 + 1) (by omega)
    generalize around m (n1 + 1) = k at *
    obtain ⟨x, hx⟩ : ∃ x, p[k]? = some x := ⟨_, List.getElem?_eq_getElem (by rw [HP.out]; exact hk)⟩
    have cx := hh.cell (k := k) (u := bv x) (by rw [List.getElem?_map, hx]; rfl)
    have hfr := hh.free k
    have hxb := x.toNat_lt
    have e1 : bits .xor .u8 (x.toNat : Int) 1 = ((x.toNat ^^^ 1 : Nat) : Int) := u8_xor_nat x.toNat 1 hxb (by omega)
    have hxy : x.toNat ^^^ 1 < 256 := Nat.xor_lt_two_pow (n := 8) hxb (by omega)
    have hbv : bv (UInt8.ofNat (x.toNat ^^^ 1)) = .int .u8 ((x.toNat ^^^ 1 : Nat) : Int) := by
      have : (UInt8.ofNat (x.toNat ^^^ 1)).toNat = x.toNat ^^^ 1 := by rw [UInt8.toNat_ofNat']; exact Nat.mod_eq_of_lt hxy
      simp only [bv, this]
    have hset := hh.set_ (k := k) (by rw [List.length_map, HP.out]; exact hk) (bv (UInt8.ofNat (x.toNat ^^^ 1)))
    rw [← List.map_set, hbv] at hset
    have hne : UInt8.ofNat (x.toNat ^^^ 1) ≠ x := by
      intro h
      have h2 := congrArg UInt8.toNat h
      rw [UInt8.toNat_ofNat', Nat.mod_eq_of_lt hxy] at h2
      have h3 := congrArg (fun z => x.toNat ^^^ z) h2
      simp only [← Nat.xor_assoc, Nat.xor_self, Nat.zero_xor] at h3
      omega
    have HPS : Hid ((p.set k (UInt8.ofNat (x.toNat ^^^ 1))).length = n1 + 1) := by show _ = _; rw [List.length_set]; exact HP.out
    have HNE := Lib.hid (crc_set hx _ hne)
    have hgs : Below w2.heap.size w2 (w3.setCell ⟨g, k, none⟩ (.int .u8 ((x.toNat ^^^ 1 : Nat) : Int))) := Below.setCell hg3 (p := ⟨g, k, none⟩) hgb _
    have HSET := Lib.hid hset
    have HGS := Lib.hid hgs
    clear hset hgs hh hbv hx hne
    have k0 : (k : Int) < (n1 : Int) + 1 := by omega
    generalize x.toNat ^^^ 1 = xy at *
    go_wp2_with fail
    clear cx hfr e1
    generalize w3.setCell ⟨g, k, none⟩ (.int .u8 (xy : Int)) = w4 at *
    generalize p.set k (UInt8.ofNat xy) = p' at *
    have hg04 := Grows.trans HG.out HGS.out
    have hLo4 := hLo.later HGS.out
    refine (crcsum_any _ (n1 + 1) c3 p' w4 HPS.out HSET.out.lies (by omega)).mono ?_
    rintro e w5 ⟨rfl, hg5⟩
    go_wp2_with fail
    refine (crcsum_any Ao (n1 + 1) co p w5 HP.out (hLo4.later hg5) (by omega)).mono ?_
    rintro e w6 ⟨rfl, hg6⟩
    have hne2 : ((crcOf p' : Int) != (crcOf p : Int)) = true := by have := HNE.out; simp; omega
    generalize crcOf p' = s' at *
    generalize crcOf p = s at *
    go_wp2_with fail
    refine (lives3_any _).mono ?_
    rintro e w7 ⟨rfl, hg7⟩
    go_wp2_with fail
    go_ret
    exact ⟨rfl, Grows.trans hg04 (Grows.trans hg5 (Grows.trans hg6 hg7))⟩
  · have hyz : 0 < y0 := by omega
    go_enter Try.func8, Try.ntmps8
    go_wp2_with fail
    refine (few_bytes A n c 40 bs w HL.out hr hc (by omega) hm).mono ?_
    rintro e w1 ⟨A1, c1, rfl, hc1, hown1, hL1, hg1⟩
    have HL1 := Lib.hid (min_take (m := 40) HL.out)
    have hmin : min n 40 ≤ 40 := Nat.min_le_right _ _
    clear hL1 hr
    generalize min n 40 = n1 at *
    generalize bs.take 40 = l at *
    have hnew := Lies.new w1 5 [bv 1]
    have hsz := hg1.size
    go_wp2_with (at_builtin; refine wpList_append_src _ rfl (.tmp 11) (.tmp 12) _ rfl w.heap.size 5 i0 _ 1 Try.underlying22 hi0 hz0 hz1 hz2 rfl (.slice A1 n1 c1) n1 _ rfl (hown1.alloc _) _ _ 1 1 [bv 1] rfl rfl hnew (by simp [Value.oneCell']) (by unfold maxLen; omega) (by omega) (by rw [World.size_alloc]; omega) ?_; intro v2 w2 hown2 hg2 hat2)
    have hb2 : Below w.heap.size w1 w2 := ((Below.refl _ w1).alloc hg1.size _).grown hg2 (by rw [World.size_alloc]; omega) (own_ge hown1)
    have HG : Hid (Grows w w2) := Below.trans hg1 hb2
    rw [show [bv 1] = [(1 : UInt8)].map bv from rfl, ← List.map_append] at hown2
    obtain ⟨go, co, rfl, hco, hmo, hgo, hho⟩ := own_has hown2 (by omega)
    have hLo := hho.lies
    have HP : Hid ((l ++ [1]).length = n1 + 1) := by show _ = _; rw [List.length_append, HL1.out]; rfl
    have HMN : Hid (min (n1 + 1) 60 = n1 + 1) := by show _ = _; omega
    clear hown1 hown2 hg2 hat2 hb2 hnew hho hgo hsz
    generalize (some ⟨go, 0, none⟩ : Option Addr) = Ao at *
    generalize l ++ [1] = p at *
    go_wp2_with fail
    refine (few_bytes Ao (n1 + 1) co 60 p w2 HP.out hLo hco (by omega) hmo).mono ?_
    rintro e w3 ⟨A3, c3, rfl, hc3, hown3, hL3, hg3⟩
    rw [HMN.out, List.take_of_length_le (show p.length ≤ 60 by rw [HP.out]; omega)] at hown3
    rw [HMN.out]
    obtain ⟨g, cp, ecp, hcp, hmp, hgb, hh⟩ := own_has hown3 (by omega)
    injection ecp with ecp1 ecp2 ecp3
    subst ecp1 ecp3
    clear hown3 hL3 hc3
    go_wp2_with fail
    refine (around_any m (n1 + 1) w3 hi (by omega)).mono ?_
    rintro e w' ⟨rfl, rfl⟩
    have hk := around_lt m (m := n1 + 1) (by omega)
    generalize around m (n1 + 1) = k at *
    obtain ⟨x, hx⟩ : ∃ x, p[k]? = some x := ⟨_, List.getElem?_eq_getElem (by rw [HP.out]; exact hk)⟩
    have cx := hh.cell (k := k) (u := bv x) (by rw [List.getElem?_map, hx]; rfl)
    have hfr := hh.free k
    have hxb := x.toNat_lt
    have e1 : bits .xor .u8 (x.toNat : Int) (y0 : Int) = ((x.toNat ^^^ y0 : Nat) : Int) := u8_xor_nat x.toNat y0 hxb (by omega)
    have hxy : x.toNat ^^^ y0 < 256 := Nat.xor_lt_two_pow (n := 8) hxb (by omega)
    have hbv : bv (UInt8.ofNat (x.toNat ^^^ y0)) = .int .u8 ((x.toNat ^^^ y0 : Nat) : Int) := by
      have : (UInt8.ofNat (x.toNat ^^^ y0)).toNat = x.toNat ^^^ y0 := by rw [UInt8.toNat_ofNat']; exact Nat.mod_eq_of_lt hxy
      simp only [bv, this]
    have hset := hh.set_ (k := k) (by rw [List.length_map, HP.out]; exact hk) (bv (UInt8.ofNat (x.toNat ^^^ y0)))
    rw [← List.map_set, hbv] at hset
    have hne : UInt8.ofNat (x.toNat ^^^ y0) ≠ x := by
      intro h
      have h2 := congrArg UInt8.toNat h
      rw [UInt8.toNat_ofNat', Nat.mod_eq_of_lt hxy] at h2
      have h3 := congrArg (fun z => x.toNat ^^^ z) h2
      simp only [← Nat.xor_assoc, Nat.xor_self, Nat.zero_xor] at h3
      omega
    have HPS : Hid ((p.set k (UInt8.ofNat (x.toNat ^^^ y0))).length = n1 + 1) := by show _ = _; rw [List.length_set]; exact HP.out
    have HNE := Lib.hid (crc_set hx _ hne)
    have hgs : Below w2.heap.size w2 (w3.setCell ⟨g, k, none⟩ (.int .u8 ((x.toNat ^^^ y0 : Nat) : Int))) := Below.setCell hg3 (p := ⟨g, k, none⟩) hgb _
    have HSET := Lib.hid hset
    have HGS := Lib.hid hgs
    clear hset hgs hh hbv hx hne
    have k0 : (k : Int) < (n1 : Int) + 1 := by omega
    generalize x.toNat ^^^ y0 = xy at *
    go_wp2_with fail
    clear cx hfr e1
    generalize w3.setCell ⟨g, k, none⟩ (.int .u8 (xy : Int)) = w4 at *
    generalize p.set k (UInt8.ofNat xy) = p' at *
    have hg04 := Grows.trans HG.out HGS.out
    have hLo4 := hLo.later HGS.out
    refine (crcsum_any _ (n1 + 1) c3 p' w4 HPS.out HSET.out.lies (by omega)).mono ?_
    rintro e w5 ⟨rfl, hg5⟩
    go_wp2_with fail
    refine (crcsum_any Ao (n1 + 1) co p w5 HP.out (hLo4.later hg5) (by omega)).mono ?_
    rintro e w6 ⟨rfl, hg6⟩
    have hne2 : ((crcOf p' : Int) != (crcOf p : Int)) = true := by have := HNE.out; simp; omega
    generalize crcOf p' = s' at *
    generalize crcOf p = s at *
    go_wp2_with fail
    refine (lives3_any _).mono ?_
    rintro e w7 ⟨rfl, hg7⟩
    go_wp2_with fail
    go_ret
    exact ⟨rfl, Grows.trans hg04 (Grows.trans hg5 (Grows.trans hg6 hg7))⟩
end Go.Proofs.Ytglaiccjhdgfbaa
