/-
  The walk of LzLiterals.
-/
import Derived.Test.YtilpeekdjifjhaaL5C
namespace Go.Proofs.Ytilpeekdjifjhaa
open Go.RowKit
set_option linter.unusedVariables false

theorem own_len_ {w : World} {base n : Nat} {e : TypeId} {v : Value} {l : List UInt8} (h : w.ownsRow base e 1 v n (l.map bv)) : w.ownsRow base e 1 v l.length (l.map bv) := by
  have : l.length = n := by simpa using h.1
  rw [this]; exact h
/-- These tokens are the first bytes of l. -/
def Good (l out : List UInt8) (n : Nat) : Prop := ∀ (most : Int) (r : List UInt8), (n : Int) ≤ most → unp most (out ++ r) [] = unp most r (l.take n)
theorem good_nil (l : List UInt8) : Good l [] 0 := fun most r _ => by simp
theorem good_more {l out piece : List UInt8} {n k : Nat} (h : Good l out n) (hk : piece.length = k + 1) (h8 : k < 128) {m : Nat} (hm : l.take m = l.take n ++ piece) (hml : m ≤ l.length) : Good l (out ++ [UInt8.ofNat k] ++ piece) m := fun most r hmo => by
  have hl := congrArg List.length hm
  rw [List.length_append, List.length_take, List.length_take] at hl
  rw [List.append_assoc, List.append_assoc, h most _ (by omega), List.cons_append, List.nil_append, unp_piece hk h8 (by rw [List.length_take]; omega), ← hm]

set_option maxRecDepth 20000 in
set_option maxHeartbeats 4000000 in
theorem lzliterals_walk (A : Option Addr) (n c : Nat) (bs : List UInt8) (A' : Option Addr) (n' c' : Nat) (zs : List Int) (d g : Int) (w : World) (hl : bs.length = n) (hr : Lies w w.heap.size A (bs.map bv)) (hc : n ≤ c) (hm : c ≤ maxLen)
    (hl' : zs.length = n') (hr' : Lies w w.heap.size A' (zs.map zv)) (hc' : n' ≤ maxLen) (hz : ∀ z ∈ zs, -9223372036854775808 ≤ z ∧ z ≤ 9223372036854775807) (hd : -9223372036854775808 ≤ d ∧ d ≤ 9223372036854775807) (hg : -9223372036854775808 ≤ g ∧ g ≤ 9223372036854775807) :
    Calls Try.prog 8 #[.slice A n c, .slice A' n' c', .int .i64 d, .int .i64 g] w fun e w' => e = .returned (.bool true) ∧ Grows w w' := by
  unfold maxLen at hc'
  obtain ⟨i0, hi0, hz0, hz1, hz2⟩ := info_parts byte_info
  have HL' := Lib.hid hl'
  have HZ := Lib.hid hz
  clear hl' hz
  go_enter Try.func8, Try.ntmps8
  go_wp2_with fail
  refine (few_bytes A n c 120 bs w hl hr hc (by omega) hm).mono ?_
  rintro e w1 ⟨A1, c1, rfl, hc1, hown1, hL1, hg1⟩
  have HL1 : Hid ((bs.take 120).length = min n 120) := by show _ = _; rw [List.length_take, hl, Nat.min_comm]
  have hn1 : min n 120 ≤ 120 := by omega
  clear hr hl hL1
  generalize min n 120 = n1 at *
  generalize bs.take 120 = l1 at *
  have hnew := Lies.new w1 5 [bv 7]
  have hwb1 := hg1.size
  go_wp2_with (at_builtin; refine wpList_append_src _ rfl (.tmp 23) (.tmp 24) _ rfl w.heap.size 5 i0 _ 1 Try.underlying22 hi0 hz0 hz1 hz2 rfl _ n1 _ rfl (hown1.alloc _) _ _ 1 1 [bv 7] rfl rfl hnew (by simp [Value.oneCell']) (by unfold maxLen; omega) (by omega) (by rw [World.size_alloc]; omega) ?_; intro v2 w2 hown2 hg2 hat2)
  have hW2 := Wrote.later (grows_alloc _ _) (Wrote.app hg2 hat2)
  have hg02 : Grows w w2 := Below.trans hg1 (hW2.below hwb1 (own_ge hown1))
  rw [show [bv 7] = [(7 : UInt8)].map bv from rfl, ← List.map_append] at hown2
  have HLN : Hid ((l1 ++ [7]).length = n1 + 1) := by show _ = _; rw [List.length_append, HL1.out]; rfl
  generalize l1 ++ [7] = l at *
  obtain ⟨N, hN⟩ : ∃ N, N = n1 + 1 := ⟨_, rfl⟩
  have hN1 : 1 ≤ N ∧ N ≤ 121 := by omega
  rw [← hN] at hown2 HLN
  obtain ⟨A2, c2, rfl, hc2⟩ := own_form hown2
  have hL2 := Lies.of_own hown2
  have hcm2 : c2 ≤ maxLen := by
    rcases hown2.2 with ⟨e, _⟩ | ⟨g, cap, cur, e, _, _, _, h4, _⟩
    · injection e with _ _ e; omega
    · injection e with _ _ e; subst e; first | exact h4 | omega
  have hrz := hr'.later hg02
  have hsl : (Value.slice A2 N c2) = .slice A2 N c2 := rfl
  clear hown1 hown2 hg2 hat2 hW2 hnew hg1 hwb1 HL1 hn1 hr' hN hsl
  obtain ⟨base, hbase⟩ : ∃ base, base = w2.heap.size := ⟨_, rfl⟩
  have hLb : Lies w2 base A2 (l.map bv) := by rw [hbase]; exact hL2
  have hwb : base ≤ w2.heap.size := by omega
  have hrz2 : Lies w2 base A' (zs.map zv) := by rw [hbase]; exact hrz
  have HBASE := Lib.hid hbase
  clear hbase hrz hL2
  have HG0 := Lib.hid (good_nil l)
  go_wp2_with fail
  go_loopw [10, 11, 12, 13] (fun p a b _ wr => ∃ (at_ i : Nat) (out : List UInt8), at_ ≤ N ∧ i ≤ at_ ∧ a = iv at_ ∧ b = iv i ∧ Hid (Good l out at_) ∧ out.length ≤ 2 * at_ ∧ wr.ownsRow base 5 1 p out.length (out.map bv) ∧ Below base w2 wr) (fun _ a _ _ _ => N - (intOf a).toNat)
  case atStart => exact ⟨0, 0, [], Nat.zero_le _, Nat.le_refl _, rfl, rfl, HG0.out, Nat.le_refl _, World.ownsRow_nil _ _ _ _, Below.refl _ _⟩
  case round =>
    obtain ⟨at_, i, out, hat, hia, rfl, rfl, HG, hol, hown, hgr⟩ := hrel
    have hwbr : base ≤ wr.heap.size := Nat.le_trans hwb hgr.size
    by_cases hlt : at_ < N
    · have hca : ¬ c2 = at_ := by omega
      have hLr := hLb.below hgr
      by_cases hn0 : 0 < n'
      · have hnz : ((n' : Int) == 0) = false := by simp; omega
        have hnz' : ¬ ((n' : Int) = 0) := by omega
        have hn0' : (0 : Int) < (n' : Int) := by omega
        obtain ⟨ii, hii⟩ : ∃ ii, ii = i % n' := ⟨_, rfl⟩
        have hiin : ii < n' := by rw [hii]; exact Nat.mod_lt _ hn0
        have hiI : (i : Int) % (n' : Int) = (ii : Int) := by rw [hii]; omega
        have hiI' : (i : Int).tmod (n' : Int) = (ii : Int) := by rw [Int.tmod_eq_emod_of_nonneg (by omega)]; exact hiI
        have hiin' : (ii : Int) < (n' : Int) := by omega
        clear hii
        obtain ⟨z, hzz⟩ : ∃ z, zs[ii]? = some z := ⟨_, List.getElem?_eq_getElem (by rw [HL'.out]; exact hiin)⟩
        have hzb := HZ.out z (List.mem_of_getElem? hzz)
        obtain ⟨ad, rfl, _, cx⟩ := (hrz2.below hgr).at_ (j := ii) (u := zv z) (by rw [List.getElem?_map, hzz]; rfl)
        clear hzz
        go_wp2_with fail
        refine (around_any z 20 wr hzb ⟨by omega, by omega⟩).mono ?_
        rintro e w' ⟨rfl, rfl⟩
        have ha20 := around_lt z (m := 20) (by omega)
        generalize around z 20 = a20 at *
        obtain ⟨k0, hk0⟩ : ∃ k0, k0 = 1 + a20 := ⟨_, rfl⟩
        have hk0i : (1 : Int) + (a20 : Int) = (k0 : Int) := by omega
        have hk0b : 1 ≤ k0 ∧ k0 ≤ 20 := by omega
        clear hk0
        obtain ⟨k, hk⟩ : ∃ k, k = min k0 (N - at_) := ⟨_, rfl⟩
        have hmin : (if (N : Int) - (at_ : Int) < (k0 : Int) then (N : Int) - (at_ : Int) else (k0 : Int)) = (k : Int) := by split <;> omega
        have hk1 : 1 ≤ k ∧ k ≤ 20 ∧ k ≤ N - at_ := by omega
        have hbyte : (k : Int) - 1 = ((UInt8.ofNat (k - 1)).toNat : Int) := by rw [UInt8.toNat_ofNat']; omega
        have HPL : Hid (((l.drop at_).take k).length = k) := by show _ = _; rw [List.length_take, List.length_drop, HLN.out]; omega
        have HTK : Hid (l.take (at_ + k) = l.take at_ ++ (l.drop at_).take k) := by show _ = _; rw [List.take_add]
        have HG2 := Lib.hid (good_more HG.out (piece := (l.drop at_).take k) (k := k - 1) (by rw [HPL.out]; omega) (by omega) HTK.out (by rw [HLN.out]; omega))
        have hLt : Lies wr base (A2.map (·.add at_)) (((l.drop at_).take k).map bv) := by rw [List.map_take, List.map_drop]; exact (hLr.from_ at_).take k
        generalize (l.drop at_).take k = piece at *
        generalize UInt8.ofNat (k - 1) = q at *
        have hq8 := q.toNat_lt
        have HK := Lib.hid hk
        clear hk
        have hnew := Lies.new wr 5 [bv q]
        go_wp2_with (first
          | (at_builtin; refine wpList_append_src _ rfl (.tmp 50) (.tmp 54) _ rfl base 5 i0 _ 1 Try.underlying22 hi0 hz0 hz1 hz2 rfl _ out.length _ rfl (hown.alloc _) _ _ 1 1 [bv q] rfl rfl hnew (by simp [Value.oneCell']) (by unfold maxLen; omega) (by omega) (by rw [World.size_alloc]; omega) ?_; intro v1 w1 hown1 hg1 hat1)
          | (at_builtin; refine wpList_append_src _ rfl (.tmp 56) (.tmp 62) _ rfl base 5 i0 _ 1 Try.underlying22 hi0 hz0 hz1 hz2 rfl _ (out.length + 1) _ rfl hown1 base _ _ _ (piece.map bv) rfl (by rw [List.length_map, HPL.out]; omega) (hLt.below (Wrote.below (Wrote.later (grows_alloc _ _) (Wrote.app hg1 hat1)) hwbr (own_ge hown))) (bv_one piece) (by unfold maxLen; omega) (by omega) (Nat.le_trans hwbr (Wrote.later (grows_alloc _ _) (Wrote.app hg1 hat1)).grown.size) ?_; intro v2 w2' hown2 hg2 hat2))
        have hW1 := Wrote.later (grows_alloc _ _) (Wrote.app hg1 hat1)
        have hW2 := hW1.trans (Wrote.app hg2 hat2)
        have e9 : out.length + 1 + k = (out ++ [q] ++ piece).length := by rw [List.length_append, List.length_append, HPL.out]; rfl
        rw [show [bv q] = [q].map bv from rfl, ← List.map_append, ← List.map_append] at hown2
        replace hown2 := own_len_ hown2
        have hB := Wrote.below hW2 hwbr (own_ge hown)
        go_roundw
        case rel => exact ⟨at_ + k, i + 1, out ++ [q] ++ piece, by omega, by omega, by go_num, by go_num, HG2.out, by rw [← e9]; omega, hown2, hgr.trans hB⟩
        case measure => simp [intOf]; omega
      · have hn0' : ¬ ((0 : Int) < (n' : Int)) := by omega
        obtain ⟨k0, hk0⟩ : ∃ k0, k0 = 20 := ⟨_, rfl⟩
        obtain ⟨k, hk⟩ : ∃ k, k = min k0 (N - at_) := ⟨_, rfl⟩
        have hmin : (if (N : Int) - (at_ : Int) < 20 then (N : Int) - (at_ : Int) else 20) = (k : Int) := by split <;> omega
        have hk1 : 1 ≤ k ∧ k ≤ 20 ∧ k ≤ N - at_ := by omega
        have hbyte : (k : Int) - 1 = ((UInt8.ofNat (k - 1)).toNat : Int) := by rw [UInt8.toNat_ofNat']; omega
        have HPL : Hid (((l.drop at_).take k).length = k) := by show _ = _; rw [List.length_take, List.length_drop, HLN.out]; omega
        have HTK : Hid (l.take (at_ + k) = l.take at_ ++ (l.drop at_).take k) := by show _ = _; rw [List.take_add]
        have HG2 := Lib.hid (good_more HG.out (piece := (l.drop at_).take k) (k := k - 1) (by rw [HPL.out]; omega) (by omega) HTK.out (by rw [HLN.out]; omega))
        have hLt : Lies wr base (A2.map (·.add at_)) (((l.drop at_).take k).map bv) := by rw [List.map_take, List.map_drop]; exact (hLr.from_ at_).take k
        generalize (l.drop at_).take k = piece at *
        generalize UInt8.ofNat (k - 1) = q at *
        have hq8 := q.toNat_lt
        have HK := Lib.hid hk
        clear hk
        have hnew := Lies.new wr 5 [bv q]
        go_wp2_with (first
          | (at_builtin; refine wpList_append_src _ rfl (.tmp 50) (.tmp 54) _ rfl base 5 i0 _ 1 Try.underlying22 hi0 hz0 hz1 hz2 rfl _ out.length _ rfl (hown.alloc _) _ _ 1 1 [bv q] rfl rfl hnew (by simp [Value.oneCell']) (by unfold maxLen; omega) (by omega) (by rw [World.size_alloc]; omega) ?_; intro v1 w1 hown1 hg1 hat1)
          | (at_builtin; refine wpList_append_src _ rfl (.tmp 56) (.tmp 62) _ rfl base 5 i0 _ 1 Try.underlying22 hi0 hz0 hz1 hz2 rfl _ (out.length + 1) _ rfl hown1 base _ _ _ (piece.map bv) rfl (by rw [List.length_map, HPL.out]; omega) (hLt.below (Wrote.below (Wrote.later (grows_alloc _ _) (Wrote.app hg1 hat1)) hwbr (own_ge hown))) (bv_one piece) (by unfold maxLen; omega) (by omega) (Nat.le_trans hwbr (Wrote.later (grows_alloc _ _) (Wrote.app hg1 hat1)).grown.size) ?_; intro v2 w2' hown2 hg2 hat2))
        have hW1 := Wrote.later (grows_alloc _ _) (Wrote.app hg1 hat1)
        have hW2 := hW1.trans (Wrote.app hg2 hat2)
        have e9 : out.length + 1 + k = (out ++ [q] ++ piece).length := by rw [List.length_append, List.length_append, HPL.out]; rfl
        rw [show [bv q] = [q].map bv from rfl, ← List.map_append, ← List.map_append] at hown2
        replace hown2 := own_len_ hown2
        have hB := Wrote.below hW2 hwbr (own_ge hown)
        go_roundw
        case rel => exact ⟨at_ + k, i + 1, out ++ [q] ++ piece, by omega, by omega, by go_num, by go_num, HG2.out, by rw [← e9]; omega, hown2, hgr.trans hB⟩
        case measure => simp [intOf]; omega
    · obtain rfl : at_ = N := by omega
      obtain ⟨Ap, cp, rfl, hcp⟩ := own_form hown
      have HTN : Hid (l.take at_ = l) := List.take_of_length_le (by rw [HLN.out]; exact Nat.le_refl _)
      have hlt' : ¬ ((at_ : Int) < (at_ : Int)) := by omega
      go_wp2_with fail
      refine (around_any d at_ wr hd ⟨by omega, by omega⟩).mono ?_
      rintro e w' ⟨rfl, rfl⟩
      have hqa := around_lt d (m := at_) (by omega)
      generalize around d at_ = qa at *
      go_wp2_with fail
      refine (around_any g 128 wr hg ⟨by omega, by omega⟩).mono ?_
      rintro e w' ⟨rfl, rfl⟩
      have hqb := around_lt g (m := 128) (by omega)
      generalize around g 128 = qb at *
      obtain ⟨lo, hlo⟩ : ∃ lo, lo = 4 + qb := ⟨_, rfl⟩
      obtain ⟨fa, hfa⟩ : ∃ fa, fa = 1 + qa := ⟨_, rfl⟩
      have hloi : (4 : Int) + (qb : Int) = (lo : Int) := by omega
      have hfai : (1 : Int) + (qa : Int) = (fa : Int) := by omega
      have hlob : 4 ≤ lo ∧ lo ≤ 131 := by omega
      have hfab : 1 ≤ fa ∧ fa ≤ at_ := by omega
      have HT : Hid (mtok (lo, fa) = [UInt8.ofNat (124 + lo), UInt8.ofNat (qa % 256), UInt8.ofNat (qa / 256)]) := by show _ = _; rw [hfa]; unfold mtok; simp
      have b0 : (fa : Int) - 1 = (qa : Int) := by omega
      have b1 : (124 : Int) + (lo : Int) = ((UInt8.ofNat (124 + lo)).toNat : Int) := by rw [UInt8.toNat_ofNat']; omega
      have b2 : (qa : Int) % 256 = ((UInt8.ofNat (qa % 256)).toNat : Int) := by rw [UInt8.toNat_ofNat']; omega
      have b3 : (qa : Int) / 256 = ((UInt8.ofNat (qa / 256)).toNat : Int) := by rw [UInt8.toNat_ofNat']; omega
      clear hlo hfa
      have hqa120 : qa ≤ 121 := by omega
      generalize UInt8.ofNat (124 + lo) = q1 at *
      generalize UInt8.ofNat (qa % 256) = q2 at *
      generalize UInt8.ofNat (qa / 256) = q3 at *
      have h1 := q1.toNat_lt
      have h2 := q2.toNat_lt
      have h3 := q3.toNat_lt
      have hnew := Lies.new wr 5 [bv q1, bv q2, bv q3]
      go_wp2_with (at_builtin; refine wpList_append_src _ rfl (.tmp 75) (.tmp 87) _ rfl base 5 i0 _ 1 Try.underlying22 hi0 hz0 hz1 hz2 rfl _ out.length _ rfl (hown.alloc _) _ _ 3 3 [bv q1, bv q2, bv q3] rfl rfl hnew (by simp [Value.oneCell']) (by unfold maxLen; omega) (by omega) (by rw [World.size_alloc]; omega) ?_; intro v3 w3 hown3 hg3 hat3)
      have hW3 := Wrote.later (grows_alloc _ _) (Wrote.app hg3 hat3)
      have hB3 := hW3.below hwbr (own_ge hown)
      rw [show [bv q1, bv q2, bv q3] = [q1, q2, q3].map bv from rfl, ← List.map_append] at hown3
      obtain ⟨A3, c3, rfl, hc3⟩ := own_form hown3
      have hL3 := Lies.of_own hown3
      have HPN : Hid ((out ++ [q1, q2, q3]).length = out.length + 3) := by show _ = _; rw [List.length_append]; rfl
      have HU : Hid (∀ most : Int, (at_ : Int) ≤ most → unpackOf (out ++ [q1, q2, q3]) most = if (at_ : Int) + lo ≤ most then (copyN lo fa l, 0) else ([], 3)) := fun most hmo => by
        unfold unpackOf
        rw [← HT.out, ← List.append_nil (out ++ mtok (lo, fa)), List.append_assoc, HG.out most _ hmo, HTN.out, unp_mtok hlob.1 hlob.2 hfab.1 (by rw [HLN.out]; exact hfab.2) (by simp only []; omega), unp_nil, HLN.out]
      generalize hpp : out ++ [q1, q2, q3] = p at *
      obtain ⟨pn, hpn⟩ : ∃ pn, pn = out.length + 3 := ⟨_, rfl⟩
      rw [← hpn] at hown3 HPN hc3 ⊢
      have hpnb : pn ≤ 1000 := by omega
      have hL23 := (hLb.below (hgr.trans hB3)).mono (Nat.le_trans hwb (Nat.le_trans hgr.size hB3.size))
      have hg03 : Grows w w3 := Below.trans hg02 ((hgr.trans hB3).mono (by rw [HBASE.out]; exact hg02.size))
      clear hown hown3 hg3 hat3 hW3 hB3 hnew HT b0 b1 b2 b3 hpn hpp HG hol
      have hmn2 : min at_ 200 = at_ := by omega
      have HTT : Hid (l.take 200 = l) := List.take_of_length_le (by rw [HLN.out]; omega)
      have hfew := few_bytes A2 at_ c2 200 l w3 HLN.out hL23 hc2 (by omega) hcm2
      rw [hmn2, HTT.out] at hfew
      have HFEW := Lib.hid hfew
      clear hfew
      go_wp2_with fail
      refine HFEW.out.mono ?_
      rintro e w5 ⟨A5, c5, rfl, hc5, hown5, hL5, hg5⟩
      have hL35 := hL3.below hg5
      have hwb5 := hg5.size
      clear HFEW hL5 hL35 hL23
      go_wp2_with fail
      go_loopw [16, 17] (fun v t wv => ∃ (kk L' : Nat) (o' : List UInt8), kk ≤ lo ∧ t = iv kk ∧ Hid (o' = copyN kk fa l) ∧ at_ ≤ L' ∧ L' ≤ at_ + 131 ∧ Hid (L' = at_ + kk) ∧ wv.ownsRow w3.heap.size 5 1 v L' (o'.map bv) ∧ Grows w3 wv) (fun _ t _ => lo - (intOf t).toNat)
      case atStart => exact ⟨0, at_, l, Nat.zero_le _, rfl, rfl, Nat.le_refl _, by omega, rfl, hown5, hg5⟩
      case round =>
        obtain ⟨kk, L', o', hkk, rfl, HO', hLL, hLL2, HLL, hown', hbv⟩ := hrel
        have hwbv := hbv.size
        have hol' : o'.length = L' := by simpa using hown'.1
        by_cases hkl : kk < lo
        · have hL131 : L' + 1 ≤ at_ + 131 := by have := HLL.out; omega
          obtain ⟨Ab', cb', rfl, hcb'⟩ := own_form hown'
          obtain ⟨jj, hjj⟩ : ∃ jj, jj + fa = L' := ⟨L' - fa, by omega⟩
          obtain ⟨y', hy'⟩ : ∃ y, o'[jj]? = some y := ⟨_, List.getElem?_eq_getElem (by omega)⟩
          have HN' : Hid (o' ++ [y'] = copyN (kk + 1) fa l) := by
            show _ = _
            rw [copyN_succ, ← HO'.out, hol', show L' - fa = jj by omega, List.getD, hy']; rfl
          obtain ⟨ad', rfl, _, cy'⟩ := (Lies.of_own hown').at_ (j := jj) (u := bv y') (by rw [List.getElem?_map, hy']; rfl)
          have hjd : (L' : Int) - (fa : Int) = (jj : Int) := by omega
          have hjm : (jj : Int) < (L' : Int) := by omega
          clear hy' hjj hol'
          have hnew := Lies.new wr 5 [bv y']
          go_wp2_with (at_builtin; refine wpList_append_src _ rfl (.tmp 96) (.tmp 104) _ rfl w3.heap.size 5 i0 _ 1 Try.underlying22 hi0 hz0 hz1 hz2 rfl _ L' _ rfl (hown'.alloc _) _ _ 1 1 [bv y'] rfl rfl hnew (by simp [Value.oneCell']) (by unfold maxLen; omega) (by omega) (by rw [World.size_alloc]; omega) ?_; intro v4 w4 hown4 hg4 hat4)
          have hb4 : Below w3.heap.size wr w4 := ((Below.refl _ wr).alloc hwbv _).grown hg4 (by rw [World.size_alloc]; omega) (own_ge hown')
          rw [show [bv y'] = [y'].map bv from rfl, ← List.map_append] at hown4
          go_roundw
          case rel => exact ⟨kk + 1, L' + 1, o' ++ [y'], by omega, by go_num, HN'.out, by omega, by omega, by have := HLL.out; show _ = _; omega, hown4, Below.trans hbv hb4⟩
          case measure => simp [intOf]; omega
        · obtain rfl : kk = lo := by omega
          obtain ⟨A6, c6, rfl, hc6⟩ := own_form hown'
          have hL6 := Lies.of_own hown'
          have hL36 := hL3.later hbv
          have HLL' : Hid ((copyN kk fa l).length = L') := by show _ = _; rw [← HO'.out]; exact hol'
          rw [HO'.out] at hL6
          have hLe : (L' : Int) = (at_ : Int) + (kk : Int) := by have := HLL.out; omega
          have hun1 := unpack_out A3 pn c3 p (L' : Int) wr HPN.out hL36 hc3 (by omega) ⟨by omega, by omega⟩
          rw [HU.out (L' : Int) (by omega), if_pos (by omega)] at hun1
          have hun2 : ∀ u, Grows wr u → Calls Try.prog 15 #[.slice A3 pn c3, .int .i64 ((L' : Int) - 1)] u fun e w' => ∃ (l : List UInt8) (er ln c' : Nat) (A' : Option Addr), Hid (([], 3) = (l, er)) ∧ Hid (l.length = ln) ∧ e = .returned (.tuple #[.slice A' ln c', iv er]) ∧ ln ≤ c' ∧ Lies w' w'.heap.size A' (l.map bv) ∧ Grows u w' := fun u hu => by
            have h := unpack_out A3 pn c3 p ((L' : Int) - 1) u HPN.out (hL36.later hu) hc3 (by omega) ⟨by omega, by omega⟩
            rw [HU.out ((L' : Int) - 1) (by omega), if_neg (by omega)] at h
            exact h
          have HUN1 := Lib.hid hun1
          have HUN2 := Lib.hid hun2
          clear hun1 hun2 hol' hLe HO' hown'
          generalize copyN kk fa l = want at *
          go_wp2_with fail
          refine HUN1.out.mono ?_
          rintro e w7 ⟨l7, er7, ln7, c7, A7, HU7, HLn7, rfl, hc7, hL7, hg7⟩
          obtain ⟨rfl, rfl⟩ : want = l7 ∧ 0 = er7 := by have := HU7.out; simpa using this
          clear HUN1 HU7
          go_wp2_with fail
          refine (HUN2.out w7 hg7).mono ?_
          rintro e w8 ⟨l8, er8, ln8, c8, A8, HU8, HLn8, rfl, hc8, hL8, hg8⟩
          obtain ⟨rfl, rfl⟩ : [] = l8 ∧ 3 = er8 := by have := HU8.out; simpa using this
          have cv1 := run_string_of (P := Try.prog) w8 22 5 Try.underlying22 Try.underlying5 9 Try.underlying9 _ A7 ln7 c7 want HLn7.out (hL7.later hg8)
          have cv2 := run_string_of (P := Try.prog) w8 22 5 Try.underlying22 Try.underlying5 9 Try.underlying9 _ A6 L' c6 want HLL'.out ((hL6.later hg7).later hg8)
          have hg08 := Grows.trans hg03 (Grows.trans hbv (Grows.trans hg7 hg8))
          clear HUN2 HU8 hL7 hL8 hL6 hg7 hg8
          go_wp2_with fail
          refine (lives5_any _).mono ?_
          rintro e w9 ⟨rfl, hg9⟩
          go_wp2_with fail
          go_ret
          exact ⟨rfl, Grows.trans hg08 hg9⟩
end Go.Proofs.Ytilpeekdjifjhaa
