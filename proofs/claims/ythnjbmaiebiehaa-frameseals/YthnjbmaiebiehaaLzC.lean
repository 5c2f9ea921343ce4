/-
  Contracts of lz's putLiterals and putMatch: what is put behind bytes that the call owns.
-/
import Derived.Test.YthnjbmaiebiehaaLzB
import Derived.Maps.Range
namespace Go.Proofs.Ythnjbmaiebiehaa
open Go.RowKit
set_option linter.unusedVariables false

theorem byte_one : (Try.prog.info? 5).map (·.size) = some 1 := by kernel_rfl
theorem int_one : (Try.prog.info? 3).map (·.size) = some 1 := by kernel_rfl

/-- From v in w to v' in w': nothing but v's own block has turned, and v' lies there or in a new one. -/
structure Wrote (v v' : Value) (w w' : World) : Prop where
  grown : w.grownBy w' v.ownBlock
  at_ : v'.ownBlock = v.ownBlock ∨ ∃ g, v'.ownBlock = some g ∧ w.heap.size ≤ g
theorem Wrote.refl (v : Value) (w : World) : Wrote v v w w := ⟨World.grownBy.refl w _, .inl rfl⟩
theorem Wrote.trans {v v1 v2 : Value} {w w1 w2 : World} (h : Wrote v v1 w w1) (k : Wrote v1 v2 w1 w2) : Wrote v v2 w w2 := by
  have hs := h.grown.size
  refine ⟨h.grown.andThen k.grown fun j hj => ?_, ?_⟩
  · rcases h.at_ with e | ⟨g, e, hg⟩
    · exact .inr (e ▸ hj)
    · rw [e] at hj; injection hj with hj; exact .inl (by omega)
  · rcases k.at_ with e | ⟨g, e, hg⟩
    · rcases h.at_ with e' | ⟨g', e', hg'⟩
      · exact .inl (e.trans e')
      · exact .inr ⟨g', e.trans e', hg'⟩
    · exact .inr ⟨g, e, by omega⟩
theorem Wrote.app {v v' : Value} {w w' : World} (hg : w.grownBy w' v.ownBlock) (hat : v'.ownBlock = v.ownBlock ∨ v'.ownBlock = some w.heap.size) : Wrote v v' w w' :=
  ⟨hg, hat.imp_right fun e => ⟨_, e, Nat.le_refl _⟩⟩
theorem grows_by {w w' : World} (h : Grows w w') (row : Option Nat) : w.grownBy w' row := ⟨h.os, h.tape, h.output, h.size, fun k hk _ => h.block k hk⟩
theorem Wrote.later {v v' : Value} {w w1 w' : World} (h : Grows w w1) (k : Wrote v v' w1 w') : Wrote v v' w w' := Wrote.trans ⟨grows_by h _, .inl rfl⟩ k
theorem Wrote.then_ {v v' : Value} {w w1 w' : World} (k : Wrote v v' w w1) (h : Grows w1 w') : Wrote v v' w w' := Wrote.trans k ⟨grows_by h _, .inl rfl⟩
theorem Wrote.below {v v' : Value} {w w' : World} {B : Nat} (h : Wrote v v' w w') (hB : B ≤ w.heap.size) (hv : ∀ g, v.ownBlock = some g → B ≤ g) : Below B w w' := (Below.refl B w).grown h.grown hB hv

def slen : Value → Nat
  | .slice _ n _ => n
  | _ => 0

set_option maxRecDepth 20000 in
set_option maxHeartbeats 2000000 in
theorem putlits_any (v : Value) (base m : Nat) (out : List UInt8) (A : Option Addr) (n c : Nat) (bs : List UInt8) (w : World) (hown : w.ownsRow base 5 1 v m (out.map bv)) (hl : bs.length = n) (hr : Lies w base A (bs.map bv)) (hc : n ≤ c)
    (hb : base ≤ w.heap.size) (hn : m + 2 * n ≤ 1000000000000) :
    Calls Try.prog 38 #[v, .slice A n c] w fun e w' => ∃ v', e = .returned v' ∧ w'.ownsRow base 5 1 v' (out ++ lits bs).length ((out ++ lits bs).map bv) ∧ Wrote v v' w w' := by
  obtain ⟨i0, hi0, hz0, hz1, hz2⟩ := info_parts byte_info
  have hm : out.length = m := by simpa using hown.1
  have HL := Lib.hid hl
  subst hm
  have HF : Hid (out ++ lits bs = out ++ lits (bs.drop 0)) := rfl
  clear hl
  obtain ⟨W, hW⟩ : ∃ W, W = out ++ lits bs := ⟨_, rfl⟩
  rw [← hW] at HF ⊢
  clear hW
  go_enter Try.func38, Try.ntmps38
  go_wp2
  go_loopw [0, 1, 5] (fun p l _ wr => ∃ (j : Nat) (o' : List UInt8) (A' : Option Addr) (c' : Nat), j ≤ n ∧ l = .slice A' (n - j) c' ∧ n - j ≤ c' ∧ Lies wr base A' ((bs.drop j).map bv) ∧ Hid (W = o' ++ lits (bs.drop j)) ∧ o'.length ≤ out.length + 2 * j ∧
      wr.ownsRow base 5 1 p o'.length (o'.map bv) ∧ Wrote v p w wr) (fun _ l _ _ => slen l)
  case atStart => exact ⟨0, out, A, c, Nat.zero_le _, rfl, hc, hr, HF.out, by omega, hown, Wrote.refl _ _⟩
  case round =>
    obtain ⟨j, o', A', c', hj, rfl, hc', hL, HO, hol, hown', hw⟩ := hrel
    by_cases hlt : j < n
    · obtain ⟨k, hk⟩ : ∃ k, k = min 128 (n - j) := ⟨_, rfl⟩
      have hmin : (if ((n - j : Nat) : Int) < 128 then ((n - j : Nat) : Int) else 128) = (k : Int) := by split <;> omega
      have hpos : (0 : Int) < ((n - j : Nat) : Int) := by omega
      have hk1 : 1 ≤ k ∧ k ≤ 128 ∧ k ≤ n - j := by omega
      have hbyte : (k : Int) - 1 = ((UInt8.ofNat (k - 1)).toNat : Int) := by rw [UInt8.toNat_ofNat']; omega
      have HNE : Hid (bs.drop j ≠ []) := fun h0 => by have := congrArg List.length h0; rw [List.length_drop, HL.out] at this; simp at this; omega
      have HST : Hid (lits (bs.drop j) = [UInt8.ofNat (k - 1)] ++ (bs.drop j).take k ++ lits (bs.drop (j + k))) := by
        show _ = _
        have e1 : (bs.drop j).take 128 = (bs.drop j).take k := by
          rcases Nat.lt_or_ge 128 (n - j) with h | h
          · rw [show k = 128 by omega]
          · rw [List.take_of_length_le (by rw [List.length_drop, HL.out]; omega), List.take_of_length_le (by rw [List.length_drop, HL.out]; omega)]
        have e2 : (bs.drop j).drop 128 = (bs.drop (j + k)) := by
          rw [List.drop_drop]
          rcases Nat.lt_or_ge 128 (n - j) with h | h
          · rw [show k = 128 by omega]
          · rw [List.drop_eq_nil_of_le (by rw [HL.out]; omega), List.drop_eq_nil_of_le (by rw [HL.out]; omega)]
        rw [lits_more HNE.out, e1, e2, List.length_take, List.length_drop, HL.out, Nat.min_eq_left (by omega)]
        simp
      have HPL : Hid (((bs.drop j).take k).length = k) := by show _ = _; rw [List.length_take, List.length_drop, HL.out]; omega
      have hLt : Lies wr base A' (((bs.drop j).take k).map bv) := by rw [List.map_take]; exact hL.take k
      have hct := cut_to (P := Try.prog) Try.underlying22 byte_one A' (n - j) c' .i64 (k : Int) k rfl (by omega)
      have HCT := Lib.hid hct
      clear hct
      generalize (bs.drop j).take k = piece at *
      generalize UInt8.ofNat (k - 1) = q at *
      have hq8 := q.toNat_lt
      have HK := Lib.hid hk
      clear hk
      have hnew := Lies.new wr 5 [bv q]
      have hwb : base ≤ wr.heap.size := Nat.le_trans hb hw.grown.size
      go_wp2_with (first
        | (with_reducible refine wpList_cut rfl 22 (.tmp 19) none (some (.tmp 20)) none rfl _ (HCT.out _) ?_)
        | (at_builtin; refine wpList_append_src _ rfl (.tmp 12) (.tmp 16) _ rfl base 5 i0 _ 1 Try.underlying22 hi0 hz0 hz1 hz2 rfl _ o'.length _ rfl (hown'.alloc _) _ _ 1 1 [bv q] rfl rfl hnew (by simp [Value.oneCell']) (by unfold maxLen; omega) (by omega) (by rw [World.size_alloc]; omega) ?_; intro v1 w1 hown1 hg1 hat1)
        | (at_builtin; refine wpList_append_src _ rfl (.tmp 18) (.tmp 21) _ rfl base 5 i0 _ 1 Try.underlying22 hi0 hz0 hz1 hz2 rfl _ (o'.length + 1) _ rfl hown1 base A' k c' (piece.map bv) rfl (by rw [List.length_map]; exact HPL.out) (hLt.below (Wrote.below (Wrote.later (grows_alloc _ _) (Wrote.app hg1 hat1)) hwb (own_ge hown'))) (bv_one piece) (by unfold maxLen; omega) (by omega) (Nat.le_trans hwb (Wrote.later (grows_alloc _ _) (Wrote.app hg1 hat1)).grown.size) ?_; intro v2 w2 hown2 hg2 hat2))
      have hW1 := Wrote.later (grows_alloc _ _) (Wrote.app hg1 hat1)
      have hW2 := hw.trans (hW1.trans (Wrote.app hg2 hat2))
      have e9 : o'.length + 1 + k = (o' ++ [q] ++ piece).length := by rw [List.length_append, List.length_append, HPL.out]; rfl
      rw [show [bv q] = [q].map bv from rfl, ← List.map_append, ← List.map_append, e9] at hown2
      have hB := Wrote.below hW2 hb (own_ge hown)
      go_roundw
      case rel =>
        refine ⟨j + k, o' ++ [q] ++ piece, _, c' - k, by omega, by rw [show n - j - k = n - (j + k) by omega], by omega, ?_, ?_, ?_, hown2, hW2⟩
        · have := (hL.below (Wrote.below (hW1.trans (Wrote.app hg2 hat2)) hwb (own_ge hown'))).cut (l := k) (c := c') (by rw [List.length_map, List.length_drop, HL.out]; exact hc')
          rwa [← List.map_drop, List.drop_drop] at this
        · show _ = _; rw [HO.out, HST.out]; simp
        · rw [← e9]; omega
      case measure => simp [slen]; omega
    · have HE : Hid (W = o') := by
        show _ = _
        rw [HO.out, List.drop_eq_nil_of_le (by rw [HL.out]; omega), lits_nil, List.append_nil]
      have hown2 : wr.ownsRow base 5 1 u0 W.length (W.map bv) := by rw [HE.out]; exact hown'
      go_wp2
      go_ret
      exact ⟨_, rfl, hown2, hw⟩

set_option maxRecDepth 20000 in
set_option maxHeartbeats 2000000 in
theorem putmatch_any (v : Value) (base m : Nat) (out : List UInt8) (x y : Nat) (w : World) (hown : w.ownsRow base 5 1 v m (out.map bv)) (hb : base ≤ w.heap.size) (hn : m ≤ 1000000000000) (hx : 4 ≤ x ∧ x ≤ 131) (hy : 1 ≤ y ∧ y ≤ 65536) :
    Calls Try.prog 39 #[v, iv x, iv y] w fun e w' => ∃ v', e = .returned v' ∧ w'.ownsRow base 5 1 v' (out ++ mtok (x, y)).length ((out ++ mtok (x, y)).map bv) ∧ Wrote v v' w w' := by
  obtain ⟨i0, hi0, hz0, hz1, hz2⟩ := info_parts byte_info
  have hm : out.length = m := by simpa using hown.1
  subst hm
  obtain ⟨d, rfl⟩ : ∃ d, y = d + 1 := ⟨y - 1, by omega⟩
  have HT : Hid (mtok (x, d + 1) = [UInt8.ofNat (124 + x), UInt8.ofNat (d % 256), UInt8.ofNat (d / 256)]) := rfl
  have b1 : (128 : Int) + (x : Int) - 4 = ((UInt8.ofNat (124 + x)).toNat : Int) := by rw [UInt8.toNat_ofNat']; omega
  have b2 : (d : Int) % 256 = ((UInt8.ofNat (d % 256)).toNat : Int) := by rw [UInt8.toNat_ofNat']; omega
  have b3 : (d : Int) / 256 = ((UInt8.ofNat (d / 256)).toNat : Int) := by rw [UInt8.toNat_ofNat']; omega
  have b0 : ((d + 1 : Nat) : Int) - 1 = (d : Int) := by omega
  generalize UInt8.ofNat (124 + x) = q1 at *
  generalize UInt8.ofNat (d % 256) = q2 at *
  generalize UInt8.ofNat (d / 256) = q3 at *
  have h1 := q1.toNat_lt
  have h2 := q2.toNat_lt
  have h3 := q3.toNat_lt
  have hnew := Lies.new w 5 [bv q1, bv q2, bv q3]
  generalize hyv : ((d + 1 : Nat) : Int) = yi at *
  go_enter Try.func39, Try.ntmps39
  go_wp2_with (at_builtin; refine wpList_append_src _ rfl (.tmp 10) (.tmp 20) _ rfl base 5 i0 _ 1 Try.underlying22 hi0 hz0 hz1 hz2 rfl _ out.length _ rfl (hown.alloc _) _ _ 3 3 [bv q1, bv q2, bv q3] rfl rfl hnew (by simp [Value.oneCell']) (by unfold maxLen; omega) (by omega) (by rw [World.size_alloc]; omega) ?_; intro v1 w1 hown1 hg1 hat1)
  go_ret
  refine ⟨_, rfl, ?_, Wrote.later (grows_alloc _ _) (Wrote.app hg1 hat1)⟩
  rw [HT.out, List.map_append, List.length_append]
  exact hown1
end Go.Proofs.Ythnjbmaiebiehaa
